import PyProof.Rows.All
import Wide.All
import OpenK.AllK
import Wide.FinOn
import PyProof.EqAt
import PyProof.EqKinds
import PyProof.TupleCall
import PyProof.NeKinds
import Lean
import PyProof.ExcBaseAll.ValueError
import PyProof.NsDelKeeps
import PyProof.ExcArgsOwn
import KE.KIsAll
import PyProof.FString
import PySem.Challenge.RW_bridgefind_k47_knots_hung
set_option autoImplicit true
set_option relaxedAutoImplicit true
set_option Elab.async false
set_option linter.all false
set_option maxRecDepth 100000
set_option maxHeartbeats 1000000
def zdA {i m n:Nat}(e:i+m=n)(h:i < n):m - 1 < m:=by lia
def zdB {i m n:Nat}(e:i+m=n)(h:i < n):i+1+(m - 1)=n:=by lia
def zdC {α:Type}{xs:List α}{i:Nat}{x:α}(h:xs[i]?=some x):i < xs.length:=(List.getElem?_eq_some_iff.mp h).1
def zdD {α β:Type}{f:α->β}{xs:List α}{i:Nat}{x:α}(h:xs[i]?=some x):i < (xs.map f).length:=by rw[List.length_map];exact zdC h
def zdE {α β:Type}{f:α->β}{xs:List α}{i:Nat}(h:i < xs.length):i < (xs.map f).length:=by rw[List.length_map];exact h
def zh1 {l r n x:Nat}(a:r - l<=n - x):r - (l+(r - l) / 2+1)<=n - (x+1):=Nat.le_trans (Nat.sub_le_sub_left (Nat.add_le_add_right (Nat.le_add_right _ _) 1) r) (by rw[<-Nat.sub_sub,<-Nat.sub_sub];exact Nat.sub_le_sub_right a 1)
def zh2 {l r n x:Nat}(a:r - l<=n - x)(h:¬l >= r):l+(r - l) / 2 - l<=n - (x+1):=by rw[Nat.add_sub_cancel_left,<-Nat.sub_sub];exact Nat.le_sub_one_of_lt (Nat.lt_of_lt_of_le (Nat.div_lt_self (Nat.sub_pos_of_lt (Nat.lt_of_not_le h)) (by decide)) a)
def zh0 {l r:Nat}(h:¬l >= r):l<=(l+r) / 2/\(l+r) / 2 < r:=⟨(Nat.le_div_iff_mul_le Nat.two_pos).mpr (by rw[Nat.mul_two];exact Nat.add_le_add_left (Nat.le_of_not_le h) l),Nat.div_lt_of_lt_mul (by rw[Nat.two_mul];exact Nat.add_lt_add_right (Nat.lt_of_not_le h) r)⟩
def zh3 {l r n x:Nat}(a:r - l<=n - x)(h:¬l >= r):r - ((l+r) / 2+1)<=n - (x+1):=Nat.le_trans (Nat.sub_le_sub_left (Nat.add_le_add_right (zh0 h).1 1) r) (by rw[<-Nat.sub_sub,<-Nat.sub_sub];exact Nat.sub_le_sub_right a 1)
def zh4 {l r n x:Nat}(a:r - l<=n - x)(h:¬l >= r):(l+r) / 2 - l<=n - (x+1):=by rw[<-Nat.sub_sub];exact Nat.le_sub_one_of_lt (Nat.lt_of_lt_of_le (Nat.sub_lt_sub_right (zh0 h).1 (zh0 h).2) a)
def zm1 {l o h:Nat}(a:l < o)(b:l<=h):h+1 - min o (h+1)<=h - l:=Nat.le_trans (Nat.sub_le_sub_left (Nat.le_min.mpr ⟨a,Nat.succ_le_succ b⟩) _) (Nat.le_of_eq (Nat.add_sub_add_right _ _ _))
def zm2 {l o h n:Nat}(a:l < o)(b:h+l < n):h+l+1<=h+min o (n - h):=Nat.add_le_add_left (Nat.le_min.mpr ⟨a,Nat.le_sub_of_add_le (by rw[Nat.add_comm];exact b)⟩) h
def zm3 {o h n:Nat}(a:h < n):h+min o (n - h)<=n:=Nat.le_trans (Nat.add_le_add_left (Nat.min_le_right _ _) _) (Nat.le_of_eq (Nat.add_sub_of_le (Nat.le_of_lt a)))
def zm4 {i o h:Nat}(a:i < h+1 - min o (h+1))(b:o < h+1):i<=h - o:=by rw[Nat.min_eq_left (Nat.le_of_lt b),Nat.succ_sub (Nat.le_of_lt_succ b)]at a;exact Nat.le_of_lt_succ a
def zm5 {i o h:Nat}(b:¬o < h+1):¬i < h+1 - min o (h+1):=by rw[Nat.min_eq_right (Nat.le_of_not_lt b),Nat.sub_self];exact Nat.not_lt_zero _
def zs1 {s k n:Nat}(a:k<=n):s+k+(n - k)=s+n:=by rw[Nat.add_assoc,Nat.add_sub_of_le a]
def zs2 {s k n:Nat}(a:k<=n):s+k+(n - k) - 1=s+n - 1:=by rw[zs1 a]
def zs3 {s k n z:Nat}(a:k<=n)(b:s+n < z):s+k+(n - k) - 1 < z:=by rw[zs1 a];exact Nat.lt_of_le_of_lt (Nat.sub_le _ _) b
def zs4 {s k n z:Nat}(a:k<=n)(b:s+n < z):s+k+(n - k)<=z:=by rw[zs1 a];exact Nat.le_of_lt b
def zs5 {s k n j:Nat}(b:j < s+k+(n - k))(a:k<=n):j < s+n:=by rw[zs1 a]at b;exact b
def zs6 {s k n j:Nat}(b:j < s+k+(n - k))(a:k<=n)(c:s+k<=j):j - s < n:=Nat.sub_lt_left_of_lt_add (Nat.le_trans (Nat.le_add_right _ _) c) (zs5 b a)
def zs7 {s k n X z i:Nat}(e:X=n - k)(a:k<=n)(c:i < X)(b:s+n < z):s+k+i < z:=Nat.lt_of_lt_of_le (Nat.add_lt_add_left c _) (by rw[e,zs1 a];exact Nat.le_of_lt b)
def zt1 {i j k z:Nat}(a:j < min k (z - i)):i+j < z:=by rw[Nat.add_comm];exact Nat.add_lt_of_lt_sub (Nat.lt_of_lt_of_le a (Nat.min_le_right _ _))
def zw1 {a b c N:Nat}(w:1+(a+b)<=N)(h:c<=b - 1):1+(a - 1+c)<=N:=Nat.le_trans (Nat.add_le_add_left (Nat.add_le_add (Nat.sub_le _ _) (Nat.le_trans h (Nat.sub_le _ _))) 1) w
def zw2 {a b N:Nat}(w:1+(a+b)<=N):1+(a - 1+(b - 1))<=N:=zw1 w (Nat.le_refl _)
def zq1 {b i m:Nat}(h:b<=i)(g:i < b+m):i - b < m:=Nat.sub_lt_left_of_lt_add h g
def zf1 {n k f c:Nat}(h:n - k<=f+1)(g:k < c):n - c<=f:=Nat.le_trans (Nat.sub_le_sub_left g n) (by show n - (k+1)<=f;rw[<-Nat.sub_sub];exact Nat.sub_le_of_le_add h)
def zr1 {n i:Nat}(h:i < n):n - 1 - (n - 1 - i)=i:=Nat.sub_sub_self (Nat.le_sub_one_of_lt h)
def zr2 {n i:Nat}(h:i < n):n - 1 - (n - 1 - i) < n:=by rw[zr1 h];exact h
local macro_rules|`(tactic|lia)=>`(tactic|first | (with_reducible (first | assumption | exact Nat.le_of_lt ‹_› | exact Nat.lt_add_one_of_le ‹_› | exact Nat.lt_add_one _ | exact Nat.le_add_right _ _ | exact Nat.le_add_left _ _ | exact Nat.le_of_lt_add_one ‹_› | exact Nat.lt_of_le_of_lt (Nat.zero_le _) ‹_› | exact Nat.sub_lt ‹_› Nat.one_pos | exact zdA ‹_› ‹_› | exact zdB ‹_› ‹_› | exact zdA ‹_› (zdC ‹_›) | exact zdB ‹_› (zdC ‹_›) | exact zdA ‹_› (zdD ‹_›) | exact zh1 ‹_› | exact zh2 ‹_› ‹_› | exact zh3 ‹_› ‹_› | exact zh4 ‹_› ‹_› | exact zm1 ‹_› ‹_› | exact zm2 ‹_› ‹_› | exact zm3 ‹_› | exact zm4 ‹_› ‹_› | exact zm5 ‹_› | exact zs1 ‹_› | exact zs2 ‹_› | exact zs3 ‹_› ‹_› | exact zs4 ‹_› ‹_› | exact zs5 ‹_› ‹_› | exact zs6 ‹_› ‹_› ‹_› | exact zs7 ‹_› ‹_› ‹_› ‹_› | exact Nat.sub_sub_self ‹_› | exact zt1 ‹_› | exact Nat.sub_le_sub_right ‹_› _ | exact Nat.sub_le_sub_left ‹_› _ | exact zw1 ‹_› ‹_› | exact zw2 ‹_› | exact zq1 ‹_› ‹_› | exact zf1 ‹_› ‹_› | exact zr1 ‹_› | exact zr2 ‹_› | exact zdB ‹_› (zdD ‹_›) | exact zdA ‹_› (zdE ‹_›) | exact zdB ‹_› (zdE ‹_›) | exact Nat.sub_le _ _ | exact Nat.add_sub_of_le ‹_› | exact Nat.le_refl _ | exact Nat.le_trans ‹_› ‹_› | exact Nat.lt_of_lt_of_le ‹_› ‹_› | exact Nat.lt_of_le_of_lt ‹_› ‹_› | exact Nat.le_trans (Nat.le_of_lt ‹_›) ‹_› | exact Nat.lt_of_lt_of_eq ‹_› ‹_› | exact Nat.lt_of_lt_of_eq ‹_› (Eq.symm ‹_›) | exact Nat.le_of_eq ‹_› | exact Nat.le_of_eq (Eq.symm ‹_›) | exact Nat.lt_of_lt_of_le ‹_› (Nat.le_add_right _ _) | exact Nat.le_antisymm ‹_› ‹_› | exact Eq.symm ‹_› | exact Int.natCast_nonneg _ | exact Int.ofNat_lt.mpr ‹_› | exact Int.ofNat_lt.mp ‹_› | exact Int.ofNat_le.mpr ‹_› | exact Int.le_of_lt ‹_›)) | cutsat|omega)
open PySem.W (Frag nsIn codeIn keepIn tabIn codeHdIn mg_of mg_none_of fnOf OpenLaw kitOne mroIn findIn)
abbrev yaa:=@Nat.le_refl
abbrev yab:=@List.length_map
abbrev yac:=@List.getElem?_eq_getElem
abbrev yad:=@Nat.le_trans
abbrev yae:=@Option.some.inj
abbrev yaf:=@List.getD_eq_getElem?_getD
abbrev yag:=@PySem.Heap.lt_size
abbrev yah:=@decide_eq_true
abbrev yai:=@decide_eq_false
abbrev yaj:=@Nat.le_of_lt
abbrev yak:=@Nat.lt_of_lt_of_le
abbrev yal:=@List.mem_append
abbrev yam:=@PySem.Heap.get?_push_of_some
abbrev yan:=@List.length_append
abbrev yao:=@List.mem_singleton
abbrev yap:=@List.getElem?_eq_some_iff
abbrev yaq:=@List.mem_cons
abbrev yar:=@List.length_take
abbrev yas:=@List.map_append
abbrev yat:=@List.take_of_length_le
abbrev yau:=@Nat.ne_of_lt
abbrev yav:=@List.map_cons
abbrev yaw:=@List.append_nil
abbrev yax:=@List.getElem?_map
abbrev yay:=@List.size_toArray
abbrev yaz:=@List.mem_cons_of_mem
abbrev yaA:=@Array.length_toList
abbrev yaB:=@List.mem_cons_self
abbrev yaC:=@Bool.false_ne_true
abbrev yaD:=@PySem.Heap.get?_push_size
abbrev yaE:=@List.mem_map
abbrev yaF:=@Nat.zero_le
abbrev yaG:=@Nat.le_add_right
abbrev yaH:=@of_decide_eq_true
abbrev yaI:=@List.mem_append_right
abbrev yaJ:=@Nat.lt_of_le_of_lt
abbrev yaK:=@Nat.add_le_add_left
abbrev yaL:=@Nat.lt_of_le_of_ne
abbrev yaM:=@List.mem_of_getElem?
abbrev yaN:=@Nat.le_of_not_lt
abbrev yaO:=@List.pairwise_append
abbrev yaP:=@List.sum_cons
abbrev yaQ:=@List.length_cons
abbrev yaR:=@List.getElem_mem
abbrev yaS:=@Nat.le_of_eq
abbrev yaT:=@Nat.le_succ
abbrev yaU:=@List.length_singleton
abbrev yaV:=@List.append_assoc
abbrev yaW:=@List.getElem_of_mem
abbrev yaX:=@Nat.add_lt_add_left
abbrev yaY:=@List.getElem?_eq_none
abbrev yaZ:=@List.take_succ_eq_append_getElem
abbrev ya0:=@List.length_drop
abbrev ya1:=@Bool.false_eq_true
abbrev ya2:=@List.take_append_drop
abbrev ya3:=@Array.toList_append
abbrev ya4:=@List.nodup_cons
abbrev ya5:=@Nat.sub_one_lt_of_lt
abbrev ya6:=@List.lookup_cons
abbrev ya7:=@Nat.sub_le
abbrev ya8:=@Nat.add_le_add_right
abbrev ya9:=@List.pairwise_iff_getElem
abbrev yba:=@List.drop_eq_nil_of_le
abbrev ybb:=@List.mem_append_left
abbrev ybc:=@Nat.min_eq_left
abbrev ybd:=@Array.getElem?_toList
abbrev ybe:=@Int.toNat_natCast
abbrev ybf:=@Nat.le_sub_one_of_lt
abbrev ybg:=@Nat.add_sub_of_le
abbrev ybh:=@List.nodup_append
abbrev ybi:=@Int.zero_add
abbrev ybj:=@List.mem_filter
abbrev ybk:=@List.mem_range
abbrev ybl:=@Array.getElem?_eq_getElem
abbrev ybm:=@Nat.le_antisymm
abbrev ybn:=@Nat.pos_of_ne_zero
abbrev ybo:=@List.ext_getElem?
abbrev ybp:=@List.filter_cons_of_pos
abbrev ybq:=@List.all_eq_true
abbrev ybr:=@List.length_range
abbrev ybs:=@List.length_filter_le
abbrev ybt:=@List.getElem?_append_right
abbrev ybu:=@List.getElem?_append_left
abbrev ybv:=@List.any_cons
abbrev ybw:=@List.nodup_nil
abbrev ybx:=@Nat.lt_of_not_le
abbrev yby:=@List.filter_append
abbrev ybz:=@Bool.and_eq_true
abbrev ybA:=@Nat.le_of_lt_succ
abbrev ybB:=@Nat.lt_of_succ_lt
abbrev ybC:=@List.not_mem_nil
abbrev ybD:=@List.filter_cons_of_neg
abbrev ybE:=@List.getElem?_set
abbrev ybF:=@Nat.lt_irrefl
abbrev ybG:=@Nat.ne_of_gt
abbrev ybH:=@Nat.zero_lt_of_lt
abbrev ybI:=@Nat.not_lt_zero
abbrev ybJ:=@Nat.not_le_of_lt
abbrev ybK:=@Nat.sub_pos_of_lt
abbrev ybL:=@Nat.add_zero
abbrev ybM:=@List.map_map
abbrev ybN:=@List.mem_or_eq_of_mem_set
abbrev ybO:=@Int.natCast_nonneg
abbrev ybP:=@List.length_replicate
abbrev ybQ:=@PySem.Heap.get?_update_other
abbrev ybR:=@Option.map_eq_some_iff
abbrev ybS:=@Nat.succ_pos
abbrev ybT:=@Nat.sub_sub
abbrev ybU:=@Nat.min_eq_right
abbrev ybV:=@Nat.succ_le_succ
abbrev ybW:=@Bool.not_eq_true'
abbrev ybX:=@Nat.lt_or_ge
abbrev ybY:=@Nat.not_lt
abbrev ybZ:=@List.map_take
abbrev yb0:=@List.map_set
abbrev yb1:=@List.flatten_append
abbrev yb2:=@List.filterMap_cons
abbrev yb3:=@PySem.Heap.size_push
abbrev yb4:=@List.find?_cons
abbrev yb5:=@List.length_nil
abbrev yb6:=@Nat.le_succ_of_le
abbrev yb7:=@Nat.two_pos
abbrev yb8:=@Nat.le_of_add_right_le
abbrev yb9:=@Nat.not_lt_of_le
abbrev yca:=@Nat.add_comm
abbrev ycb:=@List.drop_drop
abbrev ycc:=@List.mem_of_mem_take
abbrev ycd:=@List.mem_of_mem_drop
abbrev yce:=@Nat.add_assoc
abbrev ycf:=@List.pairwise_map
abbrev ycg:=@Nat.testBit_succ
abbrev ych:=@Nat.pow_succ
abbrev yci:=@List.filter_eq_nil_iff
abbrev ycj:=@List.flatten_cons
abbrev yck:=@Nat.lt_succ_self
abbrev ycl:=@List.of_mem_zip
abbrev ycm:=@List.length_set
abbrev ycn:=@List.all_cons
abbrev yco:=@List.map_nil
abbrev ycp:=@Nat.le_sub_of_add_le
abbrev ycq:=@List.drop_eq_getElem_cons
abbrev ycr:=@List.perm_append_comm
abbrev ycs:=@Array.toList_push
abbrev yct:=@Array.toList_reverse
abbrev ycu:=@List.take_zero
abbrev ycv:=@Nat.zero_add
abbrev ycw:=@List.getElem?_take
abbrev ycx:=@Int.emod_nonneg
abbrev ycy:=@Int.emod_lt_of_pos
abbrev ycz:=@List.mem_reverse
abbrev ycA:=@Bool.eq_false_iff
abbrev ycB:=@of_decide_eq_false
abbrev ycC:=@List.range_succ
abbrev ycD:=@List.map_congr_left
abbrev ycE:=@List.length_reverse
abbrev ycF:=@Bool.eq_iff_iff
abbrev ycG:=@Option.isSome_iff_exists
abbrev ycH:=@Nat.lt_add_of_pos_right
abbrev ycI:=@Nat.sub_le_sub_left
abbrev ycJ:=@Nat.sub_lt_left_of_lt_add
abbrev ycK:=@Nat.le_sub_of_add_le'
abbrev ycL:=@Nat.le_mul_of_pos_left
abbrev ycM:=@List.drop_sublist
abbrev ycN:=@List.pairwise_cons
abbrev ycO:=@Array.toList_extract
abbrev ycP:=@List.extract_eq_take_drop
abbrev ycQ:=@Nat.eq_zero_of_not_pos
abbrev ycR:=@List.drop_take
abbrev ycS:=@List.reverse_append
abbrev ycT:=@List.drop_zero
abbrev ycU:=@List.getElem?_drop
abbrev ycV:=@List.getElem?_cons_succ
abbrev ycW:=@Bool.not_true
abbrev ycX:=@Bool.and_true
abbrev ycY:=@List.getElem?_range
abbrev ycZ:=@List.reverse_cons
abbrev yc0:=@List.length_zip
abbrev yc1:=@List.mem_flatten
abbrev yc2:=@Int.natCast_add
abbrev yc3:=@List.any_append
abbrev yc4:=@List.flatten_singleton
abbrev yc5:=@List.getElem?_set_ne
abbrev yc6:=@Array.perm_iff_toList_perm
abbrev yc7:=@Bool.not_eq_false'
abbrev yc8:=@List.reverse_reverse
abbrev yc9:=@Nat.le_of_sub_eq_zero
abbrev yda:=@List.zip_cons_cons
abbrev ydb:=@List.getElem?_reverse
abbrev ydc:=@List.eq_nil_of_length_eq_zero
abbrev ydd:=@List.pairwise_lt_range
abbrev yde:=@List.perm_ext_iff_of_nodup
abbrev ydf:=@List.pairwise_singleton
abbrev ydg:=@List.length_eq_zero_iff
set_option hygiene false
local macro_rules
|`(.(a))=>`((by lia))
|`(.(b))=>`((λf cdv A outer s H vs Q E hr h=>?_))
|`(.(c))=>`((λvs H Q E h=>?_))
|`(.(d))=>`((model X.prog X.w))
|`(.(e))=>`((model prog w))
|`(.(f))=>`((zaq rows kn))
|`(.(g))=>`((.ins CS dx (putF "kept" (.ref st') [("kept",.ref st),("fulls",.ref p)])))
|`(.(h))=>`((by simp))
|`(.(i))=>`((arrOf st))
|`(.(j))=>`((List Int))
|`(.(k))=>`((by decide))
|`(.(l))=>`((zal ps rows j))
|`(.(m))=>`((by show 2<=sizeLine;decide))
|`(.(n))=>`((zal ps rows k))
|`(.(o))=>`((zal ps rows' j))
|`(.(p))=>`(⟨by decide,(yae hx).symm⟩)
|`(.(q))=>`((mixM sh cs ms k))
|`(.(r))=>`((x==("__debug__" : Str)))
|`(.(s))=>`((X.env.qual ++ "<lambda>"))
|`(.(t))=>`((backTo pos (starEach es X.env)))
|`(.(u))=>`((λc=>?_))
|`(.(v))=>`((.ref qab))
|`(.(w))=>`((.ref qaa))
|`(.(x))=>`((by show 1<=sizeLine;decide))
|`(.(y))=>`((k==NameKind.free&&env.scope.kind == .function&&env.kindOf n==some .cell))
|`(.(z))=>`(⟨_,rfl,?_⟩)
|`(.(A))=>`((zaX I q .(h)))
|`(.(B))=>`((false,eval e X.env))
|`(.(C))=>`((as.map V.ref))
|`(.(D))=>`(⟨_,rfl,zab,λb o n e=>by rw[zag n];exact e⟩)
|`(.(E))=>`((ns.map V.int))
|`(.(F))=>`((by show 0<=sizeLine;decide))
|`(.(G))=>`((by rw[yab];lia))
|`(.(H))=>`((xs.map nV))
|`(.(I))=>`((show false=true from hs))
|`(.(J))=>`((pendingOf st))
|`(.(K))=>`((λr=>hn (by simp[r])))
|`(.(L))=>`(⟨rfl,rfl⟩)
|`(.(M))=>`((.lst []))
|`(.(N))=>`((EP X pins U Q))
local macro_rules
|`(.(O))=>`((· < ·))
|`(.(P))=>`((.builtin "object.__class__"))
|`(.(Q))=>`((.inl rfl))
|`(.(R))=>`((seqObj "list" (List.toArray []) 0))
|`(.(S))=>`((ha pos pins s U H _ I h))
set_option hygiene true
section
local macro_rules|`(#[$xs,*])=>`(⟨$xs,*⟩)
namespace L2
open PySem PySem.Spec PyProof.Rows
abbrev Key:=Sum Int Str
def zkt:Key->Value->Bool
  | .inl k,v=>Value.isInt k v
  | .inr x,v=>Value.isStrOf x v
def keyH (w:World):Key->Int
  | .inl k=>hashInt k
  | .inr x=>hashStr w x
def za2:∀{k:Key} {v:Value},zkt k v=true->(∃ i t,k=Sum.inl i/\v=Value.int i t)\/(∃ x t,k=Sum.inr x/\v=Value.str x t)
  | .inl i,v,h=>by
    obtain ⟨t,e⟩:=Value.isInt_shape (k:=i) (v:=v) h;exact .inl #[i,t,rfl,e]
  | .inr x,v,h=>by
    obtain ⟨t,e⟩:=Value.isStrOf_shape (x:=x) (v:=v) h;exact .inr #[x,t,rfl,e]
def zn1 (i:Int)(t:Tok):zkt (.inl i) (.int i t)=true:=by simp[zkt,Value.isInt]
def zn0 (x:Str)(t:Tok):zkt (.inr x) (.str x t)=true:=by simp[zkt,Value.isStrOf]
def ztG (a b:Int):decide ((Sum.inl a:Key)=Sum.inl b)=(a==b):=by
  by_cases e:a=b
  · subst e;simp
  · have h:¬ (Sum.inl a:Key)=Sum.inl b:=λq=>e (Sum.inl.inj q)
    rw[yai h];exact (beq_eq_false_iff_ne.mpr e).symm
def ztD (a b:Str):decide ((Sum.inr a:Key)=Sum.inr b)=decide (a=b):=by
  by_cases e:a=b
  · subst e;simp
  · have h:¬ (Sum.inr a:Key)=Sum.inr b:=λq=>e (Sum.inr.inj q)
    rw[yai h,yai e]
def ztF (a:Int)(b:Str):decide ((Sum.inl a:Key)=Sum.inr b)=false:=yai (λq=>nomatch q)
def ztE (a:Str)(b:Int):decide ((Sum.inr a:Key)=Sum.inl b)=false:=yai (λq=>nomatch q)
def zbg (prog:Program)(w:World):PySem.KeyKind prog w Key where
  is:=zkt
  hash:=keyH w
  inj:=λv a b ha hb=>by
    rcases za2 ha with ⟨i,t,rfl,rfl⟩|⟨x,t,rfl,rfl⟩
    · rcases za2 hb with ⟨j,u,rfl,e⟩|⟨y,u,rfl,e⟩
      · injection e with e1 _;rw[e1]
      · exact nomatch e
    · rcases za2 hb with ⟨j,u,rfl,e⟩|⟨y,u,rfl,e⟩
      · exact nomatch e
      · injection e with e1 _;rw[e1]
  byValue:=λk v h=>by
    rcases za2 h with ⟨i,t,rfl,rfl⟩|⟨x,t,rfl,rfl⟩<;>rfl
  pyHash:=λhv h=>by
    rcases za2 hv with ⟨i,t,rfl,rfl⟩|⟨x,t,rfl,rfl⟩
    · exact wpAny_pyHash_int h
    · exact wpAny_pyHash_str h
  eqBool:=λhu hv h=>by
    rcases za2 hu with ⟨i,t,rfl,rfl⟩|⟨x,t,rfl,rfl⟩
    · rcases za2 hv with ⟨j,u,rfl,rfl⟩|⟨y,u,rfl,rfl⟩
      · rw[ztG]at h;exact wpAny_eqBool_int h
      · rw[ztF]at h;exact SeqAt.EqAt.int_str i t y u _ _ _ _ h
    · rcases za2 hv with ⟨j,u,rfl,rfl⟩|⟨y,u,rfl,rfl⟩
      · rw[ztE]at h;exact SeqAt.EqAt.str_int x t j u _ _ _ _ h
      · rw[ztD]at h;exact wpAny_eqBool_str h
  «strs»:=λk x t v h=>by
    rcases za2 h with ⟨i,u,rfl,e⟩|⟨y,u,rfl,e⟩
    · exact nomatch e
    · injection e with e1 _
      subst e1;cases v<;>rfl
def zma (prog:Program)(w:World)(k:Key)(v:Value):(zbg prog w).is k v=zkt k v:=rfl
def zkn (prog:Program)(w:World)(i:Int)(t:Tok):(zbg prog w).is (.inl i) (.int i t)=true:=zn1 i t
def zkm (prog:Program)(w:World)(x:Str)(t:Tok):(zbg prog w).is (.inr x) (.str x t)=true:=zn0 x t
end L2
namespace L2
open PySem PySem.Spec PyProof.Rows
inductive V where
  | non|bl (b:Bool)|int (i:Int)|str (x:Str)|byt (b:Array UInt8)|flt (b:UInt64)|ref (a:Addr)|ty (n:String)
  deriving DecidableEq
def RelV:V->Value->Prop
  | .non,u=>u=Value.none
  | .bl b,u=>u=Value.bool b
  | .int i,u=>∃ t,u=Value.int i t
  | .str x,u=>∃ t,u=Value.str x t
  | .byt b,u=>∃ t,u=Value.bytes b t
  | .flt b,u=>∃ t,u=Value.float b t
  | .ref a,u=>u=Value.ref a
  | .ty n,u=>u=Value.type n
abbrev Vals:List V->List Value->Prop:=Paired RelV
def Vals.length {xs:List V}{us:List Value}(r:Vals xs us):xs.length=us.length:=Paired.length r
def Vals.get:∀{xs:List V} {us:List Value} {i:Nat} {x:V},Vals xs us->xs[i]?=some x->∃ u,us[i]?=some u/\RelV x u
  | _,_,_,_,.nil,e=>by simp at e
  | _,_,0,_,.cons r _,e=>by simp at e;subst e;exact #[_,rfl,r]
  | _,_,i+1,x,.cons _ t,e=>by
    obtain ⟨u,h1,h2⟩:=Vals.get (i:=i) (x:=x) t (by simpa using e);exact #[u,by simpa using h1,h2]
def Vals.set {x:V}{u:Value}(r:RelV x u):∀{xs:List V} {us:List Value} (i:Nat),Vals xs us->Vals (xs.set i x) (us.set i u)
  | _,_,_,.nil=>.nil
  | _,_,0,.cons _ t=>.cons r t
  | _,_,i+1,.cons q t=>.cons q (Vals.set r i t)
def Vals.append:∀{xs ys:List V} {us ws:List Value},Vals xs us->Vals ys ws->Vals (xs++ys) (us++ws)
  | _,_,_,_,.nil,s=>s
  | _,_,_,_,.cons r t,s=>.cons r (Vals.append t s)
def Vals.take:∀{xs:List V} {us:List Value} (n:Nat),Vals xs us->Vals (xs.take n) (us.take n)
  | _,_,0,_=>.nil
  | _,_,_+1,.nil=>.nil
  | _,_,n+1,.cons r t=>.cons r (Vals.take n t)
def Vals.drop:∀{xs:List V} {us:List Value} (n:Nat),Vals xs us->Vals (xs.drop n) (us.drop n)
  | _,_,0,r=>r
  | _,_,_+1,.nil=>.nil
  | _,_,n+1,.cons _ t=>Vals.drop n t
def RelO:Option V->Option Value->Prop
  | some v,some u=>RelV v u
  | none,none=>True
  | _,_=>False
def KV {κ:Type}:List (κ×V)->List (κ×Value)->Prop:=Paired λ(p:κ×V) (q:κ×Value)=>p.1=q.1/\RelV p.2 q.2
def kV:Key->V
  | .inl i=>.int i
  | .inr x=>.str x
inductive HO where
  | lst (xs:List V)
  | tup (xs:List V)
  | dK (kvs:List (Key×V))|dT (kvs:List (List Key×V))
  | set (S:Int->Bool) (n:Nat)
  | ins (C dx:Addr) (fs:List (Str×V))
  | own (x:Addr)
  | xd (fs:List (Str×V))
  | met (f x:Addr)
  | rng (lo hi:Int)
  | frz (o:Obj) (u:HO)
  | tbl (ps:Array Value)
  | ext (φ:Heap->Prop)
abbrev Hp:=Addr->Option HO
def upd (H:Hp)(a:Addr)(o:HO):Hp:=λb=>if b=a then some o else H b
def zab :upd H a o a=some o:=by unfold upd;rw[if_pos rfl]
def zag {a b:Addr}(h:b≠a):upd H a o b=H b:=by unfold upd;rw[if_neg h]
def zq7 :upd (upd H a o) a u=upd H a u:=by
  funext b;unfold upd;split<;>rfl
def ztt {H:Hp}{a b:Addr}{o u:HO}(h:H a=some o)(h':H b=some u)(d:o≠u):a≠b:=by
  intro e;subst e;rw[h]at h';exact d (yae h')
def zad {H:Hp}{a b:Addr}{o:HO}(h:H a=some o)(h':H b=none):a≠b:=by
  intro e;subst e;rw[h]at h';cases h'
section
variable (P:Program)(w:World)
def zbl (H:Hp)(h:Heap)(a:Addr):HO->Prop
  | .lst xs=>xs.length<=sizeLine/\∃(its:List Value) (n:Nat),Vals xs its/\h.get? a=some { cls:=.type "list",data:=.seq its.toArray n }
  | .tup xs=>xs.length<=sizeLine/\∃ its:List Value,Vals xs its/\IsTup h a its.toArray
  | .dK kvs=>kvs.length<=sizeLine/\(a==sysModules)=false/\∃ vs,KV kvs vs/\h.DictOf (zbg P w) a vs
  | .dT kvs=>kvs.length<=sizeLine/\(a==sysModules)=false/\∃ xs:List (List Key×Addr×Value),
      Paired (λ(p:List Key×V) (q:List Key×Addr×Value)=>p.1=q.1/\H q.2.1=some (.tup (p.1.map kV))/\RelV p.2 q.2.2) kvs xs/\
      ∃ o es ep,h.get? a=some o/\o.ExactDict/\o.data=.dict es ep/\es.toList=xs.map (entryOfKey (tupleKind (zbg P w)))/\(xs.map (·.1)).Nodup
  | .set S n=>h.SetOf (intKind P w) a S n
  | .ins C dx fs=>H dx=some (.own a)/\fs.length<=1000/\dx≠a/\h.get? a=some (PySem.W.instObj C dx)/\
      ∃ mA,h.Ns1 dx mA/\(∀ f,RelO (fs.lookup f) (mA f))/\PySem.Within mA (fs.map (·.1))
  | .own _=>∃ o,h.get? a=some o
  | .xd fs=>∃ mA,h.Ns1 a mA/\∀ f,RelO (fs.lookup f) (mA f)
  | .rng lo hi=>∃ t u v,h.get? a=some { cls:=.type "range",data:=.fields (List.toArray [.int lo t,.int hi u,.int 1 v]) }
  | .frz o u=>h.get? a=some o/\zbl H h a u
  | .tbl ps=>h.get? a=some { cls:=.none,data:=.fields ps }
  | .met f x=>h.get? a=some (PySem.W.methodObj (.ref f) (.ref x))
  | .ext φ=>φ h/\(∃ o,h.get? a=some o)/\∀ h1 h2:Heap,φ h1->(∀ o,h1.get? a=some o->h2.get? a=some o)->φ h2
def HOk (H:Hp)(h:Heap):Prop:=∀ a o,H a=some o->zbl P w H h a o
end
section
variable {P:Program}{w:World}{H H':Hp}{h h':Heap}{a:Addr}{o:HO}
def zbl.lt (x:zbl P w H h a o):a<h.objs.size:=by
  cases o with
  | lst xs=>obtain ⟨_,_,_,_,e⟩:=x;exact yag e
  | tup xs=>obtain ⟨_,_,_,p⟩:=x;exact p.lt
  | dK kvs=>obtain ⟨_,_,_,_,o,_,_,e,_⟩:=x;exact yag e
  | dT kvs=>obtain ⟨_,_,_,_,o,_,_,e,_⟩:=x;exact yag e
  | set S n=>obtain ⟨o,_,_,_,e,_⟩:=x;exact yag e
  | ins C dx fs=>obtain ⟨_,_,_,e,_⟩:=x;exact yag e
  | own y=>obtain ⟨_,e⟩:=x;exact yag e
  | xd fs=>obtain ⟨_,⟨_,_,_,e,_⟩,_⟩:=x;exact yag e
  | rng lo hi=>obtain ⟨_,_,_,e⟩:=x;exact yag e
  | frz ob u=>obtain ⟨e,_⟩:=x;exact yag e
  | tbl ps=>exact yag (show h.get? a=some _ from x)
  | met f y=>exact yag (show h.get? a=some _ from x)
  | ext φ=>obtain ⟨_,⟨_,e⟩,_⟩:=x;exact yag e
def Paired.mapP {α β:Type}{F G:α->β->Prop}:∀{l₁:List α} {l₂:List β},Paired F l₁ l₂->(∀ a b,F a b->G a b)->Paired G l₁ l₂
  | _,_,.nil,_=>.nil
  | _,_,.cons r t,f=>.cons (f _ _ r) (Paired.mapP t f)
def zbl.stay (x:zbl P w H h a o)(k:∀ b u,(b=a\/H b=some (.own a))->h.get? b=some u->h'.get? b=some u)
    (ho:∀ b,H b=some (.own a)->H' b=some (.own a)) (ht:∀ b xs,H b=some (.tup xs)->H' b=some (.tup xs)):zbl P w H' h' a o:=by
  induction o with
  | lst xs=>obtain ⟨z,its,n,r,e⟩:=x;exact #[z,its,n,r,k _ _ .(Q) e]
  | tup xs=>obtain ⟨z,its,r,ob,e,c⟩:=x;exact #[z,its,r,ob,k _ _ .(Q) e,c]
  | dK kvs=>obtain ⟨z,y,vs,r,ob,es,ep,e,c⟩:=x;exact #[z,y,vs,r,ob,es,ep,k _ _ .(Q) e,c]
  | dT kvs=>
    obtain ⟨z,y,xs,r,ob,es,ep,e,c⟩:=x;exact #[z,y,xs,Paired.mapP r λp q z=>#[z.1,ht _ _ z.2.1,z.2.2],ob,es,ep,k _ _ .(Q) e,c]
  | set S n=>obtain ⟨ob,es,ep,t,e,c⟩:=x;exact #[ob,es,ep,t,k _ _ .(Q) e,c]
  | ins C dx fs=>
    obtain ⟨d,z,ne,e,mA,⟨od,es,ep,e2,c⟩,r⟩:=x;exact #[ho _ d,z,ne,k _ _ .(Q) e,mA,#[od,es,ep,k _ _ (.inr d) e2,c],r]
  | own y=>obtain ⟨ob,e⟩:=x;exact #[ob,k _ _ .(Q) e]
  | xd fs=>obtain ⟨mA,⟨od,es,ep,e,c⟩,r⟩:=x;exact #[mA,#[od,es,ep,k _ _ .(Q) e,c],r]
  | rng lo hi=>obtain ⟨t,u,v,e⟩:=x;exact #[t,u,v,k _ _ .(Q) e]
  | frz ob u ih=>obtain ⟨e,q⟩:=x;exact #[k _ _ .(Q) e,ih q]
  | tbl ps=>
    have e:h.get? a=some { cls:=.none,data:=.fields ps }:=x;show h'.get? a=some { cls:=.none,data:=.fields ps };exact k a _ .(Q) e
  | met f y=>
    have e:h.get? a=some (PySem.W.methodObj (.ref f) (.ref y)):=x;show h'.get? a=some (PySem.W.methodObj (.ref f) (.ref y));exact k a _ .(Q) e
  | ext φ=>obtain ⟨p,⟨o,e⟩,st⟩:=x;exact #[st _ _ p λo q=>k _ _ .(Q) q,#[o,k _ _ .(Q) e],st]
def HOk.lt (x:HOk P w H h)(e:H a=some o):a<h.objs.size:=(x a o e).lt
def HOk.fresh (x:HOk P w H h)(e:h.objs.size<=a):H a=none:=by
  cases q:H a with
  | none=>rfl
  | some u=>exact absurd (yak (x.lt q) e) (ybF _)
def HOk.kept (x:HOk P w H h)(k:∀ b u,h.get? b=some u->h'.get? b=some u):HOk P w H h':=λa o e=>
  (x a o e).stay (λb u _ q=>k b u q) (λ_ q=>q) λ_ _ q=>q
def HOk.laid (x:HOk P w H h)(k:∀ b u,h.get? b=some u->h'.get? b=some u)(hp:h.objs.size<=a)(new:zbl P w (upd H a o) h' a o):HOk P w (upd H a o) h':=λb u e=>by
  have hn:=x.fresh hp;by_cases hb:b=a
  · subst hb;rw[zab]at e;cases e;exact new
  · rw[zag hb]at e
    exact (x b u e).stay (λc v _ q=>k c v q) (λc q=>by rw[zag (zad q hn)];exact q) λc xs q=>by rw[zag (zad q hn)];exact q
end
def Rd (H:Hp)(a:Addr)(u:HO):Prop:=H a=some u\/∃ o,H a=some (.frz o u)
def Rd.ok {w:World}{h:Heap}{a:Addr}(r:Rd H a u)(x:HOk P w H h):zbl P w H h a u:=by
  rcases r with r|⟨o,r⟩
  · exact x a u r
  · obtain ⟨_,q⟩:=x a _ r
    exact q
def Mut:Option HO->Prop
  | some (.lst _)=>True
  | some (.dK _)=>True
  | some (.dT _)=>True
  | some (.set _ _)=>True
  | some (.ins _ _ _)=>True
  | some (.ext _)=>True
  | _=>False
section
variable {P:Program}{w:World}{H:Hp}{h h':Heap}{x e:Addr}{o':HO}
def HOk.write (ok:HOk P w H h)(mu:Mut (H x))(he:e=x\/H e=some (.own x))(k:∀ b u,b≠e->h.get? b=some u->h'.get? b=some u)(heo:∃ u,h'.get? e=some u)
    (new:zbl P w (upd H x o') h' x o'):HOk P w (upd H x o') h':=λb u q=>by
  have nown:∀ c y,H c=some (.own y)->c≠x:=λc y r z=>by subst z;rw[r]at mu;exact mu
  have ntup:∀ c xs,H c=some (.tup xs)->c≠x:=λc xs r z=>by subst z;rw[r]at mu;exact mu
  by_cases hb:b=x
  · subst hb;rw[zab]at q;cases q;exact new
  · rw[zag hb]at q
    by_cases hbe:b=e
    · have q':H b=some (.own x):=by
        rcases he with z|z
        · exact absurd (hbe.trans z) hb
        · rw[hbe];exact z
      rw[q]at q';cases q'
      obtain ⟨v,hv⟩:=heo;exact #[v,by rw[hbe];exact hv]
    · refine (ok b u q).stay (λc v hc r=>k c v ?_ r) (λc r=>by rw[zag (nown c b r)];exact r) λc xs r=>by rw[zag (ntup c xs r)];exact r
      rcases hc with rfl|hc
      · exact hbe
      · rintro rfl
        rcases he with z|z
        · exact nown c b hc z
        · rw[hc]at z;cases z;exact hb rfl
end
structure Un (fs ex:List Addr)(H H':Hp)(h h':Heap):Prop where
  keep:∀ b o,h.get? b=some o->H b=none->b∉fs->b∉ex->h'.get? b=some o
  slot:∀ b o,h.get? b=some o->H b=none->b∈fs->b∉ex->∃ sl,h'.get? b=some { o with slots:=sl }
  free:∀ b o,h.get? b=some o->H b=none->b∉ex->H' b=none
  there:∀ b o,h.get? b=some o->b∉ex->∃ o',h'.get? b=some o'
  tups:∀ b xs,H b=some (.tup xs)->H' b=some (.tup xs)
  frzs:∀ b o u,H b=some (.frz o u)->H' b=some (.frz o u)
  tbls:∀ b ps,H b=some (.tbl ps)->∃ more,H' b=some (.tbl (ps++more))
section
variable {fs fs' ex ex':List Addr}{H H1 H2:Hp}{h h1 h2 h':Heap}{a x e:Addr}{o:HO}
def Un.any (u:Un fs ex H H1 h h1){b:Addr}{ob:Obj}(q:h.get? b=some ob)(n:H b=none)(hx:b∉ex):∃ sl,h1.get? b=some { ob with slots:=sl }:=by
  by_cases hb:b∈fs
  · exact u.slot b ob q n hb hx
  · exact #[ob.slots,u.keep b ob q n hb hx]
def Un.kept (k:∀ b u,h.get? b=some u->h'.get? b=some u):Un fs ex H H h h':=
  #[λb ob q _ _ _=>k b ob q,λb ob q _ _ _=>#[ob.slots,k b ob q],λ_ _ _ n _=>n,λb ob q _=>#[ob,k b ob q],λ_ _ q=>q,λ_ _ _ q=>q,λ_ ps q=>#[(List.toArray []),by rw[q];simp]]
def Un.refl:Un fs ex H H h h:=Un.kept λ_ _ q=>q
def Un.laid (k:∀ b u,h.get? b=some u->h'.get? b=some u)(hp:h.objs.size<=a)(hn:H a=none):Un fs ex H (upd H a o) h h' where
  keep:=λb u q _ _ _=>k b u q
  slot:=λb u q _ _ _=>#[u.slots,k b u q]
  free:=λb u q n _=>by rw[zag (yau (yak (yag q) hp))];exact n
  there:=λb u q _=>#[u,k b u q]
  tups:=λb xs q=>by rw[zag (zad q hn)];exact q
  frzs:=λb u xs q=>by rw[zag (zad q hn)];exact q
  tbls:=λb ps q=>#[(List.toArray []),by rw[zag (zad q hn),q];simp]
def Un.write (mu:Mut (H x))(he:e=x\/H e=some (.own x))(k:∀ b u,b≠e->h.get? b=some u->h'.get? b=some u)(heo:∃ u,h'.get? e=some u):Un fs ex H (upd H x o) h h':=by
  have hx:∀ b,H b=none->b≠x:=λb n z=>by subst z;rw[n]at mu;exact mu
  have hb:∀ b,H b=none->b≠e:=λb n z=>by
    subst z;rcases he with r|r
    · exact hx b n r
    · rw[n]at r;cases r
  have hm:∀ b u,H b=some u->¬ Mut (some u)->b≠x:=λb u q nm z=>by subst z;rw[q]at mu;exact nm mu
  refine #[λb u q n _ _=>k b u (hb b n) q,λb u q n _ _=>#[u.slots,k b u (hb b n) q],λb u q n _=>by rw[zag (hx b n)];exact n,λb u q _=>?_,
    λb xs q=>by rw[zag (hm b _ q λz=>z)];exact q,λb u xs q=>by rw[zag (hm b _ q λz=>z)];exact q,λb ps q=>#[(List.toArray []),by rw[zag (hm b _ q λz=>z),q];simp]]
  by_cases hbe:b=e
  · subst hbe;exact heo
  · exact #[u,k b u hbe q]
end
def trk (h:Heap)(H:Hp):List Addr:=(List.range h.objs.size).filter λa=>(H a).isSome
def hidT (h:Heap)(H:Hp):Heap:=PySem.W.hideAll h (trk h H)
def zn8 (h:Heap)(H:Hp):(hidT h H).objs.size=h.objs.size:=PySem.W.hideAll_size _ _
def zpV {h:Heap}{H:Hp}{b:Addr}{o:Obj}(e:h.get? b=some o)(n:H b=none):(hidT h H).get? b=some o:=
  PySem.W.hideAll_get _ e λhm=>by
    have q:(H b).isSome=true:=(ybj.mp hm).2;rw[n]at q;simp at q
def zrS {b:Addr}{o:Obj}(e:(hidT h H).get? b=some o):h.get? b=some o/\H b=none:=by
  have e':h.get? b=some o:=PySem.W.of_hideAll (trk h H) e;refine #[e',?_];cases q:H b with
  | none=>rfl
  | some x=>
    have hm:b∈trk h H:=ybj.mpr #[ybk.mpr (yag e'),by simp[q]];have z:(hidT h H).get? b=none:=PySem.W.hideAll_none (trk h H) hm;rw[z]at e;cases e
def zsy (g h:Heap)(L:Addr):List (Addr×Obj):=(List.range h.objs.size).filterMap λa=>if a=L\/(g.get? a).isSome=true then none else (h.get? a).map λo=>(a,o)
def rest (g h:Heap)(L d:Addr):List (Addr×Obj):=(zsy g h L).filter λp=>decide (p.1≠d)
end L2
namespace L2
open PySem PySem.Spec PyProof.Rows
structure Mod (K:Frag)(mg:Str->Option Value)(base:Heap):Prop where
  kin:K.In base
  glob:base.Ns mainGlobals mg
  blt:∃ mb,base.Ns builtinsNs mb/\∀ x:Str,x ≠ "__name__"->mb x=bootBuiltins x
  nolimit:base.NoLimit
structure Cx where
  prog:Program
  w:World
  K:Frag
  mg:Str->Option Value
  base:Heap
  A:Around
  N:List Str
  s₀:Shared
  H₀:Hp
  env:Env
  outer:List Env
  stack:List Env
  ex:List Addr
  fn:Str->Bool
  calm:Bool
  pn:List (Addr×Obj)
  xe:Value->Shared->Prop
def frs (l:List Env):List Addr:=l.filterMap (·.frame)
abbrev Cx.fs (X:Cx):List Addr:=frs X.outer
def Vis (sc:Scope)(x:Str):Prop:=sc.names.lookup x=some .local\/sc.names.lookup x=some .cell\/sc.names.lookup x=some .free
def Loc (sc:Scope)(x:Str):Prop:=sc.names.lookup x=some .local\/sc.names.lookup x=some .cell
def Look (env:Env)(h:Heap)(m:Str->Option Value)(x:Str)(u:Value):Prop:=
  (env.kindOf x=some .local/\m x=some u)\/((env.kindOf x=some .cell\/env.kindOf x=some .free)/\∃ c,env.cells.lookup x=some c/\h.IsCell c (some u))
structure Cx.Ok (X:Cx):Prop where
  mod:Mod X.K X.mg X.base
  kind:X.env.scope.kind=.function
  glob:X.env.globals=mainGlobals
  blt:X.env.builtins=builtinsNs
  above:X.s₀.heap.objs.size<=X.env.locals
  inj:∀ x y c,X.env.cells.lookup x=some c->X.env.cells.lookup y=some c->x=y
  has:∀ x,(X.env.kindOf x=some .cell\/X.env.kindOf x=some .free)->∃ c,X.env.cells.lookup x=some c
  cab:∀ x c,X.fn x=true->X.env.cells.lookup x=some c->X.s₀.heap.objs.size<=c
  hd:X.calm=true->X.A.handled=none
  frames:X.A.frames=some X.stack
  stk:X.stack=X.outer\/(X.stack=X.env::X.outer/\X.env.frame=some X.env.locals)
  exf:∀ b∈X.ex,b≠X.env.locals/\∀ x c,X.env.cells.lookup x=some c->c≠b
  bs:∀ b o,X.base.get? b=some o->X.s₀.heap.get? b=some o/\X.H₀ b=none
  bsz:X.base.objs.size<=X.s₀.heap.objs.size
  noex:∀ b o,X.base.get? b=some o->b∉X.ex
  exfs:∀ b∈X.ex,b∉X.fs
  funs:X.s₀.heap.FunFrames X.base X.outer
  frf:∀ b∈X.fs,X.H₀ b=none
structure Inv (X:Cx)(pins:List (Addr×Obj))(U:List (Option V))(H:Hp)(s:Shared):Prop where
  ok:X.Ok
  os:s.os=X.s₀.os
  bare:AllBare s.gens
  base:Un X.fs X.ex X.H₀ H X.s₀.heap s.heap
  loc:∃ m,s.heap.Ns X.env.locals m/\∀(i:Nat) (x:Str) (v:V),X.N[i]?=some x->U[i]?=some (some v)->Vis X.env.scope x->∃ u,RelV v u/\Look X.env s.heap m x u
  cell:∀ x c,X.env.cells.lookup x=some c->∃ v,s.heap.IsCell c v
  free:H X.env.locals=none
  freeC:∀ x c,X.env.cells.lookup x=some c->H c=none
  pin:∀ p∈X.pn++pins,s.heap.get? p.1=some p.2/\H p.1=none/\p.1≠X.env.locals/\p.1∉X.fs/\∀ v,p.2.data≠.cell v
  hok:HOk X.prog X.w H s.heap
  len:U.length=X.N.length
section
variable {X:Cx}{pins:List (Addr×Obj)}{U:List (Option V)}{H H':Hp}{s:Shared}{h':Heap}
def Cx.Ok.nofr (ok:X.Ok){b:Addr}{o:Obj}(e:X.base.get? b=some o):b∉X.fs:=λhb=>by
  have:=(ok.funs.mem hb).1;rw[e]at this;cases this
def Inv.bs (I:Inv X pins U H s):∀ b o,X.base.get? b=some o->s.heap.get? b=some o/\H b=none:=λb o e=>
  #[I.base.keep b o (I.ok.bs b o e).1 (I.ok.bs b o e).2 (I.ok.nofr e) (I.ok.noex b o e),I.base.free b o (I.ok.bs b o e).1 (I.ok.bs b o e).2 (I.ok.noex b o e)]
def Inv.bk (I:Inv X pins U H s):∀ b o,X.base.get? b=some o->s.heap.get? b=some o:=λb o e=>(I.bs b o e).1
def Inv.mod (I:Inv X pins U H s):Mod X.K X.mg X.base:=I.ok.mod
def Inv.kIn (I:Inv X pins U H s):X.K.In s.heap:=I.ok.mod.kin.keeps I.bk
def Inv.lt (I:Inv X pins U H s):X.env.locals<s.heap.objs.size:=let ⟨_,hn,_⟩:=I.loc;hn.lt
def Inv.sz (I:Inv X pins U H s):X.s₀.heap.objs.size<=s.heap.objs.size:=yad I.ok.above (yaj I.lt)
def Inv.nofs (I:Inv X pins U H s){a:Addr}(h:s.heap.objs.size<=a):a∉X.fs:=λhb=>by
  obtain ⟨_,o,ho,_⟩:=I.ok.funs.mem hb;exact absurd (yak (yag ho) (yad I.sz h)) (ybF _)
def Inv.cne (I:Inv X pins U H s):∀ x c,X.env.cells.lookup x=some c->c≠X.env.locals:=λx c e z=>by
  obtain ⟨v,o,ho,hd⟩:=I.cell x c e;obtain ⟨m,⟨o',es,ep,ho',hd',_⟩,_⟩:=I.loc;rw[z,ho']at ho;cases ho;rw[hd']at hd;cases hd
def Inv.funs (I:Inv X pins U H s):s.heap.FunFrames X.base X.outer:=by
  have all:∀(l:List Env),(∀ b∈frs l,b∈X.fs)->X.s₀.heap.FunFrames X.base l->s.heap.FunFrames X.base l:=by
    intro l
    induction l with
    | nil=>intro _ _;trivial
    | cons env r ih=>
      intro hs hl;obtain ⟨hk,⟨L,o,hf,hn,ho,hd⟩,hr⟩:=hl;have hL:L∈X.fs:=hs L (by unfold frs;rw[yb2,hf];exact yaB);obtain ⟨sl,e⟩:=I.base.slot L o ho (I.ok.frf L hL) hL λz=>I.ok.exfs L z hL;exact #[hk,#[L,_,hf,hn,e,hd],ih (λb hb=>hs b (by unfold frs;rw[yb2,hf];exact yaz _ hb)) hr]
  exact all X.outer (λ_ hb=>hb) I.ok.funs
def Inv.stack (I:Inv X pins U H s):s.heap.FunFrames X.base X.stack:=by
  rcases I.ok.stk with e|⟨e,hf⟩
  · rw[e];exact I.funs
  · rw[e]
    obtain ⟨m,hn,_⟩:=I.loc;refine .cons (by rw[I.ok.kind];decide) hf hn ?_ I.funs;exact Heap.get?_none_of_le (yad I.ok.bsz I.ok.above)
def Inv.stkSub (I:Inv X pins U H s):∀ b∈frs X.stack,b∈X.env.locals::X.fs:=λb hb=>by
  rcases I.ok.stk with e|⟨e,hf⟩
  · rw[e]at hb;exact yaz _ hb
  · rw[e]at hb
    unfold frs at hb;rw[yb2,hf]at hb;exact hb
def Inv.stkFree (I:Inv X pins U H s):∀ b∈frs X.stack,H b=none:=λb hb=>by
  rcases yaq.mp (I.stkSub b hb) with e|hb
  · rw[e];exact I.free
  · obtain ⟨_,o,ho,_⟩:=I.ok.funs.mem hb
    exact I.base.free b o ho (I.ok.frf b hb) λz=>I.ok.exfs b z hb
def Inv.step {g':Array GenState}{t':Nat}{d':Drawn}{ch:List Addr}(I:Inv X pins U H s)
    (hch:∀ b∈ch,(b∈X.ex\/X.s₀.heap.objs.size<=b)/\b≠X.env.locals/\(∀ x c,X.env.cells.lookup x=some c->c≠b)/\∀ p∈X.pn++pins,p.1≠b)
    (keep:∀ b o,b≠X.env.locals->b∉X.fs->b∉ch->s.heap.get? b=some o->H b=none->h'.get? b=some o)
    (slot:∀ b o,b≠X.env.locals->b∈X.fs->b∉ch->s.heap.get? b=some o->H b=none->∃ sl,h'.get? b=some { o with slots:=sl }) (free:∀ b o,b∉ch->s.heap.get? b=some o->H b=none->H' b=none)
    (there:∀ b o,b∉ch->s.heap.get? b=some o->∃ o',h'.get? b=some o')
    (tups:∀ b xs,H b=some (.tup xs)->H' b=some (.tup xs)) (frzs:∀ b o u,H b=some (.frz o u)->H' b=some (.frz o u)) (tbls:∀ b ps,H b=some (.tbl ps)->∃ more,H' b=some (.tbl (ps++more)))
    (ns:∀ m,s.heap.Ns X.env.locals m->h'.Ns X.env.locals m) (hok:HOk X.prog X.w H' h') (hg:AllBare g') :
    Inv X pins U H' { s with heap:=h',gens:=g',drawn:=d',toks:=t' }:=by
  have neL:∀ b o,X.s₀.heap.get? b=some o->b≠X.env.locals:=λb o e=>yau (yak (yag e) I.ok.above);have neC:∀ b o,X.s₀.heap.get? b=some o->b∉X.ex->b∉ch:=λb o e hx hb=>by
    rcases (hch b hb).1 with z|z
    · exact hx z
    · exact absurd (yak (yag e) z) (ybF _)
  have cellK:∀ x c,X.env.cells.lookup x=some c->∀ v,s.heap.IsCell c v->h'.IsCell c v:=λx c e v ⟨o,ho,hd⟩=>by
    have nch:c∉ch:=λz=>(hch c z).2.2.1 x c e rfl;by_cases hc:c∈X.fs
    · obtain ⟨sl,q⟩:=slot c o (I.cne x c e) hc nch ho (I.freeC x c e)
      exact #[_,q,hd]
    · exact #[o,keep c o (I.cne x c e) hc nch ho (I.freeC x c e),hd]
  refine #[I.ok,I.os,hg,#[λb o e n hb hx=>?_,λb o e n hb hx=>?_,λb o e n hx=>?_,λb o e hx=>?_,λb xs e=>tups b xs (I.base.tups b xs e),λb o xs e=>frzs b o xs (I.base.frzs b o xs e),λb ps e=>?_],?_,λx c e=>?_,?_,λx c e=>?_,λp hp=>?_,hok,I.len]
  · exact keep b o (neL b o e) hb (neC b o e hx) (I.base.keep b o e n hb hx) (I.base.free b o e n hx)
  · obtain ⟨sl,e1⟩:=I.base.slot b o e n hb hx
    obtain ⟨sl',e2⟩:=slot b _ (neL b o e) hb (neC b o e hx) e1 (I.base.free b o e n hx);exact #[sl',e2]
  · obtain ⟨o',e1⟩:=I.base.there b o e hx
    exact free b o' (neC b o e hx) e1 (I.base.free b o e n hx)
  · obtain ⟨o',e1⟩:=I.base.there b o e hx
    exact there b o' (neC b o e hx) e1
  · obtain ⟨m1,e1⟩:=I.base.tbls b ps e
    obtain ⟨m2,e2⟩:=tbls b _ e1;exact #[m1++m2,by rw[e2,Array.append_assoc]]
  · obtain ⟨m,hn,hl⟩:=I.loc
    refine #[m,ns m hn,λi x v e1 e2 e3=>?_];obtain ⟨u,r,l⟩:=hl i x v e1 e2 e3;refine #[u,r,?_];rcases l with l|⟨k,c,e,z⟩
    · exact .inl l
    · exact .inr #[k,c,e,cellK x c e _ z]
  · obtain ⟨v,z⟩:=I.cell x c e
    exact #[v,cellK x c e v z]
  · obtain ⟨m,⟨o,_,_,ho,_⟩,_⟩:=I.loc
    exact free _ o (λz=>(hch _ z).2.1 rfl) ho I.free
  · obtain ⟨v,o,ho,hd⟩:=I.cell x c e
    exact free c o (λz=>(hch c z).2.2.1 x c e rfl) ho (I.freeC x c e)
  · obtain ⟨e,n,ne,nf,d⟩:=I.pin p hp
    have nch:p.1∉ch:=λz=>(hch p.1 z).2.2.2 p hp rfl;exact #[keep p.1 p.2 ne nf nch e n,free p.1 p.2 nch e n,ne,nf,d]
def Inv.un {t':Nat}(I:Inv X pins U H s)(u:Un X.fs [] H H' s.heap h')(hok:HOk X.prog X.w H' h'):Inv X pins U H' { s with heap:=h',toks:=t' }:=by
  obtain ⟨m,⟨o,es,ep,ho,r⟩,_⟩:=id I.loc;obtain ⟨sl,hL⟩:=u.any ho I.free (by simp);exact I.step (g':=s.gens) (d':=s.drawn) (ch:=[]) (λ_ z=>nomatch z) (λb o _ hb _ e n=>u.keep b o e n hb (by simp)) (λb o _ hb _ e n=>u.slot b o e n hb (by simp)) (λb o _ e n=>u.free b o e n (by simp)) (λb o _ e=>u.there b o e (by simp)) u.tups u.frzs u.tbls (λm' hm=>by
    obtain ⟨o',es',ep',ho',r'⟩:=hm;rw[ho]at ho';cases ho'
    exact #[_,es',ep',hL,r']) hok I.bare
def Inv.call {g':Array GenState}{t':Nat}{d':Drawn}(I:Inv X pins U H s)(u:Un (frs X.stack) ch H H' s.heap h')(hok:HOk X.prog X.w H' h')(hg:AllBare g')
    (hch:∀ b∈ch,(b∈X.ex\/X.s₀.heap.objs.size<=b)/\b≠X.env.locals/\(∀ x c,X.env.cells.lookup x=some c->c≠b)/\∀ p∈X.pn++pins,p.1≠b) :
    Inv X pins U H' { s with heap:=h',gens:=g',drawn:=d',toks:=t' }:=by
  obtain ⟨m,⟨o,es,ep,ho,r⟩,_⟩:=id I.loc;obtain ⟨sl,hL⟩:=u.any ho I.free λz=>(hch _ z).2.1 rfl;exact I.step (ch:=ch) hch (λb o hL hb hc e n=>u.keep b o e n (λz=>(yaq.mp (I.stkSub b z)).elim hL hb) hc) (λb o _ _ hc e n=>u.any e n hc) (λb o hc e n=>u.free b o e n hc) (λb o hc e=>u.there b o e hc) u.tups u.frzs u.tbls (λm' hm=>by
    obtain ⟨o',es',ep',ho',r'⟩:=hm;rw[ho]at ho';cases ho'
    exact #[_,es',ep',hL,r']) hok hg
def Inv.turned {t':Nat}{it:Addr}(I:Inv X pins U H s)(k:∀ b o,b≠it->s.heap.get? b=some o->h'.get? b=some o)(hn:H it=none)(hL:it≠X.env.locals)
    (h1:it∈X.ex\/X.s₀.heap.objs.size<=it) (h2:∀ x c,X.env.cells.lookup x=some c->c≠it) (h3:∀ p∈X.pn++pins,p.1≠it):Inv X pins U H { s with heap:=h',toks:=t' }:=by
  have nit:∀ b u,H b=some u->b≠it:=λb u e z=>by rw[z,hn]at e;cases e
  refine I.step (g':=s.gens) (d':=s.drawn) (ch:=[it]) (λb hb=>?_) (λb o _ _ hc e _=>k b o (λz=>hc (by simp[z])) e) (λb o _ _ hc e _=>#[o.slots,k b o (λz=>hc (by simp[z])) e]) (λ_ _ _ _ n=>n)
    (λb o hc e=>#[o,k b o (λz=>hc (by simp[z])) e]) (λ_ _ e=>e) (λ_ _ _ e=>e) (λb ps e=>#[(List.toArray []),by rw[e];simp]) (λm hm=>?_) (λb u e=>?_) I.bare
  · have e:b=it:=by simpa using hb
    subst e;exact #[h1,hL,h2,h3]
  · obtain ⟨o,es,ep,ho,r⟩:=hm
    exact #[o,es,ep,k _ o (Ne.symm hL) ho,r]
  · refine (I.hok b u e).stay (λc v hc q=>k c v ?_ q) (λ_ q=>q) λ_ _ q=>q
    rcases hc with z|z
    · rw[z];exact nit b u e
    · exact nit c _ z
def Inv.tok (I:Inv X pins U H s)(t:Nat):Inv X pins U H { s with toks:=t }:=I.un (h':=s.heap) (t':=t) Un.refl I.hok
def Inv.kept {t':Nat}(I:Inv X pins U H s)(k:∀ b u,s.heap.get? b=some u->h'.get? b=some u):Inv X pins U H { s with heap:=h',toks:=t' }:=I.un (Un.kept k) (I.hok.kept k)
def Inv.laid {a:Addr}{o:HO}{t':Nat}(I:Inv X pins U H s)(k:∀ b u,s.heap.get? b=some u->h'.get? b=some u)(hp:s.heap.objs.size<=a)(new:zbl X.prog X.w (upd H a o) h' a o) :
    Inv X pins U (upd H a o) { s with heap:=h',toks:=t' }:=I.un (Un.laid k hp (I.hok.fresh hp)) (I.hok.laid k hp new)
def Inv.write {x e:Addr}{o:HO}{t':Nat}(I:Inv X pins U H s)(mu:Mut (H x))(he:e=x\/H e=some (.own x))(k:∀ b u,b≠e->s.heap.get? b=some u->h'.get? b=some u)(heo:∃ u,h'.get? e=some u)
    (new:zbl X.prog X.w (upd H x o) h' x o):Inv X pins U (upd H x o) { s with heap:=h',toks:=t' }:=I.un (Un.write mu he k heo) (I.hok.write mu he k heo new)
def Inv.pins_of {pins':List (Addr×Obj)}(I:Inv X pins U H s)(h:∀ p∈pins',s.heap.get? p.1=some p.2/\H p.1=none/\p.1≠X.env.locals/\p.1∉X.fs/\∀ v,p.2.data≠.cell v):Inv X pins' U H s:=
  #[I.ok,I.os,I.bare,I.base,I.loc,I.cell,I.free,I.freeC,λp hp=>(yal.mp hp).elim (λz=>I.pin p (ybb _ z)) (h p),I.hok,I.len]
def ziC {N:List Str}(hN:N.Nodup){i j:Nat}{x:Str}(a:N[i]?=some x)(b:N[j]?=some x):i=j:=by
  obtain ⟨h1,e1⟩:=yap.mp a;obtain ⟨h2,e2⟩:=yap.mp b;exact (List.getElem_inj hN).mp (e1.trans e2.symm)
def zja {M:Model}{A:Around}{E:Value->Shared->Prop}{i:Nat}{x:Str}{v:V}{u:Value}{Q:Unit->Shared->Prop}(I:Inv X pins U H s)(hN:X.N.Nodup)(hi:X.N[i]?=some x)(hx:Loc X.env.scope x)(r:RelV v u)
    (h:∀ s',Inv X pins (U.set i (some v)) H s'->(∃ a,Heap.SameBut a s.heap s'.heap/\(a=X.env.locals\/X.env.cells.lookup x=some a))->Q () s') (hf:X.fn x=true\/X.env.scope.names.lookup x=some .local:=by first|exact .inl rfl|exact .inr rfl|assumption):wpAny M A (storeName X.env x u) Q E s:=by
  obtain ⟨m,hn,hl⟩:=id I.loc;have hcls:(X.env.scope.kind == .class||(X.env.scope.kind == .module&&X.env.locals != X.env.globals))=false:=by rw[I.ok.kind];rfl
  have hiσ:i<U.length:=by rw[I.len];exact (yap.mp hi).1
  have cne:=I.cne;have tracked:∀{a:Addr} {h':Heap},(∃ o,s.heap.get? a=some o/\H a=none)->Heap.SameBut a s.heap h'->HOk X.prog X.w H h':=λ{a h'} ha hs b ob e=>by
    obtain ⟨_,_,hfree⟩:=ha;refine (I.hok b ob e).stay (λc w' hc q=>(hs.2 c ?_).trans q) (λ_ q=>q) λ_ _ q=>q;rintro rfl;rcases hc with rfl|hc
    · rw[hfree]at e;cases e
    · rw[hfree]at hc;cases hc
  rcases hx with hk|hk
  · refine wpAny_storeName_local hk hn (λh' hn' hs=>?_) hcls
    obtain ⟨oL,_,_,hoL,_⟩:=id hn;refine h _ #[I.ok,I.os,I.bare,#[λb o e n hb hx=>?_,λb o e n hb hx=>?_,I.base.free,λb o e hx=>?_,I.base.tups,I.base.frzs,I.base.tbls],#[_,hn',λj y v' e1 e2 e3=>?_],λy c e=>?_,I.free,I.freeC,λp hp=>?_,tracked #[oL,hoL,I.free] hs,by simpa using I.len] #[_,hs,.inl rfl]
    · exact (hs.2 b (yau (yak (yag e) I.ok.above))).trans (I.base.keep b o e n hb hx)
    · obtain ⟨sl,e1⟩:=I.base.slot b o e n hb hx
      exact #[sl,(hs.2 b (yau (yak (yag e) I.ok.above))).trans e1]
    · obtain ⟨o',e1⟩:=I.base.there b o e hx
      exact #[o',(hs.2 b (yau (yak (yag e) I.ok.above))).trans e1]
    · by_cases hj:j=i
      · subst hj
        rw[hi]at e1;cases e1
        rw[List.getElem?_set_self hiσ]at e2;cases e2
        exact #[u,r,.inl #[hk,by simp]]
      · rw[yc5 (Ne.symm hj)]at e2
        obtain ⟨u',r',q⟩:=hl j y v' e1 e2 e3;refine #[u',r',?_];rcases q with ⟨k,e⟩|⟨k,c,e,z⟩
        · refine .inl #[k,?_]
          have:y≠x:=λe=>hj (ziC hN e1 (e ▸ hi));simp[this,e]
        · exact .inr #[k,c,e,z.sameBut hs (cne y c e)]
    · obtain ⟨w',z⟩:=I.cell y c e
      exact #[w',z.sameBut hs (cne y c e)]
    · obtain ⟨e,n,ne,nf,d⟩:=I.pin p hp
      exact #[(hs.2 p.1 ne).trans e,n,ne,nf,d]
  · have hfn:X.fn x=true:=by
      rcases hf with z|z
      · exact z
      · rw[z]at hk;cases hk
    obtain ⟨c,hc⟩:=I.ok.has x (.inl hk);obtain ⟨w',z⟩:=I.cell x c hc;refine wpAny_storeName_cell I.ok.kind hk hc z (λh' hc' hs=>?_);obtain ⟨oc,hoc,hocd⟩:=id z;refine h { s with heap:=h' } #[I.ok,I.os,I.bare,#[λb o e n hb hx=>?_,λb o e n hb hx=>?_,I.base.free,λb o e hx=>?_,I.base.tups,I.base.frzs,I.base.tbls],#[m,hn.sameBut hs (Ne.symm (cne x c hc)),λj y v' e1 e2 e3=>?_],λy c' e=>?_,I.free,I.freeC,λp hp=>?_,tracked #[oc,hoc,I.freeC x c hc] hs,by simpa using I.len] #[c,hs,.inr hc]
    · exact (hs.2 b (yau (yak (yag e) (I.ok.cab x c hfn hc)))).trans (I.base.keep b o e n hb hx)
    · obtain ⟨sl,e1⟩:=I.base.slot b o e n hb hx
      exact #[sl,(hs.2 b (yau (yak (yag e) (I.ok.cab x c hfn hc)))).trans e1]
    · obtain ⟨o',e1⟩:=I.base.there b o e hx
      exact #[o',(hs.2 b (yau (yak (yag e) (I.ok.cab x c hfn hc)))).trans e1]
    · by_cases hj:j=i
      · subst hj
        rw[hi]at e1;cases e1
        rw[List.getElem?_set_self hiσ]at e2;cases e2
        exact #[u,r,.inr #[.inl hk,c,hc,hc']]
      · rw[yc5 (Ne.symm hj)]at e2
        obtain ⟨u',r',q⟩:=hl j y v' e1 e2 e3;refine #[u',r',?_];rcases q with q|⟨k,c',e,z'⟩
        · exact .inl q
        · refine .inr #[k,c',e,z'.sameBut hs ?_]
          rintro rfl;exact hj (ziC hN e1 (I.ok.inj _ _ _ e hc ▸ hi))
    · by_cases hcc:c'=c
      · subst hcc;exact #[_,hc']
      · obtain ⟨w2,z2⟩:=I.cell y c' e
        exact #[w2,z2.sameBut hs hcc]
    · obtain ⟨e,n,ne,nf,d⟩:=I.pin p hp
      refine #[(hs.2 p.1 ?_).trans e,n,ne,nf,d];intro q;rw[q,hoc]at e;have q':oc=p.2:=yae e;exact d w' (by rw[<-q'];exact hocd)
def zgc {M:Model}{A:Around}{E:Value->Shared->Prop}{i:Nat}{x:Str}{v:V}{u:Value}{Q:Unit->Shared->Prop}(I:Inv X pins U H s)(hN:X.N.Nodup)(hi:X.N[i]?=some x)(hx:Loc X.env.scope x)(r:RelV v u)
    (h:∀ s',Inv X pins (U.set i (some v)) H s'->Q () s') (hf:X.fn x=true\/X.env.scope.names.lookup x=some .local:=by first|exact .inl rfl|exact .inr rfl|assumption):wpAny M A (storeName X.env x u) Q E s:=
  zja I hN hi hx r (λs' I' _=>h s' I') hf
def Inv.call' {s':Shared}(I:Inv X pins U H s)(ho:s'.os=s.os)(u:Un (frs X.stack) ch H H' s.heap s'.heap)(hok:HOk X.prog X.w H' s'.heap)(hg:AllBare s'.gens)
    (hch:∀ b∈ch,(b∈X.ex\/X.s₀.heap.objs.size<=b)/\b≠X.env.locals/\(∀ x c,X.env.cells.lookup x=some c->c≠b)/\∀ p∈X.pn++pins,p.1≠b):Inv X pins U H' s':=by
  obtain ⟨h',g',d',t',o'⟩:=s';have e:o'=s.os:=ho;subst e;exact I.call (g':=g') (t':=t') (d':=d') u hok hg hch
end
abbrev XK:=Value->Option Addr->Hp->Prop
abbrev St:=List (Option V)
abbrev VK:=V->Hp->Prop
abbrev TE:=St->Hp->VK->Prop
abbrev TT:=St->Hp->(Bool->Hp->Prop)->Prop
abbrev TA:=St->Hp->(List V->Hp->Prop)->Prop
structure Ends where
  nx:St->Hp->Prop
  rt:VK
  bk:St->Hp->Prop:=λ_ _=>False
  ct:St->Hp->Prop:=λ_ _=>False
abbrev TS:=Ends->St->Hp->Prop
inductive EP (X:Cx)(pins:List (Addr×Obj))(U:St)(Q:VK)(u:Value)(s':Shared):Prop
  | c:∀ v H',Inv X pins U H' s'->RelV v u->Q v H'->EP X pins U Q u s'
def TP (X:Cx)(pins:List (Addr×Obj))(U:St)(Q:Bool->Hp->Prop)(b:Bool)(s':Shared):Prop:=∃ H',Inv X pins U H' s'/\Q b H'
inductive AP (X:Cx)(pins:List (Addr×Obj))(U:St)(Q:List V->Hp->Prop)(us:List Value)(s':Shared):Prop
  | c:∀ vs H',Inv X pins U H' s'->Vals vs us->Q vs H'->AP X pins U Q us s'
def SP (X:Cx)(pins:List (Addr×Obj))(D:Ends)(f:Flow)(s':Shared):Prop:=
  match f with
  | .next=>∃ U' H',Inv X pins U' H' s'/\D.nx U' H'
  | .brk=>∃ U' H',Inv X pins U' H' s'/\D.bk U' H'
  | .cont=>∃ U' H',Inv X pins U' H' s'/\D.ct U' H'
  | .ret u=>∃ v U' H',Inv X pins U' H' s'/\RelV v u/\D.rt v H'
def PE (X:Cx)(e:Expr)(t:TE):Prop:=
  ∀(pins:List (Addr×Obj)) (s:Shared) (U:St) (H:Hp) (Q:VK),Inv X pins U H s->t U H Q->wpAny .(d) X.A (eval e X.env) .(N) X.xe s
def PT (X:Cx)(e:Expr)(t:TT):Prop:=
  ∀(pins:List (Addr×Obj)) (s:Shared) (U:St) (H:Hp) (Q:Bool->Hp->Prop),Inv X pins U H s->t U H Q->wpAny .(d) X.A (isTrue e X.env (eval e X.env)) (TP X pins U Q) X.xe s
def PW (X:Cx)(e:Expr)(t:TT):Prop:=
  ∀(whole:Sem Value) (pins:List (Addr×Obj)) (s:Shared) (U:St) (H:Hp) (Q:Bool->Hp->Prop),Inv X pins U H s->t U H Q->wpAny .(d) X.A (isTrue e X.env whole) (TP X pins U Q) X.xe s
def PW.pt {t:TT}(h:PW X e t):PT X e t:=h _
def PA (X:Cx)(es:List Expr)(t:TA):Prop:=
  ∀(pos:Pos) (pins:List (Addr×Obj)) (s:Shared) (U:St) (H:Hp) (Q:List V->Hp->Prop),Inv X pins U H s->t U H Q->wpAny .(d) X.A (spliced .(t)) (AP X pins U Q) X.xe s
def PS (X:Cx)(st:Stmt)(t:TS):Prop:=
  ∀(pins:List (Addr×Obj)) (s:Shared) (U:St) (H:Hp) (D:Ends),Inv X pins U H s->t D U H->wpAny .(d) X.A (exec st X.env) (SP X pins D) X.xe s
def PSs (X:Cx)(st:List Stmt)(t:TS):Prop:=
  ∀(pins:List (Addr×Obj)) (s:Shared) (U:St) (H:Hp) (D:Ends),Inv X pins U H s->t D U H->wpAny .(d) X.A (execs st X.env) (SP X pins D) X.xe s
def thn {α:Type}{t:Sem α}{Q Q':α->Shared->Prop}{M:Model}{A:Around}{E:Value->Shared->Prop}{s:Shared}(h:wpAny M A t Q E s)(hQ:∀ a s,Q a s->Q' a s):wpAny M A t Q' E s:=wpAny_mono h hQ λ_ _ x=>x
end L2
namespace L2
open PySem PySem.Spec PyProof.Rows
section
variable {X:Cx}
inductive tVar (i:Nat)(U:St)(H:Hp)(Q:VK):Prop
  | c:∀ v,U[i]?=some (some v)->Q v H->tVar i U H Q
def tC (v:V):TE:=λ_ H Q=>Q v H
def zs9 {i:Nat}{x:Str}{pos:Pos}(hN:X.N[i]?=some x)(hv:Vis X.env.scope x)(hd: .(r)=false:=by decide)(hcd:(x==("__classdict__" : Str))=false:=by decide):PE X (.Name x pos) (tVar i):=by
  intro pins s U H Q I h;obtain ⟨v,e,h⟩:=h;obtain ⟨m,hn,hl⟩:=I.loc;obtain ⟨u,r,l⟩:=hl i x v hN e hv;have fin:EP X pins U Q u s:=#[v,H,I,r,h];rcases l with ⟨hk,hm⟩|⟨hk,c,hc,hcell⟩
  · exact wpAny_Name (wpAny_loadName_local I.ok.kind hk hn hm fin) hd
  · rcases hk with hk|hk
    · exact wpAny_Name (wpAny_loadName_cell I.ok.kind hk hc hcell fin) hd
    · exact wpAny_Name (wpAny_loadName_free I.ok.kind hk hc hcell fin hcd) hd
def zaf {i j pos}:PE X (.Constant (.int i) j pos) (tC (.int i)):=λ_ _ _ H _ I h=>wpAny_Constant_int #[.int i,H,I.tok _,#[_,rfl],h]
def zew {b j pos}:PE X (.Constant (.bool b) j pos) (tC (.bl b)):=λ_ _ _ H _ I h=>Constant_bool #[.bl b,H,I,rfl,h]
def zgI {j pos}:PE X (.Constant .none j pos) (tC .non):=λ_ _ _ H _ I h=>Constant_none #[.non,H,I,rfl,h]
def zbQ {x j pos}:PE X (.Constant (.str x) j pos) (tC (.str x)):=λ_ _ _ H _ I h=>Calls.Constant_str #[.str x,H,I.tok _,#[_,rfl],h]
def Gl (X:Cx)(x:Str):Prop:=X.env.kindOf x=some .globalImplicit
def zeE {E:Value->Shared->Prop}{u:Value}{pos:Pos}{Q:Value->Shared->Prop}(I:Inv X pins U H s)(hg:Gl X x)(hm:X.mg x=some u)(h:Q u s)
    (hd: .(r)=false:=by decide):wpAny .(d) X.A (eval (.Name x pos) X.env) Q E s:=
  Calls.Name_function_global I.ok.kind hg (Calls.loadGlobal_global (by rw[I.ok.glob];exact I.mod.glob.keeps I.bk) hm h) hd
def zfe {E:Value->Shared->Prop}{u:Value}{pos:Pos}{Q:Value->Shared->Prop}(I:Inv X pins U H s)(hg:Gl X x)(hm:X.mg x=none)(hv:bootBuiltins x=some u)(h:Q u s)
    (hn:x ≠ "__name__":=by decide) (hd: .(r)=false:=by decide):wpAny .(d) X.A (eval (.Name x pos) X.env) Q E s:=by
  obtain ⟨mb,h1,h2⟩:=I.mod.blt;exact Calls.Name_function_global I.ok.kind hg (Calls.loadGlobal_builtin (by rw[I.ok.glob];exact I.mod.glob.keeps I.bk) hm (by rw[I.ok.blt];exact h1.keeps I.bk) ((h2 x hn).trans hv) h) hd
def zb6 {v:V}{u:Value}{pos:Pos}(hg:Gl X x)(hm:X.mg x=some u)(r:RelV v u)(hd: .(r)=false:=by decide):PE X (.Name x pos) (tC v):=
  λ_ _ _ H _ I h=>zeE I hg hm #[v,H,I,r,h] hd
def zcG {v:V}{u:Value}{pos:Pos}(hg:Gl X x)(hm:X.mg x=none)(hv:bootBuiltins x=some u)(r:RelV v u)(hn:x ≠ "__name__":=by decide)(hd: .(r)=false:=by decide):PE X (.Name x pos) (tC v):=
  λ_ _ _ H _ I h=>zfe I hg hm hv #[v,H,I,r,h] hn hd
variable {a b:Expr}{ta tb:TE}{pos:Pos}
inductive GtB (Q:Bool->Hp->Prop)(x:V)(H1:Hp):Prop
  | c:∀ c,x=.bl c->Q c H1->GtB Q x H1
def tB (t:TE):TT:=λU H Q=>t U H λx H1=>GtB Q x H1
def zbI {t:TE}(h:PE X e t)(he:∀ whole,isTrue e X.env whole=(do let v <-whole;standAt e.pos;holding [v] (truthy v)):=by intro _;rfl):PT X e (tB t):=by
  intro pins s U H Q I hw;refine isTrue_plain (thn (h pins s U H _ I hw) λv s1 zq0=>?_) (he _);obtain ⟨x,H1,I1,r1,q1⟩:=zq0;obtain ⟨d,rfl,q⟩:=q1;cases r1
  exact wpAny_truthy_bool #[H1,I1,q]
variable {tA tB':TT}{rest:List Expr}
def tAnd (t u:TT):TT:=λU H Q=>t U H λc H1=>if c=true then u U H1 Q else Q false H1
def tOr (t u:TT):TT:=λU H Q=>t U H λc H1=>if c=true then Q true H1 else u U H1 Q
def tNot (t:TT):TT:=λU H Q=>t U H λc H1=>Q (!c) H1
def zdJ (ha:PT X a tA):PW X (.BoolOp .And [a] pos) tA:=by
  intro wh pins s U H Q I h;refine isTrue_and (thn (ha pins s U H Q I h) λc s1 e=>?_);cases c with
  | true=>exact isTrue_and_nil e
  | false=>exact e
def zla (ha:PT X a tA):PW X (.BoolOp .Or [a] pos) tA:=by
  intro wh pins s U H Q I h;refine isTrue_or (thn (ha pins s U H Q I h) λc s1 e=>?_);cases c with
  | false=>exact isTrue_or_nil e
  | true=>exact e
def zfW (ha:PT X a tA)(hb:PW X (.BoolOp .And (b::rest) pos) tB'):PW X (.BoolOp .And (a::b::rest) pos) (tAnd tA tB'):=by
  intro wh pins s U H Q I h;refine isTrue_and (thn (ha pins s U H _ I h) λc s1 zq0=>?_);obtain ⟨H1,I1,q1⟩:=zq0;cases c with
  | true=>exact hb wh pins s1 U H1 Q I1 q1
  | false=>exact #[H1,I1,q1]
def znf (ha:PT X a tA)(hb:PW X (.BoolOp .Or (b::rest) pos) tB'):PW X (.BoolOp .Or (a::b::rest) pos) (tOr tA tB'):=by
  intro wh pins s U H Q I h;refine isTrue_or (thn (ha pins s U H _ I h) λc s1 zq0=>?_);obtain ⟨H1,I1,q1⟩:=zq0;cases c with
  | true=>exact #[H1,I1,q1]
  | false=>exact hb wh pins s1 U H1 Q I1 q1
def zcU (ha:PT X a tA):PT X (.UnaryOp .Not a pos) (tNot tA):=by
  intro pins s U H Q I h;exact isTrue_not (ha pins s U H (λc H1=>Q (!c) H1) I h)
inductive zqS (tb:TE)(U:St)(Q:VK)(x:V)(H1:Hp):Prop
  | c:∀ c,x=.bl c->(if c=true then tb U H1 Q else Q (.bl false) H1)->zqS tb U Q x H1
def zuo (ta tb:TE):TE:=λU H Q=>ta U H λx H1=>zqS tb U Q x H1
inductive zqP (Q:VK)(x:V)(H1:Hp):Prop
  | c:∀ c,x=.bl c->Q (.bl (!c)) H1->zqP Q x H1
def zuj (ta:TE):TE:=λU H Q=>ta U H λx H1=>zqP Q x H1
def zlf {op}{t:TE}(h:PE X a t):PE X (.BoolOp op [a] pos) t:=λpins s U H Q I hw=>BoolOp_one (h pins s U H Q I hw)
def zli (ha:PE X a ta)(hb:PE X (.BoolOp .And (b::rest) pos) tb):PE X (.BoolOp .And (a::b::rest) pos) (zuo ta tb):=by
  intro pins s U H Q I h;refine BoolOp_and (thn (ha pins s U H _ I h) λv s1 zq0=>?_);obtain ⟨x,H1,I1,r1,q1⟩:=zq0;obtain ⟨c,rfl,q1⟩:=q1;cases r1
  refine wpAny_truthy_bool ?_;cases c with
  | true=>exact hb pins s1 U H1 Q I1 q1
  | false=>exact #[.bl false,H1,I1,rfl,q1]
def zta (ha:PE X a ta):PE X (.UnaryOp .Not a pos) (zuj ta):=by
  intro pins s U H Q I h;refine UnaryOp_ (thn (ha pins s U H _ I h) λv s1 zq0=>?_);obtain ⟨x,H1,I1,r1,q1⟩:=zq0;obtain ⟨c,rfl,q1⟩:=q1;cases r1
  exact not_of (wpAny_truthy_bool #[.bl (!c),H1,I1,rfl,q1])
def tIf (t:TT)(ta tb:TE):TE:=λU H Q=>t U H λc H1=>if c=true then ta U H1 Q else tb U H1 Q
def zpi (hc:PT X c tA)(ha:PE X a ta)(hb:PE X b tb):PE X (.IfExp c a b pos) (tIf tA ta tb):=by
  intro pins s U H Q I h;refine wpAny_IfExp (thn (hc pins s U H _ I h) λd s1 zq0=>?_);obtain ⟨H1,I1,q1⟩:=zq0;cases d with
  | true=>exact ha pins s1 U H1 Q I1 q1
  | false=>exact hb pins s1 U H1 Q I1 q1
end
end L2
namespace L2
open PySem PySem.Spec PyProof.Rows
def SqL (K:Frag)(H:Hp)(a:Addr)(xs:List V):Prop:=
  Rd H a (.lst xs)\/
    ∃(o:Obj) (its:Array Value) (n:Nat),K.lookup a=some o/\o.cls=.type "list"/\o.dict=none/\o.data=.seq its n/\its.size<=sizeLine/\Vals xs its.toList
def SqT (K:Frag)(H:Hp)(a:Addr)(xs:List V):Prop:=
  Rd H a (.tup xs)\/
    ∃(o:Obj) (its:Array Value) (n:Nat),K.lookup a=some o/\o.cls=.type "tuple"/\o.data=.seq its n/\its.size<=sizeLine/\Vals xs its.toList
def absV:Value->Option V
  | .none=>some .non
  | .bool b=>some (.bl b)
  | .int i _=>some (.int i)
  | .str x _=>some (.str x)
  | .bytes b _=>some (.byt b)
  | .float b _=>some (.flt b)
  | .ref a=>some (.ref a)
  | .type n=>some (.ty n)
  | _=>none
def RelV.abs {x:V}{u:Value}(r:RelV x u):absV u=some x:=by
  cases x with
  | non=>cases r;rfl
  | bl _=>cases r;rfl
  | int _=>obtain ⟨t,rfl⟩:=r;rfl
  | str _=>obtain ⟨t,rfl⟩:=r;rfl
  | byt _=>obtain ⟨t,rfl⟩:=r;rfl
  | flt _=>obtain ⟨t,rfl⟩:=r;rfl
  | ref _=>cases r;rfl
  | ty _=>cases r;rfl
def RelV.inj {x y:V}{u:Value}(r:RelV x u)(q:RelV y u):x=y:=yae (r.abs.symm.trans q.abs)
def Vals.inj:∀{xs ys:List V} {us:List Value},Vals xs us->Vals ys us->xs=ys
  | _,_,_,.nil,.nil=>rfl
  | _,_,_,.cons r t,.cons r' t'=>by rw[r.inj r',Vals.inj t t']
section
variable {X:Cx}{pins:List (Addr×Obj)}{U:St}{H:Hp}{s:Shared}{a:Addr}{xs ys:List V}
def SqL.of {K:Frag}(h:H a=some (.lst xs)):SqL K H a xs:=.inl (.inl h)
def SqT.of {K:Frag}(h:H a=some (.tup xs)):SqT K H a xs:=.inl (.inl h)
def Inv.list (I:Inv X pins U H s)(h:SqL X.K H a xs):∃ its:List Value,Vals xs its/\PlainL s.heap a its.toArray/\xs.length<=sizeLine:=by
  rcases h with h|⟨o,its,n,hk,hc,hd,hs,hz,r⟩
  · obtain ⟨z,its,n,r,e⟩:=h.ok I.hok
    exact #[its,r,#[_,n,e,rfl,rfl,rfl],z]
  · refine #[its.toList,r,#[o,n,I.kIn a o hk,hc,hd,by simpa using hs],?_]
    have e:=r.length;simp only[yaA]at e;lia
def Inv.tuple (I:Inv X pins U H s)(h:SqT X.K H a xs):∃ its:List Value,Vals xs its/\IsTup s.heap a its.toArray/\xs.length<=sizeLine:=by
  rcases h with h|⟨o,its,n,hk,hc,hs,hz,r⟩
  · obtain ⟨z,its,r,p⟩:=h.ok I.hok
    exact #[its,r,p,z]
  · refine #[its.toList,r,#[o,I.kIn a o hk,hc,n,by simpa using hs],?_]
    have e:=r.length;simp only[yaA]at e;lia
def Inv.list_inj (I:Inv X pins U H s)(h:SqL X.K H a xs)(h':SqL X.K H a ys):xs=ys:=by
  obtain ⟨its,r,⟨o,n,e,_,_,d⟩,_⟩:=I.list h;obtain ⟨its',r',⟨o',n',e',_,_,d'⟩,_⟩:=I.list h';rw[e]at e';cases e'
  rw[d]at d';injection d' with d1 _;have:its=its':=by simpa using congrArg Array.toList d1
  subst this;exact r.inj r'
def Inv.tuple_inj (I:Inv X pins U H s)(h:SqT X.K H a xs)(h':SqT X.K H a ys):xs=ys:=by
  obtain ⟨its,r,⟨o,e,_,n,d⟩,_⟩:=I.tuple h;obtain ⟨its',r',⟨o',e',_,n',d'⟩,_⟩:=I.tuple h';rw[e]at e';cases e'
  rw[d]at d';injection d' with d1 _;have:its=its':=by simpa using congrArg Array.toList d1
  subst this;exact r.inj r'
end
abbrev Cx.wish (X:Cx)(E:Value->Shared->Prop):Cx:={ X with xe:=E }
abbrev Cx.nox (X:Cx):Cx:=X.wish λ_ _=>False
def Cx.Ok.wish {X:Cx}(ok:X.Ok)(E:Value->Shared->Prop):(X.wish E).Ok:=
  #[ok.mod,ok.kind,ok.glob,ok.blt,ok.above,ok.inj,ok.has,ok.cab,ok.hd,ok.frames,ok.stk,ok.exf,ok.bs,ok.bsz,ok.noex,ok.exfs,ok.funs,ok.frf]
def Cx.Ok.unwish {X:Cx}{E:Value->Shared->Prop}(ok:(X.wish E).Ok):X.Ok:=
  #[ok.mod,ok.kind,ok.glob,ok.blt,ok.above,ok.inj,ok.has,ok.cab,ok.hd,ok.frames,ok.stk,ok.exf,ok.bs,ok.bsz,ok.noex,ok.exfs,ok.funs,ok.frf]
section
variable {X:Cx}{pins:List (Addr×Obj)}{U:St}{H:Hp}{s:Shared}{E:Value->Shared->Prop}
def Inv.wish (I:Inv X pins U H s)(E:Value->Shared->Prop):Inv (X.wish E) pins U H s:=#[I.ok.wish E,I.os,I.bare,I.base,I.loc,I.cell,I.free,I.freeC,I.pin,I.hok,I.len]
def Inv.unwish (I:Inv (X.wish E) pins U H s):Inv X pins U H s:=#[I.ok.unwish,I.os,I.bare,I.base,I.loc,I.cell,I.free,I.freeC,I.pin,I.hok,I.len]
def SP.unwish (h:SP (X.wish E) pins D f s'):SP X pins D f s':=by
  cases f with
  | next=>obtain ⟨U',H',I,q⟩:=h;exact #[U',H',I.unwish,q]
  | brk=>obtain ⟨U',H',I,q⟩:=h;exact #[U',H',I.unwish,q]
  | cont=>obtain ⟨U',H',I,q⟩:=h;exact #[U',H',I.unwish,q]
  | ret u=>obtain ⟨v,U',H',I,r,q⟩:=h;exact #[v,U',H',I.unwish,r,q]
def PSs.nox {st:List Stmt}{t:TS}(h:PSs X.nox st t):PSs X st t:=λpins s U H D I hw=>
  wpAny_mono (h pins s U H D (I.wish _) hw) (λ_ _ q=>q.unwish) λ_ _ z=>False.elim z
end
section
variable {X:Cx}{st:Stmt}{rest:List Stmt}{t u:TS}{e:Expr}{te:TE}{pos:Pos}
def zuk:TS:=λD U H=>D.nx U H
def tSeq (t u:TS):TS:=λD U H=>t { D with nx:=u D } U H
def zay:PSs X [] zuk:=λ_ _ U H _ I h=>wpAny_execs_nil #[U,H,I,h]
def zah (h1:PS X st t)(h2:PSs X rest u):PSs X (st::rest) (tSeq t u):=by
  intro pins s U H D I h;refine wpAny_execs_cons (thn (h1 pins s U H { D with nx:=u D } I h) λf s1 q=>?_);cases f with
  | next=>
    obtain ⟨U',H',I',q⟩:=q;exact h2 pins s1 U' H' D I' q
  | ret v=>exact q
  | brk=>exact q
  | cont=>exact q
def zae (h1:PS X st t):PSs X [st] t:=by
  intro pins s U H D I h;refine wpAny_execs_cons (thn (h1 pins s U H D I h) λf s1 q=>?_);cases f with
  | next=>exact wpAny_execs_nil q
  | ret v=>exact q
  | brk=>exact q
  | cont=>exact q
def Inv.quiet (I:Inv X pins U H s):interactive X.env=false:=by simp[interactive,I.ok.kind]
def zul (te:TE):TS:=λD U H=>te U H λ_ H1=>D.nx U H1
def zbd (he:PE X e te)(hs:swapsWith e none pos.line X.env=pure false:=by rfl):PS X (.Expr e pos) (zul te):=by
  intro pins s U H D I h;exact wpAny_Expr_any (thn (he pins s U H _ I h) λv s1 zq0=>(by obtain ⟨x,H1,I1,r1,q1⟩:=zq0;exact #[U,H1,I1,q1])) I.quiet hs
def tRet (te:TE):TS:=λD U H=>te U H D.rt
def zaw (he:PE X e te):PS X (.Return (some e) pos) (tRet te):=by
  intro pins s U H D I h;exact wpAny_Return_some (thn (he pins s U H _ I h) λv s1 zq0=>(by obtain ⟨x,H1,I1,r1,q1⟩:=zq0;exact #[x,U,H1,I1,r1,q1]))
def tIfS (c:TT)(t u:TS):TS:=λD U H=>c U H λb H1=>if b=true then t D U H1 else u D U H1
def zaW (hc:PT X c tc)(ha:PSs X a t)(hb:PSs X b u):PS X (.If c a b pos) (tIfS tc t u):=by
  intro pins s U H D I h;refine wpAny_If (thn (hc pins s U H _ I h) λd s1 zq0=>?_);obtain ⟨H1,I1,q1⟩:=zq0;cases d with
  | true=>exact ha pins s1 U H1 D I1 q1
  | false=>exact hb pins s1 U H1 D I1 q1
def zsN:TS:=λ_ _ _=>False
def za4:PS X st zsN:=λ_ _ _ _ _ _ h=>h.elim
end
abbrev TG:=V->St->Hp->(St->Hp->Prop)->Prop
abbrev TGs:=List V->St->Hp->(St->Hp->Prop)->Prop
def PG (X:Cx)(target:Expr)(t:TG):Prop:=
  ∀(pins:List (Addr×Obj)) (s:Shared) (U:St) (H:Hp) (v:V) (u:Value) (Q:St->Hp->Prop),Inv X pins U H s->RelV v u->t v U H Q->
    wpAny .(d) X.A (assign target X.env u) (λ_ s'=>∃ U' H',Inv X pins U' H' s'/\Q U' H') X.xe s
def PGs (X:Cx)(ts:List Expr)(t:TGs):Prop:=
  ∀(pins:List (Addr×Obj)) (s:Shared) (U:St) (H:Hp) (vs:List V) (us:List Value) (Q:St->Hp->Prop),Inv X pins U H s->Vals vs us->t vs U H Q->
    wpAny .(d) X.A (assignInOrder ((assignEach ts X.env).map (·.2)) us) (λ_ s'=>∃ U' H',Inv X pins U' H' s'/\Q U' H') X.xe s
abbrev TSet:=V->V->V->Hp->(Hp->Prop)->Prop
def PSet (X:Cx)(t:TSet):Prop:=
  ∀(pins:List (Addr×Obj)) (s:Shared) (U:St) (H:Hp) (o i v:V) (ov iv u:Value) (Q:Hp->Prop),Inv X pins U H s->RelV o ov->RelV i iv->RelV v u->t o i v H Q->
    wpAny .(d) X.A (setItem ov iv u) (λ_ s'=>∃ H',Inv X pins U H' s'/\Q H') X.xe s
section
variable {X:Cx}{pos:Pos}
def zkx (i:Nat):TG:=λv U H Q=>Q (U.set i (some v)) H
def zau {i:Nat}{x:Str}(hN:X.N.Nodup)(hi:X.N[i]?=some x)(hx:Loc X.env.scope x)(hf:X.fn x=true\/X.env.scope.names.lookup x=some .local:=by first|exact .inl rfl|exact .inr rfl|assumption):PG X (.Name x pos) (zkx i):=by
  intro pins s U H v u Q I r h;exact wpAny_assign_Name (zgc I hN hi hx r (λs' I'=>#[_,H,I',h]) hf)
inductive gNil (vs:List V)(U:St)(H:Hp)(Q:St->Hp->Prop):Prop
  | c:vs=[]->Q U H->gNil vs U H Q
inductive ztQ (t:TG)(u:TGs)(vs:List V)(U:St)(H:Hp)(Q:St->Hp->Prop):Prop
  | c:∀ v r,vs=v::r->(t v U H λU' H'=>u r U' H' Q)->ztQ t u vs U H Q
def zfG:PGs X [] gNil:=by
  intro pins s U H vs us Q I r h;obtain ⟨e,h⟩:=h;subst e;cases r
  exact assignInOrder_nil #[U,H,I,h]
def zbt {t:TG}(h1:PG X e t)(h2:PGs X es u)
    (hs:(assignEach (e::es) X.env).map (·.2)=assign e X.env::(assignEach es X.env).map (·.2):=by rfl):PGs X (e::es) (ztQ t u):=by
  intro pins s U H vs us Q I r h;obtain ⟨v,vr,e1,h⟩:=h;subst e1;cases r with
  | cons r rr=>
    rw[hs];refine assignInOrder_cons (thn (h1 pins s U H _ _ _ I r h) λ_ s1 zq0=>?_);obtain ⟨U1,H1,I1,q1⟩:=zq0;exact h2 pins s1 U1 H1 _ _ Q I1 rr q1
inductive gTup (K:Frag)(n:Nat)(t:TGs)(v:V)(U:St)(H:Hp)(Q:St->Hp->Prop):Prop
  | c:∀ a xs,v=.ref a->SqT K H a xs->xs.length=n->t xs U H Q->gTup K n t v U H Q
def zhw {k:Nat}{t:TGs}{n:Nat}(hc:X.calm=true)(h:PGs X es t)
    (hn:(assignEach es X.env).length=n:=by rfl) (hst:(assignEach es X.env).findIdx? (·.1)=none:=by rfl):PG X (.Tuple es k pos) (gTup X.K n t):=by
  intro pins s U H v u Q I r hw;obtain ⟨a,xs,e1,hq,hl,hw⟩:=hw;subst e1;cases r
  obtain ⟨its,rv,ht,hz⟩:=I.tuple hq;refine assign_Tuple_tuple (I.ok.hd hc) ht (by simp[hn,<-hl,rv.length]) hst λh' hx=>?_;have I1:Inv X pins U H { s with heap:=h' }:=I.kept (t':=s.toks) λb o e=>hx b o (yau (yag e)) e;exact h pins _ U H xs _ Q I1 (by simpa using rv) hw
def gSub (to ti:TE)(t:TSet):TG:=λv U H Q=>to U H λo H1=>ti U H1 λi H2=>t o i v H2 λH3=>Q U H3
def ze9 {t:TSet}(ho:PE X o to)(hi:PE X i ti)(hs:PSet X t)
    (ha:∀ v,assign (.Subscript o i pos) X.env v=(do
      let ov <-holding [v] (eval o X.env)
      let iv <-holding [v,ov] (eval i X.env)
      standAt pos
      holding [v,ov,iv] (setItem ov iv v)
      release [v,ov,iv] []):=by intro _;rfl):PG X (.Subscript o i pos) (gSub to ti t):=by
  intro pins s U H v u Q I r h;rw[ha];refine wpAny_bind (wpAny_holding (thn (ho pins s U H _ I h) λov s1 zq0=>?_));obtain ⟨x,H1,I1,r1,q1⟩:=zq0;refine wpAny_bind (wpAny_holding (thn (hi pins s1 U H1 _ I1 q1) λiv s2 zq0=>?_));obtain ⟨y,H2,I2,r2,q2⟩:=zq0;refine wpAny_bind (wpAny_standAt (wpAny_bind (wpAny_holding (thn (hs pins s2 U H2 x y v ov iv u _ I2 r1 r2 r q2) λ_ s3 zq0=>?_))));obtain ⟨H3,I3,q3⟩:=zq0;exact wpAny_release #[U,H3,I3,q3]
def tAsg (te:TE)(g:TG):TS:=λD U H=>te U H λx H1=>g x U H1 D.nx
def zdz (he:PE X e te)(hg:PG X tg g)(hs:swapsWithSole [tg] e pos.line X.env=pure false:=by rfl)(hw:swappedStores [tg] e X.env=pure none:=by rfl)
    (h1:(assignEach [tg] X.env).map (·.2)=[assign tg X.env]:=by rfl):PS X (.Assign [tg] e pos) (tAsg te g):=by
  intro pins s U H D I h;refine wpAny_Assign_stores (thn (he pins s U H _ I h) λv s1 zq0=>?_) hs hw;obtain ⟨x,H1,I1,r1,q1⟩:=zq0;rw[h1];exact thn (hg pins s1 U H1 x v _ I1 r1 q1) λ_ s2 q=>q
def zas {i:Nat}{x:Str}{pos':Pos}(hN:X.N.Nodup)(hi:X.N[i]?=some x)(hx:Loc X.env.scope x)(he:PE X e te)(hs:swapsWith e (some (.Name x pos')) pos.line X.env=pure false:=by rfl)(hf:X.fn x=true\/X.env.scope.names.lookup x=some .local:=by first|exact .inl rfl|exact .inr rfl|assumption) :
    PS X (.Assign [.Name x pos'] e pos) (tAsg te (zkx i)):=by
  intro pins s U H D I h;refine wpAny_Assign_Name (thn (he pins s U H _ I h) λv s1 zq0=>?_) hs;obtain ⟨y,H1,I1,r1,q1⟩:=zq0;exact zgc I1 hN hi hx r1 (λs2 I2=>#[_,H1,I2,q1]) hf
end
section
variable {X:Cx}{pos:Pos}
def zmN (c:TT)(tb:TS):TS:=λD U H=>∃ W:Nat->St->Hp->Prop,(∃ m,W m U H)/\∀ m U H,W m U H->
  c U H λb H1=>if b=true then ∃ N:St->Hp->Prop,(∀ U' H',N U' H'->∃ m',m'<m/\W m' U' H')/\tb { D with nx:=N,ct:=N,bk:=D.nx } U H1 else D.nx U H1
def zgs (hp:PassesOwn .(d) X.A X.env X.xe)(hc:PT X c tc)(hb:PSs X body tb):PS X (.While c body [] pos) (zmN tc tb):=by
  intro pins s U H D I h;obtain ⟨W,⟨m0,w0⟩,turn⟩:=h;refine wpAny_While (codeAny_whileLoop (λn s'=>∃ U' H',Inv X pins U' H' s'/\W n U' H') ?_ m0 #[U,H,I,w0]);rintro n s1 ⟨U1,H1,I1,w1⟩;refine wpAny_passesOwn hp (thn (hc pins s1 U1 H1 _ I1 (turn n U1 H1 w1)) λb s2 zq0=>?_);obtain ⟨H2,I2,q2⟩:=zq0;cases b with
  | true=>
    obtain ⟨N,hN,q2⟩:=q2;rw[if_pos rfl];refine wpAny_passesOwn hp (thn (hb pins s2 U1 H2 _ I2 q2) λf s3 q3=>?_);cases f with
    | next=>
      obtain ⟨U3,H3,I3,n3⟩:=q3;obtain ⟨m',hm,w3⟩:=hN U3 H3 n3;exact #[m',hm,U3,H3,I3,w3]
    | cont=>
      obtain ⟨U3,H3,I3,n3⟩:=q3;obtain ⟨m',hm,w3⟩:=hN U3 H3 n3;exact #[m',hm,U3,H3,I3,w3]
    | brk=>exact q3
    | ret v=>exact q3
  | false=>
    rw[if_neg yaC];exact wpAny_execs_nil #[U1,H2,I2,q2]
end
structure It where
  go:Nat->Hp->Prop
  yld:Nat->Hp->V->Hp->Prop
  stop:Nat->Hp->Prop
def FpOk (X:Cx)(pins:List (Addr×Obj))(H:Hp)(b:Addr):Prop:=
  H b=none/\b≠X.env.locals/\b∉X.fs/\(b∈X.ex\/X.s₀.heap.objs.size<=b)/\(∀ x c,X.env.cells.lookup x=some c->c≠b)/\∀ p∈X.pn++pins,p.1≠b
def Inv.fpOk {H':Hp}{b:Addr}(I:Inv X pins U H s)(hb:s.heap.objs.size<=b)(hn:H' b=none):FpOk X pins H' b:=by
  refine #[hn,ybG (yak I.lt hb),I.nofs hb,.inr (yad I.sz hb),λx c e z=>?_,λp hp z=>?_]
  · obtain ⟨v,q⟩:=I.cell x c e
    exact absurd (yak q.lt (by rw[z];exact hb)) (ybF _)
  · exact absurd (yak (yag (I.pin p hp).1) (by rw[z];exact hb)) (ybF _)
structure Turn (P:Program)(w:World)(K:Frag)(tg:Expr)(J:It)(fp:List Addr)(it:Addr)(tn:Nat->Heap->Prop):Prop where
  mem:it∈fp
  obj:∀ i h,tn i h->∀ b∈fp,∃ o,h.get? b=some o/\∀ v,o.data≠.cell v
  keep:∀ i h h',tn i h->(∀ b∈fp,∀ o,h.get? b=some o->h'.get? b=some o)->tn i h'
  item:∀(X:Cx),X.prog=P->X.w=w->X.K=K->X.calm=true->∀(i:Nat) (pins:List (Addr×Obj)) (s:Shared) (U:St) (H:Hp) (E:Value->Shared->Prop),Inv X pins U H s->(∀ b∈fp,FpOk X pins H b)->tn i s.heap->J.go i H->
    wpAny (model P w) X.A (pyNext (.ref it)) (λr s1=>∃ u,r=some u/\
      wpAny (model P w) X.A (letOwnedTupleGo tg (.ref it) u) (λ_ s2=>∃ x H',Inv X pins U H' s2/\RelV x u/\J.yld i H x H'/\tn (i+1) s2.heap/\∀ b∈fp,H' b=none) E s1) E s
  done:∀(X:Cx),X.prog=P->X.w=w->X.K=K->X.calm=true->∀(i:Nat) (pins:List (Addr×Obj)) (s:Shared) (U:St) (H:Hp) (E:Value->Shared->Prop),Inv X pins U H s->(∀ b∈fp,FpOk X pins H b)->tn i s.heap->J.stop i H->
    wpAny (model P w) X.A (pyNext (.ref it)) (λr s1=>r=none/\Inv X pins U H s1) E s
  self:∀(A:Around) (i:Nat) (s:Shared) (Q:Value->Shared->Prop) (E:Value->Shared->Prop),tn i s.heap->Q (.ref it) s->wpAny (model P w) A (pyIter (.ref it)) Q E s
abbrev TI:=St->Hp->(It->Hp->Prop)->Prop
inductive PIE (X:Cx)(pins:List (Addr×Obj))(U:St)(tg:Expr)(R:It->Hp->Prop)(itv:Value)(s2:Shared):Prop
  | c:∀(it:Addr) (fp:List Addr) (tn:Nat->Heap->Prop) (J:It) (H':Hp),itv=.ref it->Inv X pins U H' s2->Turn X.prog X.w X.K tg J fp it tn->tn 0 s2.heap->(∀ b∈fp,FpOk X pins H' b)->R J H'->PIE X pins U tg R itv s2
def PI (X:Cx)(tg iter:Expr)(wi:TI):Prop:=
  ∀(pins:List (Addr×Obj)) (s:Shared) (U:St) (H:Hp) (R:It->Hp->Prop),Inv X pins U H s->wi U H R->
    wpAny .(d) X.A (eval iter X.env) (λv s1=>wpAny .(d) X.A (pyIter v) (PIE X pins U tg R) X.xe s1) X.xe s
def zoi {M:Model}{A:Around}{E:Value->Shared->Prop}{s:Shared}{tg:Expr}{it:Addr}{u:Value}{o:Obj}{n:String}{vs:Array Value}{Q:Unit->Shared->Prop}(ho:s.heap.get? it=some o)(hc:o.cls=.type n)(hd:o.data=.fields vs)
    (hn:["enumerate","zip","dict_itemiterator","dict_reverseitemiterator","odict_iterator","itertools.zip_longest","itertools.pairwise"].contains n=false) (hQ:Q () s):wpAny M A (letOwnedTupleGo tg (.ref it) u) Q E s:=by
  unfold letOwnedTupleGo;cases tg<;>first
    | exact wpAny_pure hQ
    | (cases u <;> first
        | exact wpAny_pure hQ
        | (refine wpAny_bind (wpAny_load ho ?_)
           rw[hc,hd];show wpAny M A (if (["enumerate","zip","dict_itemiterator","dict_reverseitemiterator","odict_iterator","itertools.zip_longest","itertools.pairwise"].contains n&&vs[0]?==some (rawInt _))=true then _ else _) Q E s
           rw[if_neg (by intro h;rw[hn,Bool.false_and]at h;cases h)]
           exact wpAny_pure hQ))
def Itl (K:Frag)(a:Addr):It:=
  #[λi H=>∃ xs x,SqL K H a xs/\xs[i]?=some x,λi H x H'=>H'=H/\∀ xs,SqL K H a xs->xs[i]?=some x,λi H=>∃ xs,SqL K H a xs/\xs.length<=i]
def Itt (K:Frag)(a:Addr):It:=
  #[λi H=>∃ xs x,SqT K H a xs/\xs[i]?=some x,λi H x H'=>H'=H/\∀ xs,SqT K H a xs->xs[i]?=some x,λi H=>∃ xs,SqT K H a xs/\xs.length<=i]
def Itr (lo:Int)(n:Nat):It:=#[λi _=>i<n,λi H x H'=>H'=H/\x=.int (lo+i),λi _=>n<=i]
def zi1 {K:Frag}(a it:Addr):Turn P w K tg (Itl K a) [it] it (λi h=>h.IsListIter it a i) where
  mem:=by simp
  obj:=λi h st b hb=>by
    have e:b=it:=by simpa using hb
    subst e;obtain ⟨o,e,c,d⟩:=st;exact #[o,e,λv z=>by rw[d]at z;cases z]
  keep:=λi h h' st k=>st.at λo e=>k it .(h) o e
  item:=by
    intro X hP hw hK hc i pins s U H E I hf st hg;subst hP hw hK;obtain ⟨xs,x,hq,hx⟩:=hg;obtain ⟨its,rv,p,hz⟩:=I.list hq;obtain ⟨u,hu,ru⟩:=rv.get hx;obtain ⟨f0,f1,f2,f3,f4,f5⟩:=hf it .(h);refine wpAny_pyNext_list_item st p.isList (x:=u) (by simpa using hu) λh' st' sb=>?_;have I1:Inv X pins U H { s with heap:=h' }:=I.turned (t':=s.toks) (λb o hb e=>(sb.2 b hb).trans e) f0 f1 f3 f4 f5;obtain ⟨o,e,c,d⟩:=id st';exact #[u,rfl,zoi (s:={ s with heap:=h' }) e c d .(k) #[x,H,I1,ru,#[rfl,λys hy=>by rw[I.list_inj hy hq];exact hx],st',λb hb=>(hf b hb).1]]
  done:=by
    intro X hP hw hK hc i pins s U H E I hf st hg;subst hP hw hK;obtain ⟨xs,hq,hx⟩:=hg;obtain ⟨its,rv,p,hz⟩:=I.list hq;obtain ⟨f0,f1,f2,f3,f4,f5⟩:=hf it .(h);have hl:=rv.length;exact wpAny_pyNext_list_end (I.ok.hd hc) st p.isList (by simp;lia) λh' eb=>#[rfl,I.turned (t':=s.toks) (λb o hb e=>eb b o hb e) f0 f1 f3 f4 f5]
  self:=λ_ _ _ _ _ st h=>wpAny_pyIter_listiter st h
def zho {K:Frag}(a it:Addr):Turn P w K tg (Itt K a) [it] it (λi h=>h.IsTupleIter it a i) where
  mem:=by simp
  obj:=λi h st b hb=>by
    have e:b=it:=by simpa using hb
    subst e;obtain ⟨o,e,c,d⟩:=st;exact #[o,e,λv z=>by rw[d]at z;cases z]
  keep:=λi h h' st k=>st.at λo e=>k it .(h) o e
  item:=by
    intro X hP hw hK hc i pins s U H E I hf st hg;subst hP hw hK;obtain ⟨xs,x,hq,hx⟩:=hg;obtain ⟨its,rv,p,hz⟩:=I.tuple hq;obtain ⟨u,hu,ru⟩:=rv.get hx;obtain ⟨f0,f1,f2,f3,f4,f5⟩:=hf it .(h);refine wpAny_pyNext_tuple_item st (show s.heap.IsTuple a its.toArray from p) (x:=u) (by simpa using hu) λh' st' sb=>?_;have I1:Inv X pins U H { s with heap:=h' }:=I.turned (t':=s.toks) (λb o hb e=>(sb.2 b hb).trans e) f0 f1 f3 f4 f5;obtain ⟨o,e,c,d⟩:=id st';exact #[u,rfl,zoi (s:={ s with heap:=h' }) e c d .(k) #[x,H,I1,ru,#[rfl,λys hy=>by rw[I.tuple_inj hy hq];exact hx],st',λb hb=>(hf b hb).1]]
  done:=by
    intro X hP hw hK hc i pins s U H E I hf st hg;subst hP hw hK;obtain ⟨xs,hq,hx⟩:=hg;obtain ⟨its,rv,p,hz⟩:=I.tuple hq;obtain ⟨f0,f1,f2,f3,f4,f5⟩:=hf it .(h);have hl:=rv.length;exact wpAny_pyNext_tuple_end (I.ok.hd hc) st (show s.heap.IsTuple a its.toArray from p) (by simp;lia) λh' eb=>#[rfl,I.turned (t':=s.toks) (λb o hb e=>eb b o hb e) f0 f1 f3 f4 f5]
  self:=λ_ _ _ _ _ st h=>wpAny_pyIter_tupleiter st h
def zlR {K:Frag}(it:Addr)(lo:Int)(n:Nat):Turn P w K tg (Itr lo n) [it] it (λi h=>IsRangeIter h it (lo+(i:Nat)*1) ((n:Int)-(i:Nat)) 1) where
  mem:=by simp
  obj:=λi h st b hb=>by
    have e:b=it:=by simpa using hb
    subst e;exact #[_,st,λv z=>by
      have z':Data.fields _=Data.cell v:=z;cases z']
  keep:=λi h h' st k=>k it .(h) _ st
  item:=by
    intro X hP hw hK hc i pins s U H E I hf st hg;subst hP hw hK;obtain ⟨f0,f1,f2,f3,f4,f5⟩:=hf it .(h);have W:=Walks.range (prog:=X.prog) (w:=X.w) (I.ok.hd hc) it lo 1 n;refine W.item i s _ _ hg st λv h' tk hv st' kk=>?_;obtain ⟨t,rfl⟩:=hv;have I1:Inv X pins U H { s with heap:=h',toks:=tk }:=I.turned (λb o hb e=>kk b o (by simpa using hb) e) f0 f1 f3 f4 f5;refine #[_,rfl,zoi (s:={ s with heap:=h',toks:=tk }) (n := "range_iterator") st' rfl rfl .(k) #[.int (lo+i),H,I1,#[t,?_],.(L),st',λb hb=>(hf b hb).1]];rw[Int.mul_one]
  done:=by
    intro X hP hw hK hc i pins s U H E I hf st hg;subst hP hw hK;obtain ⟨f0,f1,f2,f3,f4,f5⟩:=hf it .(h);exact wpAny_pyNext_range_end (I.ok.hd hc) st (by have:n<=i:=hg;lia) λh' eb=>#[rfl,I.turned (t':=s.toks) (λb o hb e=>eb b o hb e) f0 f1 f3 f4 f5]
  self:=λ_ _ _ _ _ st h=>wpAny_pyIter_rangeiter st h
end L2
namespace L2
open PySem PySem.Spec PyProof.Rows
section
variable {X:Cx}{tg:Expr}
inductive zqX (K:Frag)(R:It->Hp->Prop)(x:V)(H1:Hp):Prop
  | c:∀ a,x=.ref a->(∃ xs,SqL K H1 a xs)->R (Itl K a) H1->zqX K R x H1
def zuw (K:Frag)(tl:TE):TI:=λU H R=>tl U H λx H1=>zqX K R x H1
inductive zub (K:Frag)(R:It->Hp->Prop)(x:V)(H1:Hp):Prop
  | c:∀ a,x=.ref a->(∃ xs,SqT K H1 a xs)->R (Itt K a) H1->zub K R x H1
def iTup (K:Frag)(tl:TE):TI:=λU H R=>tl U H λx H1=>zub K R x H1
def zcF (hl:PE X l tl):PI X tg l (zuw X.K tl):=by
  intro pins s U H R I h;refine thn (hl pins s U H _ I h) λv s1 zq0=>?_;obtain ⟨x,H1,I1,r1,q1⟩:=zq0;obtain ⟨a,e,⟨xs,hq⟩,q⟩:=q1;subst e;cases r1
  obtain ⟨its,rv,p,hz⟩:=I1.list hq;refine wpAny_pyIter_list p.isList ?_;refine #[s1.heap.objs.size,[s1.heap.objs.size],_,_,H1,rfl,I1.kept (t':=s1.toks) λb o e=>yam _ e,zi1 a _,#[_,yaD _ rfl,rfl,rfl],λb hb=>?_,q];have e:b=s1.heap.objs.size:=by simpa using hb
  subst e;exact I1.fpOk (yaa _) (I1.hok.fresh (yaa _))
def zex (hl:PE X l tl):PI X tg l (iTup X.K tl):=by
  intro pins s U H R I h;refine thn (hl pins s U H _ I h) λv s1 zq0=>?_;obtain ⟨x,H1,I1,r1,q1⟩:=zq0;obtain ⟨a,e,⟨xs,hq⟩,q⟩:=q1;subst e;cases r1
  obtain ⟨its,rv,p,hz⟩:=I1.tuple hq;refine wpAny_pyIter_tuple (show s1.heap.IsTuple a its.toArray from p) ?_;refine #[s1.heap.objs.size,[s1.heap.objs.size],_,_,H1,rfl,I1.kept (t':=s1.toks) λb o e=>yam _ e,zho a _,#[_,yaD _ rfl,rfl,rfl],λb hb=>?_,q];have e:b=s1.heap.objs.size:=by simpa using hb
  subst e;exact I1.fpOk (yaa _) (I1.hok.fresh (yaa _))
def zk9 {R:It->Hp->Prop}{E:Value->Shared->Prop}{lo hi:Int}{t u v:Tok}{tk:Nat}(I:Inv X pins U H s)(h1:-(2^62)<=lo)(h2:lo<2^62)(h3:-(2^62)<=hi)(h4:hi<2^62)
    (q:R (Itr lo (hi-lo).toNat) H):wpAny .(d) X.A (pyIter (.ref s.heap.objs.size)) (PIE X pins U tg R) E { s with heap:=s.heap.push { cls:=.type "range",data:=.fields (List.toArray [.int lo t,.int hi u,.int 1 v]) },toks:=tk }:=by
  refine wpAny_pyIter_range (IsRange.new ..) (small_one h1 h2 h3 h4) ?_;have I1:Inv X pins U H { s with heap:=s.heap.push { cls:=.type "range",data:=.fields (List.toArray [.int lo t,.int hi u,.int 1 v]) },toks:=tk }:=I.kept λb o e=>yam _ e;refine #[(s.heap.push { cls:=.type "range",data:=.fields (List.toArray [.int lo t,.int hi u,.int 1 v]) }).objs.size,[(s.heap.push { cls:=.type "range",data:=.fields (List.toArray [.int lo t,.int hi u,.int 1 v]) }).objs.size],_,_,H,rfl,
    I1.kept (t':=tk) λb o e=>yam _ e,zlR _ lo (hi-lo).toNat,?_,λb hb=>?_,q]
  · have e1:lo+((0:Nat):Int)*1=lo:=by simp
    have e2:(((hi-lo).toNat:Nat):Int)-((0:Nat):Int)=Builtin.Range.rangeSize lo hi 1:=by rw[rangeSize_one];split<;>lia
    show IsRangeIter _ _ (lo+((0:Nat):Int)*1) ((((hi-lo).toNat:Nat):Int)-((0:Nat):Int)) 1;rw[e1,e2];exact yaD _ rfl
  · have e:b=(s.heap.push { cls:=.type "range",data:=.fields (List.toArray [.int lo t,.int hi u,.int 1 v]) }).objs.size:=by simpa using hb
    subst e;exact I1.fpOk (yaa _) (I1.hok.fresh (yaa _))
inductive zqW (R:It->Hp->Prop)(vs:List V)(H1:Hp):Prop
  | c:∀(j:Int),vs=[.int j]->-(2^62)<=j->j<2^62->R (Itr 0 j.toNat) H1->zqW R vs H1
def zuv (ta:TA):TI:=λU H R=>ta U H λvs H1=>zqW R vs H1
inductive zqV (R:It->Hp->Prop)(vs:List V)(H1:Hp):Prop
  | c:∀(i j:Int),vs=[.int i,.int j]->(-(2^62)<=i/\i<2^62/\-(2^62)<=j/\j<2^62)->R (Itr i (j-i).toNat) H1->zqV R vs H1
def zuu (ta:TA):TI:=λU H R=>ta U H λvs H1=>zqV R vs H1
def zaZ {a:Expr}{p pos:Pos}(hg:Gl X "range")(hm:X.mg "range" = none)(ha:PA X [a] ta)(hs:starEach [a] X.env=[(false,eval a X.env)]:=by rfl):PI X tg (.Call (.Name "range" p) [a] [] pos) (zuv ta):=by
  intro pins s U H R I h;refine Call_ (zfe I hg hm boot_range (PyProof.Rows.callWith_type1 (thn .(S) λus s1 zq0=>?_) hs rfl));obtain ⟨vs,H1,I1,r1,q1⟩:=zq0;obtain ⟨j,e,q1,q2,q⟩:=q1;subst e;cases r1 with
  | cons r rr=>
    cases rr
    obtain ⟨t,rfl⟩:=r;exact call_range_1 (zk9 I1 .(a) .(a) q1 q2 (by simpa using q))
def zdM {a b:Expr}{p pos:Pos}(hg:Gl X "range")(hm:X.mg "range" = none)(ha:PA X [a,b] ta)(hs:starEach [a,b] X.env=[(false,eval a X.env),(false,eval b X.env)]:=by rfl)(hs2:starEach [b] X.env=[(false,eval b X.env)]:=by rfl) :
    PI X tg (.Call (.Name "range" p) [a,b] [] pos) (zuu ta):=by
  intro pins s U H R I h;refine Call_ (zfe I hg hm boot_range (PyProof.Rows.callWith_type1 (thn .(S) λus s1 zq0=>?_) (by rw[hs,hs2]) (by rw[hs2];rfl)));obtain ⟨vs,H1,I1,r1,q1⟩:=zq0;obtain ⟨i,j,e,⟨q1,q2,q3,q4⟩,q⟩:=q1;subst e;cases r1 with
  | cons r rr=>
    cases rr with
    | cons r' rr=>
      cases rr
      obtain ⟨t,rfl⟩:=r;obtain ⟨t',rfl⟩:=r';exact call_range_2 (zk9 I1 q1 q2 q3 q4 q)
def tFor (wi:TI)(g:TG)(tb:TS):TS:=λD U H=>wi U H λJ H1=>∃ W:Nat->Nat->St->Hp->Prop,(∃ m,W 0 m U H1)/\∀ i m U H,W i m U H->
  (J.stop i H/\D.nx U H)\/(J.go i H/\∃ N:St->Hp->Prop,(∀ U' H',N U' H'->∃ m',m'<m/\W (i+1) m' U' H')/\∀ x H',J.yld i H x H'->g x U H' λU2 H2=>tb { D with nx:=N,ct:=N,bk:=D.nx } U2 H2)
def zji (fp:List Addr)(h:Heap):List (Addr×Obj):=fp.filterMap λb=>(h.get? b).map λo=>(b,o)
def zen {fp:List Addr}{h:Heap}{b:Addr}{o:Obj}(hb:b∈fp)(e:h.get? b=some o):(b,o)∈zji fp h:=List.mem_filterMap.mpr #[b,hb,by rw[e];rfl]
def znK {p:Addr×Obj}(hp:p∈zji fp h):p.1∈fp/\h.get? p.1=some p.2:=by
  obtain ⟨b,hb,e⟩:=List.mem_filterMap.mp hp;cases q:h.get? b with
  | none=>rw[q]at e;cases e
  | some o=>
    rw[q]at e;have e':(b,o)=p:=yae e;subst e';exact #[hb,q]
def Inv.pinned {fp:List Addr}(I:Inv X pins U H s)(hf:∀ b∈fp,FpOk X pins H b)(ho:∀ b∈fp,∃ o,s.heap.get? b=some o/\∀ v,o.data≠.cell v):Inv X (pins++zji fp s.heap) U H s:=
  I.pins_of λp hp=>(yal.mp hp).elim (λz=>I.pin p (yaI _ z)) λz=>by
    obtain ⟨hb,e⟩:=znK z;obtain ⟨f0,f1,f2,_⟩:=hf p.1 hb;obtain ⟨o,e',d⟩:=ho p.1 hb;rw[e]at e';cases e'
    exact #[e,f0,f1,f2,d]
def Inv.unpinned {pins pl:List (Addr×Obj)}(I:Inv X (pins++pl) U H s):Inv X pins U H s:=I.pins_of λp hp=>I.pin p (yaI _ (ybb _ hp))
def zbn {pos:Pos}(hp:PassesOwn .(d) X.A X.env X.xe)(hc:X.calm=true)(hi:PI X tg iter wi)(hg:PG X tg g)(hb:PSs X body tb)
    (hs:∀ x,foldedSetIterable iter X.env x=pure x:=by intro _;rfl):PS X (.For tg iter body [] pos) (tFor wi g tb):=by
  intro pins s U H D I h;refine wpAny_For (thn (hi pins s U H _ I h) λv s1 h1=>thn h1 λitv s2 h2=>?_) hs;obtain ⟨it,fp,tn,J,H2,e,I2,T,st2,f2,W,⟨m0,w0⟩,turn⟩:=h2;subst e;have stat:∀{H':Hp},(∀ b∈fp,H' b=none)->∀ b∈fp,FpOk X pins H' b:=λhn b hb=>#[hn b hb,(f2 b hb).2];refine codeAny_forLoop_any (λn s'=>∃ i U' H',Inv X pins U' H' s'/\tn i s'.heap/\(∀ b∈fp,H' b=none)/\W i n U' H') ?_ m0 #[0,U,H2,I2,st2,λb hb=>(f2 b hb).1,w0];rintro n s3 ⟨i,U3,H3,I3,st3,fr3,w3⟩;rcases turn i n U3 H3 w3 with ⟨stop,qn⟩|⟨go,N,hN,step⟩
  · refine wpAny_passesOwn hp (thn (T.done X rfl rfl rfl hc i pins s3 U3 H3 X.xe I3 (stat fr3) st3 stop) λr s4 zq0=>?_)
    obtain ⟨hr,I4⟩:=zq0;subst hr;exact wpAny_execs_nil #[U3,H3,I4,qn]
  · refine wpAny_passesOwn hp (thn (T.item X rfl rfl rfl hc i pins s3 U3 H3 X.xe I3 (stat fr3) st3 go) λr s4 zq0=>?_)
    obtain ⟨u,hr,h4⟩:=zq0;subst hr;refine wpAny_passesOwn hp (thn h4 λ_ s5 zq0=>?_);obtain ⟨x,H5,I5,r5,y5,st5,fr5⟩:=zq0;have I5':=I5.pinned (stat fr5) (T.obj _ _ st5);refine wpAny_passesOwn hp (thn (hg _ s5 U3 H5 x u _ I5' r5 (step x H5 y5)) λ_ s6 zq0=>?_);obtain ⟨U6,H6,I6,q6⟩:=zq0;refine wpAny_passesOwn hp (thn (hb _ s6 U6 H6 _ I6 q6) λf s7 q7=>?_);have again:∀{U7:St} {H7:Hp},Inv X (pins++zji fp s5.heap) U7 H7 s7->N U7 H7->∃ m,m<n/\∃ i U' H',Inv X pins U' H' s7/\tn i s7.heap/\(∀ b∈fp,H' b=none)/\W i m U' H':=λ{U7 H7} I7 n7=>by
      obtain ⟨m',hm,w7⟩:=hN U7 H7 n7;refine #[m',hm,i+1,U7,H7,I7.unpinned,T.keep _ _ _ st5 λb hb o e=>(I7.pin (b,o) (yaI _ (yaI _ (zen hb e)))).1,λb hb=>?_,w7];obtain ⟨o,e,d⟩:=T.obj _ _ st5 b hb;exact (I7.pin (b,o) (yaI _ (yaI _ (zen hb e)))).2.1
    cases f with
    | next=>obtain ⟨U7,H7,I7,n7⟩:=q7;exact again I7 n7
    | cont=>obtain ⟨U7,H7,I7,n7⟩:=q7;exact again I7 n7
    | brk=>obtain ⟨U7,H7,I7,q7⟩:=q7;exact #[U7,H7,I7.unpinned,q7]
    | ret v=>obtain ⟨x7,U7,H7,I7,r7,q7⟩:=q7;exact #[x7,U7,H7,I7.unpinned,r7,q7]
end
def ziO {K:Frag}{g:TG}{tb:TS}{D:Ends}{U:St}{H:Hp}(Pv:Nat->St->Hp->Prop)(h0:Pv 0 U H)(hl:∀ i U H,i<=xs.length->Pv i U H->SqL K H a xs)
    (hs:∀ i x U H,xs[i]?=some x->Pv i U H->g x U H λU2 H2=>tb { D with nx:=Pv (i+1),ct:=Pv (i+1),bk:=D.nx } U2 H2) (hd:∀ U H,Pv xs.length U H->D.nx U H) :
    ∃ W:Nat->Nat->St->Hp->Prop,(∃ m,W 0 m U H)/\∀ i m U H,W i m U H->
      ((Itl K a).stop i H/\D.nx U H)\/((Itl K a).go i H/\∃ N:St->Hp->Prop,(∀ U' H',N U' H'->∃ m',m'<m/\W (i+1) m' U' H')/\∀ x H',(Itl K a).yld i H x H'->g x U H' λU2 H2=>tb { D with nx:=N,ct:=N,bk:=D.nx } U2 H2):=by
  refine #[λi m U H=>m=xs.length-i/\i<=xs.length/\Pv i U H,#[xs.length,by simp,yaF _,h0],?_];rintro i m U H ⟨rfl,hi,p⟩;have q:=hl i U H hi p;by_cases hlt:i<xs.length
  · refine .inr #[#[xs,xs[i],q,by simp[hlt]],Pv (i+1),λU' H' p'=>#[xs.length-(i+1),by lia,rfl,hlt,p'],λx H' y=>?_]
    obtain ⟨e,y⟩:=y;subst e;exact hs i x U _ (y xs q) p
  · have e:i=xs.length:=by lia
    subst e;exact .inl #[#[xs,q,yaa _],hd U H p]
def zgZ {K:Frag}{g:TG}{tb:TS}{D:Ends}{U:St}{H:Hp}(Pv:Nat->St->Hp->Prop)(h0:Pv 0 U H)(hl:∀ i U H,i<=xs.length->Pv i U H->SqT K H a xs)
    (hs:∀ i x U H,xs[i]?=some x->Pv i U H->g x U H λU2 H2=>tb { D with nx:=Pv (i+1),ct:=Pv (i+1),bk:=D.nx } U2 H2) (hd:∀ U H,Pv xs.length U H->D.nx U H) :
    ∃ W:Nat->Nat->St->Hp->Prop,(∃ m,W 0 m U H)/\∀ i m U H,W i m U H->
      ((Itt K a).stop i H/\D.nx U H)\/((Itt K a).go i H/\∃ N:St->Hp->Prop,(∀ U' H',N U' H'->∃ m',m'<m/\W (i+1) m' U' H')/\∀ x H',(Itt K a).yld i H x H'->g x U H' λU2 H2=>tb { D with nx:=N,ct:=N,bk:=D.nx } U2 H2):=by
  refine #[λi m U H=>m=xs.length-i/\i<=xs.length/\Pv i U H,#[xs.length,by simp,yaF _,h0],?_];rintro i m U H ⟨rfl,hi,p⟩;have q:=hl i U H hi p;by_cases hlt:i<xs.length
  · refine .inr #[#[xs,xs[i],q,by simp[hlt]],Pv (i+1),λU' H' p'=>#[xs.length-(i+1),by lia,rfl,hlt,p'],λx H' y=>?_]
    obtain ⟨e,y⟩:=y;subst e;exact hs i x U _ (y xs q) p
  · have e:i=xs.length:=by lia
    subst e;exact .inl #[#[xs,q,yaa _],hd U H p]
def zbj {lo:Int}{n:Nat}{g:TG}{tb:TS}{D:Ends}{U:St}{H:Hp}(Pv:Nat->St->Hp->Prop)(h0:Pv 0 U H)
    (hs:∀ i U H,i<n->Pv i U H->g (.int (lo+i)) U H λU2 H2=>tb { D with nx:=Pv (i+1),ct:=Pv (i+1),bk:=D.nx } U2 H2) (hd:∀ U H,Pv n U H->D.nx U H) :
    ∃ W:Nat->Nat->St->Hp->Prop,(∃ m,W 0 m U H)/\∀ i m U H,W i m U H->
      ((Itr lo n).stop i H/\D.nx U H)\/((Itr lo n).go i H/\∃ N:St->Hp->Prop,(∀ U' H',N U' H'->∃ m',m'<m/\W (i+1) m' U' H')/\∀ x H',(Itr lo n).yld i H x H'->g x U H' λU2 H2=>tb { D with nx:=N,ct:=N,bk:=D.nx } U2 H2):=by
  refine #[λi m U H=>m=n-i/\i<=n/\Pv i U H,#[n,by simp,yaF _,h0],?_];rintro i m U H ⟨rfl,hi,p⟩;by_cases hlt:i<n
  · refine .inr #[hlt,Pv (i+1),λU' H' p'=>#[n-(i+1),by lia,rfl,hlt,p'],λx H' y=>?_]
    obtain ⟨e,y⟩:=y;subst e y;exact hs i U _ hlt p
  · have e:i=n:=by lia
    subst e;exact .inl #[yaa _,hd U H p]
def zkR {c:TT}{tb:TS}{D:Ends}{U:St}{H:Hp}(Pv:St->Hp->Prop)(μ:St->Hp->Nat)(h0:Pv U H)
    (hs:∀ U H,Pv U H->c U H λb H1=>if b=true then tb { D with nx:=λU' H'=>Pv U' H'/\μ U' H'<μ U H,ct:=λU' H'=>Pv U' H'/\μ U' H'<μ U H,bk:=D.nx } U H1 else D.nx U H1)
    (mono:∀ U H Q Q',(∀ b H1,Q b H1->Q' b H1)->c U H Q->c U H Q'):zmN c tb D U H:=by
  refine #[λm U H=>m=μ U H/\Pv U H,#[_,rfl,h0],?_];rintro m U H ⟨rfl,p⟩;refine mono U H _ _ (λb H1 q=>?_) (hs U H p);cases b with
  | true=>exact #[_,λU' H' ⟨p',l⟩=>#[_,l,rfl,p'],q]
  | false=>exact q
end L2
namespace L2
open PySem PySem.Spec PyProof.Rows
abbrev R2:=V->V->Hp->VK->Prop
def OpR (X:Cx)(f:Value->Value->Sem Value)(r:R2):Prop:=
  ∀(pins:List (Addr×Obj)) (s:Shared) (U:St) (H:Hp) (x y:V) (v u:Value) (Q:VK),Inv X pins U H s->RelV x v->RelV y u->r x y H Q->
    wpAny .(d) X.A (f v u) .(N) X.xe s
def UnR (X:Cx)(f:Value->Sem Value)(r:V->Hp->VK->Prop):Prop:=
  ∀(pins:List (Addr×Obj)) (s:Shared) (U:St) (H:Hp) (x:V) (v:Value) (Q:VK),Inv X pins U H s->RelV x v->r x H Q->
    wpAny .(d) X.A (f v) .(N) X.xe s
def zcL (X:Cx)(f:Value)(r:List V->Hp->VK->Prop):Prop:=
  ∀(pins:List (Addr×Obj)) (s:Shared) (U:St) (H:Hp) (xs:List V) (us:List Value) (Q:VK),Inv X pins U H s->Vals xs us->r xs H Q->
    wpAny .(d) X.A (call f us) .(N) X.xe s
def tOp (r:R2)(ta tb:TE):TE:=λU H Q=>ta U H λx H1=>tb U H1 λy H2=>r x y H2 Q
def tUn (r:V->Hp->VK->Prop)(ta:TE):TE:=λU H Q=>ta U H λx H1=>r x H1 Q
inductive rI (C:Int->Int->Prop)(g:Int->Int->V)(x:V)(y:V)(H:Hp)(Q:VK):Prop
  | c:∀ i j,x=.int i->y=.int j->C i j->Q (g i j) H->rI C g x y H Q
inductive rI0 (g:Int->Int->V)(x:V)(y:V)(H:Hp)(Q:VK):Prop
  | c:∀ i j,x=.int i->y=.int j->Q (g i j) H->rI0 g x y H Q
inductive rU (g:Int->V)(x:V)(H:Hp)(Q:VK):Prop
  | c:∀ i,x=.int i->Q (g i) H->rU g x H Q
section
variable {X:Cx}{a b c:Expr}{ta tb tc:TE}{pos:Pos}
def binT (ha:PE X a ta)(hb:PE X b tb){R:V->V->Hp->Prop}(I:Inv X pins U H s)
    (h:ta U H λx H1=>tb U H1 λy H2=>R x y H2) {Q:Value->Shared->Prop} {f:Value->Value->Sem Value}
    (hf:∀ v u s2 x y H2,Inv X pins U H2 s2->RelV x v->RelV y u->R x y H2->wpAny .(d) X.A (f v u) Q X.xe s2) :
    wpAny .(d) X.A (eval a X.env) (λv s₁=>wpAny .(d) X.A (eval b X.env) (λu s₂=>wpAny .(d) X.A (f v u) Q X.xe s₂) X.xe s₁) X.xe s:=by
  refine thn (ha pins s U H _ I h) λv s1 zq0=>?_;obtain ⟨x,H1,I1,r1,q1⟩:=zq0;refine thn (hb pins s1 U H1 _ I1 q1) λu s2 zq0=>?_;obtain ⟨y,H2,I2,r2,q2⟩:=zq0;exact hf v u s2 x y H2 I2 r1 r2 q2
def zav {op:Operator}(ho:OpR X (binaryOp op) r)(ha:PE X a ta)(hb:PE X b tb):PE X (.BinOp a op b pos) (tOp r ta tb):=by
  intro pins s U H Q I h;exact wpAny_BinOp (binT ha hb I h λv u s2 x y H2 I2 rx ry q=>ho pins s2 U H2 x y v u Q I2 rx ry q)
def znl {op:UnaryOp}(ho:UnR X (unaryOp op) r)(ha:PE X a ta):PE X (.UnaryOp op a pos) (tUn r ta):=by
  intro pins s U H Q I h;exact UnaryOp_ (thn (ha pins s U H _ I h) λv s1 zq0=>(by obtain ⟨x,H1,I1,r1,q1⟩:=zq0;exact ho pins s1 U H1 x v Q I1 r1 q1))
def opI {f:Value->Value->Sem Value}{C:Int->Int->Prop}{g:Int->Int->Int}
    (rule:∀(i j:Int) (t u:Tok) (s:Shared) (Q:Value->Shared->Prop) (E:Value->Shared->Prop),C i j->Q (.int (g i j) s.toks) { s with toks:=s.toks+1 }->wpAny .(d) X.A (f (.int i t) (.int j u)) Q E s) :
    OpR X f (rI C λi j=>.int (g i j)):=by
  intro pins s U H x y v u Q I rx ry h;obtain ⟨i,j,rfl,rfl,hc,q⟩:=h;obtain ⟨t,rfl⟩:=rx;obtain ⟨t',rfl⟩:=ry;exact rule i j t t' s _ _ hc #[.int (g i j),H,I.tok _,#[_,rfl],q]
def opI0 {f:Value->Value->Sem Value}{g:Int->Int->Int}
    (rule:∀(i j:Int) (t u:Tok) (s:Shared) (Q:Value->Shared->Prop) (E:Value->Shared->Prop),Q (.int (g i j) s.toks) { s with toks:=s.toks+1 }->wpAny .(d) X.A (f (.int i t) (.int j u)) Q E s) :
    OpR X f (rI0 λi j=>.int (g i j)):=by
  intro pins s U H x y v u Q I rx ry h;obtain ⟨i,j,rfl,rfl,q⟩:=h;obtain ⟨t,rfl⟩:=rx;obtain ⟨t',rfl⟩:=ry;exact rule i j t t' s _ _ #[.int (g i j),H,I.tok _,#[_,rfl],q]
def opB0 {f:Value->Value->Sem Value}{g:Int->Int->Bool}
    (rule:∀(i j:Int) (t u:Tok) (s:Shared) (Q:Value->Shared->Prop) (E:Value->Shared->Prop),Q (.bool (g i j)) s->wpAny .(d) X.A (f (.int i t) (.int j u)) Q E s) :
    OpR X f (rI0 λi j=>.bl (g i j)):=by
  intro pins s U H x y v u Q I rx ry h;obtain ⟨i,j,rfl,rfl,q⟩:=h;obtain ⟨t,rfl⟩:=rx;obtain ⟨t',rfl⟩:=ry;exact rule i j t t' s _ _ #[.bl (g i j),H,I,rfl,q]
def CDiv (i j:Int):Prop:=0<j/\j<1073741824
def CPow (i j:Int):Prop:=0<=j/\j<=1000000/\i.natAbs<2^64
def CMul (i j:Int):Prop:=(-(2^64)<i/\i<2^64)\/(-(2^64)<j/\j<2^64)
def CMul.ok (h:CMul i j):IntMulOk i j:=by
  rcases h with ⟨h1,h2⟩|⟨h1,h2⟩
  · exact .of_left (intBits_le_64 h1 h2)
  · exact .of_right (intBits_le_64 h1 h2)
def zlQ (k:Nat):(0:Int)<=2^k:=by
  rw[two_pow_cast];exact ybO _
def za8:OpR X (binaryOp .Add) (rI0 λi j=>.int (i+j)):=opI0 λ_ _ _ _ _ _ _ q=>add_int q
def zbV:OpR X (binaryOp .Sub) (rI0 λi j=>.int (i-j)):=opI0 λ_ _ _ _ _ _ _ q=>sub_int q
def zb0:OpR X (binaryOp .Mult) (rI CMul λi j=>.int (i*j)):=opI λ_ _ _ _ _ _ _ hc q=>mul_int q hc.ok
def zgL:OpR X (binaryOp .FloorDiv) (rI CDiv λi j=>.int (i/j)):=opI λi j _ _ _ _ _ hc q=>by
  have h1:(0:Int)<j:=hc.1;have h2:j<1073741824:=hc.2;exact floordiv_int .(a) (by rw[Int.fdiv_eq_ediv_of_nonneg i .(a)];exact q) (.inl (PyProof.noPylong_small .(a)))
def zc7:OpR X (binaryOp .Mod) (rI (λ_ j=>0<j) λi j=>.int (i%j)):=opI λi j _ _ _ _ _ hc q=>by
  have h1:(0:Int)<j:=hc;exact mod_int' .(a) (by rw[Int.fmod_eq_emod_of_nonneg i .(a)];exact q)
def zhx:OpR X (binaryOp .Pow) (rI CPow λi j=>.int (i^j.toNat)):=opI λ_ _ _ _ _ _ _ hc q=>pow_int_small hc.1 hc.2.1 hc.2.2 q
def ztg:OpR X (binaryOp .RShift) (rI (λ_ j=>0<=j) λi j=>.int (i/2^j.toNat)):=opI λi j _ _ _ _ _ hc q=>
  rshift_int hc (by rw[Int.fdiv_eq_ediv_of_nonneg i (zlQ _)];exact q)
def zqD:OpR X (binaryOp .BitAnd) (rI0 λi j=>.int (Builtin.bitAnd i j)):=opI0 λ_ _ _ _ _ _ _ q=>and_int q
def ztf:OpR X (binaryOp .BitXor) (rI0 λi j=>.int (Builtin.bitXor i j)):=opI0 λ_ _ _ _ _ _ _ q=>xor_int q
def unI {f:Value->Sem Value}{g:Int->Int}
    (rule:∀(i:Int) (t:Tok) (s:Shared) (Q:Value->Shared->Prop) (E:Value->Shared->Prop),Q (.int (g i) s.toks) { s with toks:=s.toks+1 }->wpAny .(d) X.A (f (.int i t)) Q E s) :
    UnR X f (rU λi=>.int (g i)):=by
  intro pins s U H x v Q I rx h;obtain ⟨i,rfl,q⟩:=h;obtain ⟨t,rfl⟩:=rx;exact rule i t s _ _ #[.int (g i),H,I.tok _,#[_,rfl],q]
def zi0:UnR X (unaryOp .USub) (rU λi=>.int (-i)):=unI λ_ _ _ _ _ q=>neg_int q
end
def scal:V->V->Bool
  | .non,.non=>true|.non,.int _=>true|.int _,.non=>true|.non,.bl _=>true|.bl _,.non=>true|.non,.str _=>true|.str _,.non=>true
  | .int _,.int _=>true|.bl _,.bl _=>true|.str _,.str _=>true|.byt _,.byt _=>true
  | .int _,.str _=>true|.str _,.int _=>true|.bl _,.str _=>true|.str _,.bl _=>true
  | _,_=>false
inductive rEq (x:V)(y:V)(H:Hp)(Q:VK):Prop
  | c:scal x y=true->Q (.bl (decide (x=y))) H->rEq x y H Q
inductive rNe (x:V)(y:V)(H:Hp)(Q:VK):Prop
  | c:scal x y=true->Q (.bl (!decide (x=y))) H->rNe x y H Q
def zou {i j:Int}:decide (V.int i=V.int j)=(i==j):=by
  rw[ycF];simp
def zqL {i j:Bool}:decide (V.bl i=V.bl j)=(i==j):=by
  rw[ycF];simp
def zot {i j:Str}:decide (V.str i=V.str j)=(i==j):=by
  rw[ycF];simp
def zov {i j:Array UInt8}:decide (V.byt i=V.byt j)=(i.toList==j.toList):=by
  rw[ycF];cases i
  cases j
  simp
section
variable {X:Cx}{a b c:Expr}{ta tb tc:TE}{pos:Pos}
def zaX {Q:VK}{k k':Bool}(I:Inv X pins U H s)(q:Q (.bl k) H)(e:k=k'):EP X pins U Q (.bool k') s:=by
  subst e;exact #[.bl k,H,I,rfl,q]
def zdO:OpR X (compareOp .Eq) rEq:=by
  intro pins s U H x y v u Q I rx ry h;obtain ⟨hs,q⟩:=h;cases x with
  | non=>
    cases rx
    cases y with
    | non=>cases ry;exact PySem.EqNone.eq_none_none .(A)
    | bl j=>cases ry;exact PySem.EqNone.eq_none_bool .(A)
    | int j=>obtain ⟨t',rfl⟩:=ry;exact PySem.EqNone.eq_none_int .(A)
    | str j=>obtain ⟨t',rfl⟩:=ry;exact PySem.EqNone.eq_none_str .(A)
    | _=>exact absurd .(I) yaC
  | bl i=>
    cases rx
    cases y with
    | non=>cases ry;exact PySem.EqNone.eq_bool_none .(A)
    | bl j=>cases ry;exact eq_bool (zaX I q zqL)
    | str j=>obtain ⟨t',rfl⟩:=ry;exact PySem.EqMixed.eq_bool_str .(A)
    | _=>exact absurd .(I) yaC
  | int i=>
    obtain ⟨t,rfl⟩:=rx;cases y with
    | non=>cases ry;exact PySem.EqNone.eq_int_none .(A)
    | int j=>obtain ⟨t',rfl⟩:=ry;exact eq_int (zaX I q zou)
    | str j=>obtain ⟨t',rfl⟩:=ry;exact PySem.EqMixed.eq_int_str .(A)
    | _=>exact absurd .(I) yaC
  | str i=>
    obtain ⟨t,rfl⟩:=rx;cases y with
    | non=>cases ry;exact PySem.EqNone.eq_str_none .(A)
    | bl j=>cases ry;exact PySem.EqMixed.eq_str_bool .(A)
    | int j=>obtain ⟨t',rfl⟩:=ry;exact PySem.EqMixed.eq_str_int .(A)
    | str j=>obtain ⟨t',rfl⟩:=ry;exact eq_str (zaX I q zot)
    | _=>exact absurd .(I) yaC
  | byt i=>
    obtain ⟨t,rfl⟩:=rx;cases y with
    | byt j=>obtain ⟨t',rfl⟩:=ry;exact PySem.W.eq_bytes (zaX I q zov)
    | _=>exact absurd .(I) yaC
  | _=>cases y<;>exact absurd .(I) yaC
def zns:OpR X (compareOp .NotEq) rNe:=by
  intro pins s U H x y v u Q I rx ry h;obtain ⟨hs,q⟩:=h;cases x with
  | non=>
    cases rx
    cases y with
    | non=>cases ry;exact PySem.EqNone.ne_none_none .(A)
    | bl j=>cases ry;exact PySem.EqNone.ne_none_bool .(A)
    | int j=>obtain ⟨t',rfl⟩:=ry;exact PySem.EqNone.ne_none_int .(A)
    | str j=>obtain ⟨t',rfl⟩:=ry;exact PySem.EqNone.ne_none_str .(A)
    | _=>exact absurd .(I) yaC
  | bl i=>
    cases rx
    cases y with
    | non=>cases ry;exact PySem.EqNone.ne_bool_none .(A)
    | bl j=>cases ry;exact ne_bool (zaX I q (congrArg not zqL))
    | str j=>obtain ⟨t',rfl⟩:=ry;exact PySem.EqMixed.ne_bool_str .(A)
    | _=>exact absurd .(I) yaC
  | int i=>
    obtain ⟨t,rfl⟩:=rx;cases y with
    | non=>cases ry;exact PySem.EqNone.ne_int_none .(A)
    | int j=>obtain ⟨t',rfl⟩:=ry;exact ne_int (zaX I q (congrArg not zou))
    | str j=>obtain ⟨t',rfl⟩:=ry;exact PySem.EqMixed.ne_int_str .(A)
    | _=>exact absurd .(I) yaC
  | str i=>
    obtain ⟨t,rfl⟩:=rx;cases y with
    | non=>cases ry;exact PySem.EqNone.ne_str_none .(A)
    | bl j=>cases ry;exact PySem.EqMixed.ne_str_bool .(A)
    | int j=>obtain ⟨t',rfl⟩:=ry;exact PySem.EqMixed.ne_str_int .(A)
    | str j=>obtain ⟨t',rfl⟩:=ry;exact ne_str (zaX I q (congrArg not zot))
    | _=>exact absurd .(I) yaC
  | byt i=>
    obtain ⟨t,rfl⟩:=rx;cases y with
    | byt j=>obtain ⟨t',rfl⟩:=ry;exact PySem.W.ne_bytes (zaX I q (congrArg not zov))
    | _=>exact absurd .(I) yaC
  | _=>cases y<;>exact absurd .(I) yaC
def zhi:OpR X (compareOp .Lt) (rI0 λi j=>.bl (decide (i<j))):=opB0 λ_ _ _ _ _ _ _ q=>lt_int q
def zpp:OpR X (compareOp .LtE) (rI0 λi j=>.bl (decide (i<=j))):=opB0 λ_ _ _ _ _ _ _ q=>le_int q
def znu:OpR X (compareOp .Gt) (rI0 λi j=>.bl (decide (j<i))):=opB0 λ_ _ _ _ _ _ _ q=>gt_int q
def znv:OpR X (compareOp .GtE) (rI0 λi j=>.bl (decide (j<=i))):=opB0 λ_ _ _ _ _ _ _ q=>ge_int q
def zth:OpR X (compareOp .Is) (λx y H Q=>y=.non/\Q (.bl (decide (x=.non))) H):=by
  intro pins s U H x y v u Q I rx ry h;obtain ⟨rfl,q⟩:=h;cases ry
  refine is_none_gen (zaX I q ?_);cases x<;>first
    | (cases rx;rfl)
    | (obtain ⟨t,rfl⟩:=rx;rfl)
def zki:OpR X (compareOp .IsNot) (λx y H Q=>y=.non/\Q (.bl (!decide (x=.non))) H):=by
  intro pins s U H x y v u Q I rx ry h;obtain ⟨rfl,q⟩:=h;cases ry
  refine isnot_none_gen (zaX I q ?_);cases x<;>first
    | (cases rx;rfl)
    | (obtain ⟨t,rfl⟩:=rx;rfl)
def zaE (b:Expr){op:CmpOp}(h:op≠.In:=by decide)(h2:op≠.NotIn:=by decide):behindInMarks op b=false:=by
  have e1:(op==CmpOp.In)=false:=by cases op<;>first|rfl|exact absurd rfl h
  have e2:(op==CmpOp.NotIn)=false:=by cases op<;>first|rfl|exact absurd rfl h2
  cases b<;>simp[behindInMarks,e1,e2]
def zgJ {op:CmpOp}(ho:OpR X (compareOp op) r)(ha:PE X a ta)(hb:PE X b tb)(hm:behindInMarks op b=false):PE X (.Compare a [op] [b] pos) (tOp r ta tb):=by
  intro pins s U H Q I h;exact wpAny_Compare1 (binT ha hb I h λv u s2 x y H2 I2 rx ry q=>ho pins s2 U H2 x y v u Q I2 rx ry q) hm
inductive zqN (Q:Bool->Hp->Prop)(x:V)(H':Hp):Prop
  | c:∀ k,x=.bl k->Q k H'->zqN Q x H'
def zrd (t:TE):TT:=λU H Q=>t U H λx H'=>zqN Q x H'
def zat {op:CmpOp}(ho:OpR X (compareOp op) r)(ha:PE X a ta)(hb:PE X b tb)(hm:behindInMarks op b=false):PT X (.Compare a [op] [b] pos) (zrd (tOp r ta tb)):=by
  intro pins s U H Q I h;refine wpAny_isTrue_Compare1 (thn (ha pins s U H _ I h) λv s1 ⟨x,H1,I1,r1,q1⟩=>thn (hb pins s1 U H1 _ I1 q1) λu s2 ⟨y,H2,I2,r2,q2⟩=>
    thn (ho pins s2 U H2 x y v u _ I2 r1 r2 q2) λc s3 ⟨z,H3,I3,r3,k,e,q3⟩=>?_) hm
  subst e;cases r3
  exact wpAny_truthy_bool #[H3,I3,q3]
inductive zoP (r':R2)(tc:TE)(U:St)(Q:VK)(y:V)(z:V)(H3:Hp):Prop
  | c:∀ k,z=.bl k->(if k=true then tc U H3 λw' H4=>r' y w' H4 Q else Q (.bl false) H3)->zoP r' tc U Q y z H3
def zqt (r r':R2)(ta tb tc:TE):TE:=λU H Q=>ta U H λx H1=>tb U H1 λy H2=>r x y H2 λz H3=>zoP r' tc U Q y z H3
def zlh {op op':CmpOp}(ho:OpR X (compareOp op) r)(ho':OpR X (compareOp op') r')(ha:PE X a ta)(hb:PE X b tb)(hc:PE X c tc)
    (hm:lastMarks [op,op'] [b,c]=false:=by with_unfolding_all rfl):PE X (.Compare a [op,op'] [b,c] pos) (zqt r r' ta tb tc):=by
  intro pins s U H Q I h;refine Compare_chain (thn (ha pins s U H _ I h) λv s1 ⟨x,H1,I1,r1,q1⟩=>chain_link (thn (hb pins s1 U H1 _ I1 q1) λu s2 ⟨y,H2,I2,r2,q2⟩=>
    thn (ho pins s2 U H2 x y v u _ I2 r1 r2 q2) λd s3 ⟨z,H3,I3,r3,k,e,q3⟩=>?_)) hm
  subst e;cases r3
  refine wpAny_truthy_bool ?_;cases k with
  | false=>exact ite_ff #[.bl false,H3,I3,rfl,q3]
  | true=>exact ite_tt (chain_last (thn (hc pins s3 U H3 _ I3 q3) λw' s4 ⟨z',H4,I4,r4,q4⟩=>ho' pins s4 U H4 y z' u w' Q I4 r2 r4 q4))
def zpe {op op':CmpOp}(ho:OpR X (compareOp op) r)(ho':OpR X (compareOp op') r')(ha:PE X a ta)(hb:PE X b tb)(hc:PE X c tc)
    (hm:lastMarks [op,op'] [b,c]=false:=by with_unfolding_all rfl):PT X (.Compare a [op,op'] [b,c] pos) (zrd (zqt r r' ta tb tc)):=by
  intro pins s U H Q I h;refine isTrue_chain (thn (ha pins s U H _ I h) λv s1 ⟨x,H1,I1,r1,q1⟩=>test_link (thn (hb pins s1 U H1 _ I1 q1) λu s2 ⟨y,H2,I2,r2,q2⟩=>
    thn (ho pins s2 U H2 x y v u _ I2 r1 r2 q2) λd s3 ⟨z,H3,I3,r3,k,e,q3⟩=>?_)) hm
  subst e;cases r3
  refine wpAny_truthy_bool ?_;cases k with
  | false=>
    obtain ⟨k',e',q'⟩:=q3;cases e'
    exact ite_ff #[H3,I3,q']
  | true=>
    refine ite_tt (test_last (thn (hc pins s3 U H3 _ I3 q3) λw' s4 zq0=>?_));obtain ⟨z',H4,I4,r4,q4⟩:=zq0;refine thn (ho' pins s4 U H4 y z' u w' _ I4 r2 r4 q4) λd' s5 zq1=>?_;obtain ⟨z2,H5,I5,r5,k2,e2,q5⟩:=zq1;subst e2;cases r5
    exact wpAny_truthy_bool #[H5,I5,q5]
def zls:(sizeLine:Nat)<2^63:=by rw[sizeLine_eq];decide
def zfu {x:V}{us:List Value}(r:Vals [x] us):∃ u,us=[u]/\RelV x u:=by
  cases r with
  | cons r1 r2=>cases r2;exact #[_,rfl,r1]
def zhg {x y:V}{us:List Value}(r:Vals [x,y] us):∃ u w',us=[u,w']/\RelV x u/\RelV y w':=by
  cases r with
  | cons r1 r2=>
    cases r2 with
    | cons r3 r4=>cases r4;exact #[_,_,rfl,r1,r3]
def ziT:zcL X (.builtin "abs") (λxs H Q=>∃ i,xs=[.int i]/\Q (.int (if i<0 then -i else i)) H):=by
  intro pins s U H xs us Q I r h;obtain ⟨i,rfl,q⟩:=h;obtain ⟨u,rfl,t,rfl⟩:=zfu r;exact call_abs_int λu tk=>#[.int (if i<0 then -i else i),H,I.tok _,#[_,rfl],q]
def zg7 (hc:X.calm=true):zcL X (.builtin "max") (λxs H Q=>∃ i j,xs=[.int i,.int j]/\Q (.int (if j>i then j else i)) H):=by
  intro pins s U H xs us Q I r h;obtain ⟨i,j,rfl,q⟩:=h;obtain ⟨u,w',rfl,⟨t,rfl⟩,⟨t',rfl⟩⟩:=zhg r;refine max_two_ints (I.ok.hd hc) λh' tk k=>#[_,H,I.kept k,?_,q];by_cases hj:j>i
  · rw[if_pos hj,if_pos hj];exact #[_,rfl]
  · rw[if_neg hj,if_neg hj];exact #[_,rfl]
def zoF:zcL X (.type "int") (λxs H Q=>(∃ i,xs=[.int i]/\Q (.int i) H)\/∃ k,xs=[.bl k]/\Q (.int (if k then 1 else 0)) H):=by
  intro pins s U H xs us Q I r h;rcases h with ⟨i,rfl,q⟩|⟨k,rfl,q⟩
  · obtain ⟨u,rfl,t,rfl⟩:=zfu r
    exact call_int_int #[.int i,H,I,#[_,rfl],q]
  · obtain ⟨u,rfl,r1⟩:=zfu r
    cases r1
    exact call_int_bool #[.int (if k then 1 else 0),H,I.tok _,#[_,rfl],q]
end
end L2
namespace L2
open PySem PySem.Spec PyProof.Rows
structure ObjM (h:Heap)(x dx C:Addr)(mA:Str->Option Value):Prop where
  obj:h.get? x=some (PySem.W.instObj C dx)
  ns:h.Ns1 dx mA
  ne:dx≠x
def znU {h:Heap}{dx:Addr}{mA:Str->Option Value}(n:h.Ns1 dx mA):∃ od,h.get? dx=some od/\∀ name,PySem.W.lookIn name od=some (mA name):=by
  obtain ⟨o,es,ep,ho,hd,hk,_,hm⟩:=n;refine #[o,ho,λname=>?_];have e:=hm name;unfold nsFind findBy at e;rw[<-Array.find?_toList]at e;unfold PySem.W.lookIn;rw[hd];dsimp only;split
  · rename_i y q
    rw[q]at e;exact congrArg some e
  · rename_i q
    rw[q]at e;have a:es.toList.any (·.refKey)=false:=by
      rw[List.any_eq_false];intro y hy;obtain ⟨z,t,hkey⟩:=hk y (Array.mem_toList_iff.mp hy);simp[DictEntry.refKey,hkey]
    have a':¬ es.toList.any (·.refKey)=true:=by rw[a];exact yaC
    rw[if_neg a'];exact congrArg some e
def ObjM.look {x:Addr}(I:ObjM h x dx C mA):∃ od,PySem.W.InstAt h x (PySem.W.instObj C dx) C (some od)/\∀ name,PySem.W.lookIn name od=some (mA name):=
  let ⟨od,ho,hl⟩:=znU I.ns
  #[od,#[I.obj,rfl,rfl,ho],hl]
section
variable {prog:Program}{w:World}{A:Around}{E:Value->Shared->Prop}{s:Shared}{K:Frag}{x dx C f:Addr}{mA:Str->Option Value}{name:Str}{v:Value}
def zsg {expr:Bool}{Q:Value->Shared->Prop}(X:K.In s.heap)(I:ObjM s.heap x dx C mA)(hg:PySem.W.plainGet K C name=true)(hh:PySem.W.hasDictIn K C=true)
    (ha:findIn K (.ref C) name=some none) (hv:mA name=some v) (hv':PySem.W.handedIn v=true) (h:Q v { s with toks:=s.toks+1 }) :
    wpAny .(e) A (getAttr (.ref x) name expr) Q E s:=by
  obtain ⟨od,J,hl⟩:=I.look;exact PySem.W.get_value X J (PySem.W.plainGet_of hg).1 (PySem.W.findObj_own hh ha rfl (by rw[hl,hv])) hv' h
def zp1 {pl:Sem Bool}{Q:Value×List Value->Shared->Prop}(X:K.In s.heap)(I:ObjM s.heap x dx C mA)(hg:PySem.W.plainGet K C name=true)
    (hf:findIn K (.ref C) name=some (some (.ref f))) (ht:PySem.W.isFn K (.ref f)=true) (hv:mA name=none) (h:Q (.ref f,[.ref x]) s) :
    wpAny .(e) A (getMethod (.ref x) name pl) Q E s:=by
  obtain ⟨od,J,hl⟩:=I.look;exact PySem.W.method_fn X J (PySem.W.plainGet_of hg).1 (PySem.W.plainGet_of hg).2 hf (beq_iff_eq.mp ht) (by show (PySem.W.lookIn name od).map (·.isSome)=some false;rw[hl,hv];rfl) h
def zru {ns:List Str}{Q:Unit->Shared->Prop}(X:K.In s.heap)(I:ObjM s.heap x dx C mA)
    (hs:findIn K (.ref C) "__setattr__" = some (some (.builtin "object.__setattr__"))) (hp:PySem.W.plainOver K C=true) (ht:PySem.W.takerIn K C name=some none) (hh:PySem.W.hasDictIn K C=true)
    (hw:PySem.Within mA ns) (hsz:ns.length<=sizeLine)
    (h:∀ h',ObjM h' x dx C (λy=>if y=name then some v else mA y)->Heap.SameBut dx s.heap h'->Q () { s with heap:=h',toks:=s.toks+2 }) :
    wpAny .(e) A (setAttr (.ref x) name v) Q E s:=by
  obtain ⟨od,J,hl⟩:=I.look;refine PySem.W.set_plain X J hs (PySem.W.osa_open (s:={ s with toks:=s.toks+1 }) (r:=none) X J hp ht λb=>?_);obtain ⟨cd,hc,hd'⟩:=PySem.W.any_some hh;have hx:s.heap.get? x=some #[.ref C,some dx,.plain,(List.toArray [])]:=I.obj;refine wpAny_bind (wpAny_pure (wpAny_bind (wpAny_bind (wpAny_loadPart hx (wpAny_bind (PySem.W.Looks.here (s:={ s with toks:=s.toks+1 }) (PySem.W.looks_clsIn X hc) ?_))))));rw[hd'];refine wpAny_pure (a:=some dx) (wpAny_bind (wpAny_pure (wpAny_bind ?_)));refine wpAny_nsSet1 (s:={ s with toks:=s.toks+1 }) I.ns λh' hn2 hs2=>?_;obtain ⟨oD,esD,epD,hoD,hdD,hcD⟩:=hn2.count (PySem.Within.cons name v hw);refine wpAny_bind (wpAny_lookBehind hoD (by rw[hdD];exact pastItsLine_dict (yad hcD (by rw[yaQ];lia))) ?_);exact wpAny_pure (h _ #[(hs2.2 _ (Ne.symm I.ne)).trans I.obj,hn2,I.ne] hs2)
def zpN {R:Result->Shared->Prop}{vs:List Value}{kw:List (Str×Value)}(X:K.In s.heap)(hm:PySem.W.makesIn K C=true)
    (hi:findIn K (.ref C) "__init__" = some (some (.ref f))) (hf:PySem.W.typeIn K (.ref f)=some (.type "function"))
    (h:codeAny (model prog w) (A.under (.builtin "type.__call__" #[.ref C::vs,kw])) (.call (.ref f) #[.ref (s.heap.objs.size+1)::vs,kw]) (PySem.W.InitBack (s.heap.objs.size+1) R)
      { s with heap:=(s.heap.push PySem.W.emptyDict).push (PySem.W.instObj C s.heap.objs.size) }) :
    codeAny .(e) A (.call (.ref C) #[vs,kw]) R s:=by
  obtain ⟨hh,g,d,t,os⟩:=s;exact PySem.W.make_core (PySem.W.makes_of X hm) (PySem.W.looks_findIn X hi) (λself=>PySem.W.bind_fn X self hf) .(Q) h
end
def putF (f:Str)(v:V):List (Str×V)->List (Str×V)
  | []=>[(f,v)]
  | (g,x)::r=>if g=f then (g,v)::r else (g,x)::putF f v r
def zgQ (f g:Str)(v:V):∀ fs:List (Str×V),(putF f v fs).lookup g=if g=f then some v else fs.lookup g
  | []=>by
    show List.lookup g [(f,v)]=_;by_cases h:g=f
    · have hb:(g==f)=true:=beq_iff_eq.mpr h
      simp only[List.lookup,hb,if_pos h]
    · have hb:(g==f)=false:=beq_eq_false_iff_ne.mpr h
      simp only[List.lookup,hb,if_neg h]
  | (k,x)::r=>by
    have ih:=zgQ f g v r;rw[show putF f v ((k,x)::r)=(if k=f then (k,v)::r else (k,x)::putF f v r) from rfl]
    by_cases hk:k=f
    · rw[if_pos hk]
      by_cases h:g=k
      · have hb:(g==k)=true:=beq_iff_eq.mpr h
        simp only[List.lookup,hb,if_pos (h.trans hk)]
      · have hb:(g==k)=false:=beq_eq_false_iff_ne.mpr h
        simp only[List.lookup,hb,if_neg (λe:g=f=>h (e.trans hk.symm))]
    · rw[if_neg hk]
      by_cases h:g=k
      · have hb:(g==k)=true:=beq_iff_eq.mpr h
        simp only[List.lookup,hb,if_neg (λe:g=f=>hk (h.symm.trans e))]
      · have hb:(g==k)=false:=beq_eq_false_iff_ne.mpr h
        simp only[List.lookup,hb];exact ih
def zgT (f:Str)(v:V):∀ fs:List (Str×V),f∈(putF f v fs).map (·.1)/\∀ g,g∈fs.map (·.1)->g∈(putF f v fs).map (·.1)
  | []=>#[by simp[putF],λg h=>by simp at h]
  | (k,x)::r=>by
    obtain ⟨i1,i2⟩:=zgT f v r;rw[show putF f v ((k,x)::r)=(if k=f then (k,v)::r else (k,x)::putF f v r) from rfl]
    by_cases hk:k=f
    · rw[if_pos hk]
      subst hk;exact #[by simp,λg h=>by simpa using h]
    · rw[if_neg hk]
      refine #[?_,λg h=>?_]
      · rw[yav]
        exact yaz _ i1
      · rw[yav]at h ⊢
        rcases yaq.mp h with e|e
        · exact yaq.mpr (.inl e)
        · exact yaz _ (i2 g e)
def zgS (f:Str)(v:V):∀ fs:List (Str×V),(putF f v fs).length<=fs.length+1
  | []=>by simp[putF]
  | (k,x)::r=>by
    have ih:=zgS f v r;rw[show putF f v ((k,x)::r)=(if k=f then (k,v)::r else (k,x)::putF f v r) from rfl]
    by_cases hk:k=f
    · rw[if_pos hk,yaQ,yaQ];lia
    · rw[if_neg hk,yaQ,yaQ];lia
def RelO.some_of {v:V}{o:Option Value}(r:RelO (some v) o):∃ u,o=some u/\RelV v u:=by
  cases o with
  | none=>exact (show False from r).elim
  | some u=>exact #[u,rfl,r]
def RelO.none_of {o:Option Value}(r:RelO none o):o=none:=by
  cases o with
  | none=>rfl
  | some u=>exact (show False from r).elim
def zog {v:V}{u:Value}(r:RelV v u):PySem.W.handedIn u=true:=by
  cases v with
  | non=>cases (show u=Value.none from r);rfl
  | bl b=>cases (show u=Value.bool b from r);rfl
  | int i=>obtain ⟨t,e⟩:=(show ∃ t,u=Value.int i t from r);cases e;rfl
  | str x=>obtain ⟨t,e⟩:=(show ∃ t,u=Value.str x t from r);cases e;rfl
  | byt b=>obtain ⟨t,e⟩:=(show ∃ t,u=Value.bytes b t from r);cases e;rfl
  | flt b=>obtain ⟨t,e⟩:=(show ∃ t,u=Value.float b t from r);cases e;rfl
  | ref a=>cases (show u=Value.ref a from r);rfl
  | ty n=>cases (show u=Value.type n from r);rfl
section
variable {P:Program}{w:World}{H H':Hp}{h h':Heap}{a C dx:Addr}{fs fs':List (Str×V)}
def ziL (hok:HOk P w H h)(e:H a=some (.ins C dx fs)):∃ mA,ObjM h a dx C mA/\(∀ f,RelO (fs.lookup f) (mA f))/\PySem.Within mA (fs.map (·.1))/\fs.length<=1000/\H dx=some (.own a):=by
  obtain ⟨d,z,ne,ob,mA,n,r,q⟩:=(show zbl P w H h a (.ins C dx fs) from hok a _ e);exact #[mA,#[ob,n,ne],r,q,z,d]
end
structure Cls (K:Frag)(C:Addr):Prop where
  pg:PySem.W.plainGet K C Str.empty=true
  hd:PySem.W.hasDictIn K C=true
  po:PySem.W.plainOver K C=true
  sa:findIn K (.ref C) "__setattr__" = some (some (.builtin "object.__setattr__"))
def Cls.get {K:Frag}{C:Addr}(c:Cls K C)(f:Str):PySem.W.plainGet K C f=true:=c.pg
def zf5 (K:Frag)(C:Addr)(f:Str):Prop:=findIn K (.ref C) f=some none
def zf5.taker {K:Frag}(n:zf5 K C f):PySem.W.takerIn K C f=some none:=by
  unfold PySem.W.takerIn;rw[show findIn K (.ref C) f=some none from n];rfl
structure Meth (K:Frag)(C:Addr)(m:Str)(f:Addr):Prop where
  at_:findIn K (.ref C) m=some (some (.ref f))
  fn:PySem.W.isFn K (.ref f)=true
  kp:keepIn K (.ref f)=true
section
variable {X:Cx}{pins:List (Addr×Obj)}{U:St}{H:Hp}{s:Shared}{a C dx:Addr}{fs:List (Str×V)}{f:Str}{v:V}{A:Around}{E:Value->Shared->Prop}
def zmh {b:Bool}{Q:Value->Shared->Prop}(I:Inv X pins U H s)(e:H a=some (.ins C dx fs))(c:Cls X.K C)(n:zf5 X.K C f)(l:fs.lookup f=some v)
    (h:∀ u s',Inv X pins U H s'->RelV v u->Q u s'):wpAny .(d) A (getAttr (.ref a) f b) Q E s:=by
  obtain ⟨mA,O,r,_,_,_⟩:=ziL I.hok e;obtain ⟨u,hu,ru⟩:=RelO.some_of (v:=v) (o:=mA f) (by rw[<-l];exact r f);exact zsg I.kIn O (c.get f) c.hd n hu (zog ru) (h u _ (I.tok _) ru)
def zfI {pl:Sem Bool}{Q:Value×List Value->Shared->Prop}(I:Inv X pins U H s)(e:H a=some (.ins C dx fs))(c:Cls X.K C)(k:Meth X.K C m g)(l:fs.lookup m=none)
    (h:Q (.ref g,[.ref a]) s):wpAny .(d) A (getMethod (.ref a) m pl) Q E s:=by
  obtain ⟨mA,O,r,_,_,_⟩:=ziL I.hok e;have hn:mA m=none:=RelO.none_of (by rw[<-l];exact r m);exact zp1 I.kIn O (c.get m) k.at_ k.fn hn h
def zlT {y:V}{u:Value}{Q:Unit->Shared->Prop}(I:Inv X pins U H s)(e:H a=some (.ins C dx fs))(c:Cls X.K C)(n:zf5 X.K C f)(hl:fs.length<1000)(ry:RelV y u)
    (h:∀ s',Inv X pins U (upd H a (.ins C dx (putF f y fs))) s'->Q () s'):wpAny .(d) A (setAttr (.ref a) f u) Q E s:=by
  obtain ⟨mA,O,r,wi,_,ho⟩:=ziL I.hok e;have hz:(fs.map (·.1)).length<=sizeLine:=by rw[yab,sizeLine_eq];lia
  refine zru I.kIn O c.sa c.po n.taker c.hd wi hz λh' O' sb=>h _ ?_;have hd:∃ o,h'.get? dx=some o:=let ⟨o,_,_,e',_⟩:=O'.ns;#[o,e'];refine I.write (x:=a) (e:=dx) (by rw[e];exact True.intro) (.inr ho) (λb q hb z=>(sb.2 b hb).trans z) hd ?_;refine #[by rw[zag O.ne];exact ho,?_,O.ne,O'.obj,_,O'.ns,λg=>?_,λg hg=>?_]
  · have:=zgS f y fs;lia
  · show RelO ((putF f y fs).lookup g) (if g=f then some u else mA g)
    rw[zgQ];by_cases q:g=f
    · rw[if_pos q,if_pos q];exact ry
    · rw[if_neg q,if_neg q];exact r g
  · by_cases q:g=f
    · rw[q];exact (zgT f y fs).1
    · refine (zgT f y fs).2 g (wi g λz=>hg ?_)
      show (if g=f then some u else mA g)=none
      rw[if_neg q];exact z
def Inv.made (I:Inv X pins U H s):Inv X pins U (upd (upd H s.heap.objs.size (.own (s.heap.objs.size+1))) (s.heap.objs.size+1) (.ins C s.heap.objs.size []))
    { s with heap:=(s.heap.push PySem.W.emptyDict).push (PySem.W.instObj C s.heap.objs.size) }:=by
  have e1:(s.heap.push PySem.W.emptyDict).get? s.heap.objs.size=some PySem.W.emptyDict:=yaD s.heap rfl;have e2:((s.heap.push PySem.W.emptyDict).push (PySem.W.instObj C s.heap.objs.size)).get? (s.heap.objs.size+1)=some (PySem.W.instObj C s.heap.objs.size):=by
    have:=yaD (s.heap.push PySem.W.emptyDict) (o:=PySem.W.instObj C s.heap.objs.size) rfl;rwa[yb3]at this
  have e3:(s.heap.push PySem.W.emptyDict).Ns s.heap.objs.size (λ_=>none):=#[PySem.W.emptyDict,(List.toArray []),_,e1,rfl,(λe he=>absurd he .(h)),λ_=>rfl];have I1:=I.laid (a:=s.heap.objs.size) (o:=.own (s.heap.objs.size+1)) (h':=s.heap.push PySem.W.emptyDict) (t':=s.toks) (λb u q=>yam _ q) (yaa _) #[_,e1];refine I1.laid (a:=s.heap.objs.size+1) (o:=.ins C s.heap.objs.size []) (t':=s.toks) (λb u q=>yam _ q) (yaS (yb3 _ _)) ?_;have ne:s.heap.objs.size≠s.heap.objs.size+1:=yau (yck _);refine #[by rw[zag ne,zab],yaF _,ne,e2,λ_=>none,(Heap.Ns1.of_empty e3).at λo q=>yam _ q,λ_=>True.intro,λy hy=>absurd rfl hy]
def zsu {prog:Program}{w:World}{env:Env}{e:Expr}{f:Str}{pos:Pos}{s:Shared}{Q:Value->Shared->Prop}(hb:attributeBase e f env (eval e env)=eval e env)
    (h:wpAny .(e) A (eval e env) (λo s₁=>wpAny .(e) A (getAttr o f true) Q E s₁) E s):wpAny .(e) A (eval (.Attribute e f pos) env) Q E s:=
  Attribute_any_ h (by rw[arm_eval_Attribute,hb])
end
inductive zt7 (K:Frag)(f:Str)(Q:VK)(x:V)(H1:Hp):Prop
  | c:∀ a C dx fs v,x=.ref a->H1 a=some (.ins C dx fs)->Cls K C->zf5 K C f->fs.lookup f=some v->Q v H1->zt7 K f Q x H1
def tFld (K:Frag)(ta:TE)(f:Str):TE:=λU H Q=>ta U H λx H1=>zt7 K f Q x H1
inductive zt9 (K:Frag)(f:Str)(D:Ends)(U:St)(y:V)(x:V)(H2:Hp):Prop
  | c:∀ a C dx fs,x=.ref a->H2 a=some (.ins C dx fs)->Cls K C->zf5 K C f->fs.length<1000->D.nx U (upd H2 a (.ins C dx (putF f y fs)))->zt9 K f D U y x H2
def sFld (K:Frag)(ta tv:TE)(f:Str):TS:=λD U H=>tv U H λy H1=>ta U H1 λx H2=>zt9 K f D U y x H2
section
variable {X:Cx}{o e value:Expr}{f:Str}{pos pos' tpos:Pos}{ta tv:TE}
def zbT (he:PE X e ta)(hb:attributeBase e f X.env (eval e X.env)=eval e X.env):PE X (.Attribute e f pos) (tFld X.K ta f):=by
  intro pins s U H Q I h;refine zsu hb (thn (he pins s U H _ I h) λu s1 zq0=>?_);obtain ⟨x,H1,I1,rx,a,C,dx,fs,v,ex,ea,c,n,l,q⟩:=zq0;subst ex;obtain rfl:u=Value.ref a:=rx;exact zmh I1 ea c n l λu' s2 I2 ru=>#[v,H1,I2,ru,q]
def zhv (ha:PE X o ta)(hv:PE X value tv)(hs:swapsWith value (some (.Attribute o f pos')) pos.line X.env=pure false):PS X (.Assign [.Attribute o f pos'] value pos) (sFld X.K ta tv f):=by
  intro pins s U H D I h;refine plainObj_wpAny_Assign_Attribute (thn (hv pins s U H _ I h) λu s1 zq0=>?_) hs;obtain ⟨y,H1,I1,ry,q⟩:=zq0;refine thn (ha pins s1 U H1 _ I1 q) λov s2 zq1=>?_;obtain ⟨x,H2,I2,rx,a,C,dx,fs,ex,ea,c,n,l,q2⟩:=zq1;subst ex;obtain rfl:ov=Value.ref a:=rx;exact zlT I2 ea c n l ry λs3 I3=>#[U,_,I3,q2]
end
section
variable {X:Cx}{pins:List (Addr×Obj)}{U:St}{H:Hp}{s:Shared}{A:Around}{E:Value->Shared->Prop}{Q:Value->Shared->Prop}{c:Value}{b:Bool}
inductive TyOf (K:Frag)(H:Hp):V->Value->Prop where
  | non:TyOf K H .non (.type "NoneType")
  | bl (x:Bool):TyOf K H (.bl x) (.type "bool")
  | int (i:Int):TyOf K H (.int i) (.type "int")
  | str (x:Str):TyOf K H (.str x) (.type "str")
  | flt (x:UInt64):TyOf K H (.flt x) (.type "float")
  | lst {a:Addr} {xs:List V} (e:H a=some (.lst xs)):TyOf K H (.ref a) (.type "list")
  | frz {a:Addr} {o:Obj} {xs:List V} (e:H a=some (.frz o (.lst xs))):TyOf K H (.ref a) (.type "list")
  | tup {a:Addr} {xs:List V} (e:H a=some (.tup xs)):TyOf K H (.ref a) (.type "tuple")
  | dK {a:Addr} {kvs:List (Key×V)} (e:H a=some (.dK kvs)):TyOf K H (.ref a) (.type "dict")
  | dT {a:Addr} {kvs:List (List Key×V)} (e:H a=some (.dT kvs)):TyOf K H (.ref a) (.type "dict")
  | ins {a C dx:Addr} {fs:List (Str×V)} (e:H a=some (.ins C dx fs)) (cl:Cls K C) (ha:findIn K (.ref C) "__class__" = some (some (.builtin "object.__class__")))
      (hn:PySem.W.specialIn K .(P) "__get__" = some (some (.builtin "getset_descriptor.__get__"))) (htk:PySem.W.takesIn K .(P)=some true)
      (hm:mroIn K C (.type "object")=some true):TyOf K H (.ref a) (.ref C)
def zn5 {x:V}{u t:Value}(I:Inv X pins U H s)(rx:RelV x u)(ty:TyOf X.K H x t)(e:kitOne X.K t c=some b)(h:∀ tk,Q (.bool b) { s with toks:=tk }) :
    wpAny .(d) A (call (.builtin "isinstance") [u,c]) Q E s:=by
  cases ty with
  | non=>cases (show u=Value.none from rx);exact PySem.W.kia_one PySem.W.kitx_none I.kIn True.intro e nofun h
  | bl y=>cases (show u=Value.bool y from rx);exact PySem.W.kia_one PySem.W.kitx_bool I.kIn True.intro e nofun h
  | int i=>obtain ⟨t,q⟩:=(show ∃ t,u=Value.int i t from rx);cases q;exact PySem.W.kia_one PySem.W.kitx_int I.kIn True.intro e nofun h
  | str y=>obtain ⟨t,q⟩:=(show ∃ t,u=Value.str y t from rx);cases q;exact PySem.W.kia_one PySem.W.kitx_str I.kIn True.intro e nofun h
  | flt y=>obtain ⟨t,q⟩:=(show ∃ t,u=Value.float y t from rx);cases q;exact PySem.W.kia_one PySem.W.kitx_float I.kIn True.intro e nofun h
  | @lst a xs ea=>
    cases (show u=Value.ref a from rx)
    obtain ⟨_,_,n,_,h1⟩:=(show zbl X.prog X.w H s.heap a (.lst xs) from I.hok a _ ea);exact PySem.W.kia_one PySem.W.kitx_list I.kIn #[_,h1,rfl] e nofun h
  | @frz a ob xs ea=>
    cases (show u=Value.ref a from rx)
    obtain ⟨_,_,_,n,_,h1⟩:=(show zbl X.prog X.w H s.heap a (.frz ob (.lst xs)) from I.hok a _ ea);exact PySem.W.kia_one PySem.W.kitx_list I.kIn #[_,h1,rfl] e nofun h
  | @tup a xs ea=>
    cases (show u=Value.ref a from rx)
    obtain ⟨_,_,_,p⟩:=(show zbl X.prog X.w H s.heap a (.tup xs) from I.hok a _ ea);obtain ⟨o,h1,h2,_⟩:=p;exact PySem.W.kia_one PySem.W.kitx_tuple I.kIn #[o,h1,h2] e nofun h
  | @dK a kvs ea=>
    cases (show u=Value.ref a from rx)
    obtain ⟨_,_,vs,_,p⟩:=(show zbl X.prog X.w H s.heap a (.dK kvs) from I.hok a _ ea);obtain ⟨o,es,ep,h1,h2,_⟩:=p;exact PySem.W.kia_one PySem.W.kitx_dict I.kIn #[o,h1,h2.1] e nofun h
  | @dT a kvs ea=>
    cases (show u=Value.ref a from rx)
    obtain ⟨_,_,xs,_,o,es,ep,h1,h2,_⟩:=(show zbl X.prog X.w H s.heap a (.dT kvs) from I.hok a _ ea);exact PySem.W.kia_one PySem.W.kitx_dict I.kIn #[o,h1,h2.1] e nofun h
  | @ins a C dx fs ea cl ha hn htk hm=>
    cases (show u=Value.ref a from rx)
    obtain ⟨mA,O,_⟩:=ziL I.hok ea;obtain ⟨od,J,_⟩:=O.look;exact PySem.W.kia_one (PySem.W.kitx_own (cl.get _) cl.hd ha hn htk hm) I.kIn J e nofun h
end
end L2
namespace L2
open PySem PySem.Spec PyProof.Rows
structure Room (k:Nat)(A:Around):Prop where
  hd:A.handled=none
  dp:A.depth+3*k+5<recursionLimit
  un:A.units+16*k+200<cLine
  gd:A.guards=some []
def Room.mono {j k:Nat}{A:Around}(r:Room k A)(h:j<=k):Room j A:=#[r.hd,by have:=r.dp;lia,by have:=r.un;lia,r.gd]
def Room.deeper {k:Nat}{A:Around}(r:Room (k+1) A)(env:Env):Room k (A.deeper env):=
  #[r.hd,by have:=r.dp;show A.depth+1+3*k+5<_;lia,by have:=r.un;show A.units+3+16*k+200<_;lia,r.gd]
def zmg {A:Around}{C:Addr}{us:List Value}{kw:List (Str×Value)}:(A.under (.builtin "type.__call__" #[.ref C::us,kw])).depth=A.depth+1:=by
  first|rfl|simp[Around.under,Code.weight,Code.isCreation,Code.isGuard,Code.isCaller,Code.frames,Code.isFrame,guardIds]
def zme {A:Around}{C:Addr}{us:List Value}{kw:List (Str×Value)}:(A.under (.builtin "type.__call__" #[.ref C::us,kw])).units=A.units+1:=by
  first|rfl|simp[Around.under,Code.cUnits,Code.frames,Code.isFrame]
def Room.make {k:Nat}{A:Around}(r:Room (k+1) A)(C:Addr)(us:List Value)(kw:List (Str×Value)):Room k (A.under (.builtin "type.__call__" #[.ref C::us,kw])):=
  #[r.hd,by have:=r.dp;rw[zmg];lia,by have:=r.un;rw[zme];lia,by have h:=r.gd;simp[Around.under,Code.guards,Code.isGuard,guardIds,pushGuards,h]]
def Room.depth {k:Nat}{A:Around}(r:Room k A):A.depth<recursionLimit:=by have:=r.dp;lia
def Room.units {k:Nat}{A:Around}(r:Room k A):A.units+64<cLine:=by have:=r.un;lia
def tNil:TA:=λ_ H Q=>Q [] H
def zre (ta:TE)(tr:TA):TA:=λU H Q=>ta U H λx H1=>tr U H1 λxs H2=>Q (x::xs) H2
section
variable {X:Cx}{e:Expr}{es:List Expr}{te:TE}{t:TA}{pos:Pos}
def zac:PA X [] tNil:=λ_ _ _ _ H Q I h=>Calls.spliced_nil #[[],H,I,.nil,h]
def zaa (ha:PE X e te)(hr:PA X es t)(hs:starEach (e::es) X.env= .(B)::starEach es X.env:=by rfl):PA X (e::es) (zre te t):=by
  intro pos pins s U H Q I h;rw[hs];show wpAny _ _ (spliced (.(B)::backTo pos (starEach es X.env))) _ _ s;refine Calls.spliced_cons (thn (ha pins s U H _ I h) λu s1 zq0=>?_);obtain ⟨x,H1,I1,r1,q1⟩:=zq0;exact thn (hr pos pins s1 U H1 _ I1 q1) λus s2 zq0=>(by obtain ⟨xs,H2,I2,r2,q2⟩:=zq0;exact #[x::xs,H2,I2,.cons r1 r2,q2])
inductive zt5 (Q:VK)(xs:List V)(H1:Hp):Prop
  | c:xs.length<=sizeLine->(∀ p,H1 p=none->Q (.ref p) (upd H1 p (.tup xs)))->zt5 Q xs H1
def tTup (t:TA):TE:=λU H Q=>t U H λxs H1=>zt5 Q xs H1
inductive zt6 (Q:VK)(xs:List V)(H1:Hp):Prop
  | c:xs.length<=sizeLine->(∀ p,H1 p=none->Q (.ref p) (upd H1 p (.lst xs)))->zt6 Q xs H1
def tLst (t:TA):TE:=λU H Q=>t U H λxs H1=>zt6 Q xs H1
def zaT {x1}(h:PA X es t):PE X (.Tuple es x1 pos) (tTup t):=by
  intro pins s U H Q I hq;refine wpAny_Tuple_spliced (thn (h pos pins s U H _ I hq) λus s1 zq0=>?_);obtain ⟨xs,H1,I1,r,z,q⟩:=zq0;refine #[by rw[<-r.length];exact z,?_];have hf:H1 s1.heap.objs.size=none:=I1.hok.fresh (yaa _);refine #[.ref s1.heap.objs.size,upd H1 s1.heap.objs.size (.tup xs),I1.laid (t':=s1.toks) (λb u e=>yam _ e) (yaa _) ?_,rfl,q _ hf];exact #[z,us,r,#[_,yaD _ rfl,rfl,_,rfl]]
def zbS (h:PA X es t):PE X (.List es pos) (tLst t):=by
  intro pins s U H Q I hq;refine wpAny_List_spliced (thn (h pos pins s U H _ I hq) λus s1 zq0=>?_);obtain ⟨xs,H1,I1,r,z,q⟩:=zq0;refine #[by rw[<-r.length];exact z,?_];have hf:H1 s1.heap.objs.size=none:=I1.hok.fresh (yaa _);refine #[.ref s1.heap.objs.size,upd H1 s1.heap.objs.size (.lst xs),I1.laid (t':=s1.toks) (λb u e=>yam _ e) (yaa _) ?_,rfl,q _ hf];exact #[z,us,0,r,yaD _ rfl]
end
abbrev Sp:=List V->Hp->VK->XK->Prop
abbrev CXT:=List Env->Hp->Shared->XK->Value->Shared->Prop
structure Env0 (P:Program)(w:World)(K:Frag)(mg:Str->Option Value)(base:Heap)(A:Around)(outer:List Env)(s:Shared)(H:Hp):Prop where
  frames:A.frames=some outer
  mod:Mod K mg base
  bs:∀ b o,base.get? b=some o->s.heap.get? b=some o/\H b=none
  bsz:base.objs.size<=s.heap.objs.size
  funs:s.heap.FunFrames base outer
  frf:∀ b∈frs outer,H b=none
  hok:HOk P w H s.heap
  bare:AllBare s.gens
def CE (outer:List Env)(P:Program)(w:World)(H:Hp)(s:Shared)(Q:VK)(u:Value)(s':Shared):Prop:=
  ∃ v H',s'.os=s.os/\AllBare s'.gens/\Un (frs outer) [] H H' s.heap s'.heap/\HOk P w H' s'.heap/\RelV v u/\Q v H'
def CR (CX:CXT)(outer:List Env)(P:Program)(w:World)(H:Hp)(s:Shared)(Q:VK)(E:XK)(r:Result)(s':Shared):Prop:=
  match r with
  | .ok (.ret u)=>CE outer P w H s Q u s'
  | .ok _=>False
  | .error e=>CX outer H s E e s'
structure FnOk (P:Program)(w:World)(K:Frag)(mg:Str->Option Value)(base:Heap)(CX:CXT)(k:Nat)(f:Addr)(fd:FuncData)(ps:List Str)(sp:Sp):Prop where
  len:∀ vs H Q E,sp vs H Q E->vs.length=ps.length
  run:∀(A:Around) (outer:List Env) (s:Shared) (H:Hp) (args:Args) (us:List Value) (vs:List V) (Q:VK) (E:XK),Room k A->Env0 P w K mg base A outer s H->BindsTo s fd args (ps.zip us)->Vals vs us->sp vs H Q E->
    codeAny (model P w) A (.call (.ref f) args) (CR CX outer P w H s Q E) s
def Env0.make {w:World}{K:Frag}{mg:Str->Option Value}{base:Heap}{A:Around}{outer:List Env}(e:Env0 P w K mg base A outer s H)(C:Addr)(us:List Value)(kw:List (Str×Value)) :
    Env0 P w K mg base (A.under (.builtin "type.__call__" #[.ref C::us,kw])) outer s H:=#[by first|exact e.frames|(simpa [Around.under,Code.envs,Code.isFrame,pushEnvs] using e.frames),e.mod,e.bs,e.bsz,e.funs,e.frf,e.hok,e.bare]
section
variable {X:Cx}{pins:List (Addr×Obj)}{U:St}{H:Hp}{s s':Shared}
def Inv.env0 (I:Inv X pins U H s):Env0 X.prog X.w X.K X.mg X.base X.A X.stack s H:=
  #[I.ok.frames,I.ok.mod,I.bs,yad I.ok.bsz I.sz,I.stack,I.stkFree,I.hok,I.bare]
def Inv.after (I:Inv X pins U H s)(h:CE X.stack X.prog X.w H s Q u s'):EP X pins U Q u s':=by
  obtain ⟨v,H',os,bare,un,hok,r,q⟩:=h;obtain ⟨hh,g,d,t,os'⟩:=s';obtain rfl:os'=s.os:=os;exact #[v,H',I.call (h':=hh) (g':=g) (d':=d) (t':=t) (ch:=[]) un hok bare (λb z=>absurd z .(h)),r,q]
end
def zrf (sp:Sp)(dvs:List V)(E:XK)(t:TA):TE:=λU H Q=>t U H λvs H1=>sp (vs++dvs) H1 Q E
inductive zqQ (C:Addr)(m:Str)(sp:Sp)(dvs:List V)(E:XK)(t:TA)(U:St)(Q:VK)(x:V)(H1:Hp):Prop
  | c:∀ a dx fs,x=.ref a->H1 a=some (.ins C dx fs)->fs.lookup m=none->(t U H1 λvs H2=>sp (x::(vs++dvs)) H2 Q E)->zqQ C m sp dvs E t U Q x H1
def zoZ (C:Addr)(m:Str)(sp:Sp)(dvs:List V)(E:XK)(ta:TE)(t:TA):TE:=λU H Q=>ta U H λx H1=>zqQ C m sp dvs E t U Q x H1
def zsP (C:Addr)(sp:Sp)(dvs:List V)(E:XK)(t:TA):TE:=λU H Q=>t U H λvs H1=>∀ x dx,H1 x=none->H1 dx=none->dx≠x->
  sp (.ref x::(vs++dvs)) (upd (upd H1 dx (.own x)) x (.ins C dx [])) (λv H2=>v=.non/\Q (.ref x) H2) E
def zdx (K:Frag)(fd:FuncData)(ps:List Str)(ds:List Value):Prop:=
  ∀(s:Shared) (us:List Value),K.In s.heap->(us++ds).length=ps.length->BindsTo s fd #[us,[]] (ps.zip (us++ds))
def zdx.all {K:Frag}{fd:FuncData}{ps:List Str}(h:∀ us:List Value,us.length=ps.length->bindArgs fd #[us,[]]=pure (ps.zip us)):zdx K fd ps []:=λs us _ hl=>by
  rw[yaw]at hl ⊢;exact .of_eq (h us hl)
def zft (CX:CXT)(X:Cx)(E:XK):Prop:=∀(pins:List (Addr×Obj)) (U:St) (H:Hp) (s:Shared) (e:Value) (s':Shared),Inv X pins U H s->CX X.stack H s E e s'->X.xe e s'
section
variable {X:Cx}{CX:CXT}{k:Nat}{f C:Addr}{fd:FuncData}{ps:List Str}{sp:Sp}{dvs:List V}{ds:List Value}{E:XK}{x m:Str}{p pos apos:Pos}{e o:Expr}{es:List Expr}{ta:TE}{t:TA}
def zk7 {Q:VK}{us:List Value}{vs:List V}(F:FnOk X.prog X.w X.K X.mg X.base CX k f fd ps sp)(hr:Room k X.A)(hb:zdx X.K fd ps ds)(hd:Vals dvs ds)(hx:zft CX X E)
    (I:Inv X pins U H s) (r:Vals vs us) (h:sp (vs++dvs) H Q E):wpAny .(d) X.A (call (.ref f) us) .(N) X.xe s:=by
  have r2:Vals (vs++dvs) (us++ds):=r.append hd;have hl:(us++ds).length=ps.length:=by rw[<-r2.length];exact F.len _ _ _ _ h
  refine wpAny_call (codeAny_mono (F.run X.A X.stack s H #[us,[]] (us++ds) (vs++dvs) Q E hr I.env0 (hb s us I.kIn hl) r2 h) λr s' hq=>?_);cases r with
  | error e=>exact hx pins U H s e s' I hq
  | ok fl=>
    cases fl with
    | ret u=>exact I.after hq
    | next=>exact False.elim hq
    | brk=>exact False.elim hq
    | cont=>exact False.elim hq
def zrG (F:FnOk X.prog X.w X.K X.mg X.base CX k f fd ps sp)(hr:Room k X.A)(hg:Gl X x)(hm:X.mg x=some (.ref f))(hk:keepIn X.K (.ref f)=true)(hb:zdx X.K fd ps ds)(hd:Vals dvs ds)(hx:zft CX X E)
    (ha:PA X (e::es) t) (hdb: .(r)=false:=by decide) (he:starEach (e::es) X.env= .(B)::starEach es X.env:=by rfl) (hpl: .(t).any (·.1)=false:=by rfl) :
    PE X (.Call (.Name x p) (e::es) [] pos) (zrf sp dvs E t):=by
  intro pins s U H Q I h;refine wpAny_Call_Name_kw (zeE I hg hm ?_ hdb);refine PySem.W.callWith_K (h₀:=X.base) I.ok.mod.kin hk (thn .(S) λus s1 zq0=>?_) he hpl;obtain ⟨vs,H1,I1,r,q⟩:=zq0;refine #[I1.kIn,?_];exact zk7 F hr hb hd hx I1 r q
def zrD {pl:Sem Bool}(he:PE X o ta)(c:Cls X.K C)(hm:Meth X.K C m f)(F:FnOk X.prog X.w X.K X.mg X.base CX k f fd ps sp)(hr:Room k X.A)(hb:zdx X.K fd ps ds)(hd:Vals dvs ds)(hx:zft CX X E)(ha:PA X (e::es) t)
    (hst:starEach (e::es) X.env= .(B)::starEach es X.env:=by rfl) (hpl: .(t).any (·.1)=false:=by rfl)
    (ht:eval (.Call (.Attribute o m apos) (e::es) [] pos) X.env=(do
      let ov <-eval o X.env
      standAt apos.atName
      let (f,first) <-holding [ov] (getMethod ov m pl)
      callWith pos f first (backTo pos (starEach (e::es) X.env)) (backToKw pos (keywordEach [] X.env))):=by rfl) :
    PE X (.Call (.Attribute o m apos) (e::es) [] pos) (zoZ C m sp dvs E ta t):=by
  intro pins s U H Q I h;refine PySem.W.methodCall_KW (pl:=pl) (thn (he pins s U H _ I h) λu s1 zq0=>?_) ht;obtain ⟨x,H1,I1,rx,a,dx,fs,ex,ea,l,q⟩:=zq0;subst ex;obtain rfl:u=Value.ref a:=rx;refine zfI I1 ea c hm l ?_;refine PySem.W.callWith_K (first:=[.ref a]) (h₀:=X.base) I.ok.mod.kin hm.kp (thn (ha pos pins s1 U H1 _ I1 q) λus s2 zq0=>?_) hst hpl
  obtain ⟨vs,H2,I2,r,q2⟩:=zq0;refine #[I2.kIn,?_];exact zk7 (us:=.ref a::us) (vs:=.ref a::vs) F hr hb hd hx I2 (.cons rfl r) q2
def zph {pl:Sem Bool}(he:PE X o ta)(c:Cls X.K C)(hm:Meth X.K C m f)(F:FnOk X.prog X.w X.K X.mg X.base CX k f fd ps sp)(hr:Room k X.A)(hb:zdx X.K fd ps ds)(hd:Vals dvs ds)(hx:zft CX X E)
    (ht:eval (.Call (.Attribute o m apos) [] [] pos) X.env=(do
      let ov <-eval o X.env
      standAt apos.atName
      let (f,first) <-holding [ov] (getMethod ov m pl)
      callWith pos f first (backTo pos (starEach [] X.env)) (backToKw pos (keywordEach [] X.env))):=by rfl) :
    PE X (.Call (.Attribute o m apos) [] [] pos) (zoZ C m sp dvs E ta tNil):=by
  intro pins s U H Q I h;refine PySem.W.methodCall_KW (pl:=pl) (thn (he pins s U H _ I h) λu s1 zq0=>?_) ht;obtain ⟨x,H1,I1,rx,a,dx,fs,ex,ea,l,q⟩:=zq0;subst ex;obtain rfl:u=Value.ref a:=rx;refine zfI I1 ea c hm l ?_;exact PySem.W.callWith_K0 (first:=[.ref a]) I1.kIn hm.kp (zk7 (us:=[.ref a]) (vs:=[.ref a]) F hr hb hd hx I1 (.cons rfl .nil) q)
structure Mk (K:Frag)(C f:Addr):Prop where
  makes:PySem.W.makesIn K C=true
  init:findIn K (.ref C) "__init__" = some (some (.ref f))
  fn:PySem.W.isFn K (.ref f)=true
  kp:keepIn K (.ref C)=true
def zo9 {Q:VK}{us:List Value}{vs:List V}(M:Mk X.K C f)(F:FnOk X.prog X.w X.K X.mg X.base CX k f fd ps sp)(hr:Room (k+1) X.A)(hb:zdx X.K fd ps ds)(hd:Vals dvs ds)
    (hx:zft CX X E) (I:Inv X pins U H s) (r:Vals vs us)
    (h:∀ x dx,H x=none->H dx=none->dx≠x->sp (.ref x::(vs++dvs)) (upd (upd H dx (.own x)) x (.ins C dx [])) (λv H2=>v=.non/\Q (.ref x) H2) E) :
    wpAny .(d) X.A (call (.ref C) us) .(N) X.xe s:=by
  have hq:=h (s.heap.objs.size+1) s.heap.objs.size (I.hok.fresh (yaT _)) (I.hok.fresh (yaa _)) (yau (yck _));have I2:=Inv.made (C:=C) I;have r2:Vals (V.ref (s.heap.objs.size+1)::(vs++dvs)) (Value.ref (s.heap.objs.size+1)::(us++ds)):=.cons rfl (r.append hd);have hl:(Value.ref (s.heap.objs.size+1)::us++ds).length=ps.length:=by
    have e:=r2.length;rw[F.len _ _ _ _ hq]at e;exact e.symm
  refine wpAny_call (zpN (f:=f) I.kIn M.makes M.init (beq_iff_eq.mp M.fn) (codeAny_mono (F.run _ X.stack _ _ #[Value.ref (s.heap.objs.size+1)::us,[]] (Value.ref (s.heap.objs.size+1)::(us++ds)) _ _ E (hr.make C us [])
    (I2.env0.make C us []) (hb _ (Value.ref (s.heap.objs.size+1)::us) I2.kIn hl) r2 hq) λr s' hq'=>?_))
  cases r with
  | error e=>exact hx pins U _ _ e s' I2 hq'
  | ok fl=>
    cases fl with
    | ret u=>
      obtain ⟨v,H',I3,rv,ev,q3⟩:=I2.after hq';subst ev;exact #[rv,#[V.ref (s.heap.objs.size+1),H',I3,rfl,q3]]
    | next=>exact False.elim hq'
    | brk=>exact False.elim hq'
    | cont=>exact False.elim hq'
def zrE (M:Mk X.K C f)(F:FnOk X.prog X.w X.K X.mg X.base CX k f fd ps sp)(hr:Room (k+1) X.A)(hg:Gl X x)(hm:X.mg x=some (.ref C))(hb:zdx X.K fd ps ds)(hd:Vals dvs ds)(hx:zft CX X E)
    (ha:PA X (e::es) t) (hdb: .(r)=false:=by decide) (he:starEach (e::es) X.env= .(B)::starEach es X.env:=by rfl) (hpl: .(t).any (·.1)=false:=by rfl) :
    PE X (.Call (.Name x p) (e::es) [] pos) (zsP C sp dvs E t):=by
  intro pins s U H Q I h;refine wpAny_Call_Name_kw (zeE I hg hm ?_ hdb);refine PySem.W.callWith_K (h₀:=X.base) I.ok.mod.kin M.kp (thn .(S) λus s1 zq0=>?_) he hpl;obtain ⟨vs,H1,I1,r,q⟩:=zq0;refine #[I1.kIn,?_];exact zo9 M F hr hb hd hx I1 r q
end
structure zar (N P:List Str)(sc:Scope):Prop where
  kind:sc.kind=.function
  co:sc.isCoroutine=false
  gen:sc.isGenerator=false
  nd:N.Nodup
  pre:N.take P.length=P
  par:∀ x∈P,sc.names.lookup x=some .local\/sc.names.lookup x=some .cell
  nofree:∀ y∈sc.names,y.2≠.free
def zjO {kindOf:Str->Option NameKind}{x:Str}:∀{binds:List (Str×Value)} {m:Str->Option Value},(∀ v,(x,v)∉binds)->bindL kindOf binds m x=m x
  | [],_,_=>rfl
  | (n,v)::r,m,h=>by
    unfold bindL;rw[zjO λw hw=>h w (yaz _ hw)];split
    · have:x≠n:=by rintro rfl;exact h v yaB
      simp[this]
    · rfl
def zjQ {kindOf:Str->Option NameKind}{x:Str}:∀{binds:List (Str×Value)} {m:Str->Option Value},(∀ v,(x,v)∉binds)->bindC kindOf binds m x=m x
  | [],_,_=>rfl
  | (n,v)::r,m,h=>by
    unfold bindC;rw[zjQ λw hw=>h w (yaz _ hw)];split
    · rfl
    · have:x≠n:=by rintro rfl;exact h v yaB
      simp[this]
def zjP {kindOf:Str->Option NameKind}{x:Str}{v:Value}:∀{P:List Str} {vs:List Value} {i:Nat} {m:Str->Option Value},P.Nodup->P[i]?=some x->vs[i]?=some v->kindOf x=some .local->
    bindL kindOf (P.zip vs) m x=some v
  | [],_,_,_,_,h,_,_=>by simp at h
  | _::_,[],_,_,_,_,h,_=>by simp at h
  | p::P,w::vs,0,m,nd,h1,h2,hk=>by
    simp at h1 h2;subst h1;subst h2;show bindL kindOf ((p,w)::P.zip vs) m p=_;unfold bindL;rw[zjO λv hv=>(ya4.mp nd).1 (ycl hv).1,if_pos hk];simp
  | p::P,w::vs,i+1,m,nd,h1,h2,hk=>by
    show bindL kindOf ((p,w)::P.zip vs) m x=_;unfold bindL;exact zjP (i:=i) (ya4.mp nd).2 (by simpa using h1) (by simpa using h2) hk
def zjR {kindOf:Str->Option NameKind}{x:Str}{v:Value}:∀{P:List Str} {vs:List Value} {i:Nat} {m:Str->Option Value},P.Nodup->P[i]?=some x->vs[i]?=some v->kindOf x≠some .local->
    bindC kindOf (P.zip vs) m x=some v
  | [],_,_,_,_,h,_,_=>by simp at h
  | _::_,[],_,_,_,_,h,_=>by simp at h
  | p::P,w::vs,0,m,nd,h1,h2,hk=>by
    simp at h1 h2;subst h1;subst h2;show bindC kindOf ((p,w)::P.zip vs) m p=_;unfold bindC;rw[zjQ λv hv=>(ya4.mp nd).1 (ycl hv).1,if_neg hk];simp
  | p::P,w::vs,i+1,m,nd,h1,h2,hk=>by
    show bindC kindOf ((p,w)::P.zip vs) m x=_;unfold bindC;exact zjR (i:=i) (ya4.mp nd).2 (by simpa using h1) (by simpa using h2) hk
def zdb (N:List Str)(vs:List V):St:=vs.map some++List.replicate (N.length-vs.length) none
def cxOf (CX:CXT)(P:Program)(w:World)(K:Frag)(mg:Str->Option Value)(base:Heap)(N:List Str)(qual:Str)(scope:Scope)(f:Addr)(cd:Value)(A:Around)(outer:List Env)(s:Shared)(H:Hp)(E:XK):Cx where
  prog:=P
  w:=w
  K:=K
  mg:=mg
  base:=base
  A:=A.deeper (envOfC qual scope s.heap.objs.size f cd)
  N:=N
  s₀:=s
  H₀:=H
  env:=envOfC qual scope s.heap.objs.size f cd
  outer:=outer
  stack:=envOfC qual scope s.heap.objs.size f cd::outer
  ex:=[]
  calm:=true
  fn:=λ_=>true
  pn:=[]
  xe:=λe s'=>wpAny (model P w) (A.deeper (envOfC qual scope s.heap.objs.size f cd)) (leaving (envOfC qual scope s.heap.objs.size f cd) e) (λ_ s''=>CX outer H s E e s'') (λe' s''=>CX outer H s E e' s'') s'
def zlH {sc:Scope}{n:Nat}{x:Str}(h:sc.names.lookup x=some .cell):∃ c,(cellsFrom n sc.names []).lookup x=some c:=by
  have q:=PySem.W.cellsFrom_some sc.names n [] (.inl h);exact ycG.mp q
def zn6 {K:Frag}{qual:Str}{f:Addr}{cd:Value}{A:Around}{s1:Shared}{us:List Value}{vs:List V}
    (S:zar N ps scope) (hd:A.handled=none) (e0:Env0 P w K mg base A outer s H) (hl:vs.length=ps.length) (r:Vals vs us)
    (x:InCallC s s.heap.objs.size (bindL (envOfC qual scope s.heap.objs.size f cd).kindOf (ps.zip us) λ_=>none) (cellsFrom (s.heap.objs.size+1) scope.names []) (bindC (envOfC qual scope s.heap.objs.size f cd).kindOf (ps.zip us) λ_=>none) s1) :
    Inv (cxOf CX P w K mg base N qual scope f cd A outer s H E) [] (zdb N vs) H s1:=by
  have hpl:ps.length<=N.length:=by have:=congrArg List.length S.pre;rw[yar]at this;lia
  obtain ⟨h1,tk,rfl,hk⟩:=x.done;have noA:∀ b:Addr,b∉(cxOf CX P w K mg base N qual scope f cd A outer s H E).ex:=λb z=>absurd (show b∈([]:List Addr) from z) (by simp);refine #[#[e0.mod,S.kind,rfl,rfl,yaa _,λy z c h1 h2=>?_,λy hy=>?_,λy c _ h=>?_,λ_=>hd,Around.frames_deeper e0.frames,.inr #[rfl,rfl],λb z=>absurd z (noA b),e0.bs,e0.bsz,λb _ _=>noA b,λb z=>absurd z (noA b),e0.funs,e0.frf],
    rfl,e0.bare,Un.kept hk,#[_,x.toInCall.ns,λi y v h1 h2 h3=>?_],λy c h=>#[_,x.cell y c h],e0.hok.fresh (yaa _),λy c h=>?_,λp hp=>absurd (show p∈([]:List (Addr×Obj)) from hp) (by simp),e0.hok.kept hk,?_]
  · exact name_of_addr x.apart (PySem.mem_of_lookup h1) (PySem.mem_of_lookup h2)
  · have hy:scope.names.lookup y=some .cell\/scope.names.lookup y=some .free:=hy
    rcases hy with hy|hy
    · exact zlH hy
    · exact absurd rfl (S.nofree _ (PySem.mem_of_lookup hy))
  · exact yaj (x.above y c (PySem.mem_of_lookup h))
  · have hi:i<vs.length:=by
      unfold zdb at h2;by_cases hi:i<vs.length
      · exact hi
      · rw[ybt (by simpa using hi)]at h2
        rw[List.getElem?_replicate]at h2;split at h2<;>cases h2
    have ha:vs[i]?=some v:=by
      unfold zdb at h2;rw[ybu (by simpa using hi),yax]at h2;cases e:vs[i]? with
      | none=>rw[e]at h2;cases h2
      | some a=>rw[e]at h2;cases h2;rfl
    obtain ⟨u,hu,rv⟩:=r.get ha;have hp:ps[i]?=some y:=by
      rw[<-S.pre,List.getElem?_take_of_lt .(a)];exact h1
    have ndP:ps.Nodup:=by rw[<-S.pre];exact S.nd.sublist (List.take_sublist _ _)
    refine #[u,rv,?_];rcases S.par y (yaM hp) with k|k
    · exact .inl #[k,zjP ndP hp hu k]
    · obtain ⟨c,e⟩:=zlH (n:=s.heap.objs.size+1) k
      refine .inr #[.inl k,c,e,?_];have q:=x.cell y c e;rw[zjR ndP hp hu (by show scope.names.lookup y≠_;rw[k];decide)]at q;exact q
  · exact e0.hok.fresh (yaj (x.above y c (PySem.mem_of_lookup h)))
  · unfold zdb
    show _=N.length;rw[yan,yab,ybP];lia
def zp5 {K:Frag}{k:Nat}{f:Addr}{name qual:Str}{params:Arguments}{body:List Stmt}{scope:Scope}{dV kV doc pm cdv ct oc:Value}{an od:Option Addr}
    {osl:Array (Option Value)}  {sp:Sp} (lk:K.lookup f=some #[oc,od,.func (fnOf name qual params body scope dV kV doc pm an cdv ct),osl]) (hcd:codeIn K cdv qual=true) (S:zar N ps scope)
    (len:∀ vs H Q E,sp vs H Q E->vs.length=ps.length)
    (hbody:∀(A:Around) (outer:List Env) (s:Shared) (H:Hp) (vs:List V) (Q:VK) (E:XK),Room k (A.deeper (envOfC qual scope s.heap.objs.size f cdv))->sp vs H Q E->
      ∃ t,PSs (cxOf CX P w K mg base N qual scope f cdv A outer s H E) body t/\t { nx:=λ_ H'=>Q .non H',rt:=Q } (zdb N vs) H) :
    FnOk P w K mg base CX (k+1) f (fnOf name qual params body scope dV kV doc pm an cdv ct) ps sp:=by
  refine #[len,λA outer s H args us vs Q E hr e0 hb r hsp=>?_];have hl:=len _ _ _ _ hsp;have KX:K.In s.heap:=e0.mod.kin.keeps λb o e=>(e0.bs b o e).1;have lim:s.heap.NoLimit:=e0.mod.nolimit.keeps λb o e=>(e0.bs b o e).1;have hkind:∀ y∈ps.zip us,scope.names.lookup y.1=some .local\/(scope.names.lookup y.1=some .cell/\((cellsFrom (s.heap.objs.size+1) scope.names []).lookup y.1).isSome=true):=λ⟨n,v⟩ hy=>by
    rcases S.par n (ycl hy).1 with q|q
    · exact .inl q
    · exact .inr #[q,PySem.W.cellsFrom_some _ _ _ (.inl q)]
  refine codeAny_call_function hr.depth (KX _ _ lk) rfl S.co S.gen rfl (PySem.W.codeRec_of KX hcd) (hb _ _ _ _ ?_);refine wpAny_newFunctionEnv_cells S.kind hkind λenv he s1 x=>?_;subst he;refine #[lim.keeps x.toInCall.keep,codeAny_func ?_];obtain ⟨t,ht,hq⟩:=hbody A outer s H vs Q E (hr.deeper _) hsp;have I:Inv (cxOf CX P w K mg base N qual scope f cdv A outer s H E) [] (zdb N vs) H s1:=zn6 S hr.hd e0 hl r x;refine wpAny_mono (ht [] s1 (zdb N vs) H _ I hq) (λfl s' hs=>?_) λe s' hs=>hs;have fin:∀{U':St} {H':Hp} {v:V} {u:Value},Inv (cxOf CX P w K mg base N qual scope f cdv A outer s H E) [] U' H' s'->RelV v u->Q v H'->CE outer P w H s Q u s':=
    λ{U' H' v u} J rv q=>#[v,H',J.os,J.bare,J.base,J.hok,rv,q]
  cases fl with
  | ret u=>
    obtain ⟨v,U',H',J,rv,q⟩:=hs;exact fin J rv q
  | next=>
    obtain ⟨U',H',J,q⟩:=hs;exact fin (v:=V.non) (u:=Value.none) J rfl q
  | brk=>
    obtain ⟨_,_,_,q⟩:=hs;exact False.elim q
  | cont=>
    obtain ⟨_,_,_,q⟩:=hs;exact False.elim q
end L2
namespace L2
open PySem PySem.Spec PyProof.Rows
section
variable {X:Cx}{x:Str}{p pos:Pos}{e:Expr}{es:List Expr}{t:TA}{id T:String}{r:List V->Hp->VK->Prop}
def tCB (r:List V->Hp->VK->Prop)(t:TA):TE:=λU H Q=>t U H λvs H1=>r vs H1 Q
def zam (hc:zcL X (.builtin id) r)(hg:Gl X x)(hm:X.mg x=none)(hv:bootBuiltins x=some (.builtin id))(ha:PA X (e::es) t)(hn:x ≠ "__name__":=by decide)(hdb: .(r)=false:=by decide)
    (he:starEach (e::es) X.env= .(B)::starEach es X.env:=by rfl) (hpl: .(t).any (·.1)=false:=by rfl):PE X (.Call (.Name x p) (e::es) [] pos) (tCB r t):=by
  intro pins s U H Q I h;refine wpAny_Call_Name_kw (zfe I hg hm hv ?_ hn hdb);exact PyProof.Rows.callWith_builtin1 (thn .(S) λus s1 zq0=>(by obtain ⟨vs,H1,I1,r1,q1⟩:=zq0;exact hc pins s1 U H1 vs us Q I1 r1 q1)) he hpl
def zaU (hc:zcL X (.type T) r)(hg:Gl X x)(hm:X.mg x=none)(hv:bootBuiltins x=some (.type T))(ha:PA X (e::es) t)(hn:x ≠ "__name__":=by decide)(hdb: .(r)=false:=by decide)
    (he:starEach (e::es) X.env= .(B)::starEach es X.env:=by rfl) (hpl: .(t).any (·.1)=false:=by rfl):PE X (.Call (.Name x p) (e::es) [] pos) (tCB r t):=by
  intro pins s U H Q I h;refine wpAny_Call_Name_kw (zfe I hg hm hv ?_ hn hdb);exact PyProof.Rows.callWith_type1 (thn .(S) λus s1 zq0=>(by obtain ⟨vs,H1,I1,r1,q1⟩:=zq0;exact hc pins s1 U H1 vs us Q I1 r1 q1)) he hpl
end
end L2
namespace HT
open PySem PyProof.Rows
section
variable {prog:Program}{w:World}{A:Around}{E:Value->Shared->Prop}{s:Shared}
def cat_tup {t b:Addr}{vs ws:List Value}{Q:Value->Shared->Prop}(ht:IsTup s.heap t vs.toArray)(hb:IsTup s.heap b ws.toArray)(hv:vs≠[])
    (h1:ws=[]->Q (.ref t) s) (h2:ws≠[]->Q (.ref s.heap.objs.size) { s with heap:=s.heap.push { cls:=.type "tuple",data:=.seq (vs++ws).toArray } })
    (hsz:vs.length+ws.length<=sizeLine):wpAny .(e) A (binaryOp .Add (.ref t) (.ref b)) Q E s:=by
  obtain ⟨⟨cls,dd,data,sl⟩,ho,hc,n,hd⟩:=id ht;obtain ⟨⟨cls2,dd2,data2,sl2⟩,ho2,hc2,n2,hd2⟩:=id hb;simp only at hc hd hc2 hd2;subst hc hd hc2 hd2;have e:vs.toArray++ws.toArray=(vs++ws).toArray:=by simp
  by_cases hw:ws=[]
  · exact concat_meets #[_,ho,rfl] #[_,ho2,rfl] noFill_tuple_add seq_tuple_add PySem.F.slot_tuple_add PySem.F.entry_tuple_add (PySem.F.args_tuple_add_2 _ _)
      (tuple_addW1 t b vs.toArray ws.toArray n n2 dd dd2 sl sl2 (by simpa using hv) (by simp[hw])) #[ho,ho2,h1 hw]
  · refine concat_meets #[_,ho,rfl] #[_,ho2,rfl] noFill_tuple_add seq_tuple_add PySem.F.slot_tuple_add PySem.F.entry_tuple_add (PySem.F.args_tuple_add_2 _ _)
      (tuple_addW2 t b vs.toArray ws.toArray n n2 dd dd2 sl sl2 (by simpa using hv) (by simpa using hw) (by rw[yay,yay];exact hsz)) #[ho,ho2,?_]
    rw[e];exact h2 hw
def sIx (n d:Nat):Option Int->Nat
  | none=>d
  | some v=>if v<0 then (v+(n:Int)).toNat else min v.toNat n
def zc1 (n d k:Nat):sIx n d (some (k:Int))=min k n:=by
  show (if (k:Int)<0 then ((k:Int)+(n:Int)).toNat else min (k:Int).toNat n)=min k n
  rw[if_neg .(a),ybe]
def zsV (n d:Nat)(hd:d<=n)(o:Option Int):sIx n d o<=n:=by
  cases o with
  | none=>exact hd
  | some v=>
    show (if v<0 then (v+(n:Int)).toNat else min v.toNat n)<=n
    by_cases hv:v<0
    · rw[if_pos hv];lia
    · rw[if_neg hv];exact Nat.min_le_right _ _
def zoB (v:Int)(n d:Nat):(if v<0 then max (v+(n:Int)) 0 else min v (n:Int))=((sIx n d (some v):Nat):Int):=by
  show (if v<0 then max (v+(n:Int)) 0 else min v (n:Int))=(((if v<0 then (v+(n:Int)).toNat else min v.toNat n):Nat):Int)
  by_cases hv:v<0
  · simp only[if_pos hv];lia
  · simp only[if_neg hv];lia
def zmr (lo hi:Option Int)(n:Nat):Builtin.Slice.sliceAdjust lo hi 1 (n:Int)=(((sIx n 0 lo:Nat):Int),((sIx n n hi:Nat):Int)):=by
  have h1:¬ ((1:Int)<0):=by lia
  unfold Builtin.Slice.sliceAdjust;simp only[h1,if_false];refine Prod.ext ?_ ?_
  · cases lo with
    | none=>rfl
    | some v=>exact zoB v n 0
  · cases hi with
    | none=>rfl
    | some v=>exact zoB v n n
def zlY (i j:Nat):Builtin.Slice.slicePlaces (i:Int) (j:Int) 1=j-i:=by
  unfold Builtin.Slice.slicePlaces;have h1:(1:Int)>0:=by lia
  simp only[h1,if_true,Int.ediv_one];split<;>lia
def zht {v:Value}{o:Option Int}{Q:Option Int->Shared->Prop}(p:IsPart v o)(h:Q o s):wpAny .(e) A (Builtin.Slice.slicePartIndex v) Q E s:=by
  cases p with
  | none=>exact slicePart_none h
  | int i t=>exact slicePart_int h
def zdy {sl:Addr}{vl vu:Value}{lo hi:Option Int}{Q:Int×Int×Nat->Shared->Prop}(hs:s.heap.IsSliceOf sl vl vu .none)(pl:IsPart vl lo)(pu:IsPart vu hi)
    (h:Q (((sIx n 0 lo:Nat):Int),1,sIx n n hi-sIx n 0 lo) s):wpAny .(e) A (Builtin.Slice.sliceApplied (.ref sl) (pure (n:Int))) Q E s:=by
  obtain ⟨os,hos,hcs,hds⟩:=id hs;unfold Builtin.Slice.sliceApplied Builtin.Slice.sliceFields;refine wpAny_bind (wpAny_bind (wpAny_field hos hds (x:=vl) rfl (wpAny_bind (wpAny_field hos hds (x:=vu) rfl (wpAny_bind (wpAny_field hos hds (x:=.none) rfl (wpAny_pure ?_)))))));refine wpAny_bind (slicePart_none ?_);show wpAny _ _ (if ((1:Int)==0)=true then _ else _) _ _ s
  rw[if_neg .(k)];refine wpAny_bind (zht pl (wpAny_bind (zht pu (wpAny_bind (wpAny_pure ?_)))));show wpAny _ _ (match Builtin.Slice.sliceAdjust lo hi 1 (n:Int) with|(lo,hi)=>pure (lo,(1:Int),Builtin.Slice.slicePlaces lo hi 1)) _ _ s
  rw[zmr lo hi n];show wpAny _ _ (pure (((sIx n 0 lo:Nat):Int),(1:Int),Builtin.Slice.slicePlaces ((sIx n 0 lo:Nat):Int) ((sIx n n hi:Nat):Int) 1)) _ _ s;rw[zlY];exact wpAny_pure h
def zpg (xs:Array Value)(i k:Nat):((List.range k).filterMap λ(m:Nat)=>xs[((i:Int)+(m:Int)*1).toNat]?).toArray=((xs.toList.drop i).take k).toArray:=by
  have e:(λ(m:Nat)=>xs[((i:Int)+(m:Int)*1).toNat]?)=λm=>xs[i+m]?:=by
    funext m
    have:((i:Int)+(m:Int)*1).toNat=i+m:=by lia
    rw[this]
  rw[e];have:=pick_run xs i k;rw[List.filterMap_map]at this;have e2:((λx=>xs[x]?) ∘ λx=>i+x)=λm=>xs[i+m]?:=rfl;rw[e2]at this;rw[this]
def getItem_tuple_cut {t sl:Addr}{items:Array Value}{vl vu:Value}{lo hi:Option Int}{Q:Value->Shared->Prop}(ht:IsTup s.heap t items)(hs:s.heap.IsSliceOf sl vl vu .none)(pl:IsPart vl lo)(pu:IsPart vu hi)
    (hw:¬ (sIx items.size 0 lo=0/\sIx items.size items.size hi=items.size))
    (h:Q (.ref s.heap.objs.size) { s with heap:=s.heap.push { cls:=.type "tuple",data:=.seq ((items.toList.drop (sIx items.size 0 lo)).take (sIx items.size items.size hi-sIx items.size 0 lo)).toArray } })
    (hsz:items.size<=sizeLine):wpAny .(e) A (getItem (.ref t) (.ref sl)) Q E s:=by
  have htake:sizeOk (.seq ((items.toList.drop (sIx items.size 0 lo)).take (sIx items.size items.size hi-sIx items.size 0 lo)).toArray):=by
    show ((items.toList.drop (sIx items.size 0 lo)).take (sIx items.size items.size hi-sIx items.size 0 lo)).toArray.size<=sizeLine;rw[yay,yar,ya0,yaA];lia
  have hj:sIx items.size items.size hi<=items.size:=zsV _ _ (yaa _) hi;obtain ⟨os,hos,hcs,hds⟩:=id hs;have hTs:s.TypeIs (.ref sl) "slice":=#[os,hos,hcs];unfold getItem
  try with_reducible refine wpAny_holding ?_
  first|refine wpAny_bind (wpAny_pure ?_)|skip
  refine wpAny_bind (wpAny_sequenceKey ht.typeIs (by decide) ?_);refine wpAny_bind (wpAny_callSpecial?_slot (name:=Str.ofString "__getitem__") ht.typeIs PyProof.Rows.slot_tuple_getitem
    (wpAny_call_entry PyProof.Rows.slot_tuple_getitem ht.typeIs entry_tuple_getitem ?_ (args_tuple_getitem _ _)))
  show wpAny _ _ (Builtin.Tuple.tupleItemsOf (.ref t) >>= _) _ _ s;refine wpAny_bind (tupleItemsOf_ ht ?_);refine wpAny_bind (wpAny_typeOf hTs ?_);rw[if_pos .(k)];refine wpAny_bind (zdy hs pl pu ?_);have hno:¬ ((((sIx items.size 0 lo:Nat):Int)==0&&(1:Int)==1&&(sIx items.size items.size hi-sIx items.size 0 lo)==items.size)=true):=by
    intro q;rw[ybz,ybz]at q;have q1:((sIx items.size 0 lo:Nat):Int)=0:=eq_of_beq q.1.1;have q2:sIx items.size items.size hi-sIx items.size 0 lo=items.size:=eq_of_beq q.2;exact hw #[by lia,by lia]
  show wpAny _ _ (if (((sIx items.size 0 lo:Nat):Int)==0&&(1:Int)==1&&(sIx items.size items.size hi-sIx items.size 0 lo)==items.size)=true then _ else _) _ _ s
  rw[if_neg hno,zpg]
  first
    | exact wpAny_bind (m:=Builtin.Tuple.tupleExact _) (wpAny_newObj_type (wpAny_pure ⟨_,rfl,wpAny_pure h⟩) htake)
    | exact wpAny_bind (m:=Builtin.Tuple.tupleExact _) (wpAny_newObj_type (wpAny_bind (wpAny_pure (wpAny_pure ⟨_,rfl,wpAny_pure h⟩))) htake)
    | exact wpAny_bind (wpAny_bind (m:=Builtin.Tuple.tupleExact _) (wpAny_newObj_type (wpAny_pure (wpAny_pure ⟨_,rfl,wpAny_pure h⟩)) htake))
    | exact wpAny_bind (wpAny_bind (m:=Builtin.Tuple.tupleExact _) (wpAny_newObj_type (wpAny_pure ⟨_,rfl,wpAny_pure h⟩) htake))
end
end HT
namespace L2
open PySem PySem.Spec PyProof.Rows
abbrev TO:=St->Hp->(Option Int->Hp->Prop)->Prop
def PO (X:Cx)(e:Option Expr)(t:TO):Prop:=
  ∀(pins:List (Addr×Obj)) (s:Shared) (U:St) (H:Hp) (Q:Option Int->Hp->Prop),Inv X pins U H s->t U H Q->
    wpAny .(d) X.A (evalPart e X.env) (λu s'=>∃ o H',Inv X pins U H' s'/\IsPart u o/\Q o H') X.xe s
def zj2:TO:=λ_ H Q=>Q none H
inductive zqO (Q:Option Int->Hp->Prop)(x:V)(H1:Hp):Prop
  | c:∀ i,x=.int i->Q (some i) H1->zqO Q x H1
def zmO (t:TE):TO:=λU H Q=>t U H λx H1=>zqO Q x H1
section
variable {X:Cx}{e:Expr}{te:TE}{lo hi:Option Expr}{tl th:TO}{pos p2:Pos}
def zfF:PO X none zj2:=by
  intro pins s U H Q I h;rw[evalPart_none];exact wpAny_pure #[none,H,I,.none,h]
def zbx (h:PE X e te):PO X (some e) (zmO te):=by
  intro pins s U H Q I hw;rw[evalPart_some];refine thn (h pins s U H _ I hw) λu s1 zq0=>?_;obtain ⟨x,H1,I1,r1,q1⟩:=zq0;obtain ⟨i,rfl,q⟩:=q1;obtain ⟨t,rfl⟩:=r1;exact #[some i,H1,I1,.int i t,q]
def SlR (X:Cx)(r:V->Option Int->Option Int->Hp->VK->Prop):Prop:=
  ∀(pins:List (Addr×Obj)) (s:Shared) (U:St) (H:Hp) (x:V) (v vl vu:Value) (lo hi:Option Int) (sl:Addr) (Q:VK),Inv X pins U H s->RelV x v->s.heap.IsSliceOf sl vl vu .none->IsPart vl lo->IsPart vu hi->r x lo hi H Q->
    ∃ T id,typeLookup (.type T) "__getitem__" = pure (some (.builtin id))/\s.TypeIs v T/\wpAny .(d) X.A (getItem v (.ref sl)) .(N) X.xe s
def tSl (r:V->Option Int->Option Int->Hp->VK->Prop)(te:TE)(tl th:TO):TE:=λU H Q=>te U H λx H1=>tl U H1 λl H2=>th U H2 λu H3=>r x l u H3 Q
def zbR (hr:SlR X r)(he:PE X e te)(hl:PO X lo tl)(hu:PO X hi th):PE X (.Subscript e (.Slice lo hi none p2) pos) (tSl r te tl th):=by
  intro pins s U H Q I h;refine Subscript_ (thn (he pins s U H _ I h) λv s1 zq0=>?_);obtain ⟨x,H1,I1,r1,q1⟩:=zq0;refine wpAny_Slice (thn (hl pins s1 U H1 _ I1 q1) λvl s2 zq0=>?_);obtain ⟨l,H2,I2,pl,q2⟩:=zq0;refine thn (hu pins s2 U H2 _ I2 q2) λvu s3 zq1=>?_;obtain ⟨u,H3,I3,pu,q3⟩:=zq1;rw[evalPart_none];refine wpAny_pure ?_;have I4:Inv X pins U H3 { s3 with heap:=s3.heap.push { cls:=.type "slice",data:=.fields (List.toArray [vl,vu,.none]) } }:=I3.kept (t':=s3.toks) λb ob q=>yam _ q;obtain ⟨T,id,hT,ht,hg⟩:=hr pins { s3 with heap:=s3.heap.push { cls:=.type "slice",data:=.fields (List.toArray [vl,vu,.none]) } } U H3 x v vl vu l u s3.heap.objs.size Q I4 r1 (Heap.IsSliceOf.new ..) pl pu q3;show wpAny .(d) X.A (subscriptTail e (.Slice lo hi none p2) v (.ref s3.heap.objs.size)) .(N) X.xe { s3 with heap:=s3.heap.push { cls:=.type "slice",data:=.fields (List.toArray [vl,vu,.none]) } };exact tail_any (ops:=[.ref s3.heap.objs.size,v]) ht hT hg (by with_unfolding_all rfl)
def cutV (xs:List V)(lo hi:Option Int):List V:=(xs.drop (HT.sIx xs.length 0 lo)).take (HT.sIx xs.length xs.length hi-HT.sIx xs.length 0 lo)
def zg1 (xs:List V)(lo hi:Option Int):(cutV xs lo hi).length<=xs.length:=by
  unfold cutV;rw[yar,ya0];lia
inductive rSlT (K:Frag)(x:V)(lo:Option Int)(hi:Option Int)(H:Hp)(Q:VK):Prop
  | c:∀ a xs,x=.ref a->SqT K H a xs->¬ (HT.sIx xs.length 0 lo=0/\HT.sIx xs.length xs.length hi=xs.length)->(∀ p,H p=none->Q (.ref p) (upd H p (.tup (cutV xs lo hi))))->rSlT K x lo hi H Q
def zsU:SlR X (rSlT X.K):=by
  intro pins s U H x v vl vu lo hi sl Q I rx hs pl pu h;obtain ⟨a,xs,rfl,hx,hw,q⟩:=h;cases rx
  obtain ⟨its,r,ht,hz⟩:=I.tuple hx;have hlen:its.toArray.size=xs.length:=by rw[yay];exact r.length.symm
  refine #["tuple",_,PyProof.Rows.slot_tuple_getitem.lookup,ht.typeIs,?_];refine HT.getItem_tuple_cut ht hs pl pu (by rw[hlen];exact hw) ?_ (by rw[hlen];exact hz);rw[hlen];refine #[.ref s.heap.objs.size,_,I.laid (t':=s.toks) (o:=.tup (cutV xs lo hi)) (λb ob q=>yam _ q) (yaa _) ?_,rfl,q _ (I.hok.fresh (yaa _))];exact #[yad (zg1 xs lo hi) hz,_,(r.drop (HT.sIx xs.length 0 lo)).take (HT.sIx xs.length xs.length hi-HT.sIx xs.length 0 lo),IsTup.new _ _]
inductive zpa (K:Frag)(x:V)(y:V)(H:Hp)(Q:VK):Prop
  | c:∀ a b xs ys,x=.ref a->y=.ref b->SqT K H a xs->SqT K H b ys->xs≠[]->xs.length+ys.length<=sizeLine->(ys=[]->Q (.ref a) H)->(ys≠[]->∀ p,H p=none->Q (.ref p) (upd H p (.tup (xs++ys))))->zpa K x y H Q
def Vals.nil_iff {xs:List V}{us:List Value}(r:Vals xs us):us=[]↔xs=[]:=by
  cases r with
  | nil=>simp
  | cons _ _=>simp
def ziy:OpR X (binaryOp .Add) (zpa X.K):=by
  intro pins s U H x y v u Q I rx ry h;obtain ⟨a,b,xs,ys,rfl,rfl,ha,hb,hx,hz,q1,q2⟩:=h;cases rx
  cases ry
  obtain ⟨its,r1,p1,_⟩:=I.tuple ha;obtain ⟨its2,r2,p2,_⟩:=I.tuple hb;refine HT.cat_tup p1 p2 (λz=>hx (r1.nil_iff.mp z)) (λz=>#[.ref a,H,I,rfl,q1 (r2.nil_iff.mp z)]) (λz=>?_) (by rw[<-r1.length,<-r2.length];exact hz);refine #[.ref s.heap.objs.size,_,I.laid (t':=s.toks) (o:=.tup (xs++ys)) (λb ob q=>yam _ q) (yaa _) ?_,rfl,q2 (λw=>z (r2.nil_iff.mpr w)) _ (I.hok.fresh (yaa _))];exact #[by rw[yan];exact hz,_,r1.append r2,IsTup.new _ _]
end
end L2
namespace L2
open PySem PySem.Spec PyProof.Rows
def ixN (n:Nat)(i:Int):Option Nat:=if 0<=i then (if i<n then some i.toNat else none) else if -(n:Int)<=i then some (i+n).toNat else none
def atI {α:Type}(xs:List α)(i:Int):Option α:=(ixN xs.length i).bind λj=>xs[j]?
def zn4 {j:Nat}(h:ixN n i=some j):seqIndex? i n=some j/\j<n/\-(n:Int)<=i/\i<n:=by
  unfold ixN at h;by_cases h0:0<=i
  · rw[if_pos h0]at h
    by_cases h1:i<n
    · rw[if_pos h1]at h
      have e:i.toNat=j:=yae h;exact #[by rw[seqIndex_of h0 h1,e],by lia,by lia,h1]
    · rw[if_neg h1]at h;cases h
  · rw[if_neg h0]at h
    by_cases h1:-(n:Int)<=i
    · rw[if_pos h1]at h
      have e:(i+n).toNat=j:=yae h;exact #[by rw[seqIndex_neg .(a) h1,e],by lia,h1,by lia]
    · rw[if_neg h1]at h;cases h
def zoK {α:Type}{xs:List α}{v:α}(h:atI xs i=some v):∃ j,seqIndex? i xs.length=some j/\xs[j]?=some v/\j<xs.length/\-(xs.length:Int)<=i/\i<xs.length:=by
  unfold atI at h;cases e:ixN xs.length i with
  | none=>rw[e]at h;cases h
  | some j=>
    rw[e]at h;obtain ⟨h1,h2,h3,h4⟩:=zn4 e;exact #[j,h1,h,h2,h3,h4]
def zeI {α:Type}{xs:List α}{j:Nat}{v:α}(h:xs[j]?=some v):atI xs (j:Int)=some v:=by
  have hj:j<xs.length:=(yap.mp h).1;have e:ixN xs.length (j:Int)=some j:=by
    unfold ixN;rw[if_pos .(a),if_pos .(a)];simp
  unfold atI;rw[e];exact h
def zsA (b:Expr):Prop:=∀ o i,subscripted b false o i=operate [o,i] (getItem o i)
def IxR (X:Cx)(r:R2):Prop:=
  ∀(value slice:Expr) (pins:List (Addr×Obj)) (s:Shared) (U:St) (H:Hp) (x y:V) (v u:Value) (Q:VK),Inv X pins U H s->RelV x v->RelV y u->r x y H Q->
    subscripted slice false v u=operate [v,u] (getItem v u)->wpAny .(d) X.A (subscriptTail value slice v u) .(N) X.xe s
def MtR (X:Cx)(id:String)(r:V->List V->Hp->VK->Prop):Prop:=
  ∀(pins:List (Addr×Obj)) (s:Shared) (U:St) (H:Hp) (x:V) (xs:List V) (v:Value) (us:List Value) (Q:VK),Inv X pins U H s->RelV x v->Vals xs us->r x xs H Q->
    wpAny .(d) X.A (call (.builtin id) (v::us)) .(N) X.xe s
section
variable {X:Cx}{a b:Expr}{ta tb:TE}{pos:Pos}
def zaL (hr:IxR X r)(ha:PE X a ta)(hb:PE X b tb)(hs:zsA b):PE X (.Subscript a b pos) (tOp r ta tb):=by
  intro pins s U H Q I h;exact Subscript_ (binT ha hb I h λv u s2 x y H2 I2 rx ry q=>hr a b pins s2 U H2 x y v u Q I2 rx ry q (hs _ _))
inductive rIxL (K:Frag)(x:V)(y:V)(H:Hp)(Q:VK):Prop
  | c:∀ p xs i v,x=.ref p->y=.int i->SqL K H p xs->atI xs i=some v->Q v H->rIxL K x y H Q
inductive rIxT (K:Frag)(x:V)(y:V)(H:Hp)(Q:VK):Prop
  | c:∀ p xs i v,x=.ref p->y=.int i->SqT K H p xs->atI xs i=some v->Q v H->rIxT K x y H Q
def zr4:IxR X (rIxL X.K):=by
  intro value slice pins s U H x y v u Q I rx ry h hs;obtain ⟨p,xs,i,z,rfl,rfl,hq,he,q⟩:=h;cases rx
  obtain ⟨t,rfl⟩:=ry;obtain ⟨its,r,pl,hz⟩:=I.list hq;obtain ⟨j,h1,h2,h3,h4,h5⟩:=zoK he;obtain ⟨w,ew,rw'⟩:=r.get h2;have hl:=r.length;have hn:=zls;have fin:EP X pins U Q w s:=#[z,H,I,rw',q];by_cases h0:0<=i
  · have hj:i.toNat=j:=by
      rw[seqIndex_of h0 h5]at h1;exact yae h1
    exact item_listR pl.isList h0 .(a) (by rw[hj];simpa using ew) fin hs
  · have hj:(i+(its.toArray.size:Int)).toNat=j:=by
      rw[seqIndex_neg .(a) h4]at h1;rw[yay,<-hl];exact yae h1
    exact subscriptTail_builtinR (x:=w) pl.isList.typeIs slot_list_getitem.lookup
      (wpAny_getItem_list_neg (Q:=λr s'=>r=w/\EP X pins U Q r s') pl.isList .(a) (by rw[yay]<;>lia) .(a) (by rw[hj];simpa using ew) #[rfl,fin]) hs
def ztI:IxR X (rIxT X.K):=by
  intro value slice pins s U H x y v u Q I rx ry h hs;obtain ⟨p,xs,i,z,rfl,rfl,hq,he,q⟩:=h;cases rx
  obtain ⟨t,rfl⟩:=ry;obtain ⟨its,r,pl,hz⟩:=I.tuple hq;obtain ⟨j,h1,h2,h3,h4,h5⟩:=zoK he;obtain ⟨w,ew,rw'⟩:=r.get h2;have hl:=r.length;have hn:=zls;have fin:EP X pins U Q w s:=#[z,H,I,rw',q];exact subscriptTail_builtinR (x:=w) pl.typeIs slot_tuple_getitem.lookup
    (getItem_tuple (j:=j) (Q:=λr s'=>r=w/\EP X pins U Q r s') pl .(a) .(a) (by rw[yay,<-hl];exact h1) (by simpa using ew) #[rfl,fin]) hs
def zmd (its:List Value)(n j:Nat)(u:Value):Obj.mapSeq (·.setIfInBounds j u) { cls:=.type "list",data:=.seq its.toArray n }={ cls:=.type "list",data:=.seq (its.set j u).toArray n }:=by
  simp[Obj.mapSeq]
def Inv.lst {pins:List (Addr×Obj)}{U:St}{H:Hp}{s:Shared}{p:Addr}{xs:List V}(I:Inv X pins U H s)(h:H p=some (.lst xs)) :
    ∃(its:List Value) (n:Nat),Vals xs its/\s.heap.get? p=some { cls:=.type "list",data:=.seq its.toArray n }/\xs.length<=sizeLine:=by
  obtain ⟨z,its,n,r,e⟩:=I.hok p _ h;exact #[its,n,r,e,z]
def Inv.lstUpd {p:Addr}{xs ys:List V}{its its':List Value}{n n':Nat}{f:Obj->Obj}(I:Inv X pins U H s)(h:H p=some (.lst xs))
    (ho:s.heap.get? p=some { cls:=.type "list",data:=.seq its.toArray n }) (hf:f { cls:=.type "list",data:=.seq its.toArray n }={ cls:=.type "list",data:=.seq its'.toArray n' }) (r:Vals ys its') (hz:ys.length<=sizeLine) (t:Nat) :
    Inv X pins U (upd H p (.lst ys)) { s with heap:=s.heap.update p f,toks:=t }:=by
  have e:(s.heap.update p f).get? p=some { cls:=.type "list",data:=.seq its'.toArray n' }:=by
    rw[Heap.get?_update_self f ho (by rw[hf]<;>rfl),hf]
  refine I.write (x:=p) (e:=p) (by rw[h];trivial) .(Q) (λb u hb q=>(ybQ _ _ (Ne.symm hb)).trans q) #[_,e] ?_;exact #[hz,its',n',r,e]
inductive zsY (o:V)(i:V)(v:V)(H:Hp)(Q:Hp->Prop):Prop
  | c:∀ p xs k j,o=.ref p->i=.int k->H p=some (.lst xs)->ixN xs.length k=some j->Q (upd H p (.lst (xs.set j v)))->zsY o i v H Q
def zcm:PSet X zsY:=by
  intro pins s U H o i v ov iv u Q I ro ri rv h;obtain ⟨p,xs,k,j,rfl,rfl,hp,hj,q⟩:=h;cases ro
  obtain ⟨t,rfl⟩:=ri;obtain ⟨its,n,r,ho,hz⟩:=I.lst hp;obtain ⟨h1,h2,h3,h4⟩:=zn4 hj;have hl:=r.length;have hn:=zls;have I':Inv X pins U (upd H p (.lst (xs.set j v))) { s with heap:=s.heap.update p (Obj.mapSeq (·.setIfInBounds j u)) }:=
    I.lstUpd hp ho (zmd its n j u) (r.set rv j) (by rw[ycm];exact hz) s.toks
  by_cases h0:0<=k
  · have hk:k.toNat=j:=by
      rw[seqIndex_of h0 h4]at h1;exact yae h1
    exact PySem.W.ki_setAt ho h0 .(a) (by rw[yay,<-hl];exact h4) (by rw[hk];exact #[_,I',q])
  · have hk:(k+(its.toArray.size:Int)).toNat=j:=by
      rw[seqIndex_neg .(a) h3]at h1;rw[yay,<-hl];exact yae h1
    exact PySem.W.ki_setBack ho .(a) (by rw[yay,<-hl];exact h3) .(a) (by rw[hk];exact #[_,I',q])
def zje (lo hi:Option Int)(n:Nat):(sliceBounds lo hi none n).1=((HT.sIx n 0 lo:Nat):Int)/\(sliceBounds lo hi none n).2.1=((HT.sIx n n hi:Nat):Int)/\(sliceBounds lo hi none n).2.2=1:=by
  refine #[?_,?_,rfl]
  · cases lo with
    | none=>simp[sliceBounds,HT.sIx]
    | some i=>
      simp only[sliceBounds,HT.sIx,Option.getD_none,show (1:Int)>0 by decide,if_true];by_cases h:i<0
      · simp only[h,if_true]<;>lia
      · simp only[h,if_false]<;>lia
  · cases hi with
    | none=>simp[sliceBounds,HT.sIx]
    | some i=>
      simp only[sliceBounds,HT.sIx,Option.getD_none,show (1:Int)>0 by decide,if_true];by_cases h:i<0
      · simp only[h,if_true]<;>lia
      · simp only[h,if_false]<;>lia
def zih (its:List Value)(lo hi:Option Int):slicePick its.toArray lo hi none=((its.drop (HT.sIx its.length 0 lo)).take (HT.sIx its.length its.length hi-HT.sIx its.length 0 lo)).toArray:=by
  obtain ⟨h1,h2,h3⟩:=zje lo hi its.toArray.size;unfold slicePick;rw[h1,h2,h3];simp only[sliceRange_one,pick_run,yay]<;>rfl
inductive rSlL (K:Frag)(x:V)(lo:Option Int)(hi:Option Int)(H:Hp)(Q:VK):Prop
  | c:∀ a xs,x=.ref a->SqL K H a xs->(∀ p,H p=none->Q (.ref p) (upd H p (.lst (cutV xs lo hi))))->rSlL K x lo hi H Q
def zrt:SlR X (rSlL X.K):=by
  intro pins s U H x v vl vu lo hi sl Q I rx hs pl pu h;obtain ⟨a,xs,rfl,hx,q⟩:=h;cases rx
  obtain ⟨its,r,ht,hz⟩:=I.list hx;have hlen:=r.length;refine #["list",_,slot_list_getitem.lookup,ht.isList.typeIs,?_];refine wpAny_getItem_list_slice ht.isList hs pl pu .none .(h) ?_ (by rw[yay]<;>lia)
  rw[zih,<-hlen];refine #[.ref s.heap.objs.size,_,I.laid (t':=s.toks) (o:=.lst (cutV xs lo hi)) (λb ob q=>yam _ q) (yaa _) ?_,rfl,q _ (I.hok.fresh (yaa _))];exact #[yad (zg1 xs lo hi) hz,_,0,(r.drop (HT.sIx xs.length 0 lo)).take (HT.sIx xs.length xs.length hi-HT.sIx xs.length 0 lo),yaD _ rfl]
def zfl:V->Bool
  | .non=>true
  | .bl _=>true
  | .int _=>true
  | .str _=>true
  | _=>false
def eqV:V->V->Bool
  | .non,.non=>true
  | .bl a,.bl b=>a==b
  | .bl a,.int b=>(if a then 1 else 0)==b
  | .int a,.bl b=>a==(if b then 1 else 0)
  | .int a,.int b=>a==b
  | .str a,.str b=>a==b
  | _,_=>false
def ztX {A:Around}{s:Shared}{y x:V}{u v:Value}(ry:RelV y u)(rx:RelV x v)(fy:zfl y=true)(fx:zfl x=true):SeqAt.EqAt A s u v (eqV y x):=by
  cases y with
  | non=>
    cases ry
    cases x with
    | non=>cases rx;exact SeqAt.EqAt.same _
    | bl b=>cases rx;exact SeqAt.EqAt.none_bool b
    | int b=>obtain ⟨t,rfl⟩:=rx;exact SeqAt.EqAt.none_int b t
    | str b=>obtain ⟨t,rfl⟩:=rx;exact SeqAt.EqAt.none_str b t
    | _=>exact absurd (show false=true from fx) yaC
  | bl a=>
    cases ry
    cases x with
    | non=>cases rx;exact SeqAt.EqAt.bool_none a
    | bl b=>cases rx;exact SeqAt.EqAt.bool_bool a b
    | int b=>obtain ⟨t,rfl⟩:=rx;exact SeqAt.EqAt.bool_int a b t
    | str b=>obtain ⟨t,rfl⟩:=rx;exact SeqAt.EqAt.bool_str a b t
    | _=>exact absurd (show false=true from fx) yaC
  | int a=>
    obtain ⟨t',rfl⟩:=ry;cases x with
    | non=>cases rx;exact SeqAt.EqAt.int_none a t'
    | bl b=>cases rx;exact SeqAt.EqAt.int_bool a t' b
    | int b=>obtain ⟨t,rfl⟩:=rx;exact SeqAt.EqAt.int_int a t' b t
    | str b=>obtain ⟨t,rfl⟩:=rx;exact SeqAt.EqAt.int_str a t' b t
    | _=>exact absurd (show false=true from fx) yaC
  | str a=>
    obtain ⟨t',rfl⟩:=ry;cases x with
    | non=>cases rx;exact SeqAt.EqAt.str_none a t'
    | bl b=>cases rx;exact SeqAt.EqAt.str_bool a t' b
    | int b=>obtain ⟨t,rfl⟩:=rx;exact SeqAt.EqAt.str_int a t' b t
    | str b=>obtain ⟨t,rfl⟩:=rx;exact SeqAt.EqAt.str_str a t' b t
    | _=>exact absurd (show false=true from fx) yaC
  | _=>exact absurd (show false=true from fy) yaC
def eqU (x:V)(u:Value):Bool:=match u with
  | .none=>eqV .non x
  | .bool b=>eqV (.bl b) x
  | .int i _=>eqV (.int i) x
  | .str z _=>eqV (.str z) x
  | _=>false
def zqJ {y:V}{u:Value}(r:RelV y u)(f:zfl y=true):eqU x u=eqV y x:=by
  cases y with
  | non=>cases r;rfl
  | bl b=>cases r;rfl
  | int i=>obtain ⟨t,rfl⟩:=r;rfl
  | str z=>obtain ⟨t,rfl⟩:=r;rfl
  | _=>exact absurd (show false=true from f) yaC
def zhc :∀{xs:List V} {us:List Value},Vals xs us->xs.all zfl=true->us.any (eqU x)=xs.any λy=>eqV y x
  | _,_,.nil,_=>rfl
  | y::xs,u::us,.cons r t,f=>by
    rw[ycn,ybz]at f;rw[ybv,ybv,zqJ r f.1,zhc t f.2]
def zfb {A:Around}{s:Shared}{x:V}{v:Value}(rx:RelV x v)(fx:zfl x=true):∀{xs:List V} {us:List Value},Vals xs us->xs.all zfl=true->∀ u∈us,SeqAt.EqAt A s u v (eqU x u)
  | _,_,.nil,_=>λu hu=>by cases hu
  | y::xs,u::us,.cons r t,f=>λu' hu=>by
    rw[ycn,ybz]at f;rcases yaq.mp hu with rfl|hu
    · rw[zqJ r f.1];exact ztX r rx f.1 fx
    · exact zfb rx fx t f.2 u' hu
def inV (x:V)(xs:List V):Bool:=xs.any λy=>eqV y x
inductive rIn (K:Frag)(neg:Bool)(x:V)(y:V)(H:Hp)(Q:VK):Prop
  | c:∀ p xs,y=.ref p->(SqL K H p xs\/SqT K H p xs)->zfl x=true->xs.all zfl=true->Q (.bl (if neg then !inV x xs else inV x xs)) H->rIn K neg x y H Q
def znt:OpR X (compareOp .In) (rIn X.K false):=by
  intro pins s U H x y v u Q I rx ry h;obtain ⟨p,xs,rfl,hq,fx,fs,q⟩:=h;cases ry
  rcases hq with hq|hq
  · obtain ⟨its,r,pl,hz⟩:=I.list hq
    refine SeqAt.in_listAt (eqU x) pl.isList (λw hw=>zfb rx fx r fs w (by simpa using hw)) #[.bl _,H,I,rfl,?_];rw[show its.toArray.any (eqU x)=its.any (eqU x) by simp,zhc r fs];exact q
  · obtain ⟨its,r,pl,hz⟩:=I.tuple hq
    refine SeqAt.in_tupleAt (eqU x) pl (λw hw=>zfb rx fx r fs w (by simpa using hw)) #[.bl _,H,I,rfl,?_];rw[show its.toArray.any (eqU x)=its.any (eqU x) by simp,zhc r fs];exact q
def zjn:OpR X (compareOp .NotIn) (rIn X.K true):=by
  intro pins s U H x y v u Q I rx ry h;obtain ⟨p,xs,rfl,hq,fx,fs,q⟩:=h;cases ry
  rcases hq with hq|hq
  · obtain ⟨its,r,pl,hz⟩:=I.list hq
    refine SeqAt.notIn_listAt (eqU x) pl.isList (λw hw=>zfb rx fx r fs w (by simpa using hw)) #[.bl _,H,I,rfl,?_];rw[show its.toArray.any (eqU x)=its.any (eqU x) by simp,zhc r fs];exact q
  · obtain ⟨its,r,pl,hz⟩:=I.tuple hq
    refine SeqAt.notIn_tupleAt (eqU x) pl (λw hw=>zfb rx fx r fs w (by simpa using hw)) #[.bl _,H,I,rfl,?_];rw[show its.toArray.any (eqU x)=its.any (eqU x) by simp,zhc r fs];exact q
def zjN:zcL X (.builtin "len") (λxs H Q=>∃ p ys,xs=[.ref p]/\(SqL X.K H p ys\/SqT X.K H p ys)/\Q (.int ys.length) H):=by
  intro pins s U H xs us Q I r h;obtain ⟨p,ys,rfl,hq,q⟩:=h;obtain ⟨u,rfl,rx⟩:=zfu r;cases rx
  have hn:=zls;rcases hq with hq|hq
  · obtain ⟨its,r',pl,hz⟩:=I.list hq
    have hlen:=r'.length;exact Calls.call_len_list pl.isList (by simp only[yay]<;>lia) #[.int ys.length,H,I.tok _,#[s.toks+1,by rw[yay,hlen]],q]
  · obtain ⟨its,r',pl,hz⟩:=I.tuple hq
    have hlen:=r'.length;exact len_tuple pl (by simp only[yay]<;>lia) #[.int ys.length,H,I.tok _,#[s.toks+1,by rw[yay,hlen]],q]
def zjM:zcL X (.type "list") (λxs H Q=>∃ p ys,xs=[.ref p]/\(SqL X.K H p ys\/SqT X.K H p ys)/\∀ l,H l=none->Q (.ref l) (upd H l (.lst ys))):=by
  intro pins s U H xs us Q I r h;obtain ⟨p,ys,rfl,hq,q⟩:=h;obtain ⟨u,rfl,rx⟩:=zfu r;cases rx
  have fin:∀(its:List Value),Vals ys its->ys.length<=sizeLine->∀(h':Heap) (c':Nat),(∀ b o',s.heap.get? b=some o'->h'.get? b=some o')->
      h'.get? s.heap.objs.size=some { cls:=.type "list",dict:=none,data:=.seq its.toArray c',slots:=(List.toArray []) }->EP X pins U Q (.ref s.heap.objs.size) { s with heap:=h' }:=λits r' hz h' c' kp e=>
    #[.ref s.heap.objs.size,_,I.laid (t':=s.toks) kp (yaa _) (show zbl X.prog X.w _ h' _ (.lst ys) from #[hz,its,c',r',e]),rfl,q _ (I.hok.fresh (yaa _))]
  rcases hq with hq|hq
  · obtain ⟨its,r',pl,hz⟩:=I.list hq
    have hlen:=r'.length;obtain ⟨o,ho,hc,n,hd⟩:=pl.isList;exact call_list_seq p .(Q) ho hc hd (λh' c' kp e=>fin its r' hz h' c' kp e) (by simp only[yay]<;>lia)
  · obtain ⟨its,r',pl,hz⟩:=I.tuple hq
    have hlen:=r'.length;obtain ⟨o,ho,hc,n,hd⟩:=pl;exact call_list_seq p (.inr rfl) ho hc hd (λh' c' kp e=>fin its r' hz h' c' kp e) (by simp only[yay]<;>lia)
def ziS:zcL X (.type "tuple") (λxs H Q=>∃ p ys,xs=[.ref p]/\((SqL X.K H p ys/\∀ l,H l=none->Q (.ref l) (upd H l (.tup ys)))\/(SqT X.K H p ys/\Q (.ref p) H))):=by
  intro pins s U H xs us Q I r h;obtain ⟨p,ys,rfl,h⟩:=h;obtain ⟨u,rfl,rx⟩:=zfu r;cases rx
  rcases h with ⟨hq,q⟩|⟨hq,q⟩
  · obtain ⟨its,r',pl,hz⟩:=I.list hq
    have hlen:=r'.length;refine call_tuple_list pl.isList (λh' kp=>?_) (by simp only[yay]<;>lia)
    have I1:Inv X pins U H { s with heap:=h' }:=I.kept (t':=s.toks) kp;have I2:Inv X pins U (upd H h'.objs.size (.tup ys)) { s with heap:=h'.push { cls:=.type "tuple",data:=.seq its.toArray } }:=
      I1.laid (t':=s.toks) (λb o e=>yam _ e) (yaa _) (show zbl X.prog X.w _ _ _ (.tup ys) from #[hz,its,r',IsTup.new _ _])
    exact #[.ref h'.objs.size,_,I2,rfl,q _ (I1.hok.fresh (yaa _))]
  · obtain ⟨its,r',pl,hz⟩:=I.tuple hq
    exact call_tuple_same pl #[.ref p,H,I,rfl,q]
def tyV (K:Frag)(T:String)(x:V)(H:Hp):Prop:=match x with
  | .str _=>T = "str"
  | .int _=>T = "int"
  | .ref p=>(T = "list"/\∃ xs,SqL K H p xs)\/(T = "tuple"/\∃ o,K.lookup p=some o/\o.cls=.type "tuple"/\o.dict=none)\/
      (T = "dict"/\((∃ kvs,H p=some (.dK kvs))\/∃ kvs,H p=some (.dT kvs)))\/(T = "set"/\∃ S n,H p=some (.set S n))
  | _=>False
def zqs {x:V}{v:Value}(I:Inv X pins U H s)(r:RelV x v)(ty:tyV X.K T x H) :
    s.TypeIs v T/\∀ a,v=.ref a->∃ ob,s.heap.get? a=some ob/\ob.dict=none:=by
  cases x with
  | str z=>
    obtain ⟨t,rfl⟩:=r;cases (show T = "str" from ty)
    exact #[typeIs_str s z t,λ_ e=>nomatch e]
  | int i=>
    obtain ⟨t,rfl⟩:=r;cases (show T = "int" from ty)
    exact #[typeIs_int s i t,λ_ e=>nomatch e]
  | ref p=>
    cases r
    rcases ty with ⟨rfl,xs,hq⟩|⟨rfl,o,hk,hc,hd⟩|⟨rfl,hk⟩|⟨rfl,S,n,hk⟩
    · obtain ⟨its,_,pl,_⟩:=I.list hq
      refine #[pl.isList.typeIs,λa e=>?_];cases e
      obtain ⟨o,n,e,c,hd,_⟩:=pl;exact #[o,e,hd]
    · refine #[#[o,I.kIn p o hk,hc],λa e=>?_]
      cases e
      exact #[o,I.kIn _ o hk,hd]
    · have z:∃ o,s.heap.get? p=some o/\o.ExactDict:=by
        rcases hk with ⟨kvs,hk⟩|⟨kvs,hk⟩
        · obtain ⟨_,_,_,_,o,_,_,e,ex,_⟩:=I.hok p _ hk
          exact #[o,e,ex]
        · obtain ⟨_,_,_,_,o,_,_,e,ex,_⟩:=I.hok p _ hk
          exact #[o,e,ex]
      obtain ⟨o,e,ex⟩:=z;refine #[#[o,e,ex.1],λa e2=>?_];cases e2
      exact #[o,e,ex.2.1]
    · obtain ⟨o,_,_,_,e,ex,_⟩:=I.hok p _ hk
      refine #[#[o,e,ex.1],λa e2=>?_];cases e2
      exact #[o,e,ex.2.1]
  | _=>exact False.elim ty
inductive zt8 (K:Frag)(T:String)(r:V->List V->Hp->VK->Prop)(Q:VK)(x:V)(H1:Hp):Prop
  | c:tyV K T x H1->r x [] H1 Q->zt8 K T r Q x H1
def tBM0 (K:Frag)(T:String)(r:V->List V->Hp->VK->Prop)(to:TE):TE:=λU H Q=>to U H λx H1=>zt8 K T r Q x H1
inductive GtBM (K:Frag)(T:String)(r:V->List V->Hp->VK->Prop)(t:TA)(U:St)(Q:VK)(x:V)(H1:Hp):Prop
  | c:tyV K T x H1->(t U H1 λxs H2=>r x xs H2 Q)->GtBM K T r t U Q x H1
def tBM (K:Frag)(T:String)(r:V->List V->Hp->VK->Prop)(to:TE)(t:TA):TE:=λU H Q=>to U H λx H1=>GtBM K T r t U Q x H1
variable {o e:Expr}{es:List Expr}{to:TE}{t:TA}{name:Str}{apos cpos:Pos}{T id:String}{r:V->List V->Hp->VK->Prop}
def ztd (pa:PlainAttrs T)(slot:Slot T name id)(hty:typeOf (.builtin id)=pure (.type "method_descriptor"))(hm:MtR X id r)(ho:PE X o to)
    (hbase:attributeBase o name X.env (eval o X.env)=eval o X.env:=by rfl) (hline:(apos.endLine==cpos.line)=true:=by rfl):PE X (.Call (.Attribute o name apos) [] [] cpos) (tBM0 X.K T r to):=by
  intro pins s U H Q I h;refine wpAny_Call_method0_late hbase hline (thn (ho pins s U H _ I h) λv s1 zq0=>?_);obtain ⟨x,H1,I1,r1,ty,q1⟩:=zq0;obtain ⟨h1,h2⟩:=zqs I1 r1 ty;exact #[T,id,pa,slot,hty,h1,h2,Calls.callWith_builtin rfl (PySem.evalArgs_none (hm pins s1 U H1 x [] v [] Q I1 r1 .nil q1))]
def zfa (pa:PlainAttrs T)(slot:Slot T name id)(hty:typeOf (.builtin id)=pure (.type "method_descriptor"))(hm:MtR X id r)(ho:PE X o to)(ha:PA X (e::es) t)
    (hbase:attributeBase o name X.env (eval o X.env)=eval o X.env:=by rfl)
    (hfew:((backTo cpos (starEach (e::es) X.env)).all (λx=>!x.1) && (backToKw cpos (keywordEach [] X.env)).all (λx=>x.1.isSome)
      && decide ((e::es).length+([]:List Keyword).length+(if ([]:List Keyword).isEmpty then 0 else 1)<30))=true:=by rfl)
    (hline:(apos.endLine==cpos.line)=true:=by rfl) (hs:starEach (e::es) X.env= .(B)::starEach es X.env:=by rfl) (hplain:(backTo cpos (starEach es X.env)).any (·.1)=false:=by rfl) :
    PE X (.Call (.Attribute o name apos) (e::es) [] cpos) (tBM X.K T r to t):=by
  intro pins s U H Q I h;refine wpAny_Call_method_late hbase hfew hline rfl (thn (ho pins s U H _ I h) λv s1 zq0=>?_);obtain ⟨x,H1,I1,r1,ty,q1⟩:=zq0;obtain ⟨h1,h2⟩:=zqs I1 r1 ty;refine #[T,id,pa,slot,hty,h1,h2,?_];have hA:=ha cpos pins s1 U H1 _ I1 q1;rw[hs]at hA ⊢;refine Calls.callWith_builtin (by show (false||(backTo cpos (starEach es X.env)).any (·.1))=false;rw[hplain]<;>rfl) (Calls.evalArgs_plain ?_)
  exact thn hA λus s2 zq0=>(by obtain ⟨vs,H2,I2,r2,q2⟩:=zq0;exact hm pins s2 U H2 x vs v us Q I2 r1 r2 q2)
end
end L2
namespace L2
open PySem PySem.Spec PyProof.Rows
def MtM (X:Cx)(id:String)(r:V->List V->Hp->VK->Prop):Prop:=
  ∀(pins:List (Addr×Obj)) (s:Shared) (U:St) (H:Hp) (x:V) (xs:List V) (v:Value) (us:List Value) (Q:VK),Inv X pins U H s->RelV x v->Vals xs us->r x xs H Q->
    wpAny .(d) X.A (call (.builtin id) (v::us)) .(N) X.xe s
def Vals.one:∀{x:V} {us:List Value},Vals [x] us->∃ u,us=[u]/\RelV x u
  | _,_,.cons r .nil=>#[_,rfl,r]
section
variable {X:Cx}{pins:List (Addr×Obj)}{U:St}{H:Hp}{s:Shared}{l b:Addr}{xs ys zs:List V}
def Inv.lset {its its':List Value}{n:Nat}{f:Array Value->Array Value}{t':Nat}(I:Inv X pins U H s)(hH:H l=some (.lst xs))
    (e:s.heap.get? l=some { cls:=.type "list",data:=.seq its.toArray n }) (hf:f its.toArray=its'.toArray) (hv:Vals ys its') (hz:ys.length<=sizeLine) :
    Inv X pins U (upd H l (.lst ys)) { s with heap:=s.heap.update l (Obj.mapSeq f),toks:=t' }:=by
  have q:=PySem.IsL.update e f;rw[hf]at q;refine I.write (x:=l) (e:=l) (by rw[hH];exact trivial) .(Q) (λb' u hb hu=>(ybQ s.heap (Obj.mapSeq f) (Ne.symm hb)).trans hu) #[_,q] ?_;exact #[hz,its',_,hv,q]
def Inv.lnew {its:List Value}{t':Nat}(I:Inv X pins U H s)(hv:Vals ys its)(hz:ys.length<=sizeLine) :
    Inv X pins U (upd H s.heap.objs.size (.lst ys)) { s with heap:=s.heap.push { cls:=.type "list",data:=.seq its.toArray },toks:=t' }:=
  I.laid (λ_ _ q=>yam _ q) (yaa _) #[hz,its,0,hv,yaD _ rfl]
def Inv.fresh (I:Inv X pins U H s):H s.heap.objs.size=none:=I.hok.fresh (yaa _)
def Inv.lstM (I:Inv X pins U H s)(hH:H l=some (.lst xs)):xs.length<=sizeLine/\∃(its:List Value) (n:Nat),Vals xs its/\xs.length=its.length/\s.heap.get? l=some { cls:=.type "list",data:=.seq its.toArray n }:=by
  obtain ⟨z,its,n,r,e⟩:=I.hok l _ hH;exact #[z,its,n,r,r.length,e]
def zpJ {n:Nat}(h:n<=sizeLine):Builtin.List.listTooLong n=false:=by
  unfold Builtin.List.listTooLong;exact yai .(a)
end
section
variable {X:Cx}
inductive zne (x:V)(vs:List V)(H:Hp)(Q:VK):Prop
  | c:∀ l xs y,x=.ref l->vs=[y]->H l=some (.lst xs)->xs.length<sizeLine->Q .non (upd H l (.lst (xs++[y])))->zne x vs H Q
def za0:MtM X "list.append" zne:=by
  intro pins s U H x vs v us Q I rx rv h;obtain ⟨l,xs,y,rfl,rfl,hH,hz,q⟩:=h;cases rx
  obtain ⟨u,rfl,ru⟩:=rv.one;obtain ⟨z,its,n,r,hl,e⟩:=I.lstM hH;refine call_meets F.slot_list_append #[_,e,rfl] F.entry_list_append (F.args_list_append_2 _ _) (PySem.list_append l its.toArray n u (by rw[yay];lia)) #[e,?_];refine #[.non,_,I.lset (its':=its++[u]) hH e .(h) (r.append (.cons ru .nil)) ?_,rfl,q];rw[yan,yaU];lia
inductive znc (x:V)(vs:List V)(H:Hp)(Q:VK):Prop
  | c:∀ l b xs zs,x=.ref l->vs=[.ref b]->H l=some (.lst xs)->H b=some (.lst zs)->xs.length+zs.length<=sizeLine->Q .non (upd H l (.lst (xs++zs)))->znc x vs H Q
def znL:MtM X "list.extend" znc:=by
  intro pins s U H x vs v us Q I rx rv h;obtain ⟨l,b,xs,zs,rfl,rfl,hH,hB,hz,q⟩:=h;cases rx
  obtain ⟨u,rfl,ru⟩:=rv.one;cases ru
  obtain ⟨z,its,n,r,hl,e⟩:=I.lstM hH;obtain ⟨z2,its2,n2,r2,hl2,e2⟩:=I.lstM hB;have hsz:its.toArray.size+its2.toArray.size<=sizeLine:=by rw[yay,yay];lia
  have hlong:¬ (!its.toArray.isEmpty&&Builtin.List.listTooLong (its.toArray.size+its2.toArray.size))=true:=by
    rw[zpJ hsz,Bool.and_false];exact yaC
  refine call_meets F.slot_list_extend #[_,e,rfl] F.entry_list_extend (F.args_list_extend_2 _ _)
    (AutoSeq1.list_extend_list_list_0 l its.toArray n b its2.toArray n2 hlong (by rw[yay];lia) .(a)) #[e,e2,?_]
  refine #[.non,_,I.lset (its':=its++its2) hH e .(h) (r.append r2) ?_,rfl,q];rw[yan];lia
inductive rCat (x:V)(y:V)(H:Hp)(Q:VK):Prop
  | c:∀ l b xs zs,x=.ref l->y=.ref b->H l=some (.lst xs)->H b=some (.lst zs)->xs.length+zs.length<=sizeLine->(∀ p,H p=none->Q (.ref p) (upd H p (.lst (xs++zs))))->rCat x y H Q
def zqC:OpR X (binaryOp .Add) rCat:=by
  intro pins s U H x y v u Q I rx ry h;obtain ⟨l,b,xs,zs,rfl,rfl,hH,hB,hz,q⟩:=h;cases rx
  cases ry
  obtain ⟨z,its,n,r,hl,e⟩:=I.lstM hH;obtain ⟨z2,its2,n2,r2,hl2,e2⟩:=I.lstM hB;refine PySem.P.add_list e e2 ?_ (by rw[yay,yay];lia);have ea:its.toArray++its2.toArray=(its++its2).toArray:=by simp
  rw[ea];exact #[.ref _,_,I.lnew (t':=s.toks) (r.append r2) (by rw[yan];lia),rfl,q _ I.fresh]
end
end L2
namespace L2
open PySem PySem.Spec PyProof.Rows
section
variable {κ:Type}[DecidableEq κ]
def valV (kvs:List (κ×V))(k:κ):Option V:=(kvs.find? λkv=>decide (kv.1=k)).map (·.2)
def putK (kvs:List (κ×V))(k:κ)(v:V):List (κ×V):=
  if (kvs.any λkv=>decide (kv.1=k))=true then kvs.map (λkv=>if kv.1=k then (kv.1,v) else kv) else kvs++[(k,v)]
def zcO {p:κ×V}{r:List (κ×V)}{k:κ}(e:p.1=k):valV (p::r) k=some p.2:=by simp[valV,yb4,e]
def zbC {p:κ×V}{r:List (κ×V)}{k:κ}(e:¬ p.1=k):valV (p::r) k=valV r k:=by simp[valV,yb4,e]
def zhV (k:κ):∀ kvs:List (κ×V),(kvs.any λkv=>decide (kv.1=k))=(valV kvs k).isSome
  | []=>rfl
  | p::r=>by
    rw[ybv];by_cases e:p.1=k
    · simp only[zcO e,yah e,Bool.true_or,Option.isSome_some]
    · rw[zbC e,yai e,Bool.false_or];exact zhV k r
def zds (kvs:List (κ×V))(k:κ)(v:V):(putK kvs k v).length<=kvs.length+1:=by
  unfold putK;split
  · rw[yab];lia
  · rw[yan,yaQ,yb5];lia
def zeY {kvs:List (κ×V)}{k:κ}(v:V)(h:valV kvs k=none):putK kvs k v=kvs++[(k,v)]:=by
  unfold putK;rw[zhV,h];exact if_neg .(k)
def RelO.isSome_eq {o:Option V}{u:Option Value}(r:RelO o u):o.isSome=u.isSome:=by
  cases o with
  | none=>cases u with
    | none=>rfl
    | some _=>exact (show False from r).elim
  | some _=>cases u with
    | none=>exact (show False from r).elim
    | some _=>rfl
def KV.val {kvs:List (κ×V)}{vs:List (κ×Value)}(r:KV kvs vs)(k:κ):RelO (valV kvs k) (valueAt vs k):=by
  unfold KV at r
  induction r with
  | nil=>exact True.intro
  | @cons p q ps qs h t ih=>
    obtain ⟨h1,h2⟩:=h;by_cases e:p.1=k
    · have e':q.1=k:=h1.symm.trans e
      have b:valueAt (q::qs) k=some q.2:=by simp[valueAt,yb4,e']
      rw[zcO e,b];exact h2
    · have e':¬ q.1=k:=λz=>e (h1.trans z)
      have b:valueAt (q::qs) k=valueAt qs k:=by simp[valueAt,yb4,e']
      rw[zbC e,b];exact ih
def KV.any {kvs:List (κ×V)}{vs:List (κ×Value)}(r:KV kvs vs)(k:κ):(kvs.any λkv=>decide (kv.1=k))=vs.any λkv=>decide (kv.1=k):=by
  unfold KV at r
  induction r with
  | nil=>rfl
  | cons h t ih=>rw[ybv,ybv,ih,h.1]
def KV.repl {kvs:List (κ×V)}{vs:List (κ×Value)}(r:KV kvs vs)(k:κ){y:V}{u:Value}(ry:RelV y u) :
    KV (kvs.map λkv=>if kv.1=k then (kv.1,y) else kv) (vs.map λkv=>if kv.1=k then (kv.1,u) else kv):=by
  unfold KV at r ⊢
  induction r with
  | nil=>exact .nil
  | @cons p q ps qs h t ih=>
    rw[yav,yav];refine .cons ?_ ih;obtain ⟨h1,h2⟩:=h;by_cases e:p.1=k
    · rw[if_pos e,if_pos (h1.symm.trans e)];exact #[h1,ry]
    · rw[if_neg e,if_neg (λz=>e (h1.trans z))];exact #[h1,h2]
def KV.put {kvs:List (κ×V)}{vs:List (κ×Value)}(r:KV kvs vs)(k:κ){y:V}{u:Value}(ry:RelV y u):KV (putK kvs k y) (stored vs k u):=by
  unfold putK stored;rw[r.any k];by_cases e:(vs.any λkv=>decide (kv.1=k))=true
  · rw[if_pos e,if_pos e];exact r.repl k ry
  · rw[if_neg e,if_neg e];exact Paired.snoc r #[rfl,ry]
def KV.length {kvs:List (κ×V)}{vs:List (κ×Value)}(r:KV kvs vs):kvs.length=vs.length:=Paired.length r
end
def zn3 {k:Key}{u:Value}(r:RelV (kV k) u):(zbg P w).is k u=true:=by
  cases k with
  | inl i=>obtain ⟨t,e⟩:=(show ∃ t,u=Value.int i t from r);subst e;exact zkn P w i t
  | inr x=>obtain ⟨t,e⟩:=(show ∃ t,u=Value.str x t from r);subst e;exact zkm P w x t
def zjw :∀{ks:List Key} {us:List Value},Vals (ks.map kV) us->ItemsAre (zbg P w) ks us
  | [],_,r=>by rw[yco]at r;cases r;exact .nil
  | k::ks,_,r=>by
    rw[yav]at r;cases r with
    | cons h t=>exact .cons (zn3 h) (zjw t)
abbrev KT (H:Hp):List (List Key×V)->List (List Key×Addr×Value)->Prop:=Paired λp q=>p.1=q.1/\H q.2.1=some (.tup (p.1.map kV))/\RelV p.2 q.2.2
def KT.val {kvs:List (List Key×V)}{xs:List (List Key×Addr×Value)}(r:KT H kvs xs)(k:List Key):RelO (valV kvs k) ((atKey xs k).map (·.2)):=by
  induction r with
  | nil=>exact True.intro
  | @cons p q ps qs h t ih=>
    obtain ⟨h1,_,h2⟩:=h;by_cases e:p.1=k
    · have e':q.1=k:=h1.symm.trans e
      have b:atKey (q::qs) k=some q.2:=by simp[atKey,yb4,e']
      rw[zcO e,b];exact h2
    · have e':¬ q.1=k:=λz=>e (h1.trans z)
      have b:atKey (q::qs) k=atKey qs k:=by simp[atKey,yb4,e']
      rw[zbC e,b];exact ih
def KT.repl {kvs:List (List Key×V)}{xs:List (List Key×Addr×Value)}(r:KT H kvs xs)(k:List Key){y:V}{u:Value}(ry:RelV y u) :
    KT H (kvs.map λkv=>if kv.1=k then (kv.1,y) else kv) (xs.map (putAt k u)):=by
  induction r with
  | nil=>exact .nil
  | @cons p q ps qs h t ih=>
    rw[yav,yav];refine .cons ?_ ih;obtain ⟨h1,h2,h3⟩:=h;unfold putAt;by_cases e:p.1=k
    · rw[if_pos e,if_pos (h1.symm.trans e)];exact #[h1,h2,ry]
    · rw[if_neg e,if_neg (λz=>e (h1.trans z))];exact #[h1,h2,h3]
def KT.put {kvs:List (List Key×V)}{xs:List (List Key×Addr×Value)}(r:KT H kvs xs)(k:List Key){b:Addr}{y:V}{u:Value}(hb:H b=some (.tup (k.map kV)))(ry:RelV y u) :
    KT H (putK kvs k y) (storedH xs k b u):=by
  have e:(kvs.any λkv=>decide (kv.1=k))=(atKey xs k).isSome:=by
    rw[zhV,(r.val k).isSome_eq,Option.isSome_map]
  unfold putK storedH;rw[e];by_cases q:(atKey xs k).isSome=true
  · rw[if_pos q,if_pos q];exact r.repl k ry
  · rw[if_neg q,if_neg q];exact Paired.snoc r #[rfl,hb,ry]
def KT.keeps {H':Hp}{kvs:List (List Key×V)}{xs:List (List Key×Addr×Value)}(r:KT H kvs xs)(ht:∀ b ys,H b=some (.tup ys)->H' b=some (.tup ys)):KT H' kvs xs:=
  Paired.mapP r λ_ _ z=>#[z.1,ht _ _ z.2.1,z.2.2]
section
variable {P:Program}{w:World}{H:Hp}{h:Heap}{a:Addr}
def zsW (ok:HOk P w H h)(e:Rd H a u):zbl P w H h a u:=e.ok ok
def zp8 {kvs:List (Key×V)}(ok:HOk P w H h)(e:Rd H a (.dK kvs)):kvs.length<=sizeLine/\(a==sysModules)=false/\∃ vs,KV kvs vs/\h.DictOf (zbg P w) a vs:=
  show zbl P w H h a (.dK kvs) from zsW ok e
def zso {kvs:List (Key×V)}(ok:HOk P w H h)(e:H a=some (.dK kvs)):kvs.length<=sizeLine/\(a==sysModules)=false/\∃ vs,KV kvs vs/\h.DictOf (zbg P w) a vs:=zp8 ok (.inl e)
def zlw {ks:List Key}(ok:HOk P w H h)(e:H a=some (.tup (ks.map kV))):(tupleKind (zbg P w)).is h ks a:=by
  obtain ⟨_,its,r,o,h1,h2,n,h3⟩:=(show zbl P w H h a (.tup (ks.map kV)) from ok a _ e);exact #[o,its.toArray,n,h1,h2,h3,by simpa using zjw r]
def zp6 {kvs:List (List Key×V)}(ok:HOk P w H h)(e:Rd H a (.dT kvs)):kvs.length<=sizeLine/\(a==sysModules)=false/\
    ∃ xs,KT H kvs xs/\h.DictOfH (tupleKind (zbg P w)) a xs:=by
  obtain ⟨z,y,xs,r,o,es,ep,h1,h2,h3,h4,h5⟩:=(show zbl P w H h a (.dT kvs) from zsW ok e);refine #[z,y,xs,r,o,es,ep,h1,h2,h3,h4,λx hx=>?_,h5];have all:∀{l:List (List Key×V)} {m:List (List Key×Addr×Value)},KT H l m->∀ x∈m,(tupleKind (zbg P w)).is h x.1 x.2.1:=by
    intro l m q
    induction q with
    | nil=>intro x hx;exact nomatch hx
    | @cons p q ps qs hq t ih=>
      intro x hx;rcases yaq.mp hx with e|hx
      · subst e
        exact zlw ok (by rw[<-hq.1];exact hq.2.1)
      · exact ih x hx
  exact all r x hx
def zuA {kvs:List (List Key×V)}(ok:HOk P w H h)(e:H a=some (.dT kvs)):kvs.length<=sizeLine/\(a==sysModules)=false/\
    ∃ xs,KT H kvs xs/\h.DictOfH (tupleKind (zbg P w)) a xs:=zp6 ok (.inl e)
end
def DGet (H:Hp)(a:Addr)(y:V)(r:Option V):Prop:=
  (∃ kvs k,Rd H a (.dK kvs)/\y=kV k/\r=valV kvs k)\/∃ kvs k b,Rd H a (.dT kvs)/\y=.ref b/\H b=some (.tup (k.map kV))/\r=valV kvs k
def DPut (H:Hp)(a:Addr)(y v:V)(H':Hp):Prop:=
  (∃ kvs k,H a=some (.dK kvs)/\y=kV k/\kvs.length<sizeLine/\H'=upd H a (.dK (putK kvs k v)))\/
  ∃ kvs k b,H a=some (.dT kvs)/\y=.ref b/\H b=some (.tup (k.map kV))/\kvs.length<sizeLine/\H'=upd H a (.dT (putK kvs k v))
def DGet.k {H:Hp}{a:Addr}{kvs:List (Key×V)}{k:Key}(e:H a=some (.dK kvs)):DGet H a (kV k) (valV kvs k):=.inl #[kvs,k,.inl e,rfl,rfl]
def DGet.t {H:Hp}{a b:Addr}{kvs:List (List Key×V)}{k:List Key}(e:H a=some (.dT kvs))(eb:H b=some (.tup (k.map kV))):DGet H a (.ref b) (valV kvs k):=.inr #[kvs,k,b,.inl e,rfl,eb,rfl]
def DPut.k {H:Hp}{a:Addr}{kvs:List (Key×V)}{k:Key}{v:V}(e:H a=some (.dK kvs))(hl:kvs.length<sizeLine):DPut H a (kV k) v (upd H a (.dK (putK kvs k v))):=.inl #[kvs,k,e,rfl,hl,rfl]
def DPut.t {H:Hp}{a b:Addr}{kvs:List (List Key×V)}{k:List Key}{v:V}(e:H a=some (.dT kvs))(eb:H b=some (.tup (k.map kV)))(hl:kvs.length<sizeLine) :
    DPut H a (.ref b) v (upd H a (.dT (putK kvs k v))):=.inr #[kvs,k,b,e,rfl,eb,hl,rfl]
section
variable {X:Cx}{pins:List (Addr×Obj)}{U:St}{H:Hp}{s:Shared}{a:Addr}{y v:V}{u r:Value}{o:Option V}{A:Around}{E:Value->Shared->Prop}
def Inv.big (I:Inv X pins U H s):sysModules<s.heap.objs.size:=by
  have h:mainGlobals<s.heap.objs.size:=(I.mod.glob.keeps I.bk).lt;exact Nat.lt_trans .(k) h
def zox {Q:Value->Shared->Prop}(hu:A.units+1<cLine)(I:Inv X pins U H s)(g:DGet H a y (some v))(ry:RelV y u)(h:∀ w' s',Inv X pins U H s'->RelV v w'->Q w' s') :
    wpAny .(d) A (getItem (.ref a) u) Q E s:=by
  rcases g with ⟨kvs,k,e,ey,l⟩|⟨kvs,k,b,e,ey,eb,l⟩
  · subst ey
    obtain ⟨z,hd,vs,rel,dd⟩:=zp8 I.hok e;obtain ⟨w',hw,rw'⟩:=RelO.some_of (v:=v) (o:=valueAt vs k) (by rw[l];exact rel.val k);exact wpAny_getItem_of (zn3 ry) dd.mapOf hw (h w' _ (I.tok _) rw')
  · subst ey
    cases (show u=Value.ref b from ry)
    obtain ⟨z,hd,xs,rel,dd⟩:=zp6 I.hok e;obtain ⟨w',hw,rw'⟩:=RelO.some_of (v:=v) (o:=(atKey xs k).map (·.2)) (by rw[l];exact rel.val k);obtain ⟨p,hp,hp2⟩:=ybR.mp hw;refine wpAny_getItem_heap (tupleKind_room_in1 hu) (zlw I.hok eb) dd hp ?_;rw[hp2];exact h w' _ (I.tok _) rw'
def zsp {Q:Value->Shared->Prop}(hu:A.units+1<cLine)(I:Inv X pins U H s)(g:DGet H a y o)(ry:RelV y u)(h:∀ s',Inv X pins U H s'->Q (.bool (!o.isSome)) s') :
    wpAny .(d) A (compareOp .NotIn u (.ref a)) Q E s:=by
  rcases g with ⟨kvs,k,e,ey,l⟩|⟨kvs,k,b,e,ey,eb,l⟩
  · subst ey
    obtain ⟨z,hd,vs,rel,dd⟩:=zp8 I.hok e;refine wpAny_notIn_of (zn3 ry) hd dd.mapOf ?_;rw[<-(rel.val k).isSome_eq,<-l];exact h _ (I.tok _)
  · subst ey
    cases (show u=Value.ref b from ry)
    obtain ⟨z,hd,xs,rel,dd⟩:=zp6 I.hok e;refine wpAny_notIn_heap (tupleKind_room_in1 hu) (zlw I.hok eb) hd dd ?_;have q:=(rel.val k).isSome_eq;rw[Option.isSome_map]at q;rw[<-q,<-l];exact h _ (I.tok _)
def zkC {h':Heap}{t':Nat}(I:Inv X pins U H s)(mu:Mut (H a))(hs:Heap.SameBut a s.heap h')(he:∃ q,h'.get? a=some q)(new:zbl X.prog X.w (upd H a ob) h' a ob) :
    Inv X pins U (upd H a ob) { s with heap:=h',toks:=t' }:=
  I.write (x:=a) (e:=a) mu .(Q) (λb q hb z=>(hs.2 b hb).trans z) he new
def zqK {h':Heap}{kvs:List (Key×V)}{vs:List (Key×Value)}(z:kvs.length<=sizeLine)(hd:(a==sysModules)=false)(rel:KV kvs vs)(dd:h'.DictOf (zbg P w) a vs) :
    zbl P w H' h' a (.dK kvs):=#[z,hd,vs,rel,dd]
def zow {Q:Unit->Shared->Prop}(hu:A.units+1<cLine)(I:Inv X pins U H s)(g:DPut H a y v H')(ry:RelV y u)(rv:RelV v r)(h:∀ s',Inv X pins U H' s'->Q () s') :
    wpAny .(d) A (setItem (.ref a) u r) Q E s:=by
  rcases g with ⟨kvs,k,e,ey,l,eH⟩|⟨kvs,k,b,e,ey,eb,l,eH⟩
  · subst ey eH
    obtain ⟨z,hd,vs,rel,dd⟩:=zso I.hok e;have hz:vs.length<=sizeLine:=by rw[<-rel.length];exact z
    have hl:(putK kvs k v).length<=sizeLine:=by have:=zds kvs k v;lia
    refine wpAny_setItem_pairs (hsz:=hz) (zn3 ry) dd λh' dd' hs=>h _ ?_;have he:∃ q,h'.get? a=some q:=let ⟨q,_,_,hq,_⟩:=dd';#[q,hq];exact zkC I (by rw[e];exact True.intro) hs he (zqK hl hd (rel.put k rv) dd')
  · subst ey eH
    cases (show u=Value.ref b from ry)
    obtain ⟨z,hd,xs,rel,dd⟩:=zuA I.hok e;have hz:xs.length<=sizeLine:=by rw[<-Paired.length rel];exact z
    have hl:(putK kvs k v).length<=sizeLine:=by have:=zds kvs k v;lia
    refine wpAny_setItem_heap (hsz:=hz) (tupleKind_room_in1 hu) (zlw I.hok eb) dd λh' dd' hs=>h _ ?_;obtain ⟨q,es,ep,hq,h2,h3,h4,_,h5⟩:=dd';refine zkC I (by rw[e];exact True.intro) hs #[q,hq] #[hl,hd,_,(rel.put k eb rv).keeps λc ys ec=>?_,q,es,ep,hq,h2,h3,h4,h5];rw[zag (ztt ec e nofun)];exact ec
end
def NoSl (i:Expr):Prop:=∀ ov iv,subscripted i false ov iv=operate [ov,iv] (getItem ov iv)
def zrh {prog:Program}{w:World}{A:Around}{E:Value->Shared->Prop}{s:Shared}{env:Env}{value:Expr}{pos:Pos}{T id:String}{Q:Value->Shared->Prop}
    (hl:typeLookup (.type T) "__getitem__" = pure (some (.builtin id))) (hs:NoSl slice)
    (h:wpAny .(e) A (eval value env) (λo s₁=>wpAny .(e) A (eval slice env) (λi s₂=>s₂.TypeIs o T/\wpAny .(e) A (getItem o i) Q E s₂) E s₁) E s) :
    wpAny .(e) A (eval (.Subscript value slice pos) env) Q E s:=by
  refine Subscript_ (wpAny_mono h (λo s₁ h₁=>wpAny_mono h₁ (λi s₂ h₂=>?_) λ_ _ x=>x) λ_ _ x=>x);obtain ⟨hT,h₂⟩:=h₂;unfold subscriptTail;refine wpAny_bind ?_;rw[getitemInPython_of_ne hT.not_modules];refine wpAny_bind (wpAny_specialOf hT hl ?_);have fin:wpAny .(e) A (subscripted slice false o i) (λr s₃=>wpAny .(e) A (letTemporaryGo value o r >>= λ_=>pure r) Q E s₃) E s₂:=by
    rw[hs o i];exact wpAny_operating (wpAny_mono h₂ (λr s₃ h₃=>wpAny_bind (wpAny_letTemporaryGo (wpAny_pure h₃))) λ_ _ x=>x)
  first
    | exact wpAny_pure (wpAny_bind fin)
    | exact wpAny_bind (wpAny_pure (wpAny_bind fin))
    | exact wpAny_bind fin
def zkB (I:Inv X pins U H s)(g:DGet H a y o):s.TypeIs (.ref a) "dict":=by
  rcases g with ⟨kvs,k,e,_,_⟩|⟨kvs,k,b,e,_,_,_⟩
  · obtain ⟨_,_,vs,_,dd⟩:=zp8 I.hok e
    exact dd.typeIs
  · obtain ⟨_,_,xs,_,dd⟩:=zp6 I.hok e
    exact dd.typeIs
inductive zqR (Q:VK)(x:V)(y:V)(H2:Hp):Prop
  | c:∀ a v,x=.ref a->DGet H2 a y (some v)->Q v H2->zqR Q x y H2
def zun (td ty:TE):TE:=λU H Q=>td U H λx H1=>ty U H1 λy H2=>zqR Q x y H2
inductive zqT (D:Ends)(U:St)(v:V)(x:V)(y:V)(H3:Hp):Prop
  | c:∀ a H4,x=.ref a->DPut H3 a y v H4->D.nx U H4->zqT D U v x y H3
def zup (td ty tv:TE):TS:=λD U H=>tv U H λv H1=>td U H1 λx H2=>ty U H2 λy H3=>zqT D U v x y H3
section
variable {X:Cx}{o i e value:Expr}{pos pos' tpos:Pos}{td ty tv:TE}
def zeB (hu:X.A.units+1<cLine)(ho:PE X o td)(hi:PE X i ty)(hs:NoSl i):PE X (.Subscript o i pos) (zun td ty):=by
  intro pins s U H Q I h;refine zrh PySem.F.slot_dict_getitem.lookup hs (thn (ho pins s U H _ I h) λu s1 zq0=>?_);obtain ⟨x,H1,I1,rx,q1⟩:=zq0;refine thn (hi pins s1 U H1 _ I1 q1) λiv s2 zq1=>?_;obtain ⟨y,H2,I2,ry,a,v,ex,g,q2⟩:=zq1;subst ex;obtain rfl:u=Value.ref a:=rx;exact #[zkB I2 g,zox hu I2 g ry λw' s3 I3 rw'=>#[v,H2,I3,rw',q2]]
def zfE (hu:X.A.units+1<cLine)(ho:PE X o td)(hi:PE X i ty)(hv:PE X value tv)(hs:swapsWith value (some (.Subscript o i pos')) pos.line X.env=pure false) :
    PS X (.Assign [.Subscript o i pos'] value pos) (zup td ty tv):=by
  intro pins s U H D I h;refine wpAny_Assign_Subscript (thn (hv pins s U H _ I h) λr s1 zq0=>?_) hs;obtain ⟨v,H1,I1,rv,q1⟩:=zq0;refine thn (ho pins s1 U H1 _ I1 q1) λu s2 zq1=>?_;obtain ⟨x,H2,I2,rx,q2⟩:=zq1;refine thn (hi pins s2 U H2 _ I2 q2) λiv s3 zq2=>?_;obtain ⟨y,H3,I3,ry,a,H4,ex,g,q3⟩:=zq2;subst ex;obtain rfl:u=Value.ref a:=rx;exact zow hu I3 g ry rv λs4 I4=>#[U,H4,I4,q3]
end
def zlE (h:Heap)(hb:sysModules<h.objs.size):zbl P w H (h.push { cls:=.type "dict",data:=.dict (List.toArray []) }) h.objs.size (.dK []):=
  #[yaF _,beq_eq_false_iff_ne.mpr (Ne.symm (yau hb)),[],.nil,Heap.DictOf.new h]
def zp7 (h:Heap)(hb:sysModules<h.objs.size):zbl P w H (h.push { cls:=.type "dict",data:=.dict (List.toArray []) }) h.objs.size (.dT []):=
  #[yaF _,beq_eq_false_iff_ne.mpr (Ne.symm (yau hb)),[],.nil,_,(List.toArray []),0,yaD _ rfl,#[rfl,rfl,rfl],rfl,rfl,ybw]
def zsR:TE:=λ_ H Q=>∀ p,H p=none->Q (.ref p) (upd H p (.dK []))
def zsQ:TE:=λ_ H Q=>∀ p,H p=none->Q (.ref p) (upd H p (.dT []))
section
variable {X:Cx}{pos:Pos}
def zlg:PE X (.Dict [] [] pos) zsR:=λpins s U H Q I h=>
  wpAny_Dict_empty #[.ref s.heap.objs.size,_,I.laid (a:=s.heap.objs.size) (o:=.dK []) (t':=s.toks) (λ_ _ q=>yam _ q) (yaa _) (zlE s.heap I.big),rfl,h _ (I.hok.fresh (yaa _))]
def zpj:PE X (.Dict [] [] pos) zsQ:=λpins s U H Q I h=>
  wpAny_Dict_empty #[.ref s.heap.objs.size,_,I.laid (a:=s.heap.objs.size) (o:=.dT []) (t':=s.toks) (λ_ _ q=>yam _ q) (yaa _) (zp7 s.heap I.big),rfl,h _ (I.hok.fresh (yaa _))]
end
def zmP:List (TE×TE)->St->Hp->(List (V×V)->Hp->Prop)->Prop
  | [],_,H,Q=>Q [] H
  | (tk,tv)::r,U,H,Q=>tk U H λx H1=>tv U H1 λy H2=>zmP r U H2 λps H3=>Q ((x,y)::ps) H3
abbrev VV:List (V×V)->List (Value×Value)->Prop:=Paired λp q=>RelV p.1 q.1/\RelV p.2 q.2
def PPs (X:Cx)(pos:Pos)(keys:List (Option Expr))(values:List Expr)(trs:List (TE×TE)):Prop:=
  ∀(pins:List (Addr×Obj)) (s:Shared) (U:St) (H:Hp) (Q:List (V×V)->Hp->Prop),Inv X pins U H s->zmP trs U H Q->
    wpAny .(d) X.A (evalPairs (pairTrees keys values X.env pos)) (λvs s'=>∃ ps H',Inv X pins U H' s'/\VV ps vs/\Q ps H') X.xe s
def zrA :PPs X pos [] [] []:=λpins s U H Q I h=>pairTrees_nil_walk #[[],H,I,.nil,h]
def ziu {k:Expr}(hk:PE X k tk)(hv:PE X v tv)(hr:PPs X pos ks vs trs) :
    PPs X pos (some k::ks) (v::vs) ((tk,tv)::trs):=λpins s U H Q I h=>
  pairTrees_cons_walk (thn (hk pins s U H _ I h) λu s1 ⟨x,H1,I1,rx,q1⟩=>thn (hv pins s1 U H1 _ I1 q1) λw2 s2 ⟨y,H2,I2,ry,q2⟩=>
    thn (hr pins s2 U H2 _ I2 q2) λws s3 ⟨ps,H3,I3,rel,q3⟩=>#[(x,y)::ps,H3,I3,.cons #[rx,ry] rel,q3])
def zfY (kvs more:List (Key×V)):List (Key×V):=more.foldl (λacc kv=>putK acc kv.1 kv.2) kvs
def KV.merge:∀{more:List (Key×V)} {rs:List (Key×Value)} {kvs:List (Key×V)} {vs:List (Key×Value)},KV more rs->KV kvs vs->KV (zfY kvs more) (merged vs rs):=by
  intro more rs kvs vs r;unfold KV at r
  induction r generalizing kvs vs with
  | nil=>intro q;exact q
  | @cons p q ps qs h t ih=>
    intro r0;have e:KV (putK kvs p.1 p.2) (stored vs q.1 q.2):=by
      have:=r0.put p.1 h.2;rw[<-h.1];exact this
    exact ih e
def zfd:∀(more kvs:List (Key×V)),(zfY kvs more).length<=kvs.length+more.length
  | [],kvs=>by show kvs.length<=kvs.length+0;lia
  | p::r,kvs=>by
    have h1:=zfd r (putK kvs p.1 p.2);have h2:=zds kvs p.1 p.2;show (zfY (putK kvs p.1 p.2) r).length<=_;rw[yaQ];lia
def zhP :∀{kvs:List (Key×V)} {ws:List (Value×Value)},VV (kvs.map λkv=>(kV kv.1,kv.2)) ws->∃ rs,Carries (zbg P w) ws rs/\KV kvs rs
  | [],_,r=>by rw[yco]at r;cases r;exact #[[],True.intro,.nil]
  | p::kvs,_,r=>by
    rw[yav]at r;cases r with
    | @cons a b as bs h t=>
      obtain ⟨rs,c,q⟩:=zhP (P:=P) (w:=w) t;obtain ⟨b1,b2⟩:=b;exact #[(p.1,b2)::rs,#[zn3 h.1,rfl,c],.cons #[rfl,h.2] q]
def zum (trs:List (TE×TE)):TE:=λU H Q=>∀ p,H p=none->zmP trs U (upd H p (.dK [])) λps H2=>H2 p=some (.dK [])/\∃ kvs:List (Key×V),ps=kvs.map (λkv=>(kV kv.1,kv.2))/\kvs.length<=15/\Q (.ref p) (upd H2 p (.dK (zfY [] kvs)))
def zrF (h:PPs X pos keys values trs)(hall:keys.all (·.isSome)=true)(hl:keys.length=values.length)(h0:keys≠[])
    (h15:keys.length<=15):PE X (.Dict keys values pos) (zum trs):=by
  intro pins s U H Q I q;have hn:=I.hok.fresh (yaa s.heap.objs.size);have I1:=I.laid (a:=s.heap.objs.size) (o:=.dK []) (h':=s.heap.push { cls:=.type "dict",data:=.dict (List.toArray []) }) (t':=s.toks) (λ_ _ q=>yam _ q) (yaa _) (zlE s.heap I.big);refine wpAny_Dict_walk (knd:=zbg X.prog X.w) hall hl h0 h15 (thn (h pins _ U _ _ I1 (q _ hn)) λws s2 zq0=>?_);obtain ⟨ps,H2,I2,rel,e,kvs,ep,lk,q2⟩:=zq0;subst ep;obtain ⟨rs,c,rk⟩:=zhP (P:=X.prog) (w:=X.w) rel;obtain ⟨z,hd,vs0,r0,dd⟩:=zso I2.hok e;cases r0
  refine #[rs,c,dd,λh' dd' hs=>#[.ref s.heap.objs.size,_,?_,rfl,q2]];have hz:(zfY [] kvs).length<=sizeLine:=by
    have h1:=zfd kvs [];rw[yb5]at h1;rw[sizeLine_eq];lia
  have he:∃ q,h'.get? s.heap.objs.size=some q:=let ⟨q,_,_,hq,_⟩:=dd';#[q,hq];exact zkC I2 (by rw[e];exact True.intro) hs he (zqK hz hd (rk.merge .nil) dd')
end L2
namespace Att
open PySem PySem.W PySem.Calls PyProof.Rows
def zgV {P:Params}{h:Heap}:∀(ns:List Int) (vs:List Value),WellAll P h vs (ns.map WData.int)->IntsAre vs ns:=by
  intro ns
  induction ns with
  | nil=>
    intro vs w;rw[yco]at w;cases w
    exact .nil
  | cons n ns ih=>
    intro vs w;rw[yav]at w;cases w with
    | cons a b=>
      cases a
      exact .cons _ _ (ih _ b)
def zm9 {l:OpenLaw}{n:Nat}(hn:l.most=some n){P:Params}{h:Heap}{args:List WData}{vals:List Value}
    (hpre:l.row.toRowW.claim.pre args=true) (hwl:WellAll P h vals args) :
    ∃ a vs ns,vals=[Value.ref a]/\args=[WData.list (ns.map WData.int)]/\h.get? a=some { cls:=.type "list",data:=.seq vs.toArray }/\IntsAre vs ns/\ns.length<=n:=by
  have hsh:WShape.hasAll [] args [.list .int]=true:=(pre_splitW hpre).1;have hc:l.pre.holds [] { args:=args }=true:=(pre_splitW hpre).2;obtain ⟨d,r,rfl,h1,h2⟩:=hasAllW_cons hsh;obtain rfl:=hasAllW_nil h2;obtain ⟨xs,rfl,h3⟩:=hasW_list h1;obtain ⟨ns,rfl⟩:=items_int h3;have hlen:ns.length<=n:=by
    unfold OpenLaw.pre at hc;have h4:(WTm.not (.lt (.lit (.int (n:Int))) (.len (.arg 0)))).holds [] { args:=[.list (ns.map .int)] }=true:=by
      have h4:=(holds_andW hc).1;rw[hn]at h4;exact h4
    have h5:=condW_of h4 (w_not (w_lt w_lit (w_len_list (w_arg rfl))));rw[yab]at h5;refine yaN λq=>?_;have q':(n:Int)<((ns.length:Nat):Int):=by lia
    first
      | (rw[yah q']at h5;exact absurd h5 (by decide))
      | (simp at h5;lia)
  cases hwl with
  | cons w1 w2=>
    cases w2
    cases w1 with
    | list ho hall=>exact #[_,_,ns,rfl,rfl,ho,zgV ns _ hall,hlen]
def znj (l:OpenLaw)(args:List WData):l.row.toRowW.claim.post args (.bool true) args=true:=
  postW_of (r:=l.row.toRowW) (X:=(true==true))
    (show WShape.has [] (.bool true) .bool=true by first|rfl|decide|simp[WShape.has,WShape.arms,WShape.armsAll])
    (show (WTm.eq .res (.lit (.bool true))).value [] { args:=args,res:=some (.bool true),after:=args }=some (.bool (true==true)) from w_eq_bool (w_res rfl) w_lit) rfl
def attach_call {l:OpenLaw}{n:Nat}{q:Program}{loose:List Str}{XP:(Str->Option Value)->Heap->Prop}{YP:World->Heap->Prop}{d:DefRec}
    (hn:l.most=some n) (hdf:d.params.defaults=[])
    (call:∀(w:World) (s₀ s₁:Shared) (mg mb:Str->Option Value) (fa:Addr) (o:Obj) (pm cd doc:Value) (a:Addr) (vs:List Value) (ns:List Int),
      Ground q loose [] XP w s₀ mg mb s₁.heap->YP w s₁.heap->
      s₁.heap.get? fa=some o->o.data=.func (docDef d.name d.params d.body d.scope pm cd doc)->s₁.heap.CodeRec cd d.name->mg d.name=some (.ref fa)->
      s₁.heap.get? a=some { cls:=.type "list",data:=.seq vs.toArray }->IntsAre vs ns->ns.length<=n->s₁.gens=(List.toArray [])->
      codeAny (model l.prog w) callerA (.call (.ref fa) #[[.ref a],[]]) (λr s'=>r=.ok (.ret (.bool true))/\OldK s₁.heap s'.heap/\s'.os=s₁.os/\AllBare s'.gens) s₁) :
    WalkO q loose XP YP l.row.toRowW d [] (λf vs=>PySem.call f vs):=by
  intro w s₀ s₁ mg mb G Y fa o pm cd doc dV kV ho hd hcd hD hmg hg args vals as hpre hlay hrd hwl hlo;obtain rfl:dV=.none:=Dflts.none hD hdf;obtain rfl:kV=.none:=Dflts.noKw hD;obtain ⟨a,vs,ns,rfl,rfl,hobj,hints,hlen⟩:=zm9 hn hpre hwl;refine enter_call (codeAny_mono (call w s₀ s₁ mg mb fa o pm cd doc a vs ns G Y ho (fd_plain hd) hcd hmg hobj hints hlen hg) λr s' hq=>?_);obtain ⟨rfl,h2,h3,h4⟩:=hq;exact #[.inl #[.bool true,.bool true,[],rfl,λ_=>rfl,.bool true,znj l _,λ_=>#[List.Pairwise.nil,λ_ hm=>(nomatch hm)]],h2,h3,h4]
end Att
namespace L2
open PySem PySem.Spec PyProof.Rows
def ziZ:∀{vs:List Value} {ns:List Int},IntsAre vs ns->Vals .(E) vs
  | _,_,.nil=>.nil
  | _,_,.cons n t h=>.cons #[t,rfl] (ziZ h)
end L2
namespace L2
open PySem PySem.Spec PyProof.Rows
def zdS (s:Stmt)(j:Nat):Stmt:=match s with
  | .ClassDef _ _ _ body _ _ _ _ _ _ _=>body.getD j (.Pass #[0,0,0,0])
  | _=>.Pass #[0,0,0,0]
def zbX (s:Stmt):Arguments:=match s with
  | .FunctionDef _ a _ _ _ _ _ _ _ _=>a
  | _=>{ posonlyargs:=[],args:=[],vararg:=none,kwonlyargs:=[],kw_defaults:=[],kwarg:=none,defaults:=[] }
def za3 (s:Stmt):List Stmt:=match s with
  | .FunctionDef _ _ b _ _ _ _ _ _ _=>b
  | _=>[]
def zaj (s:Stmt):Scope:=match s with
  | .FunctionDef _ _ _ _ _ _ sc _ _ _=>sc
  | _=>{ kind:=.function,names:=[],isGenerator:=false,isCoroutine:=false }
abbrev CX0:CXT:=λ_ _ _ _ _ _=>False
abbrev E0:XK:=λ_ _ _=>False
def znm :zft CX0 X E0:=λ_ _ _ _ _ _ _ h=>h.elim
structure Fun (K:Frag)(x qual:Str)(st:Stmt)(f:Addr)(fd:FuncData):Prop where
  ex:∃(oc:Value) (od:Option Addr) (kV doc pm:Value) (an:Option Addr) (cdv ct:Value) (osl:Array (Option Value)),
    fd=fnOf x qual (zbX st) (za3 st) (zaj st) .none kV doc pm an cdv ct/\K.lookup f=some #[oc,od,.func fd,osl]/\codeIn K cdv qual=true
  kp:keepIn K (.ref f)=true
section
variable {P:Program}{w:World}{K:Frag}{mg:Str->Option Value}{base:Heap}
def Fun.ok {x:Str}{st:Stmt}{fd:FuncData}{N:List Str}{k:Nat}{sp:Sp}(F:Fun K x qual st f fd)(S:zar N ps (zaj st))(len:∀ vs H Q E,sp vs H Q E->vs.length=ps.length)
    (hbody:∀(cdv:Value) (A:Around) (outer:List Env) (s:Shared) (H:Hp) (vs:List V) (Q:VK) (E:XK),Room k (A.deeper (envOfC qual (zaj st) s.heap.objs.size f cdv))->sp vs H Q E->
      ∃ t,PSs (cxOf CX0 P w K mg base N qual (zaj st) f cdv A outer s H E).nox (za3 st) t/\t { nx:=λ_ H'=>Q .non H',rt:=Q } (zdb N vs) H):FnOk P w K mg base CX0 (k+1) f fd ps sp:=by
  obtain ⟨oc,od,kV,doc,pm,an,cdv,ct,osl,rfl,lk,hcd⟩:=F.ex;refine zp5 lk hcd S len λA outer s H vs Q E hr hsp=>?_;obtain ⟨t,h,q⟩:=hbody cdv A outer s H vs Q E hr hsp;exact #[t,h.nox,q]
def Fun.binds {x:Str}{st:Stmt}{fd:FuncData}{ps:List Str}(F:Fun K x qual st f fd)
    (h:∀(kV doc pm:Value) (an:Option Addr) (cdv ct:Value) (us:List Value),us.length=ps.length->bindArgs (fnOf x qual (zbX st) (za3 st) (zaj st) .none kV doc pm an cdv ct) #[us,[]]=pure (ps.zip us)):zdx K fd ps []:=by
  obtain ⟨oc,od,kV,doc,pm,an,cdv,ct,osl,rfl,lk,hcd⟩:=F.ex;exact .all (h kV doc pm an cdv ct)
def zgX {x qual:Str}{st:Stmt}{f:Addr}{oc:Value}{od an:Option Addr}{osl:Array (Option Value)}{kV doc pm cdv ct:Value}(l:K.lookup f=some #[oc,od,.func (fnOf x qual (zbX st) (za3 st) (zaj st) .none kV doc pm an cdv ct),osl])
    (c:codeIn K cdv qual=true) (k:keepIn K (.ref f)=true):Fun K x qual st f (fnOf x qual (zbX st) (za3 st) (zaj st) .none kV doc pm an cdv ct):=#[#[oc,od,kV,doc,pm,an,cdv,ct,osl,rfl,l,c],k]
end
def zfh {k:Nat}(hr:Room k A):A.units+1<cLine:=yaJ (yaK (by decide:1<=64) _) hr.units
def zap {n:Nat}(h:n<=1000):n<sizeLine:=yaJ h .(k)
section
variable {X:Cx}
def pv (i:Nat){x:Str}{pos:Pos}(hN:X.N[i]?=some x:=by rfl)(hv:Vis X.env.scope x:=by first|exact Or.inl rfl|exact Or.inr (Or.inl rfl)|exact Or.inr (Or.inr rfl))(hd: .(r)=false:=by decide)
    (hcd:(x==("__classdict__" : Str))=false:=by decide):PE X (.Name x pos) (tVar i):=zs9 hN hv hd hcd
end
def iteF {A B:Prop}(h:B):if false=true then A else B:=by
  rw[if_neg yaC];exact h
def iteT {A B:Prop}(h:A):if true=true then A else B:=by
  rw[if_pos rfl];exact h
def ite2 {c A B:Prop}[Decidable c](h1:c->A)(h2:¬ c->B):if c then A else B:=by
  by_cases h:c
  · rw[if_pos h]
    exact h1 h
  · rw[if_neg h]
    exact h2 h
def zkv {c A B:Prop}[Decidable c](hc:c)(h:B):if (!decide c)=true then A else B:=by
  rw[yah hc];exact iteF h
def Same (H H':Hp):Prop:=∀ b o,H b=some o->H' b=some o
def Same.trans (a:Same H H1)(b:Same H1 H2):Same H H2:=λc o h=>b c o (a c o h)
def Same.free (e:Same H H'){l:Addr}(h:H' l=Option.none):H l=Option.none:=by
  cases q:H l with
  | none=>rfl
  | some o=>
    rw[e l o q]at h;cases h
def Same.seq {K:Frag}{a:Addr}(e:Same H H')(h:SqL K H a xs):SqL K H' a xs:=by
  rcases h with (h|⟨o,h⟩)|h
  · exact .inl (.inl (e _ _ h))
  · exact .inl (.inr #[o,e _ _ h])
  · exact .inr h
end L2
namespace Tim
open PySem PyProof.Rows
section
variable {prog:Program}{w:World}{A:Around}{E:Value->Shared->Prop}{s:Shared}{κ:KeyKind}{kd:SortKind}{a₀:Array Keyed}
def LtG (prog:Program)(w:World)(A:Around)(s:Shared)(κ:KeyKind)(kd:SortKind):Prop:=
 ∀(E:Value->Shared->Prop) (x y:Value) (a b:κ.α) (Q:Bool->Shared->Prop),κ.keyOf x=some a->κ.keyOf y=some b->Q (κ.blt a b) s->wpAny .(e) A (keyLt' kd x y) Q E s
def ky (κ:KeyKind)(p:Keyed):κ.α:=(κ.keyOf p.1).getD κ.dflt
def Keyd (κ:KeyKind)(p:Keyed):Prop:=∃ a,κ.keyOf p.1=some a
def Keyd.eq (h:Keyd κ p):κ.keyOf p.1=some (ky κ p):=by
 obtain ⟨a,e⟩:=h;unfold ky;rw[e];rfl
def lt_G {st:SortSt}{Q:Option Bool->SortSt->Prop}(hO:LtG prog w A s κ kd)(hk:kindOf st=kd)(hx:Keyd κ x)(hy:Keyd κ y)(h:Q (some (κ.blt (ky κ x) (ky κ y))) st):wpS .(e) A E s (lt' x y) Q st:=by
 rw[lt'_eq];refine wpS_bind (wpS_get ?_);rw[hk];refine wpS_bind (wpS_lift (wpAny_attempt (hO _ x.1 y.1 _ _ _ hx.eq hy.eq #[rfl,?_])));exact wpS_pure h
def zbk {xs:Array Keyed}{i:Nat}{st:SortSt}{Q:Keyed->SortSt->Prop}(hi:i<xs.size)(h:Q xs[i] st):wpS .(e) A E s (elem' xs i) Q st:=by
 rw[elem'_eq,ybl hi];exact wpS_pure h
structure TB (κ:KeyKind)(kd:SortKind)(n:Nat)(st:SortSt):Prop where
 kind:kindOf st=kd
 keys:∀ p∈(arrOf st).toList,Keyd κ p
 failed:failedOf st=none
 size: .(i).size=n
def kAt (κ:KeyKind)(xs:Array Keyed)(i:Nat):κ.α:=match xs[i]? with
 | some p=>ky κ p
 | none=>κ.dflt
def zbm {xs:Array Keyed}{i:Nat}(h:i<xs.size):kAt κ xs i=ky κ xs[i]:=by
 unfold kAt;rw[ybl h]
def zbA {xs ys:Array Keyed}{i j:Nat}(h:xs[i]?=ys[j]?):kAt κ xs i=kAt κ ys j:=by
 unfold kAt;rw[h]
def zju {i j:Nat}{st:SortSt}{Q:Option Bool->SortSt->Prop}(hO:LtG prog w A s κ kd)(hB:TB κ kd n st)(hi:i<n)(hj:j<n)(h:Q (some (κ.blt (kAt κ .(i) i) (kAt κ .(i) j))) st):wpS .(e) A E s (ltAt' i j) Q st:=by
 have hi':i< .(i).size:=by rw[hB.size];exact hi
 have hj':j< .(i).size:=by rw[hB.size];exact hj
 rw[ltAt'_eq];refine wpS_bind (wpS_get ?_);refine wpS_bind (zbk hi' (wpS_bind (zbk hj' ?_)));refine lt_G hO hB.kind (hB.keys _ .(h)) (hB.keys _ .(h)) ?_;rw[zbm hi',zbm hj']at h;exact h
def Up (κ:KeyKind)(xs:Array Keyed)(lo hi:Nat):Prop:=∀ i j,lo<=i->i<=j->j<hi->κ.kle (kAt κ xs i) (kAt κ xs j)
def Dn (κ:KeyKind)(xs:Array Keyed)(lo hi:Nat):Prop:=∀ i j,lo<=i->i<=j->j<hi->κ.kle (kAt κ xs j) (kAt κ xs i)
structure Off (xs ys:Array Keyed)(lo hi:Nat):Prop where
 perm:ys.Perm xs
 out:∀ k,k<lo\/hi<=k->ys[k]?=xs[k]?
def Off.refl (xs:Array Keyed)(lo hi:Nat):Off xs xs lo hi:=#[Array.Perm.refl _,λ_ _=>rfl]
def Off.trans {lo:Nat}(a:Off xs ys lo hi)(b:Off ys zs lo hi):Off xs zs lo hi:=#[b.perm.trans a.perm,λk h=>(b.out k h).trans (a.out k h)]
def Off.wide {lo lo' hi':Nat}(a:Off xs ys lo hi)(h1:lo'<=lo)(h2:hi<=hi'):Off xs ys lo' hi':=#[a.perm,λk h=>a.out k .(a)]
def Off.size {lo:Nat}(a:Off xs ys lo hi):ys.size=xs.size:=a.perm.size_eq
def TB.off {lo:Nat}{st:SortSt}(hB:TB κ kd n st)(h:Off .(i) ys lo hi):TB κ kd n (setArr st ys):=
 #[hB.kind,λp hp=>hB.keys p ((yc6.mp h.perm).mem_iff.mp hp),hB.failed,h.size.trans hB.size]
def zc8 {xs:Array Keyed}{j:Nat}(hj:j<=xs.size):Off xs (mirror xs i j ((j-i)/2)) i j:=#[mirror_perm _ _ _ _,λk hk=>by rw[getElem?_mirror_all hj,if_neg .(a)]]
def zfH {xs:Array Keyed}{i j k:Nat}(hj:j<=xs.size)(hk:i<=k/\k<j):kAt κ (mirror xs i j ((j-i)/2)) k=kAt κ xs (i+j-1-k):=by
 apply zbA;rw[getElem?_mirror_all hj,if_pos hk]
def zku {lo k:Nat}(h:Off xs ys lo hi)(hk:k<lo\/hi<=k):kAt κ ys k=kAt κ xs k:=zbA (h.out k hk)
def ziK {xs:Array Keyed}{i j:Nat}(hj:j<=xs.size)(he:∀ k,i<=k->k<j->kAt κ xs k=kAt κ xs (j-1))(k:Nat):kAt κ (mirror xs i j ((j-i)/2)) k=kAt κ xs k:=by
 by_cases hk:i<=k/\k<j
 .rw[zfH hj hk,he _ .(a) .(a),he k hk.1 hk.2]
 .exact zku (zc8 hj) .(a)
def zhU {i j:Nat}{st:SortSt}{Q:Unit->SortSt->Prop}(h:Q () (setArr st (mirror .(i) i j ((j-i)/2)))):wpS .(e) A E s (reverseSlice' i j) Q st:=by
 rw[reverseSlice'_eq];exact wpS_modify h
def zda {U:Type}{n:String}{Q:Unit->U->Prop}{st:U}(h:Q () st):wpS .(e) A E s (liftM (rule n):StateT U Sem Unit) Q st:=wpS_lift (wpAny_rule #[rfl,h])
end
end Tim
namespace Tim
open PySem PyProof.Rows
section
variable {prog:Program}{w:World}{A:Around}{E:Value->Shared->Prop}{s:Shared}{κ:KeyKind}{kd:SortKind}
def zkN (κ:KeyKind)(st:SortSt)(lo least nrem:Nat)(r:Option Nat)(st':SortSt):Prop:=
 ∃ n ys,r=some n/\least<=n/\n<=nrem/\st'=setArr st ys/\Off .(i) ys lo (lo+n)/\Up κ ys lo (lo+n)
def zsJ {lo:Nat}:Up κ xs lo (lo+1):=λi j h1 h2 h3=>by
 have:i=j:=by lia
 subst this;exact KeyOrd.kle_refl _
def Up.more {lo:Nat}(h:Up κ xs lo hi)(hlo:lo<hi)(hn:κ.kle (kAt κ xs (hi-1)) (kAt κ xs hi)):Up κ xs lo (hi+1):=λi j h1 h2 h3=>by
 by_cases hj:j<hi
 .exact h i j h1 h2 hj
 .have e:=ybm (ybA h3) (yaN hj);subst e;by_cases hi':i=j
  .subst hi';exact KeyOrd.kle_refl _
  .exact KeyOrd.kle_trans (h i (j-1) h1 (ybf (yaL h2 hi')) (ya5 hlo)) hn
def Dn.more {lo:Nat}(h:Dn κ xs lo hi)(hlo:lo<hi)(hn:κ.kle (kAt κ xs hi) (kAt κ xs (hi-1))):Dn κ xs lo (hi+1):=λi j h1 h2 h3=>by
 by_cases hj:j<hi
 .exact h i j h1 h2 hj
 .have e:=ybm (ybA h3) (yaN hj);subst e;by_cases hi':i=j
  .subst hi';exact KeyOrd.kle_refl _
  .exact KeyOrd.kle_trans hn (h i (j-1) h1 (ybf (yaL h2 hi')) (ya5 hlo))
def zqq {st:SortSt}{lo n nrem:Nat}{Q:Option (Option Nat)×Nat->SortSt->Prop}(hO:LtG prog w A s κ kd)(hB:TB κ kd N st)(hlo:lo+nrem<=N)(h1:1<=n)(hn:n<=nrem)(hU:Up κ .(i) lo (lo+n))
  (h:∀ m,n<=m->m<=nrem->Up κ .(i) lo (lo+m)->(m<nrem->κ.klt (kAt κ .(i) (lo+m)) (kAt κ .(i) (lo+m-1)))->Q (none,m) st) :
  wpS (model prog w) A E s (forIn [n:nrem] ((none,n):Option (Option Nat)×Nat) λ_ __s=>do
   let __x <-ltAt' (lo+__s.snd) (lo+__s.snd-1)
   match __x with
   | some smaller=>if smaller=true then pure (ForInStep.done (none,__s.snd)) else pure (ForInStep.yield (none,__s.snd+1))
   | _=>pure (ForInStep.done (some none,__s.snd))) Q st:=by
 refine wpS_forRange (I:=λi c st'=>st'=st/\c=(none,i)/\n<=i/\i<=nrem/\Up κ .(i) lo (lo+i)) ?_ ?_ #[rfl,rfl,yaa _,hn,hU]
 .rintro i c st' hi1 hi2 ⟨rfl,rfl,h3,h4,hU'⟩;have l:=yak (yaX hi2 lo) hlo;refine wpS_bind (zju hO hB l (yaJ (ya7 _ _) l) ?_);dsimp only;cases e:κ.blt (kAt κ (arrOf st') (lo+i)) (kAt κ (arrOf st') (lo+i-1)) with
  | true=>exact wpS_pure (h i h3 h4 hU' λ_=>e)
  | false=>exact wpS_pure #[rfl,rfl,yb6 h3,hi2,hU'.more (ycH (yad h1 h3)) e]
 .rintro c st' ⟨rfl,rfl,h3,h4,hU'⟩;exact h _ h3 h4 hU' λz=>absurd z .(a)
def zmw {st:SortSt}{lo n nrem:Nat}{Q:Option Nat->SortSt->Prop}{k:Option (Option Nat)×Nat->StateT SortSt Sem (Option Nat)}(hk:∀ m,k (none,m)=pure (some m))(hO:LtG prog w A s κ kd)(hB:TB κ kd N st)(hlo:lo+nrem<=N)(h1:1<=n)(hn:n<=nrem)(hD:Dn κ .(i) lo (lo+n))
  (h:∀ r st',zkN κ st lo n nrem r st'->Q r st') :
  wpS (model prog w) A E s (do
   reverseSlice' lo (lo+n)
   let c <-forIn [n:nrem] ((none,n):Option (Option Nat)×Nat) λ_ __s=>do
    let __x <-ltAt' (lo+__s.snd) (lo+__s.snd-1)
    match __x with
    | some smaller=>if smaller=true then pure (ForInStep.done (none,__s.snd)) else pure (ForInStep.yield (none,__s.snd+1))
    | _=>pure (ForInStep.done (some none,__s.snd))
   k c) Q st:=by
 have hz:lo+n<= .(i).size:=by rw[hB.size];lia
 have hoff:=zc8 (xs:=arrOf st) (i:=lo) (j:=lo+n) hz;refine wpS_bind (zhU ?_);refine wpS_bind (zqq hO (hB.off hoff) hlo h1 hn (λi j q1 q2 q3=>?_) λm m1 m2 hU _=>?_)
 .rw[zfH hz #[q1,yaJ q2 q3],zfH hz #[yad q1 q2,q3]];exact hD _ _ (ycp (ybf (yaX q3 lo))) (ycI q2 _) .(a)
 .rw[hk];exact wpS_pure (h _ _ #[m,_,rfl,m1,m2,rfl,hoff.wide (yaa _) (yaK m1 lo),hU])
def zmx {st:SortSt}{lo n nrem:Nat}{Q:Option (Option Nat)×Nat×Nat->SortSt->Prop}(hO:LtG prog w A s κ kd)(hB:TB κ kd N st)(hlo:lo+nrem<=N)(h1:1<=n)(hn:n<=nrem)(hD:Dn κ .(i) lo (lo+n))
  (h:∀ m neq ys,n<=m->m<=nrem->neq<m->Off .(i) ys lo (lo+m)->Dn κ ys lo (lo+m)->(∀ k,lo+m-(neq+1)<=k->k<lo+m->kAt κ ys k=kAt κ ys (lo+m-1))->Q (none,m,neq) (setArr st ys)) :
  wpS (model prog w) A E s (forIn [n:nrem] ((none,n,0):Option (Option Nat)×Nat×Nat) λ_ __s=>do
   let __x <-ltAt' (lo+__s.snd.fst) (lo+__s.snd.fst-1)
   match __x with
   | some smaller=>
    if smaller=true then
     if __s.snd.snd>0 then do
      let _ <-reverseSlice' (lo+__s.snd.fst-(__s.snd.snd+1)) (lo+__s.snd.fst)
      pure (ForInStep.yield (none,__s.snd.fst+1,0))
     else pure (ForInStep.yield (none,__s.snd.fst+1,0))
    else do
     let __x <-ltAt' (lo+__s.snd.fst-1) (lo+__s.snd.fst)
     match __x with
     | some larger=>
      if larger=true then pure (ForInStep.done (none,__s.snd.fst,__s.snd.snd))
      else pure (ForInStep.yield (none,__s.snd.fst+1,__s.snd.snd+1))
     | _=>pure (ForInStep.done (some none,__s.snd.fst,__s.snd.snd))
   | _=>pure (ForInStep.done (some none,__s.snd.fst,__s.snd.snd))) Q st:=by
 refine wpS_forRange (I:=λi c st'=>∃ neq ys,st'=setArr st ys/\c=(none,i,neq)/\n<=i/\i<=nrem/\neq<i/\Off .(i) ys lo (lo+i)/\Dn κ ys lo (lo+i)/\∀ k,lo+i-(neq+1)<=k->k<lo+i->kAt κ ys k=kAt κ ys (lo+i-1)) ?_ ?_ #[0,arrOf st,rfl,rfl,yaa _,hn,h1,Off.refl _ _ _,hD,λk q1 q2=>by rw[ybm (ybf q2) q1]]
 .rintro i c st' hi1 hi2 ⟨neq,ys,rfl,rfl,h3,h4,h5,ho,hD',he⟩;have hB':TB κ kd N (setArr st ys):=hB.off ho;have hz:lo+i<=ys.size:=by rw[ho.size,hB.size];lia
  dsimp only;have l:=yak (yaX hi2 lo) hlo;have lp:=ycH (n:=lo) (ybH h5);refine wpS_bind (zju hO hB' l (yaJ (ya7 _ _) l) ?_);dsimp only;cases e:κ.blt (kAt κ ys (lo+i)) (kAt κ ys (lo+i-1)) with
  | true=>
   simp only[if_true];by_cases hq:neq>0
   .rw[if_pos hq];have hoff:=zc8 (xs:=ys) (i:=lo+i-(neq+1)) (j:=lo+i) hz;have hk:=ziK (κ:=κ) hz he;refine wpS_bind (zhU (wpS_pure #[0,_,rfl,rfl,yb6 h3,hi2,ybS i,ho.wide (yaa _) (yaT _) |>.trans (hoff.wide (ycp (yaK h5 lo)) (yaT _)),?_,λk q1 q2=>by rw[ybm (ybf q2) q1]]));have:Dn κ (mirror ys (lo+i-(neq+1)) (lo+i) ((lo+i-(lo+i-(neq+1)))/2)) lo (lo+i):=λa b q1 q2 q3=>by rw[hk,hk];exact hD' a b q1 q2 q3
    exact this.more lp (by rw[hk,hk];exact KeyOrd.kle_of_klt e)
   .rw[if_neg hq];exact wpS_pure #[0,ys,rfl,rfl,yb6 h3,hi2,ybS i,ho.wide (yaa _) (yaT _),hD'.more lp (KeyOrd.kle_of_klt e),λk q1 q2=>by rw[ybm (ybf q2) q1]]
  | false=>
   simp only[ya1,if_false];refine wpS_bind (zju hO hB' (yaJ (ya7 _ _) l) l ?_);dsimp only;cases e2:κ.blt (kAt κ ys (lo+i-1)) (kAt κ ys (lo+i)) with
   | true=>exact wpS_pure (h i neq ys h3 h4 h5 ho hD' he)
   | false=>
    have eq:kAt κ ys (lo+i)=kAt κ ys (lo+i-1):=κ.total _ _ e e2;refine wpS_pure #[neq+1,ys,rfl,rfl,yb6 h3,hi2,Nat.succ_lt_succ h5,ho.wide (yaa _) (yaT _),hD'.more lp (by rw[eq];exact KeyOrd.kle_refl _),λk q1 q2=>?_];rw[show lo+(i+1)-1=lo+i from rfl,eq];by_cases hk:k=lo+i
    .rw[hk];exact eq
    .exact he k (yad (yaS (Nat.add_sub_add_right (lo+i) 1 (neq+1)).symm) q1) (yaL (ybA q2) hk)
 .rintro c st' ⟨neq,ys,rfl,rfl,h3,h4,h5,ho,hD',he⟩;exact h _ neq ys h3 h4 h5 ho hD' he
def zkQ {st:SortSt}{lo n nrem m neq:Nat}{Q:Option Nat->SortSt->Prop}{t:StateT SortSt Sem (Option Nat)}(hB:TB κ kd N st)(hlo:lo+nrem<=N)(m1:n+1<=m)(m2:m<=nrem)(m3:neq<m)
  (ho:Off .(i) ys lo (lo+m)) (hD:Dn κ ys lo (lo+m)) (he:∀ k,lo+m-(neq+1)<=k->k<lo+m->kAt κ ys k=kAt κ ys (lo+m-1)) (h:∀ r st',zkN κ st lo (n+1) nrem r st'->Q r st')
  (ht:∀ st',TB κ kd N st'->Dn κ (arrOf st') lo (lo+m)->(∀ r st'',zkN κ st' lo m nrem r st''->Q r st'')->wpS .(e) A E s t Q st') :
  wpS (model prog w) A E s (if neq > 0 then do
   let _ <-reverseSlice' (lo+m-(neq+1)) (lo+m)
   t else t) Q (setArr st ys):=by
 have hz:lo+m<=ys.size:=by rw[ho.size,hB.size];lia
 have back:∀ zs,Off .(i) zs lo (lo+m)->∀ r st',zkN κ (setArr st zs) lo m nrem r st'->Q r st':=λzs hz r st' hr=>by
  obtain ⟨q,vs,e1,e2,e3,e4,e5,e6⟩:=hr;exact h r st' #[q,vs,e1,yad m1 e2,e3,e4,(hz.wide (yaa _) (yaK e2 lo)).trans e5,e6]
 by_cases hq:neq>0
 .rw[if_pos hq];have hoff:=zc8 (xs:=ys) (i:=lo+m-(neq+1)) (j:=lo+m) hz;have hk:=ziK (κ:=κ) hz he;have ho2:=ho.trans (hoff.wide (ycp (yaK m3 lo)) (yaa _));refine wpS_bind (zhU ?_);refine ht _ (hB.off ho2) (λa b q1 q2 q3=>?_) (back _ ho2);show κ.kle (kAt κ (mirror ys (lo+m-(neq+1)) (lo+m) ((lo+m-(lo+m-(neq+1)))/2)) b) (kAt κ (mirror ys (lo+m-(neq+1)) (lo+m) ((lo+m-(lo+m-(neq+1)))/2)) a);rw[hk,hk];exact hD a b q1 q2 q3
 .rw[if_neg hq];exact ht _ (hB.off ho) hD (back _ ho)
def zj0 {st:SortSt}{lo nrem:Nat}{Q:Option Nat->SortSt->Prop}(hO:LtG prog w A s κ kd)(hB:TB κ kd N st)(hlo:lo+nrem<=N)(h1:1<=nrem)(h:∀ r st',zkN κ st lo 1 nrem r st'->Q r st') :
  wpS .(e) A E s (countRun' lo nrem) Q st:=by
 rw[countRun'_eq];refine wpS_bind (zqq hO hB hlo (yaa 1) h1 zsJ λm m1 m2 hU hnext=>?_);dsimp only;by_cases hm:m=nrem
 .rw[if_pos (by simpa using hm)];exact wpS_pure (h _ _ #[m,arrOf st,rfl,m1,m2,rfl,Off.refl _ _ _,hU])
 .rw[if_neg (by simpa using hm)];have lm:=yaL m2 hm;have hnx:=hnext lm;by_cases hm1:m>1
  .rw[if_pos hm1];have l:=yak (yaX lm lo) hlo;refine wpS_bind (zju hO hB (yaJ (yaG _ _) l) (yaJ (ya7 _ _) l) ?_);cases e:κ.blt (kAt κ .(i) lo) (kAt κ .(i) (lo+m-1)) with
   | true=>
    simp only[if_true];exact wpS_pure (h _ _ #[m,arrOf st,rfl,m1,m2,rfl,Off.refl _ _ _,hU])
   | false=>
    simp only[ya1,if_false];have hz:lo+m<= .(i).size:=by rw[hB.size];exact yaj l
    have hoff:=zc8 (xs:=arrOf st) (i:=lo) (j:=lo+m) hz;have all:∀ k,lo<=k->k<lo+m->kAt κ .(i) k=kAt κ .(i) (lo+m-1):=λk q1 q2=>
     KeyOrd.kle_antisymm (hU k (lo+m-1) q1 (ybf q2) (ya5 q2)) (KeyOrd.kle_trans (show κ.kle (kAt κ .(i) (lo+m-1)) (kAt κ .(i) lo) from e) (hU lo k (yaa _) q1 q2))
    have hk:=ziK (κ:=κ) hz all;refine wpS_bind (zhU ?_);have fin:∀ r st',zkN κ (setArr st (mirror .(i) lo (lo+m) ((lo+m-lo)/2))) lo (m+1) nrem r st'->Q r st':=λr st' hr=>by
     obtain ⟨q,vs,e1,e2,e3,e4,e5,e6⟩:=hr;exact h r st' #[q,vs,e1,yad m1 (Nat.le_of_succ_le e2),e3,e4,(hoff.wide (yaa _) (yaK (Nat.le_of_succ_le e2) lo)).trans e5,e6]
    refine wpS_bind (zda (wpS_bind (zmx hO (hB.off hoff) hlo (ybS _) lm ?_ λm' neq ys p1 p2 p3 ho hD' he=>?_)))
    rotate_left
    .dsimp only;exact zkQ (n:=m) (hB.off hoff) hlo p1 p2 p3 ho hD' he fin λst' hB' hDD hh=>zmw (λ_=>rfl) hO hB' hlo (ybH p1) p2 hDD hh
    .have d0:Dn κ .(i) lo (lo+m):=λa b q1 q2 q3=>by rw[all a q1 (yaJ q2 q3),all b (yad q1 q2) q3];exact KeyOrd.kle_refl _
     have d1:=d0.more (ycH m1) (KeyOrd.kle_of_klt hnx);intro a b q1 q2 q3;show κ.kle (kAt κ (mirror .(i) lo (lo+m) ((lo+m-lo)/2)) b) (kAt κ (mirror .(i) lo (lo+m) ((lo+m-lo)/2)) a);rw[hk,hk];exact d1 a b q1 q2 q3
  .rw[if_neg hm1];have e1:=ybm (yaN hm1) m1;subst e1;have fin:∀ r st',zkN κ st lo (1+1) nrem r st'->Q r st':=λr st' hr=>by
    obtain ⟨q,vs,e1,e2,e3,e4,e5,e6⟩:=hr;exact h r st' #[q,vs,e1,Nat.le_of_succ_le e2,e3,e4,e5,e6]
   refine wpS_bind (zda (wpS_bind (zmx hO hB hlo (ybS _) lm ?_ λm' neq ys p1 p2 p3 ho hD' he=>?_)))
   rotate_left
   .dsimp only;exact zkQ (n:=1) hB hlo p1 p2 p3 ho hD' he fin λst' hB' hDD hh=>zmw (λ_=>rfl) hO hB' hlo (ybH p1) p2 hDD hh
   .intro a b q1 q2 q3;by_cases hab:a=b
    .subst hab;exact KeyOrd.kle_refl _
    .have ea:a=lo:=by lia
     have eb:b=lo+1:=by lia
     rw[ea,eb];exact KeyOrd.kle_of_klt hnx
end
end Tim
namespace Tim
open PySem PyProof.Rows
section
variable {prog:Program}{w:World}{A:Around}{E:Value->Shared->Prop}{s:Shared}{κ:KeyKind}{kd:SortKind}
def zl8 {xs:Array Keyed}{src dst hi:Nat}(hs:src<xs.size)(hd:dst<=src)(hh:src<hi):Off xs (bubble xs src (src-dst)) dst hi:=
 #[bubble_perm _ _ _,λk hk=>by
  rw[getElem?_bubble hs _ (ya7 _ _),Nat.sub_sub_self hd,if_neg (by lia),if_neg (by lia)]]
def zhF {xs:Array Keyed}{src dst:Nat}(hs:src<xs.size)(hd:dst<=src)(k:Nat):kAt κ (bubble xs src (src-dst)) k=if k=dst then kAt κ xs src else if dst<k/\k<=src then kAt κ xs (k-1) else kAt κ xs k:=by
 have e:=getElem?_bubble hs (src-dst) (ya7 _ _) k;rw[Nat.sub_sub_self hd]at e;by_cases h1:k=dst
 .rw[if_pos h1]at e ⊢;exact zbA e
 .rw[if_neg h1]at e ⊢;by_cases h2:dst<k/\k<=src
  .rw[if_pos h2]at e ⊢;exact zbA e
  .rw[if_neg h2]at e ⊢;exact zbA e
def zh0 {l r:Nat}(h:¬l >= r):l<=(l+r)/2/\(l+r)/2<r:=#[(Nat.le_div_iff_mul_le yb7).mpr (by rw[Nat.mul_two];exact yaK (Nat.le_of_not_le h) l),Nat.div_lt_of_lt_mul (by rw[Nat.two_mul];exact Nat.add_lt_add_right (ybx h) r)]
def zh3 {l r n x:Nat}(a:r-l<=n-x)(h:¬l >= r):r-((l+r)/2+1)<=n-(x+1):=yad (ycI (ya8 (zh0 h).1 1) r) (by rw[<-ybT,<-ybT];exact Nat.sub_le_sub_right a 1)
def zh4 {l r n x:Nat}(a:r-l<=n-x)(h:¬l >= r):(l+r)/2-l<=n-(x+1):=by rw[<-ybT];exact ybf (yak (Nat.sub_lt_sub_right (zh0 h).1 (zh0 h).2) a)
def zhT {st:SortSt}{lo n ok:Nat}{Q:Bool->SortSt->Prop}(hO:LtG prog w A s κ kd)(hB:TB κ kd N st)(hlo:lo+n<=N)(hok:ok<=n)(hU:Up κ .(i) lo (lo+ok))
  (h:∀ ys,Off .(i) ys lo (lo+n)->Up κ ys lo (lo+n)->Q true (setArr st ys)):wpS .(e) A E s (binarySort' lo n ok) Q st:=by
 rw[binarySort'_eq];refine wpS_bind (wpS_mono (wpS_forRange (I:=λk c st'=>c=(none,())/\∃ ys,st'=setArr st ys/\Off (arrOf st) ys lo (lo+n)/\Up κ ys lo (lo+min k n))
  (Q:=λc st'=>c=(none,())/\∃ ys,st'=setArr st ys/\Off (arrOf st) ys lo (lo+n)/\Up κ ys lo (lo+n)) ?step ?fin ?init) ?post)
 case post=>
  rintro c st' ⟨rfl,ys,rfl,ho,hu⟩;exact wpS_pure (h ys ho hu)
 case init=>
  refine #[rfl,arrOf st,rfl,Off.refl _ _ _,λi j h1 h2 h3=>?_];by_cases hz:j<lo+ok
  .exact hU i j h1 h2 hz
  .have:i=j:=by lia
   subst this;exact KeyOrd.kle_refl _
 case fin=>
  rintro c st' ⟨rfl,ys,rfl,ho,hu⟩;refine #[rfl,ys,rfl,ho,?_];rwa[ybU (Nat.le_max_right _ _)]at hu
 case step=>
  rintro k c st' hk1 hk2 ⟨rfl,ys,rfl,ho,hu⟩;rw[ybc (yaj hk2)]at hu;clear hk1;have lk:=yak (yaX hk2 lo) hlo;have hB':TB κ kd N (setArr st ys):=hB.off ho;have hz:ys.size=N:=by rw[ho.size,hB.size]
  refine wpS_bind (wpS_mono (wpS_forRange (I:=λx c st''=>st''=setArr st ys/\∃ l r,c=(none,l,r)/\l<=r/\r<=k/\r - l<=k - x/\
    (∀ i,i<l->κ.kle (kAt κ ys (lo+i)) (kAt κ ys (lo+k)))/\(∀ i,r<=i->i<k->κ.klt (kAt κ ys (lo+k)) (kAt κ ys (lo+i))))
   (Q:=λc st''=>st''=setArr st ys/\∃ l r,c=(none,l,r)/\l<=k/\
    (∀ i,i<l->κ.kle (kAt κ ys (lo+i)) (kAt κ ys (lo+k)))/\(∀ i,l<=i->i<k->κ.klt (kAt κ ys (lo+k)) (kAt κ ys (lo+i)))) ?istep ?ifin ?iinit) ?ipost)
  case iinit=>exact #[rfl,0,k,rfl,yaF _,yaa _,yaa _,λi hi=>absurd hi (ybI _),λi h1 h2=>absurd h1 (ybJ h2)]
  case ifin=>
   rintro c st'' ⟨rfl,l,r,rfl,hlr,hrk,hm,a1,a2⟩;have:l=r:=by lia
   subst this;exact #[rfl,l,l,rfl,hrk,a1,a2]
  case istep=>
   rintro x c st'' _ hxk ⟨rfl,l,r,rfl,hlr,hrk,hm,a1,a2⟩;dsimp only;by_cases hge:l >= r
   .rw[if_pos hge];have:=ybm hlr hge;subst this;exact wpS_pure #[rfl,l,l,rfl,hrk,a1,a2]
   .rw[if_neg hge];have zz:=zh0 hge;refine wpS_bind (zju hO hB' lk (Nat.lt_trans (yaX (yak zz.2 hrk) lo) lk) ?_);dsimp only;cases e:κ.blt (kAt κ ys (lo+k)) (kAt κ ys (lo+(l+r)/2)) with
    | true=>
     refine wpS_pure #[rfl,l,(l+r)/2,rfl,zz.1,yad (yaj zz.2) hrk,zh4 hm hge,a1,λi h1 h2=>?_];exact KeyOrd.klt_of_klt_of_kle e (hu _ _ (yaG _ _) (yaK h1 lo) (yaX h2 lo))
    | false=>
     refine wpS_pure #[rfl,(l+r)/2+1,r,rfl,zz.2,hrk,zh3 hm hge,λi h1=>?_,a2];exact KeyOrd.kle_trans (hu (lo+i) (lo+(l+r)/2) (yaG _ _) (yaK (ybA h1) lo) (yaX (yak zz.2 hrk) lo)) (show κ.kle (kAt κ ys (lo+(l+r)/2)) (kAt κ ys (lo+k)) from e)
  case ipost=>
   rintro c st'' ⟨rfl,l,r,rfl,hlk,a1,a2⟩;dsimp only;rw[moveDown'_eq];have hs:lo+k<ys.size:=by rw[hz];exact lk
   have hd:=yaK hlk lo;refine wpS_bind (wpS_modify (wpS_pure #[rfl,_,rfl,ho.trans ((zl8 (hi:=lo+n) hs hd (yaX hk2 lo)).wide (yaG _ _) (yaa _)),?_]));rw[ybc hk2];intro i j h1 h2 h3;show κ.kle (kAt κ (bubble ys (lo+k) (lo+k-(lo+l))) i) (kAt κ (bubble ys (lo+k) (lo+k-(lo+l))) j);rw[zhF hs hd,zhF hs hd];clear hs hd hz lk;have lowS:∀ i,lo<=i->i<lo+l->κ.kle (kAt κ ys i) (kAt κ ys (lo+k)):=λi q1 q2=>by
    have:=a1 (i-lo) (ycJ q1 q2);rw[ybg q1]at this;exact this
   have highS:∀ i,lo+l<=i->i<lo+k->κ.kle (kAt κ ys (lo+k)) (kAt κ ys i):=λi q1 q2=>by
    have q3:=yb8 q1;have:=a2 (i-lo) (ycK q1) (ycJ q3 q2);rw[ybg q3]at this;exact KeyOrd.kle_of_klt this
   by_cases i1:i=lo+l
   .rw[if_pos i1];by_cases j1:j=lo+l
    .rw[if_pos j1];exact KeyOrd.kle_refl _
    .rw[if_neg j1,if_pos .(a)];exact highS _ .(a) .(a)
   .rw[if_neg i1];by_cases i2:lo+l<i/\i<=lo+k
    .rw[if_pos i2,if_neg .(a),if_pos .(a)];exact hu _ _ .(a) .(a) .(a)
    .rw[if_neg i2];by_cases j1:j=lo+l
     .rw[if_pos j1];exact lowS i h1 .(a)
     .rw[if_neg j1];by_cases j2:lo+l<j/\j<=lo+k
      .rw[if_pos j2];exact hu _ _ h1 .(a) .(a)
      .rw[if_neg j2];exact hu _ _ h1 h2 .(a)
end
end Tim
namespace Tim
open PySem PyProof.Rows
section
variable {M:Model}{A:Around}{E:Value->Shared->Prop}{s:Shared}{st:SortSt}{n hint:Nat}{p:Nat->Bool}
abbrev C2:=Option (Option Nat)×Nat×Nat
def zoQ {Q:C2->SortSt->Prop}{f:Nat->C2->StateT SortSt Sem (ForInStep C2)}(hn:hint<n)(hp:p hint=true)
  (f1:∀ x l o,o >= n-hint->f x (none,l,o)=pure (.done (none,l,o)))
  (f2:∀ x l o (R:ForInStep C2->SortSt->Prop),o<n-hint->(p (hint+o)=true->R (.yield (none,o,2*o+1)) st)->(p (hint+o)=false->R (.done (none,l,o)) st)->wpS M A E s (f x (none,l,o)) R st)
  (h:∀ l o,l<o->hint+l<n->p (hint+l)=true->(o<n-hint->p (hint+o)=false)->Q (none,l,o) st):wpS M A E s (forIn [:n] ((none,0,1):C2) f) Q st:=by
 refine wpS_forRange (I:=λi c st'=>st'=st/\∃ l o,c=(none,l,o)/\l<o/\i+1<=o/\hint+l<n/\p (hint+l)=true) ?_ ?_ #[rfl,0,1,rfl,Nat.one_pos,yaa _,hn,hp]
 .rintro i c st' _ hi ⟨rfl,l,o,rfl,h1,h2,h3,h4⟩;by_cases ho:o >= n-hint
  .rw[f1 i l o ho];exact wpS_pure (h l o h1 h3 h4 λz=>absurd z (yb9 ho))
  .refine f2 i l o _ (ybx ho) (λe=>?_) λe=>?_
   .exact #[rfl,o,2*o+1,rfl,Nat.lt_succ_of_le (ycL o yb7),ybV (yad h2 (ycL o yb7)),Nat.add_lt_of_lt_sub' (ybx ho),e]
   .exact h l o h1 h3 h4 λ_=>e
 .rintro c st' ⟨rfl,l,o,rfl,h1,h2,h3,h4⟩;exact h l o h1 h3 h4 λz=>absurd z .(a)
def zq4 {Q:C2->SortSt->Prop}{f:Nat->C2->StateT SortSt Sem (ForInStep C2)}(hn:hint<n)(hp:p hint=false)
  (f1:∀ x l o,o >= hint+1->f x (none,l,o)=pure (.done (none,l,o)))
  (f2:∀ x l o (R:ForInStep C2->SortSt->Prop),o<hint+1->(p (hint-o)=false->R (.yield (none,o,2*o+1)) st)->(p (hint-o)=true->R (.done (none,l,o)) st)->wpS M A E s (f x (none,l,o)) R st)
  (h:∀ l o,l<o->l<=hint->p (hint-l)=false->(o<hint+1->p (hint-o)=true)->Q (none,l,o) st):wpS M A E s (forIn [:n] ((none,0,1):C2) f) Q st:=by
 refine wpS_forRange (I:=λi c st'=>st'=st/\∃ l o,c=(none,l,o)/\l<o/\i+1<=o/\l<=hint/\p (hint-l)=false) ?_ ?_ #[rfl,0,1,rfl,Nat.one_pos,yaa _,yaF _,hp]
 .rintro i c st' _ hi ⟨rfl,l,o,rfl,h1,h2,h3,h4⟩;by_cases ho:o >= hint+1
  .rw[f1 i l o ho];exact wpS_pure (h l o h1 h3 h4 λz=>absurd z (yb9 ho))
  .refine f2 i l o _ (ybx ho) (λe=>?_) λe=>?_
   .exact #[rfl,o,2*o+1,rfl,Nat.lt_succ_of_le (ycL o yb7),ybV (yad h2 (ycL o yb7)),ybA (ybx ho),e]
   .exact h l o h1 h3 h4 λ_=>e
 .rintro c st' ⟨rfl,l,o,rfl,h1,h2,h3,h4⟩;exact h l o h1 h3 h4 λz=>absurd z .(a)
def zh1 {l r n x:Nat}(a:r-l<=n-x):r-(l+(r-l)/2+1)<=n-(x+1):=yad (ycI (ya8 (yaG _ _) 1) r) (by rw[<-ybT,<-ybT];exact Nat.sub_le_sub_right a 1)
def zh2 {l r n x:Nat}(a:r-l<=n-x)(h:¬l >= r):l+(r-l)/2-l<=n-(x+1):=by rw[Nat.add_sub_cancel_left,<-ybT];exact ybf (yak (Nat.div_lt_self (ybK (ybx h)) .(k)) a)
def zh5 {l r:Nat}(h:¬l >= r):l+(r-l)/2<r:=by rw[yca];exact Nat.add_lt_of_lt_sub (Nat.div_lt_self (ybK (ybx h)) .(k))
def zkP {Q:Option Nat->SortSt->Prop}{lo hi:Nat}{f:Nat->C2->StateT SortSt Sem (ForInStep C2)}{k:C2->StateT SortSt Sem (Option Nat)}
  (anti:∀ i j,i<=j->j<n->p j=true->p i=true) (h1:lo<=hi) (h2:hi<=n) (hl:∀ i,i<lo->p i=true) (hh:∀ i,hi<=i->i<n->p i=false)
  (f1:∀ x l r,l >= r->f x (none,l,r)=pure (.done (none,l,r)))
  (f2:∀ x l r (R:ForInStep C2->SortSt->Prop),l<r->r<=n->(p (l+(r-l)/2)=true->R (.yield (none,l+(r-l)/2+1,r)) st)->(p (l+(r-l)/2)=false->R (.yield (none,l,l+(r-l)/2)) st)->wpS M A E s (f x (none,l,r)) R st)
  (hk:∀ l r,k (none,l,r)=pure (some r))
  (h:∀ m,m<=n->(∀ i,i<m->p i=true)->(∀ i,m<=i->i<n->p i=false)->Q (some m) st):wpS M A E s (do let c <-forIn [:n] ((none,lo,hi):C2) f;k c) Q st:=by
 refine wpS_bind (wpS_mono (wpS_forRange (I:=λx c st'=>st'=st/\∃ l r,c=(none,l,r)/\l<=r/\r<=n/\r - l<=n - x/\(∀ i,i < l->p i=true)/\∀ i,r<=i->i < n->p i=false)
  (Q:=λc st'=>st'=st/\∃ m,c=(none,m,m)/\m<=n/\(∀ i,i<m->p i=true)/\∀ i,m<=i->i<n->p i=false) ?_ ?_ #[rfl,lo,hi,rfl,h1,h2,yad (ya7 _ _) h2,hl,hh]) ?_)
 .rintro x c st' _ hx ⟨rfl,l,r,rfl,a1,a2,a3,a4,a5⟩;by_cases hge:l >= r
  .rw[f1 x l r hge];have:=ybm a1 hge;subst this;exact wpS_pure #[rfl,l,rfl,a2,a4,a5]
  .refine f2 x l r _ (ybx hge) a2 (λe=>?_) λe=>?_
   .exact #[rfl,_,r,rfl,zh5 hge,a2,zh1 a3,λi hi=>anti i _ (ybA hi) (yak (zh5 hge) a2) e,a5]
   .refine #[rfl,l,_,rfl,yaG _ _,yad (yaj (zh5 hge)) a2,zh2 a3 hge,a4,λi q1 q2=>?_];cases z:p i with
    | false=>rfl
    | true=>rw[anti _ i q1 q2 z]at e;cases e
 .rintro c st' ⟨rfl,l,r,rfl,a1,a2,a3,a4,a5⟩;have:l=r:=by lia
  subst this;exact #[rfl,l,rfl,a2,a4,a5]
 .rintro c st' ⟨rfl,m,rfl,a2,a4,a5⟩;rw[hk];exact wpS_pure (h m a2 a4 a5)
end
def zkw:Bool->Keyed->Array Keyed->Nat->Nat->Nat->StateT SortSt Sem (Option Nat):=sortPriv% PySem.Builtin.gallop
section
variable {prog:Program}{w:World}{A:Around}{E:Value->Shared->Prop}{s:Shared}{κ:KeyKind}{kd:SortKind}
def bey (κ:KeyKind)(left:Bool)(key:Keyed)(arr:Array Keyed)(base i:Nat):Bool:=if left=true then κ.blt (kAt κ arr (base+i)) (ky κ key) else !κ.blt (ky κ key) (kAt κ arr (base+i))
def zm1 {l o h:Nat}(a:l<o)(b:l<=h):h+1-min o (h+1)<=h-l:=yad (ycI (Nat.le_min.mpr #[a,ybV b]) _) (yaS (Nat.add_sub_add_right _ _ _))
def zm2 {l o h n:Nat}(a:l<o)(b:h+l<n):h+l+1<=h+min o (n-h):=yaK (Nat.le_min.mpr #[a,ycp (by rw[yca];exact b)]) h
def zm3 {o h n:Nat}(a:h<n):h+min o (n-h)<=n:=yad (yaK (Nat.min_le_right _ _) _) (yaS (ybg (yaj a)))
def zm4 {i o h:Nat}(a:i<h+1-min o (h+1))(b:o<h+1):i<=h-o:=by rw[ybc (yaj b),Nat.succ_sub (ybA b)]at a;exact ybA a
def zm5 {i o h:Nat}(b:¬o<h+1):¬i<h+1-min o (h+1):=by rw[ybU (yaN b),Nat.sub_self];exact ybI _
def zm6 {o h n i:Nat}(a:h<n)(b:¬o<n-h)(c:h+min o (n-h)<=i):¬i<n:=by rw[ybU (yaN b),ybg (yaj a)]at c;exact yb9 c
def zc3 {st:SortSt}{arr:Array Keyed}{base n hint:Nat}{Q:Option Nat->SortSt->Prop}(hO:LtG prog w A s κ kd)(hkd:kindOf st=kd)(hkey:Keyd κ key)(hks:∀ q∈arr.toList,Keyd κ q)
  (hz:base+n<=arr.size) (hn:hint<n) (hU:Up κ arr base (base+n))
  (h:∀ m,m<=n->(∀ i,i<m->bey κ left key arr base i=true)->(∀ i,m<=i->i<n->bey κ left key arr base i=false)->Q (some m) st):wpS .(e) A E s (zkw left key arr base n hint) Q st:=by
 have anti:∀ i j,i<=j->j<n->bey κ left key arr base j=true->bey κ left key arr base i=true:=by
  intro i j hij hj;have hle:=hU (base+i) (base+j) (yaG _ _) (yaK hij base) (yaX hj base);unfold bey;cases left with
  | true=>
   simp only[if_true];intro e;exact KeyOrd.klt_of_kle_of_klt hle e
  | false=>
   simp only[ya1,if_false];intro e;cases z:κ.blt (ky κ key) (kAt κ arr (base+i)) with
   | false=>rfl
   | true=>
    have:κ.blt (ky κ key) (kAt κ arr (base+j))=true:=KeyOrd.klt_of_klt_of_kle z hle;rw[this]at e;cases e
 have hb:∀ i (R:Option Bool->SortSt->Prop),i < n->R (some (bey κ left key arr base i)) st->wpS (model prog w) A E s (do
   let x <-elem' arr (base+i)
   if left=true then lt' x key else do
    let r <-lt' key x
    pure (Option.map (λb=>!b) r)) R st:=λi R hi hR=>by
  have hi':=yak (yaX hi base) hz;refine wpS_bind (zbk hi' ?_);have hkx:Keyd κ arr[base+i]:=hks _ .(h);unfold bey at hR;rw[zbm hi']at hR;cases left with
  | true=>
   rw[if_pos rfl]at hR ⊢;exact lt_G hO hkd hkx hkey hR
  | false=>
   rw[if_neg .(k)]at hR ⊢;exact wpS_bind (lt_G hO hkd hkey hkx (wpS_pure hR))
 refine wpS_bind (hb hint _ hn ?_);dsimp only;generalize bey κ left key arr base=p at *;cases e0:p hint with
 | true=>
  simp only[if_true];refine wpS_bind (zoQ (p:=p) hn e0 (λx l o ho=>?_) (λx l o R ho r1 r2=>?_) λl o a1 a2 a3 a4=>?_)
  .dsimp only;rw[if_pos ho]
  .dsimp only;rw[if_neg (ybJ ho)];refine wpS_bind (hb (hint+o) _ (Nat.add_lt_of_lt_sub' ho) ?_);dsimp only;cases e:p (hint+o) with
   | true=>exact wpS_pure (r1 e)
   | false=>exact wpS_pure (r2 e)
  .dsimp only;refine zkP (p:=p) anti (zm2 a1 a2) (zm3 hn) (λi hi=>anti i (hint+l) (ybA hi) a2 a3) (λi q1 q2=>?_) (λx l r hge=>?_) (λx l r R q1 q2 r1 r2=>?_) (λ_ _=>rfl) h
   .by_cases ho:o<n-hint
    .cases z:p i with
     | false=>rfl
     | true=>
      have:=anti (hint+o) i (by rwa[ybc (yaj ho)]at q1) q2 z;rw[a4 ho]at this;cases this
    .exact absurd q2 (zm6 hn ho q1)
   .dsimp only;rw[if_pos hge]
   .dsimp only;rw[if_neg (ybJ q1)];refine wpS_bind (hb _ _ (yak (zh5 (ybJ q1)) q2) ?_);dsimp only;cases e:p (l+(r-l)/2) with
    | true=>exact wpS_pure (r1 e)
    | false=>exact wpS_pure (r2 e)
 | false=>
  simp only[ya1,if_false];refine wpS_bind (zq4 (p:=p) hn e0 (λx l o ho=>?_) (λx l o R ho r1 r2=>?_) λl o a1 a2 a3 a4=>?_)
  .dsimp only;rw[if_pos ho]
  .dsimp only;rw[if_neg (ybJ ho)];refine wpS_bind (hb (hint-o) _ (yaJ (ya7 _ _) hn) ?_);dsimp only;cases e:p (hint-o) with
   | true=>exact wpS_pure (r2 e)
   | false=>exact wpS_pure (r1 e)
  .dsimp only;refine zkP (p:=p) anti (zm1 a1 a2) (yad (ya7 _ _) (yaj hn)) (λi hi=>?_) (λi q1 q2=>?_) (λx l r hge=>?_) (λx l r R q1 q2 r1 r2=>?_) (λ_ _=>rfl) h
   .by_cases ho:o<hint+1
    .exact anti i (hint-o) (zm4 hi ho) (yaJ (ya7 _ _) hn) (a4 ho)
    .exact absurd hi (zm5 ho)
   .cases z:p i with
    | false=>rfl
    | true=>
     have:=anti (hint-l) i q1 q2 z;rw[a3]at this;cases this
   .dsimp only;rw[if_pos hge]
   .dsimp only;rw[if_neg (ybJ q1)];refine wpS_bind (hb _ _ (yak (zh5 (ybJ q1)) q2) ?_);dsimp only;cases e:p (l+(r-l)/2) with
    | true=>exact wpS_pure (r1 e)
    | false=>exact wpS_pure (r2 e)
end
end Tim
namespace Tim
open PySem PyProof.Rows
section
variable {κ:KeyKind}
def le (κ:KeyKind)(x y:Keyed):Prop:=κ.kle (ky κ x) (ky κ y)
def le_refl (x:Keyed):le κ x x:=KeyOrd.kle_refl _
def le_trans (h1:le κ x y)(h2:le κ y z):le κ x z:=KeyOrd.kle_trans h1 h2
abbrev SL (κ:KeyKind)(l:List Keyed):Prop:=l.Pairwise (le κ)
def SL.drop {l:List Keyed}(h:SL κ l)(n:Nat):SL κ (l.drop n):=h.sublist (ycM n l)
def SL.take {l:List Keyed}(h:SL κ l)(n:Nat):SL κ (l.take n):=h.sublist (List.take_sublist n l)
def zfm {xs:Array Keyed}{i:Nat}(h:i<xs.size):xs.toList.drop i=xs[i]::xs.toList.drop (i+1):=by
 have h':i<xs.toList.length:=by simpa using h
 rw[ycq h'];simp
def zdU {xs:Array Keyed}{i:Nat}(hs:SL κ xs.toList)(h:i<xs.size):∀ y∈xs.toList.drop i,le κ xs[i] y:=by
 intro y hy;have q:=hs.drop i;rw[zfm h]at q hy;rcases yaq.mp hy with rfl|hy
 .exact le_refl _
 .exact (ycN.mp q).1 y hy
def zeL {xs:Array Keyed}{i k:Nat}{x:Keyed}(h:x∈(xs.toList.drop i).take k):∃ j,j<k/\i+j<xs.size/\xs[i+j]?=some x:=by
 obtain ⟨j,hj,e⟩:=List.mem_iff_getElem.mp h;have hj':=hj;rw[yar,ya0,yaA]at hj';refine #[j,by lia,by lia,?_];rw[List.getElem_take,List.getElem_drop]at e;rw[ybl .(a)];simpa using e
def zdu {xs:Array Keyed}{i:Nat}{x:Keyed}(h:xs[i]?=some x):kAt κ xs i=ky κ x:=by
 unfold kAt;rw[h]
def zhW {xs:Array Keyed}(hs:SL κ xs.toList)(lo hi:Nat)(hh:hi<=xs.size):Up κ xs lo hi:=by
 intro i j h1 h2 h3;have hj:j<xs.size:=by lia
 have hi:i<xs.size:=by lia
 rw[zbm hi,zbm hj];refine zdU hs hi _ ?_;rw[List.mem_iff_getElem];refine #[j-i,by rw[ya0,yaA];lia,?_];rw[List.getElem_drop];simp[show i+(j-i)=j by lia]
def zrY (h:Up κ xs 0 xs.size):SL κ xs.toList:=by
 rw[SL,ya9];intro i j hi hj hij;have hi':i<xs.size:=by simpa using hi
 have hj':j<xs.size:=by simpa using hj
 have:=h i j (yaF _) .(a) hj';rw[zbm hi',zbm hj']at this;simpa [le] using this
structure MI (κ:KeyKind)(a b:Array Keyed)(out:Array Keyed)(ia ib:Nat):Prop where
 perm:(out.toList++(a.toList.drop ia++b.toList.drop ib)).Perm (a.toList++b.toList)
 srt:SL κ out.toList
 low:∀ x∈out.toList,∀ y∈a.toList.drop ia++b.toList.drop ib,le κ x y
variable {a b out:Array Keyed}{ia ib:Nat}
def MI.goA {out':Array Keyed}{k:Nat}(h:MI κ a b out ia ib)(sa:SL κ a.toList)(ho:out'.toList=out.toList++(a.toList.drop ia).take k)(hle:∀ x∈(a.toList.drop ia).take k,∀ y∈b.toList.drop ib,le κ x y):MI κ a b out' (ia+k) ib:=by
 have e:a.toList.drop ia=(a.toList.drop ia).take k++a.toList.drop (ia+k):=by
  rw[<-ycb,ya2]
 have s1:=sa.drop ia;rw[e]at s1;obtain ⟨p1,p2,p3⟩:=yaO.mp s1;refine #[?_,?_,?_]
 .have q:=h.perm;rw[e]at q;rw[ho];simpa [yaV] using q
 .rw[ho];exact yaO.mpr #[h.srt,p1,λx hx y hy=>h.low x hx y (ybb _ (ycc hy))]
 .intro x hx y hy;rw[ho]at hx;rcases yal.mp hx with hx|hx
  .refine h.low x hx y ?_;rcases yal.mp hy with hy|hy
   .refine ybb _ ?_;rw[e];exact yaI _ hy
   .exact yaI _ hy
  .rcases yal.mp hy with hy|hy
   .exact p3 x hx y hy
   .exact hle x hx y hy
def MI.goB {out':Array Keyed}{k:Nat}(h:MI κ a b out ia ib)(sb:SL κ b.toList)(ho:out'.toList=out.toList++(b.toList.drop ib).take k)(hle:∀ x∈(b.toList.drop ib).take k,∀ y∈a.toList.drop ia,le κ x y):MI κ a b out' ia (ib+k):=by
 have e:b.toList.drop ib=(b.toList.drop ib).take k++b.toList.drop (ib+k):=by
  rw[<-ycb,ya2]
 have s1:=sb.drop ib;rw[e]at s1;obtain ⟨p1,p2,p3⟩:=yaO.mp s1;refine #[?_,?_,?_]
 .have q:=h.perm;rw[e]at q;rw[ho];refine List.Perm.trans ?_ q;rw[yaV];refine List.Perm.append_left _ ?_;rw[<-yaV,<-yaV];exact List.Perm.append_right _ ycr
 .rw[ho];exact yaO.mpr #[h.srt,p1,λx hx y hy=>h.low x hx y (yaI _ (ycc hy))]
 .intro x hx y hy;rw[ho]at hx;rcases yal.mp hx with hx|hx
  .refine h.low x hx y ?_;rcases yal.mp hy with hy|hy
   .exact ybb _ hy
   .refine yaI _ ?_;rw[e];exact yaI _ hy
  .rcases yal.mp hy with hy|hy
   .exact hle x hx y hy
   .exact p3 x hx y hy
def zeK {xs:Array Keyed}{i:Nat}(h:i<xs.size):(xs.toList.drop i).take 1=[xs[i]]:=by
 rw[zfm h];rfl
def MI.pa (h:MI κ a b out ia ib)(sa:SL κ a.toList)(hia:ia<a.size)(hle:∀ y∈b.toList.drop ib,le κ a[ia] y):MI κ a b (out.push a[ia]) (ia+1) ib:=
 h.goA (k:=1) sa (by rw[zeK hia,ycs]) (by
  rw[zeK hia];intro x hx;rw[yao.mp hx];exact hle)
def MI.pb (h:MI κ a b out ia ib)(sb:SL κ b.toList)(hib:ib<b.size)(hle:∀ y∈a.toList.drop ia,le κ b[ib] y):MI κ a b (out.push b[ib]) ia (ib+1):=
 h.goB (k:=1) sb (by rw[zeK hib,ycs]) (by
  rw[zeK hib];intro x hx;rw[yao.mp hx];exact hle)
structure zck (κ:KeyKind)(a b m:Array Keyed):Prop where
 perm:m.toList.Perm (a.toList++b.toList)
 srt:SL κ m.toList
def zfK {xs:Array Keyed}{i k:Nat}:(xs.extract i (i+k)).toList=(xs.toList.drop i).take k:=by
 rw[ycO,ycP,Nat.add_sub_cancel_left]
def zfL {xs:Array Keyed}{i:Nat}:(xs.extract i xs.size).toList=xs.toList.drop i:=by
 rw[ycO,ycP];exact yat (by rw[ya0,yaA];exact yaa _)
def MI.done (h:MI κ a b out ia ib)(sa:SL κ a.toList)(hib:b.size<=ib):zck κ a b (out++a.extract ia a.size++b.extract ib b.size):=by
 have e:b.toList.drop ib=[]:=yba (by rw[yaA];exact hib);have e2:(out++a.extract ia a.size++b.extract ib b.size).toList=out.toList++(a.toList.drop ia++b.toList.drop ib):=by
  rw[ya3,ya3,zfL,zfL,yaV]
 refine #[by rw[e2];exact h.perm,?_];rw[e2,e,yaw];refine yaO.mpr #[h.srt,sa.drop ia,λx hx y hy=>h.low x hx y (ybb _ hy)]
def MI.doneA (h:MI κ a b out ia ib)(sb:SL κ b.toList)(hia:a.size<=ia):zck κ a b (out++a.extract ia a.size++b.extract ib b.size):=by
 have e:a.toList.drop ia=[]:=yba (by rw[yaA];exact hia);have e2:(out++a.extract ia a.size++b.extract ib b.size).toList=out.toList++(a.toList.drop ia++b.toList.drop ib):=by
  rw[ya3,ya3,zfL,zfL,yaV]
 refine #[by rw[e2];exact h.perm,?_];rw[e2,e,List.nil_append];refine yaO.mpr #[h.srt,sb.drop ib,λx hx y hy=>h.low x hx y (yaI _ hy)]
def MI.last (h:MI κ a b out ia ib)(sa:SL κ a.toList)(sb:SL κ b.toList)(hl:∀ y∈b.toList,∀ x∈a.toList.drop ia,le κ y x):zck κ a b (out++b.extract ib b.size++a.extract ia a.size):=by
 have e2:(out++b.extract ib b.size++a.extract ia a.size).toList=out.toList++(b.toList.drop ib++a.toList.drop ia):=by
  rw[ya3,ya3,zfL,zfL,yaV]
 refine #[?_,?_]
 .rw[e2];exact (List.Perm.append_left _ ycr).trans h.perm
 .rw[e2];refine yaO.mpr #[h.srt,yaO.mpr #[sb.drop ib,sa.drop ia,λx hx y hy=>hl x (ycd hx) y hy],λx hx y hy=>h.low x hx y ?_];rcases yal.mp hy with q|q
  .exact yaI _ q
  .exact ybb _ q
end
end Tim
namespace Tim
open PySem PyProof.Rows
def zlp:Array Keyed->Array Keyed->StateT SortSt Sem (Array Keyed):=sortPriv% PySem.Builtin.mergeLo
def zlV:Nat->StateT SortSt Sem Unit:=sortPriv% PySem.Builtin.setMinGallop
structure SG (st st':SortSt):Prop where
 kind:kindOf st'=kindOf st
 arr:arrOf st'=arrOf st
 pend:pendingOf st'=pendingOf st
 failed:failedOf st'=failedOf st
def SG.refl (st:SortSt):SG st st:=#[rfl,rfl,rfl,rfl]
def SG.trans (h:SG s1 s2)(g:SG s2 s3):SG s1 s3:=#[g.kind.trans h.kind,g.arr.trans h.arr,g.pend.trans h.pend,g.failed.trans h.failed]
section
variable {prog:Program}{w:World}{A:Around}{E:Value->Shared->Prop}{s:Shared}{κ:KeyKind}{kd:SortKind}
def zcM {g:Nat}{st:SortSt}{Q:Unit->SortSt->Prop}(hg:SG st0 st)(h:∀ st',SG st0 st'->Q () st'):wpS .(e) A E s (zlV g) Q st:=by
 refine wpS_modify (h _ (hg.trans #[rfl,rfl,rfl,rfl]))
def mp2 {P g:Prop}(k:P)(m:P->g):g:=m k
def zi {A x j i:Nat}(h:A+x<=j+i):A+(x+1)<=j+1+i:=by rw[Nat.add_right_comm];exact ybV h
def zg {A j i m:Nat}(w:A<=j+i)(h:i<=m):A<=j+1+m:=yad w (Nat.add_le_add (yaG _ 1) h)
def ze {i z:Nat}(h:i<z):i+(z-i)<=z:=yaS (ybg (yaj h))
set_option maxHeartbeats 4000000 in
def zlN {st:SortSt}{a b:Array Keyed}{Q:Array Keyed->SortSt->Prop}(hO:LtG prog w A s κ kd)(hkd:kindOf st=kd)(ka:∀ q∈a.toList,Keyd κ q)(kb:∀ q∈b.toList,Keyd κ q)(sa:SL κ a.toList)(sb:SL κ b.toList)
  (ha:0<a.size) (hb:0<b.size) (h0:∀ y∈a.toList,le κ b[0] y) (hl:∀ y∈b.toList,∀ i,i+1=a.size->∀ x∈a.toList.drop i,le κ y x)
  (h:∀ m st',zck κ a b m->SG st st'->Q m st'):wpS .(e) A E s (zlp a b) Q st:=by
 have m0:MI κ a b (List.toArray [b[0]]) 0 1:=by
  have z:MI κ a b (List.toArray []) 0 0:=#[by simp,by simp,by simp];have:=z.pb sb hb (by simpa using h0);simpa using this
 refine wpS_bind (zda ?_);dsimp only;refine wpS_bind (zbk hb ?_);by_cases e1:1=b.size
 .rw[if_pos (by simpa using e1)];exact wpS_pure (h _ _ (m0.done sa (yaS e1.symm)) (SG.refl st))
 rw[if_neg (by simpa using e1)];by_cases e2:0+1=a.size
 .rw[if_pos (by simpa using e2)];exact wpS_pure (h _ _ (m0.last sa sb (λy hy x hx=>hl y hy 0 e2 x hx)) (SG.refl st))
 rw[if_neg (by simpa using e2)];refine wpS_bind (wpS_get ?_);refine wpS_bind (wpS_mono (wpS_forRange (I:=λi c st'=>SG st st'/\∃ out ia ib g,c=(none,out,ia,ib,g)/\MI κ a b out ia ib/\ia+1 < a.size/\ib < b.size/\i+1<=ia+ib)
  (Q:=λc st'=>SG st st'/\∃ m r,c=(some m,r)/\zck κ a b m) ?step ?fin #[SG.refl st,_,0,1,_,rfl,m0,yaL ha e2,yaL hb e1,yaa _]) ?post)
 case post=>
  rintro c st' ⟨g,m,r,rfl,hm⟩;exact wpS_pure (h m st' hm g)
 case fin=>
  rintro c st' ⟨g,out,ia,ib,gg,rfl,hm,q1,q2,q3⟩;exact absurd q3 .(a)
 case step=>
  rintro i c st1 _ hi ⟨g1,out,ia,ib,gg,rfl,hm,q1,q2,q3⟩;dsimp only;refine wpS_bind (wpS_mono (wpS_forRange (I:=λx c st'=>st'=st1/\∃ out' ia' ib' ca cb,c=(none,out',ia',ib',ca,cb)/\MI κ a b out' ia' ib'/\ia'+1 < a.size/\ib' < b.size/\ia+ib+x<=ia'+ib')
   (Q:=λc st'=>st'=st1/\((∃ m r,c=(some m,r)/\zck κ a b m)\/∃ out' ia' ib' ca cb,c=(none,out',ia',ib',ca,cb)/\MI κ a b out' ia' ib'/\ia'+1<a.size/\ib'<b.size/\ia+ib+1<=ia'+ib')) ?istep ?ifin #[rfl,out,ia,ib,0,0,rfl,hm,q1,q2,by lia]) ?ipost)
  case ifin=>
   rintro c st' ⟨rfl,out',ia',ib',ca,cb,rfl,hm',r1,r2,r3⟩;exact #[rfl,.inr #[out',ia',ib',ca,cb,rfl,hm',r1,r2,by lia]]
  case istep=>
   rintro x c st' _ hx ⟨rfl,out',ia',ib',ca,cb,rfl,hm',r1,r2,r3⟩;dsimp only;refine wpS_bind (zbk r2 (wpS_bind (zbk (ybB r1) (wpS_bind (lt_G hO (by rw[g1.kind];exact hkd) (kb _ .(h)) (ka _ .(h)) ?_)))));dsimp only;cases e:κ.blt (ky κ b[ib']) (ky κ (a[ia']'(ybB r1))) with
   | true=>
    simp only[if_true];have hm2:=hm'.pb sb r2 (λy hy=>le_trans (show le κ b[ib'] (a[ia']'(ybB r1)) from KeyOrd.kle_of_klt e) (zdU sa (ybB r1) y hy));refine wpS_bind (zbk r2 ?_);by_cases z:ib'+1=b.size
    .rw[if_pos (by simpa using z)];exact wpS_pure #[rfl,.inl #[_,_,rfl,hm2.done sa (yaS z.symm)]]
    .rw[if_neg (by simpa using z)];split
     .exact wpS_pure #[rfl,.inr #[_,_,_,_,_,rfl,hm2,r1,yaL r2 z,ybV (yb8 r3)]]
     .exact wpS_pure #[rfl,_,_,_,_,_,rfl,hm2,r1,yaL r2 z,ybV r3]
   | false=>
    simp only[ya1,if_false];have hm2:=hm'.pa sa (ybB r1) (λy hy=>le_trans (show le κ (a[ia']'(ybB r1)) b[ib'] from e) (zdU sb r2 y hy));refine wpS_bind (zbk (ybB r1) ?_);by_cases z:ia'+1+1=a.size
    .rw[if_pos (by simpa using z)];exact wpS_pure #[rfl,.inl #[_,_,rfl,hm2.last sa sb (λy hy x hx=>hl y hy _ z x hx)]]
    .rw[if_neg (by simpa using z)];split
     .exact wpS_pure #[rfl,.inr #[_,_,_,_,_,rfl,hm2,yaL r1 z,r2,zi (x:=0) (yb8 r3)]]
     .exact wpS_pure #[rfl,_,_,_,_,_,rfl,hm2,yaL r1 z,r2,zi r3]
  case ipost=>
   rintro c st' ⟨rfl,⟨m,r,rfl,hmm⟩|⟨out,ia',ib',ca,cb,rfl,hm,q1,q2,q4⟩⟩
   .exact wpS_pure #[g1,m,_,rfl,hmm]
   dsimp only;refine wpS_bind (zda ?_);refine wpS_bind (wpS_mono (wpS_forRange (I:=λx c st''=>SG st st''/\∃ out1 ia1 ib1 gg ca cb,c=(none,out1,ia1,ib1,gg,ca,cb)/\MI κ a b out1 ia1 ib1/\ia1+1 < a.size/\ib1 < b.size/\ia+ib+1<=ia1+ib1)
    (Q:=λc st''=>SG st st''/\((∃ m r,c=(some m,r)/\zck κ a b m)\/∃ out1 ia1 ib1 gg ca cb,c=(none,out1,ia1,ib1,gg,ca,cb)/\MI κ a b out1 ia1 ib1/\ia1+1<a.size/\ib1<b.size/\ia+ib+1<=ia1+ib1)) ?jstep ?jfin #[g1,_,_,_,_,_,_,rfl,hm,q1,q2,q4]) ?jpost)
   case jfin=>
    rintro c st'' ⟨g2,out1,ia1,ib1,gg1,ca1,cb1,rfl,r⟩;exact #[g2,.inr #[_,_,_,_,_,_,rfl,r]]
   case jpost=>
    rintro c st'' ⟨g2,⟨m,r,rfl,hmm⟩|⟨out1,ia1,ib1,gg1,ca1,cb1,rfl,hm1,t1,t2,t3⟩⟩
    .exact wpS_pure #[g2,m,_,rfl,hmm]
    .dsimp only;exact wpS_bind (zcM g2 λst3 g3=>wpS_pure #[g3,_,_,_,_,rfl,hm1,t1,t2,by lia])
   case jstep=>
    rintro x c st'' _ hx ⟨g2,out1,ia1,ib1,gg1,ca1,cb1,rfl,hm1,t1,t2,t3⟩;dsimp only;apply mp2
    case m=>
     intro key;by_cases hg:gg1>1
     .rw[if_pos hg];generalize gg1-1=gg2
      revert gg2
      exact key
     .rw[if_neg hg];generalize gg1=gg2
      revert gg2
      exact key
    intro gg2;refine wpS_bind (zcM g2 λst3 g3=>?_);have la:=ybB t1;refine wpS_bind (zbk t2 (wpS_bind (zc3 hO (by rw[g3.kind];exact hkd) (kb _ .(h)) ka (ze la) (ybK la) (zhW sa _ _ (ze la)) λk k1 k2 k3=>?_)));dsimp only;have hmk:MI κ a b (out1++a.extract ia1 (ia1+k)) (ia1+k) ib1:=hm1.goA sa (by rw[ya3,zfK]) λx hx y hy=>by
     obtain ⟨j,j1,j2,j3⟩:=zeL hx;have q:=k2 j j1;unfold bey at q;rw[if_neg .(k),zdu j3,ybW]at q;exact le_trans (show le κ x b[ib1] from q) (zdU sb t2 y hy)
    have bk:∀ hq:ia1+k<a.size,∀ y∈a.toList.drop (ia1+k),le κ b[ib1] y:=λhq y hy=>by
     have q:=k3 k (yaa _) (Nat.lt_sub_iff_add_lt'.mpr hq);unfold bey at q;rw[if_neg .(k),zbm hq,yc7]at q;exact le_trans (show le κ b[ib1] a[ia1+k] from KeyOrd.kle_of_klt q) (zdU sa hq y hy)
    apply mp2
    case m=>
     by_cases hk:k>0
     .by_cases z:ia1+k+1=a.size
      .intro h;clear h;rw[if_pos hk,if_pos (by simpa using z)];exact wpS_pure #[g3,.inl #[_,_,rfl,hmk.last sa sb (λy hy x hx=>hl y hy _ z x hx)]]
      have z0:¬(ia1+k+1==a.size)=true:=by simpa using z
      by_cases z':ia1+k=a.size
      .intro h;clear h;rw[if_pos hk,if_neg z0,if_pos (by simpa using z')];exact wpS_pure #[g3,.inl #[_,_,rfl,hmk.doneA sb (yaS z'.symm)]]
      have z1:¬(ia1+k==a.size)=true:=by simpa using z'
      have l2:=yaL ((Nat.le_sub_iff_add_le' (yaj la)).mp k1) z';have u2:=bk l2;have w1:=yaL l2 z;have w3:=yad t3 (ya8 (yaG ia1 k) ib1);intro key;rw[if_pos hk,if_neg z0,if_neg z1];refine (?_:MI κ a b (out1++a.extract ia1 (ia1+k)) (ia1+k) ib1->(∀ y∈a.toList.drop (ia1+k),le κ (b[ib1]'t2) y)->ia1+k+1<a.size->ia+ib+1<=ia1+k+ib1->_) hmk u2 w1 w3;generalize out1++a.extract ia1 (ia1+k)=out2;generalize ia1+k=ja;generalize k=cnt
      revert out2 ja cnt
      exact key
     .have e0:=ycQ hk;have u2:=bk (by rw[e0];exact la);rw[e0,ybL]at u2;intro key;rw[if_neg hk];refine (?_:MI κ a b out1 ia1 ib1->(∀ y∈a.toList.drop ia1,le κ (b[ib1]'t2) y)->ia1+1<a.size->ia+ib+1<=ia1+ib1->_) hm1 u2 t1 t3;generalize k=cnt;generalize ia1=ja;generalize out1=out2;exact key out2 ja cnt
    intro out2 ja cnt hm2 u2 w1 w3;refine wpS_bind (zbk t2 ?_);have hm3:=hm2.pb sb t2 u2;by_cases z2:ib1+1=b.size
    .rw[if_pos (by simpa using z2)];exact wpS_pure #[g3,.inl #[_,_,rfl,hm3.done sa (yaS z2.symm)]]
    .rw[if_neg (by simpa using z2)];have lj:=ybB w1;have lb:=yaL t2 z2;refine wpS_bind (zbk lj (wpS_bind (zc3 hO (by rw[g3.kind];exact hkd) (ka _ .(h)) kb (ze lb) (ybK lb) (zhW sb _ _ (ze lb)) λk' c1 c2 c3=>?_)));dsimp only;have ge5:∀ hq:ib1+1+k'<b.size,le κ (a[ja]'lj) b[ib1+1+k']:=λhq=>by
      have q:=c3 k' (yaa _) (Nat.lt_sub_iff_add_lt'.mpr hq);unfold bey at q;rw[if_pos rfl,zbm hq]at q;exact q
     have hm4:MI κ a b (out2.push b[ib1]++b.extract (ib1+1) (ib1+1+k')) ja (ib1+1+k'):=hm3.goB sb (by rw[ya3 (ys:=b.extract (ib1+1) (ib1+1+k')),zfK (xs:=b)]) λx hx y hy=>by
      obtain ⟨j,j1,j2,j3⟩:=zeL hx;have q:=c2 j j1;unfold bey at q;rw[if_pos rfl,zdu j3]at q;exact le_trans (show le κ x (a[ja]'lj) from KeyOrd.kle_of_klt q) (zdU sa lj y hy)
     by_cases hk':k'>0
     .rw[if_pos hk'];by_cases z3:ib1+1+k'=b.size
      .rw[if_pos (by simpa using z3)];exact wpS_pure #[g3,.inl #[_,_,rfl,hm4.done sa (yaS z3.symm)]]
      .rw[if_neg (by simpa using z3)];have lc:=yaL ((Nat.le_sub_iff_add_le' (yaj lb)).mp c1) z3;refine wpS_bind (zbk lj ?_);have hm5:=hm4.pa sa lj λy hy=>le_trans (show le κ (a[ja]'lj) (b[ib1+1+k']'lc) from ge5 lc) (zdU sb lc y hy);by_cases z4:ja+1+1=a.size
       .rw[if_pos (by simpa using z4)];exact wpS_pure #[g3,.inl #[_,_,rfl,hm5.last sa sb (λy hy x hx=>hl y hy _ z4 x hx)]]
       .rw[if_neg (by simpa using z4)];split
        .exact wpS_pure #[g3,.inr #[_,_,_,_,_,_,rfl,hm5,yaL w1 z4,lc,zg w3 (yad (yaG _ 1) (yaG _ _))]]
        .exact wpS_pure #[g3,_,_,_,_,_,_,rfl,hm5,yaL w1 z4,lc,zg w3 (yad (yaG _ 1) (yaG _ _))]
     .rw[if_neg hk'];have e0:=ycQ hk';subst e0
      replace hm4:=hm3
      refine wpS_bind (zbk lj ?_);have hm5:=hm4.pa sa lj λy hy=>le_trans (show le κ (a[ja]'lj) (b[ib1+1]'lb) from ge5 lb) (zdU sb lb y hy);by_cases z4:ja+1+1=a.size
      .rw[if_pos (by simpa using z4)];exact wpS_pure #[g3,.inl #[_,_,rfl,hm5.last sa sb (λy hy x hx=>hl y hy _ z4 x hx)]]
      .rw[if_neg (by simpa using z4)];split
       .exact wpS_pure #[g3,.inr #[_,_,_,_,_,_,rfl,hm5,yaL w1 z4,lb,zg w3 (yaG _ 1)]]
       .exact wpS_pure #[g3,_,_,_,_,_,_,rfl,hm5,yaL w1 z4,lb,zg w3 (yaG _ 1)]
end
end Tim
namespace Tim
open PySem PyProof.Rows
section
variable {κ:KeyKind}{a b out:Array Keyed}{na nb:Nat}
structure MH (κ:KeyKind)(a b:Array Keyed)(out:Array Keyed)(na nb:Nat):Prop where
 perm:((a.toList.take na++b.toList.take nb)++out.toList.reverse).Perm (a.toList++b.toList)
 srt:SL κ out.toList.reverse
 high:∀ x∈out.toList.reverse,∀ y∈a.toList.take na++b.toList.take nb,le κ y x
def zfw {l:List Keyed}{n m:Nat}(h:n<=m):l.take m=l.take n++(l.take m).drop n:=by
 have e:(l.take m).take n=l.take n:=by rw[List.take_take,ybc h]
 rw[<-e,ya2]
def MH.goA {out':Array Keyed}{n:Nat}(h:MH κ a b out na nb)(sa:SL κ a.toList)(hn:n<=na)(ho:out'.toList.reverse=(a.toList.take na).drop n++out.toList.reverse)(hle:∀ x∈(a.toList.take na).drop n,∀ y∈b.toList.take nb,le κ y x):MH κ a b out' n nb:=by
 have e:=zfw (l:=a.toList) hn;have s1:=sa.take na;rw[e]at s1;obtain ⟨p1,p2,p3⟩:=yaO.mp s1;refine #[?_,?_,?_]
 .refine List.Perm.trans ?_ h.perm;rw[ho,e,<-yaV];refine List.Perm.append_right _ ?_;rw[yaV,yaV,<-e];exact List.Perm.append_left _ ycr
 .rw[ho];exact yaO.mpr #[p2,h.srt,λx hx y hy=>h.high y hy x (ybb _ (ycd hx))]
 .intro x hx y hy;rw[ho]at hx;rcases yal.mp hx with hx|hx
  .rcases yal.mp hy with hy|hy
   .exact p3 y hy x hx
   .exact hle x hx y hy
  .refine h.high x hx y ?_;rcases yal.mp hy with hy|hy
   .refine ybb _ ?_;rw[e];exact ybb _ hy
   .exact yaI _ hy
def MH.goB {out':Array Keyed}{n:Nat}(h:MH κ a b out na nb)(sb:SL κ b.toList)(hn:n<=nb)(ho:out'.toList.reverse=(b.toList.take nb).drop n++out.toList.reverse)(hle:∀ x∈(b.toList.take nb).drop n,∀ y∈a.toList.take na,le κ y x):MH κ a b out' na n:=by
 have e:=zfw (l:=b.toList) hn;have s1:=sb.take nb;rw[e]at s1;obtain ⟨p1,p2,p3⟩:=yaO.mp s1;refine #[?_,?_,?_]
 .refine List.Perm.trans (List.Perm.of_eq ?_) h.perm;rw[ho,<-yaV,yaV (a.toList.take na),<-e]
 .rw[ho];exact yaO.mpr #[p2,h.srt,λx hx y hy=>h.high y hy x (yaI _ (ycd hx))]
 .intro x hx y hy;rw[ho]at hx;rcases yal.mp hx with hx|hx
  .rcases yal.mp hy with hy|hy
   .exact hle x hx y hy
   .exact p3 y hy x hx
  .refine h.high x hx y ?_;rcases yal.mp hy with hy|hy
   .exact ybb _ hy
   .refine yaI _ ?_;rw[e];exact ybb _ hy
def zff {xs:Array Keyed}{n:Nat}(h0:0<n)(h:n<=xs.size):(xs.toList.take n).drop (n-1)=[xs[n-1]' .(a)]:=by
 have h':n-1<xs.size:=by lia
 rw[ycR,show n-(n-1)=1 by lia,zfm h'];rfl
def zfx {xs:Array Keyed}{n:Nat}(hs:SL κ xs.toList)(h0:0<n)(h:n<=xs.size):∀ y∈xs.toList.take n,le κ y (xs[n-1]' .(a)):=by
 intro y hy;have q:=hs.take n;rw[zfw (l:=xs.toList) (show n-1<=n by lia),zff h0 h]at q hy;rcases yal.mp hy with hy|hy
 .exact (yaO.mp q).2.2 y hy _ (yao.mpr rfl)
 .rw[yao.mp hy];exact le_refl _
def MH.pa (h:MH κ a b out na nb)(sa:SL κ a.toList)(h0:0<na)(hn:na<=a.size)(hle:∀ y∈b.toList.take nb,le κ y (a[na-1]' .(a))):MH κ a b (out.push (a[na-1]' .(a))) (na-1) nb:=
 h.goA (n:=na - 1) sa (by lia) (by rw[zff h0 hn,ycs,ycS];rfl) (by
  rw[zff h0 hn];intro x hx;rw[yao.mp hx];exact hle)
def MH.pb (h:MH κ a b out na nb)(sb:SL κ b.toList)(h0:0<nb)(hn:nb<=b.size)(hle:∀ y∈a.toList.take na,le κ y (b[nb-1]' .(a))):MH κ a b (out.push (b[nb-1]' .(a))) na (nb-1):=
 h.goB (n:=nb - 1) sb (by lia) (by rw[zff h0 hn,ycs,ycS];rfl) (by
  rw[zff h0 hn];intro x hx;rw[yao.mp hx];exact hle)
def zeq {xs:Array Keyed}{n:Nat}:(xs.extract 0 n).toList=xs.toList.take n:=by
 rw[ycO,ycP,ycT,Nat.sub_zero]
def zon {xs:Array Keyed}{n m:Nat}:(xs.extract n m).toList=(xs.toList.take m).drop n:=by
 rw[ycO,ycP,ycR]
def MH.done (h:MH κ a b out na nb)(sb:SL κ b.toList)(hna:na=0):zck κ a b (a.extract 0 na++b.extract 0 nb++out.reverse):=by
 have e2:(a.extract 0 na++b.extract 0 nb++out.reverse).toList=(a.toList.take na++b.toList.take nb)++out.toList.reverse:=by
  rw[ya3,ya3,zeq,zeq,yct]
 refine #[by rw[e2];exact h.perm,?_];rw[e2];subst hna;refine yaO.mpr #[?_,h.srt,λx hx y hy=>h.high y hy x hx];rw[ycu,List.nil_append];exact sb.take nb
def MH.doneB (h:MH κ a b out na nb)(sa:SL κ a.toList)(hnb:nb=0):zck κ a b (a.extract 0 na++b.extract 0 nb++out.reverse):=by
 have e2:(a.extract 0 na++b.extract 0 nb++out.reverse).toList=(a.toList.take na++b.toList.take nb)++out.toList.reverse:=by
  rw[ya3,ya3,zeq,zeq,yct]
 refine #[by rw[e2];exact h.perm,?_];rw[e2];subst hnb;refine yaO.mpr #[?_,h.srt,λx hx y hy=>h.high y hy x hx];rw[ycu,yaw];exact sa.take na
def MH.first (h:MH κ a b out na nb)(sa:SL κ a.toList)(sb:SL κ b.toList)(hl:∀ y∈b.toList.take nb,∀ x∈a.toList,le κ y x):zck κ a b (b.extract 0 nb++a.extract 0 na++out.reverse):=by
 have e2:(b.extract 0 nb++a.extract 0 na++out.reverse).toList=(b.toList.take nb++a.toList.take na)++out.toList.reverse:=by
  rw[ya3,ya3,zeq,zeq,yct]
 refine #[?_,?_]
 .rw[e2];exact (List.Perm.append_right _ ycr).trans h.perm
 .rw[e2];refine yaO.mpr #[yaO.mpr #[sb.take nb,sa.take na,λx hx y hy=>hl x hx y (ycc hy)],h.srt,λx hx y hy=>h.high y hy x ?_];rcases yal.mp hx with q|q
  .exact yaI _ q
  .exact ybb _ q
end
def zlq:Array Keyed->Array Keyed->StateT SortSt Sem (Array Keyed):=sortPriv% PySem.Builtin.mergeHi
end Tim
namespace Tim
open PySem PyProof.Rows
section
variable {prog:Program}{w:World}{A:Around}{E:Value->Shared->Prop}{s:Shared}{κ:KeyKind}{kd:SortKind}
def zy {m n z:Nat}(h:m<n)(g:n<=z):n-1<z:=yak (ya5 h) g
def zv0 {a b:Nat}(h:0<a):0+1+(a-1+b)<=a+b:=by rw[<-yce,ycv,ybg h];exact yaa _
def zv1 {x m p q N:Nat}(h:x+(p+q)<=N)(r:m<p):x+1+(p-1+q)<=N:=by
 cases p with
 | zero=>cases r
 | succ p=>rw[Nat.add_sub_cancel,yce,<-yce 1,yca 1];exact h
def zv2 {x p N:Nat}(h:x+1+p<=N):1+p<=N:=yad (ya8 (Nat.le_add_left 1 x) p) h
def zv3 {x m p q N:Nat}(h:x+(p+q)<=N)(r:m<q):x+1+(p+(q-1))<=N:=by
 rw[yca p]at h ⊢;exact zv1 h r
def zv4 {n:Nat}(h:1<n)(z:¬n-1=1):1<n-1:=yaL (ybf h) (Ne.symm z)
def zw1 {a b c N:Nat}(w:1+(a+b)<=N)(h:c<=b-1):1+(a-1+c)<=N:=yad (yaK (Nat.add_le_add (ya7 _ _) (yad h (ya7 _ _))) 1) w
set_option maxHeartbeats 4000000 in
def zlO {st:SortSt}{a b:Array Keyed}{Q:Array Keyed->SortSt->Prop}(hO:LtG prog w A s κ kd)(hkd:kindOf st=kd)(ka:∀ q∈a.toList,Keyd κ q)(kb:∀ q∈b.toList,Keyd κ q)(sa:SL κ a.toList)(sb:SL κ b.toList)
  (ha:0<a.size) (hb:0<b.size) (h0:∀ y∈a.toList,le κ b[0] y) (hl:∀ y∈b.toList,le κ y (a[a.size-1]'(ya5 ha)))
  (h:∀ m st',zck κ a b m->SG st st'->Q m st'):wpS .(e) A E s (zlq a b) Q st:=by
 have fst:∀ n,n<=1->∀ y∈b.toList.take n,∀ x∈a.toList,le κ y x:=λn hn y hy x hx=>by
  have hy':y∈b.toList.take 1:=by
   rcases ybX n 1 with z|z
   .rw[Nat.lt_one_iff.mp z]at hy;simp at hy
   .rwa[ybm hn z]at hy
  have e:b.toList.take 1=[b[0]]:=by
   have:=zeK hb;rwa[ycT]at this
  rw[e]at hy';rw[yao.mp hy'];exact h0 x hx
 have m0:MH κ a b (List.toArray [a[a.size-1]'(ya5 ha)]) (a.size-1) b.size:=by
  have z:MH κ a b (List.toArray []) a.size b.size:=#[by
   rw[yat (by simp),yat (by simp)];simp,by simp,by simp]
  have:=z.pa sa ha (yaa _) (λy hy=>hl y (ycc hy));simpa using this
 refine wpS_bind (zda ?_);dsimp only;refine wpS_bind (zbk (ya5 ha) ?_);by_cases e1:a.size-1=0
 .rw[if_pos (by simpa using e1)];exact wpS_pure (h _ _ (m0.done sb e1) (SG.refl st))
 rw[if_neg (by simpa using e1)];by_cases e2:b.size=1
 .rw[if_pos (by simpa using e2)];exact wpS_pure (h _ _ (m0.first sa sb (fst _ (yaS e2))) (SG.refl st))
 rw[if_neg (by simpa using e2)];refine wpS_bind (wpS_get ?_);refine wpS_bind (wpS_mono (wpS_forRange (I:=λi c st'=>SG st st'/\∃ na nb out g,c=(none,na,nb,out,g)/\MH κ a b out na nb/\0 < na/\na<=a.size/\1 < nb/\nb<=b.size/\i+1+(na+nb)<=a.size+b.size)
  (Q:=λc st'=>SG st st'/\∃ m r,c=(some m,r)/\zck κ a b m) ?step ?fin #[SG.refl st,_,_,_,_,rfl,m0,ybn e1,ya7 _ _,yaL hb (Ne.symm e2),yaa _,zv0 ha]) ?post)
 case post=>
  rintro c st' ⟨g,m,r,rfl,hm⟩;exact wpS_pure (h m st' hm g)
 case fin=>
  rintro c st' ⟨g,na,nb,out,gg,rfl,hm,q1,q2,q3,q4,q5⟩;exact absurd q5 .(a)
 case step=>
  rintro i c st1 _ hi ⟨g1,na,nb,out,gg,rfl,hm,q1,q2,q3,q4,q5⟩;dsimp only;refine wpS_bind (wpS_mono (wpS_forRange (I:=λx c st'=>st'=st1/\∃ na' nb' out' ca cb,c=(none,na',nb',out',ca,cb)/\MH κ a b out' na' nb'/\0 < na'/\na'<=a.size/\1 < nb'/\nb'<=b.size/\x+(na'+nb')<=na+nb)
   (Q:=λc st'=>st'=st1/\((∃ m r,c=(some m,r)/\zck κ a b m)\/∃ na' nb' out' ca cb,c=(none,na',nb',out',ca,cb)/\MH κ a b out' na' nb'/\0<na'/\na'<=a.size/\1<nb'/\nb'<=b.size/\1+(na'+nb')<=na+nb)) ?istep ?ifin #[rfl,na,nb,out,0,0,rfl,hm,q1,q2,q3,q4,by lia]) ?ipost)
  case ifin=>
   rintro c st' ⟨rfl,na',nb',out',ca,cb,rfl,hm',r1,r2,r3,r4,r5⟩;exact #[rfl,.inr #[_,_,_,ca,cb,rfl,hm',r1,r2,r3,r4,by lia]]
  case istep=>
   rintro x c st' _ hx ⟨rfl,na',nb',out',ca,cb,rfl,hm',r1,r2,r3,r4,r5⟩;dsimp only;refine wpS_bind (zbk (zy r3 r4) (wpS_bind (zbk (zy r1 r2) (wpS_bind (lt_G hO (by rw[g1.kind];exact hkd) (kb _ .(h)) (ka _ .(h)) ?_)))));dsimp only;cases e:κ.blt (ky κ (b[nb'-1]'(zy r3 r4))) (ky κ (a[na'-1]'(zy r1 r2))) with
   | true=>
    simp only[if_true];have hm2:=hm'.pa sa r1 r2 (λy hy=>le_trans (zfx sb (ybH r3) r4 y hy) (show le κ (b[nb'-1]'(zy r3 r4)) (a[na'-1]'(zy r1 r2)) from KeyOrd.kle_of_klt e));refine wpS_bind (zbk (zy r1 r2) ?_);by_cases z:na'-1=0
    .rw[if_pos (by simpa using z)];exact wpS_pure #[rfl,.inl #[_,_,rfl,hm2.done sb z]]
    .rw[if_neg (by simpa using z)];split
     .exact wpS_pure #[rfl,.inr #[_,_,_,_,_,rfl,hm2,ybn z,yaj (zy r1 r2),r3,r4,zv2 (zv1 r5 r1)]]
     .exact wpS_pure #[rfl,_,_,_,_,_,rfl,hm2,ybn z,yaj (zy r1 r2),r3,r4,zv1 r5 r1]
   | false=>
    simp only[ya1,if_false];have hm2:=hm'.pb sb (ybH r3) r4 (λy hy=>le_trans (zfx sa r1 r2 y hy) (show le κ (a[na'-1]'(zy r1 r2)) (b[nb'-1]'(zy r3 r4)) from e));refine wpS_bind (zbk (zy r3 r4) ?_);by_cases z:nb'-1=1
    .rw[if_pos (by simpa using z)];exact wpS_pure #[rfl,.inl #[_,_,rfl,hm2.first sa sb (fst _ (yaS z))]]
    .rw[if_neg (by simpa using z)];split
     .exact wpS_pure #[rfl,.inr #[_,_,_,_,_,rfl,hm2,r1,r2,zv4 r3 z,yaj (zy r3 r4),zv2 (zv3 r5 r3)]]
     .exact wpS_pure #[rfl,_,_,_,_,_,rfl,hm2,r1,r2,zv4 r3 z,yaj (zy r3 r4),zv3 r5 r3]
  case ipost=>
   rintro c st' ⟨rfl,⟨m,r,rfl,hmm⟩|⟨na',nb',out,ca,cb,rfl,hm,q1,q2,q3,q4,q6⟩⟩
   .exact wpS_pure #[g1,m,_,rfl,hmm]
   dsimp only;refine wpS_bind (zda ?_);refine wpS_bind (wpS_mono (wpS_forRange (I:=λx c st''=>SG st st''/\∃ na1 nb1 out1 gg ca cb,c=(none,na1,nb1,out1,gg,ca,cb)/\MH κ a b out1 na1 nb1/\0 < na1/\na1<=a.size/\1 < nb1/\nb1<=b.size/\1+(na1+nb1)<=na+nb)
    (Q:=λc st''=>SG st st''/\((∃ m r,c=(some m,r)/\zck κ a b m)\/∃ na1 nb1 out1 gg ca cb,c=(none,na1,nb1,out1,gg,ca,cb)/\MH κ a b out1 na1 nb1/\0<na1/\na1<=a.size/\1<nb1/\nb1<=b.size/\1+(na1+nb1)<=na+nb)) ?jstep ?jfin #[g1,_,_,_,_,_,_,rfl,hm,q1,q2,q3,q4,q6]) ?jpost)
   case jfin=>
    rintro c st'' ⟨g2,na1,nb1,out1,gg1,ca1,cb1,rfl,r⟩;exact #[g2,.inr #[_,_,_,_,_,_,rfl,r]]
   case jpost=>
    rintro c st'' ⟨g2,⟨m,r,rfl,hmm⟩|⟨na1,nb1,out1,gg1,ca1,cb1,rfl,hm1,t1,t2,t3,t4,t5⟩⟩
    .exact wpS_pure #[g2,m,_,rfl,hmm]
    .dsimp only;exact wpS_bind (zcM g2 λst3 g3=>wpS_pure #[g3,_,_,_,_,rfl,hm1,t1,t2,t3,t4,by lia])
   case jstep=>
    rintro x c st'' _ hx ⟨g2,na1,nb1,out1,gg1,ca1,cb1,rfl,hm1,t1,t2,t3,t4,t5⟩;dsimp only;apply mp2
    case m=>
     intro key;by_cases hg:gg1>1
     .rw[if_pos hg];generalize gg1-1=gg2
      revert gg2
      exact key
     .rw[if_neg hg];generalize gg1=gg2
      revert gg2
      exact key
    intro gg2;refine wpS_bind (zcM g2 λst3 g3=>?_);refine wpS_bind (zbk (zy t3 t4) (wpS_bind (zc3 hO (by rw[g3.kind];exact hkd) (kb _ (by simp)) ka (by lia) (by lia) (zhW sa _ _ (by lia)) λat0 k1 k2 k3=>?_)));dsimp only;have hmk:MH κ a b (out1++(a.extract at0 na1).reverse) at0 nb1:=hm1.goA sa k1 (by
     rw[ya3,ycS,yct,yc8,zon]) λx hx y hy=>by
     rw[ycR]at hx;obtain ⟨j,j1,j2,j3⟩:=zeL hx;have q:=k3 (at0+j) .(a) .(a);unfold bey at q;rw[if_neg .(k),ycv,zdu j3,yc7]at q;exact le_trans (zfx sb (ybH t3) t4 y hy) (show le κ (b[nb1-1]'(zy t3 t4)) x from KeyOrd.kle_of_klt q)
    have hnb:=zy t3 t4;have bk:∀ y∈a.toList.take at0,le κ y (b[nb1-1]'hnb):=λy hy=>by
     have hy':y∈(a.toList.drop 0).take at0:=by rw[ycT];exact hy
     obtain ⟨j,j1,j2,j3⟩:=zeL hy';have q:=k2 j j1;unfold bey at q;rw[if_neg .(k),zdu j3,ybW]at q;exact q
    apply mp2
    case m=>
     by_cases hk:na1-at0>0
     .by_cases z:at0=0
      .intro h;clear h;rw[if_pos hk,if_pos (by simpa using z)];exact wpS_pure #[g3,.inl #[_,_,rfl,hmk.done sb z]]
      have w1:=ybn z;have w2:=yad k1 t2;have w3:=yad (yaK (ya8 k1 nb1) 1) t5;have z0:¬(at0==0)=true:=by simpa using z
      intro key;rw[if_pos hk,if_neg z0];refine (?_:MH κ a b (out1++(a.extract at0 na1).reverse) at0 nb1->(∀ y∈a.toList.take at0,le κ y (b[nb1-1]'hnb))->0<at0->at0<=a.size->1+(at0+nb1)<=na+nb->_) hmk bk w1 w2 w3;generalize out1++(a.extract at0 na1).reverse=out2;generalize na1-at0=cnt;generalize at0=na2
      revert out2 cnt na2
      exact key
     .have e0:=ybm k1 (yc9 (ycQ hk));rw[e0]at bk;intro key;rw[if_neg hk];refine (?_:MH κ a b out1 na1 nb1->(∀ y∈a.toList.take na1,le κ y (b[nb1-1]'hnb))->0<na1->na1<=a.size->1+(na1+nb1)<=na+nb->_) hm1 bk t1 t2 t5;generalize na1-at0=cnt;generalize na1=na2;generalize out1=out2;exact key out2 cnt na2
    intro out2 cnt na2 hm2 u2 w1 w2 w3;refine wpS_bind (zbk hnb ?_);have hm3:=hm2.pb sb (ybH t3) t4 u2;by_cases z2:nb1-1=1
    .rw[if_pos (by simpa using z2)];exact wpS_pure #[g3,.inl #[_,_,rfl,hm3.first sa sb (fst _ (yaS z2))]]
    .rw[if_neg (by simpa using z2)];refine wpS_bind (zbk (zy w1 w2) (wpS_bind (zc3 hO (by rw[g3.kind];exact hkd) (ka _ .(h)) kb .(a) .(a) (zhW sb _ _ .(a)) λat' c1 c2 c3=>?_)));dsimp only;have lt5:∀ hq:0<at',le κ (b[at'-1]'(zy hq (yad c1 (yaj hnb)))) (a[na2-1]'(zy w1 w2)):=λhq=>by
      have q:=c2 (at'-1) (ya5 hq);unfold bey at q;rw[if_pos rfl,ycv,zbm (zy hq (yad c1 (yaj hnb)))]at q;exact KeyOrd.kle_of_klt q
     have hm4:MH κ a b (out2.push (b[nb1 - 1]'hnb)++(b.extract at' (nb1 - 1)).reverse) na2 at':=hm3.goB sb c1 (by
      rw[ya3 (ys:=(b.extract at' (nb1-1)).reverse),ycS,yct,yc8,zon]) λx hx y hy=>by
      rw[ycR]at hx;obtain ⟨j,j1,j2,j3⟩:=zeL hx;have q:=c3 (at'+j) .(a) .(a);unfold bey at q;rw[if_pos rfl,ycv,zdu j3]at q;exact le_trans (zfx sa w1 w2 y hy) (show le κ (a[na2-1]'(zy w1 w2)) x from q)
     by_cases hk':nb1-1-at'>0
     .rw[if_pos hk'];by_cases z3:at'=1
      .rw[if_pos (by simpa using z3)];exact wpS_pure #[g3,.inl #[_,_,rfl,hm4.first sa sb (fst _ (yaS z3))]]
      rw[if_neg (by simpa using z3)];by_cases z3':at'=0
      .rw[if_pos (by simpa using z3')];exact wpS_pure #[g3,.inl #[_,_,rfl,hm4.doneB sa z3']]
      rw[if_neg (by simpa using z3')];refine wpS_bind (zbk (zy w1 w2) ?_);have c5:=ybn z3';have hm5:=hm4.pa sa w1 w2 λy hy=>le_trans (zfx sb c5 (yad c1 (yaj hnb)) y hy) (lt5 c5);by_cases z4:na2-1=0
      .rw[if_pos (by simpa using z4)];exact wpS_pure #[g3,.inl #[_,_,rfl,hm5.done sb z4]]
      .rw[if_neg (by simpa using z4)];split
       .exact wpS_pure #[g3,.inr #[_,_,_,_,_,_,rfl,hm5,ybn z4,yaj (zy w1 w2),yaL c5 (Ne.symm z3),yad c1 (yaj hnb),zw1 w3 c1]]
       .exact wpS_pure #[g3,_,_,_,_,_,_,rfl,hm5,ybn z4,yaj (zy w1 w2),yaL c5 (Ne.symm z3),yad c1 (yaj hnb),zw1 w3 c1]
     .rw[if_neg hk'];have e0:=ybm c1 (yc9 (ycQ hk'));subst e0
      replace hm4:=hm3
      refine wpS_bind (zbk (zy w1 w2) ?_);have c5:=ybK t3;have hm5:=hm4.pa sa w1 w2 λy hy=>le_trans (zfx sb c5 (yaj hnb) y hy) (lt5 c5);by_cases z4:na2-1=0
      .rw[if_pos (by simpa using z4)];exact wpS_pure #[g3,.inl #[_,_,rfl,hm5.done sb z4]]
      .rw[if_neg (by simpa using z4)];split
       .exact wpS_pure #[g3,.inr #[_,_,_,_,_,_,rfl,hm5,ybn z4,yaj (zy w1 w2),zv4 t3 z2,yaj hnb,zw1 w3 c1]]
       .exact wpS_pure #[g3,_,_,_,_,_,_,rfl,hm5,ybn z4,yaj (zy w1 w2),zv4 t3 z2,yaj hnb,zw1 w3 c1]
end
end Tim
namespace Tim
open PySem PyProof.Rows
section
variable {κ:KeyKind}
def zs1 {s k n:Nat}(a:k<=n):s+k+(n-k)=s+n:=by rw[yce,ybg a]
def zq1 {b i m:Nat}(h:b<=i)(g:i<b+m):i-b<m:=ycJ h g
def seg (xs:Array Keyed)(lo n:Nat):List Keyed:=(xs.toList.drop lo).take n
def zgH {xs:Array Keyed}{lo n i:Nat}(h:lo+n<=xs.size)(hi:i<n):(seg xs lo n)[i]?=xs[lo+i]?:=by
 unfold seg;rw[ycw,if_pos hi,ycU,ybd]
def zcv {xs:Array Keyed}{lo n:Nat}(h:lo+n<=xs.size):(seg xs lo n).length=n:=by
 unfold seg;rw[yar,ya0,yaA];exact ybc (ycK h)
def zqx {xs:Array Keyed}{lo n:Nat}(h:lo+n<=xs.size)(hU:Up κ xs lo (lo+n)):SL κ (seg xs lo n):=by
 rw[SL,ya9];intro i j hi hj hij;have hi':=hi;have hj':=hj;rw[zcv h]at hi' hj';have li:=yak (yaX hi' lo) h;have lj:=yak (yaX hj' lo) h;have e1:(seg xs lo n)[i]=xs[lo+i]'li:=by
  have:=zgH h hi';rw[yac hi,ybl li]at this;exact yae this
 have e2:(seg xs lo n)[j]=xs[lo+j]'lj:=by
  have:=zgH h hj';rw[yac hj,ybl lj]at this;exact yae this
 rw[e1,e2];have:=hU (lo+i) (lo+j) (yaG _ _) (yaK (yaj hij) lo) (yaX hj' lo);rw[zbm li,zbm lj]at this;exact this
def zlW {lo:Nat}:seg xs lo (n+m)=seg xs lo n++seg xs (lo+n) m:=by
 unfold seg;rw[List.take_add,ycb]
def zij {lo:Nat}:(xs.extract lo (lo+n)).toList=seg xs lo n:=zfK
def zm8 {xs:Array Keyed}{lo n:Nat}(h:lo+n<=xs.size):xs.toList=xs.toList.take lo++(seg xs lo n++xs.toList.drop (lo+n)):=by
 unfold seg;rw[<-ycb,ya2,ya2]
def back (xs:Array Keyed)(lo:Nat)(m:Array Keyed):Array Keyed:=m.toList.zipIdx.foldl (λa (q:Keyed×Nat)=>a.setIfInBounds (lo+q.2) q.1) xs
def zkK (lo:Nat):∀(l:List Keyed) (k:Nat) (xs:Array Keyed),lo+k+l.length<=xs.size->∀ i:Nat,
  ((l.zipIdx k).foldl (λa (q:Keyed×Nat)=>a.setIfInBounds (lo+q.2) q.1) xs)[i]?=if lo+k<=i/\i<lo+k+l.length then l[i-(lo+k)]? else xs[i]?
 | [],k,xs,h,i=>by
  rw[if_neg λq=>yb9 q.1 q.2];rfl
 | x::l,k,xs,h,i=>by
  rw[yaQ]at h;rw[List.zipIdx_cons,List.foldl_cons,zkK lo l (k+1) (xs.setIfInBounds (lo+k) x) (by rw[Array.size_setIfInBounds];lia) i,yaQ];by_cases h1:lo+(k+1)<=i/\i<lo+(k+1)+l.length
  .rw[if_pos h1,if_pos .(a),show i-(lo+k)=(i-(lo+(k+1)))+1 from (Nat.succ_pred_eq_of_pos (ybK h1.1)).symm,ycV]
  .rw[if_neg h1,Array.getElem?_setIfInBounds];by_cases h2:lo+k=i
   .rw[if_pos h2,if_pos .(a),if_pos .(a)];subst h2;simp
   .rw[if_neg h2,if_neg .(a)]
def zoI {xs m:Array Keyed}{lo:Nat}(h:lo+m.size<=xs.size):(back xs lo m).toList=xs.toList.take lo++(m.toList++xs.toList.drop (lo+m.size)):=by
 apply ybo;intro i;have q:=zkK lo m.toList 0 xs h i;unfold back;rw[ybd,q,yaA,ybL];have l1:(xs.toList.take lo).length=lo:=by rw[yar,yaA];exact ybc (yad (yaG _ _) h)
 by_cases h1:i<lo
 .rw[if_neg λz=>yb9 z.1 h1,ybu (by rw[l1];exact h1),ycw,if_pos h1,ybd]
 .rw[ybt (by rw[l1];exact yaN h1),l1];by_cases h2:i<lo+m.size
  .rw[if_pos #[yaN h1,h2],ybu (by rw[yaA];exact zq1 (yaN h1) h2)]
  .rw[if_neg λz=>h2 z.2,ybt (by rw[yaA];exact ycK (yaN h2)),yaA,ycU,show lo+m.size+(i-lo-m.size)=i by rw[ybT];exact ybg (yaN h2),ybd]
def zfs {xs m:Array Keyed}{lo:Nat}(h:lo+m.size<=xs.size)(i:Nat):(back xs lo m)[i]?=if lo<=i/\i<lo+m.size then m[i-lo]? else xs[i]?:=by
 have q:=zkK lo m.toList 0 xs h i;rw[yaA,ybL,ybd]at q;exact q
def zii {xs:Array Keyed}{lo n:Nat}{p:Keyed}(h:lo+n<=xs.size)(hp:p∈seg xs lo n):∃ q,lo<=q/\q<lo+n/\xs[q]?=some p:=by
 obtain ⟨i,hi,e⟩:=yaW hp;have hi':=hi;rw[zcv h]at hi';refine #[lo+i,yaG _ _,yaX hi' lo,?_];rw[<-zgH h hi',yac hi,e]
def zmb {xs:Array Keyed}{sa na nb k nb':Nat}(hz:sa+na+nb<=xs.size)(ua:Up κ xs sa (sa+na))(ub:Up κ xs (sa+na) (sa+na+nb))(hk:k<na)(hnb:nb'<=nb)(hb0:0<nb')
  (k2:∀ i,i<k->κ.kle (kAt κ xs (sa+i)) (kAt κ xs (sa+na))) (c3:∀ i,nb'<=i->i<nb->κ.kle (kAt κ xs (sa+na-1)) (kAt κ xs (sa+na+i)))
  (hm:zck κ (xs.extract (sa+k) (sa+na)) (xs.extract (sa+na) (sa+na+nb')) m) :
  Off xs (back xs (sa+k) m) sa (sa+(na+nb))/\Up κ (back xs (sa+k) m) sa (sa+(na+nb)):=by
 have zk:=zs1 (s:=sa) (yaj hk);have ex:(xs.extract (sa+k) (sa+na)).toList=seg xs (sa+k) (na-k):=by
  have:=zij (xs:=xs) (lo:=sa+k) (n:=na-k);rwa[zk]at this
 have ey:(xs.extract (sa+na) (sa+na+nb')).toList=seg xs (sa+na) nb':=zij;have hp:=hm.perm;rw[ex,ey]at hp;have hz':sa+na+nb'<=xs.size:=yad (yaK hnb _) hz;have ms:m.size=na-k+nb':=by
  have:=hp.length_eq;rw[yaA,yan,zcv (by rw[zk];exact yad (yaG _ _) hz),zcv hz']at this;exact this
 have hs:sa+k+m.size=sa+na+nb':=by rw[ms,<-yce,zk]
 have hzm:sa+k+m.size<=xs.size:=by rw[hs];exact hz'
 have bl:=zoI hzm;have mid:seg xs (sa+k) m.size=seg xs (sa+k) (na-k)++seg xs (sa+na) nb':=by
  rw[ms,zlW,zk]
 have perm:(back xs (sa+k) m).toList.Perm xs.toList:=by
  have e:=zm8 hzm;rw[mid]at e;refine (List.Perm.of_eq bl).trans (List.Perm.trans ?_ (List.Perm.of_eq e.symm));exact List.Perm.append_left _ (List.Perm.append_right _ hp)
 have inm:∀ i,sa+k<=i->i<sa+k+m.size->∃ q,sa+k<=q/\q<sa+na+nb'/\kAt κ (back xs (sa+k) m) i=kAt κ xs q:=by
  intro i h1 h2;have g:=zfs hzm i;rw[if_pos #[h1,h2],ybl (zq1 h1 h2)]at g;have hmem:m[i-(sa+k)]'(zq1 h1 h2)∈m.toList:=by simp
  rcases yal.mp (hp.mem_iff.mp hmem) with z|z
  .obtain ⟨q,q1,q2,e⟩:=zii (by rw[zk];exact yad (yaG _ _) hz) z;exact #[q,q1,yak q2 (by rw[zk];exact yaG _ _),zbA (g.trans e.symm)]
  .obtain ⟨q,q1,q2,e⟩:=zii hz' z;exact #[q,yad (yaK (yaj hk) _) q1,q2,zbA (g.trans e.symm)]
 clear zk ms mid ex ey hp;have outm:∀ i,(i<sa+k\/sa+k+m.size<=i)->kAt κ (back xs (sa+k) m) i=kAt κ xs i:=λi h=>zbA (by rw[zfs hzm,if_neg λz=>h.elim (yb9 z.1) (ybJ z.2)]);have am:∀ i q,sa<=i->i<sa+k->sa+k<=q->q<sa+na+nb->κ.kle (kAt κ xs i) (kAt κ xs q):=λi q h1 h2 h3 h4=>by
  by_cases z:q<sa+na
  .exact ua i q h1 (yad (yaj h2) h3) z
  .have t:=k2 (i-sa) (zq1 h1 h2);rw[ybg h1]at t;exact KeyOrd.kle_trans t (ub _ q (yaa _) (yaN z) h4)
 have mc:∀ q j,sa+k<=q->q<sa+na+nb'->sa+na+nb'<=j->j<sa+na+nb->κ.kle (kAt κ xs q) (kAt κ xs j):=λq j h1 h2 h3 h4=>by
  by_cases z:q<sa+na
  .have t:=c3 (j-(sa+na)) (ycK h3) (zq1 (yb8 h3) h4);rw[ybg (yb8 h3)]at t;exact KeyOrd.kle_trans (ua q (sa+na-1) (yb8 h1) (ybf z) (ya5 z)) t
  .exact ub q j (yaN z) (yad (yaj h2) h3) h4
 rw[<-yce];refine #[#[yc6.mpr perm,λi hi=>by rw[zfs hzm,if_neg .(a)]],λi j h1 h2 h3=>?_];by_cases i1:i<sa+k
 .rw[outm i (.inl i1)];by_cases j1:j<sa+k
  .rw[outm j (.inl j1)];exact ua i j h1 h2 .(a)
  .by_cases j2:j<sa+k+m.size
   .obtain ⟨q,q1,q2,e⟩:=inm j (yaN j1) j2;rw[e];exact am i q h1 i1 q1 (yak q2 (yaK hnb _))
   .rw[outm j (.inr (yaN j2))];exact am i j h1 i1 (yaN j1) h3
 .by_cases i2:i<sa+k+m.size
  .by_cases j2:j<sa+k+m.size
   .by_cases e:i=j
    .subst e;exact KeyOrd.kle_refl _
    .have gi:=zfs hzm i;have gj:=zfs hzm j;have i3:=yaN i1;have j3:=yad i3 h2;rw[if_pos #[i3,i2]]at gi;rw[if_pos #[j3,j2]]at gj;rw[zbA gi,zbA gj,zbm (zq1 i3 i2),zbm (zq1 j3 j2)];have:=ya9.mp hm.srt (i-(sa+k)) (j-(sa+k)) (zq1 i3 i2) (zq1 j3 j2) (Nat.sub_lt_sub_right i3 (yaL h2 e));simpa [le] using this
   .obtain ⟨q,q1,q2,e⟩:=inm i (yaN i1) i2;rw[e,outm j (.inr (yaN j2))];exact mc q j q1 q2 (by rw[<-hs];exact yaN j2) h3
  .rw[outm i (.inr .(a)),outm j (.inr .(a))];exact ub i j .(a) h2 .(a)
def zmC {na nb:Nat}(ua:Up κ xs sa (sa+na))(ub:Up κ xs (sa+na) (sa+na+nb))(hna:0<na)(hle:κ.kle (kAt κ xs (sa+na-1)) (kAt κ xs (sa+na))):Up κ xs sa (sa+(na+nb)):=by
 intro i j h1 h2 h3;by_cases z:j<sa+na
 .exact ua i j h1 h2 z
 .by_cases y:i<sa+na
  .exact KeyOrd.kle_trans (ua i (sa+na-1) h1 (ybf y) (ya5 y)) (KeyOrd.kle_trans hle (ub (sa+na) j (yaa _) .(a) .(a)))
  .exact ub i j .(a) h2 .(a)
end
end Tim
namespace Tim
open PySem PyProof.Rows
def zko (i:Nat):mergeAt' i=(do
 let s <-get
 let (some (sa,na,power),some (sb,nb,_)):=((pendingOf s)[i]?,(pendingOf s)[i+1]?)|unsupported "internal:list.sort.pending"
 set (setPending s (((pendingOf s).setIfInBounds i (sa,na+nb,power)).eraseIdxIfInBounds (i+1)))
 let some k <-zkw false (<-elem' (arrOf s) sb) (arrOf s) sa na 0|return false
 let (sa,na):=(sa+k,na-k)
 if na==0 then return true
 let some nb <-zkw true (<-elem' (arrOf s) (sa+na-1)) (arrOf s) sb nb (nb-1)|return false
 if nb==0 then return true
 let x:=(arrOf s).extract sa sb
 let y:=(arrOf s).extract sb (sb+nb)
 let merged <-if na<=nb then zlp x y else zlq x y
 modify λs=>setArr s (merged.toList.zipIdx.foldl (λa (p,j)=>a.setIfInBounds (sa+j) p) (arrOf s))
 return (failedOf (<-get)).isNone):=rfl
section
variable {prog:Program}{w:World}{A:Around}{E:Value->Shared->Prop}{s:Shared}{κ:KeyKind}{kd:SortKind}
def zq5 {U:Type}{x:U}{Q:PUnit->U->Prop}{st:U}(h:Q #[] x):wpS .(e) A E s (set x:StateT U Sem PUnit) Q st:=by
 unfold wpS;rw[StateT.run_set];exact wpAny_pure #[rfl,h]
def zs2 {s k n:Nat}(a:k<=n):s+k+(n-k)-1=s+n-1:=by rw[zs1 a]
def zs3 {s k n z:Nat}(a:k<=n)(b:s+n<z):s+k+(n-k)-1<z:=by rw[zs1 a];exact yaJ (ya7 _ _) b
def zs4 {s k n z:Nat}(a:k<=n)(b:s+n<z):s+k+(n-k)<=z:=by rw[zs1 a];exact yaj b
def zs5 {s k n j:Nat}(b:j<s+k+(n-k))(a:k<=n):j<s+n:=by rw[zs1 a]at b;exact b
def zs6 {s k n j:Nat}(b:j<s+k+(n-k))(a:k<=n)(c:s+k<=j):j-s<n:=ycJ (yad (yaG _ _) c) (zs5 b a)
def zs7 {s k n X z i:Nat}(e:X=n-k)(a:k<=n)(c:i<X)(b:s+n<z):s+k+i<z:=yak (yaX c _) (by rw[e,zs1 a];exact yaj b)
set_option maxHeartbeats 4000000 in
def zlP {st:SortSt}{i sa na pa nb pb:Nat}{Q:Bool->SortSt->Prop}(hO:LtG prog w A s κ kd)(hB:TB κ kd N st)
  (h1: .(J)[i]?=some (sa,na,pa)) (h2: .(J)[i+1]?=some (sa+na,nb,pb)) (hna:0<na) (hnb:0<nb) (hz:sa+na+nb<=N)
  (ua:Up κ .(i) sa (sa+na)) (ub:Up κ .(i) (sa+na) (sa+na+nb))
  (h:∀ st',TB κ kd N st'->Off .(i) (arrOf st') sa (sa+(na+nb))->Up κ (arrOf st') sa (sa+(na+nb))->pendingOf st'=(.(J).setIfInBounds i (sa,na+nb,pa)).eraseIdxIfInBounds (i+1)->Q true st') :
  wpS .(e) A E s (mergeAt' i) Q st:=by
 have hsz:=hB.size;rw[zko];refine wpS_bind (wpS_get ?_);rw[h1,h2];dsimp only;refine wpS_bind (zq5 ?_);generalize hp:(.(J).setIfInBounds i (sa,na+nb,pa)).eraseIdxIfInBounds (i+1)=pend at h;have same:∀ st',SG (setPending st pend) st'->TB κ kd N st'/\arrOf st'=arrOf st/\pendingOf st'=pend:=λst' g=>by
  have ga:arrOf st'=arrOf st:=g.arr;refine #[#[g.kind.trans hB.kind,by rw[ga];exact hB.keys,g.failed.trans hB.failed,by rw[ga];exact hB.size],ga,g.pend]
 obtain ⟨B0,_,_⟩:=same _ (SG.refl _);have hz':sa+na+nb<= .(i).size:=by rw[hsz];exact hz
 have hbz:=yak (ycH hnb) hz';refine wpS_bind (zbk hbz ?_);refine wpS_bind (zc3 hO B0.kind (hB.keys _ .(h)) hB.keys (yaj hbz) hna ua λk k1 k2 k3=>?_);dsimp only;have kk:kAt κ .(i) (sa+na)=ky κ .(i)[sa+na]:=zbm hbz;have k2':∀ i,i<k->κ.kle (kAt κ .(i) (sa+i)) (kAt κ .(i) (sa+na)):=λi hi=>by
  have:=k2 i hi;unfold bey at this;simp only[ya1,if_false,ybW]at this;rw[kk];exact this
 have k3':∀ i,k<=i->i<na->κ.klt (kAt κ .(i) (sa+na)) (kAt κ .(i) (sa+i)):=λi hi hj=>by
  have:=k3 i hi hj;unfold bey at this;simp only[ya1,if_false,yc7]at this;rw[kk];exact this
 by_cases e1:na-k=0
 .rw[if_pos (by simpa using e1)];obtain ⟨b1,b2,b3⟩:=same _ (SG.refl _);refine wpS_pure (h _ b1 (by rw[b2];exact Off.refl _ _ _) ?_ b3);rw[b2];refine zmC ua ub hna ?_;have:=k2' (na-1) (yak (ya5 hna) (yc9 e1));rwa[<-Nat.add_sub_assoc hna]at this
 rw[if_neg (by simpa using e1)];have ek:=Nat.lt_of_sub_ne_zero e1;have e2:sa+k+(na-k)-1=sa+na-1:=zs2 k1;have hlz:sa+k+(na-k)-1< .(i).size:=zs3 k1 hbz;refine wpS_bind (zbk hlz ?_);refine wpS_bind (zc3 hO B0.kind (hB.keys _ .(h)) hB.keys hz' (ya5 hnb) ub λc c1 c2 c3=>?_);dsimp only;have ck:ky κ (.(i)[sa+k+(na-k)-1]'hlz)=kAt κ .(i) (sa+na-1):=by
  rw[<-zbm hlz,e2]
 have c2':∀ i,i<c->κ.klt (kAt κ .(i) (sa+na+i)) (kAt κ .(i) (sa+na-1)):=λi hi=>by
  have:=c2 i hi;unfold bey at this;simp only[if_true]at this;rw[<-ck];exact this
 have c3':∀ i,c<=i->i<nb->κ.kle (kAt κ .(i) (sa+na-1)) (kAt κ .(i) (sa+na+i)):=λi hi hj=>by
  have:=c3 i hi hj;unfold bey at this;simp only[if_true]at this;rw[<-ck];exact this
 by_cases e3:c=0
 .rw[if_pos (by simpa using e3)];obtain ⟨b1,b2,b3⟩:=same _ (SG.refl _);refine wpS_pure (h _ b1 (by rw[b2];exact Off.refl _ _ _) ?_ b3);rw[b2];exact zmC ua ub hna (c3' 0 (yaS e3) hnb)
 rw[if_neg (by simpa using e3)];generalize hX: .(i).extract (sa+k) (sa+na)=X;generalize hY: .(i).extract (sa+na) (sa+na+c)=Y;have xl:X.toList=seg .(i) (sa+k) (na-k):=by
  have:=zij (xs:=arrOf st) (lo:=sa+k) (n:=na-k);rw[<-hX];rwa[show sa+k+(na-k)=sa+na from zs1 k1]at this
 have yl:Y.toList=seg .(i) (sa+na) c:=by rw[<-hY];exact zij
 have xz:X.size=na-k:=by
  have:=congrArg List.length xl;rwa[yaA,zcv (zs4 k1 hbz)]at this
 have hc:=yad (yaK c1 (sa+na)) hz';have yz:Y.size=c:=by
  have:=congrArg List.length yl;rwa[yaA,zcv hc]at this
 have xg:∀ i (hi:i<X.size),X[i]= .(i)[sa+k+i]'(zs7 xz k1 hi hbz):=λi hi=>by
  have e:X[i]?= .(i)[sa+k+i]?:=by
   rw[<-ybd,xl];exact zgH (zs4 k1 hbz) (by rw[<-xz];exact hi)
  rw[ybl hi,ybl (zs7 xz k1 hi hbz)]at e;exact yae e
 have yq:∀{i},i<Y.size->sa+na+i< .(i).size:=λhi=>yak (yaX hi _) (by rw[yz];exact hc);have x0:0<X.size:=by rw[xz];exact ybK ek
 have v0:0<Y.size:=by rw[yz];exact ybn e3
 have yg:∀ i (hi:i<Y.size),Y[i]= .(i)[sa+na+i]'(yq hi):=λi hi=>by
  have e:Y[i]?= .(i)[sa+na+i]?:=by
   rw[<-ybd,yl];exact zgH hc (by rw[<-yz];exact hi)
  rw[ybl hi,ybl (yq hi)]at e;exact yae e
 have xm:∀ q∈X.toList,∃ i,k<=i/\i<na/\ky κ q=kAt κ .(i) (sa+i)/\q∈ .(i).toList:=λq hq=>by
  rw[xl]at hq;obtain ⟨j,j1,j2,e⟩:=zii (zs4 k1 hbz) hq;refine #[j-sa,ycp (by rw[yca];exact j1),zs6 j2 k1 j1,?_,?_]
  .rw[ybg (yad (yaG _ _) j1),zdu e]
  .rw[<-ybd]at e;exact yaM e
 have ym:∀ q∈Y.toList,∃ i,i<c/\ky κ q=kAt κ .(i) (sa+na+i)/\q∈ .(i).toList:=λq hq=>by
  rw[yl]at hq;obtain ⟨j,j1,j2,e⟩:=zii hc hq;refine #[j-(sa+na),zq1 j1 j2,?_,?_]
  .rw[ybg j1,zdu e]
  .rw[<-ybd]at e;exact yaM e
 have kX:∀ q∈X.toList,Keyd κ q:=λq hq=>by obtain ⟨_,_,_,_,z⟩:=xm q hq;exact hB.keys q z
 have kY:∀ q∈Y.toList,Keyd κ q:=λq hq=>by obtain ⟨_,_,_,z⟩:=ym q hq;exact hB.keys q z
 have sX:SL κ X.toList:=by
  rw[xl];exact zqx (zs4 k1 hbz) (λi j q1 q2 q3=>ua i j (yad (yaG _ _) q1) q2 (zs5 q3 k1))
 have sY:SL κ Y.toList:=by
  rw[yl];exact zqx hc (λi j q1 q2 q3=>ub i j q1 q2 (yak q3 (yaK c1 _)))
 have y0:∀(hb:0<Y.size),ky κ Y[0]=kAt κ .(i) (sa+na):=λhb=>by
  rw[yg 0 hb,<-zbm];rfl
 have lo0:∀(hb:0<Y.size),∀ q∈X.toList,le κ Y[0] q:=λhb q hq=>by
  obtain ⟨i,i1,i2,e,_⟩:=xm q hq;unfold le;rw[y0 hb,e];exact KeyOrd.kle_of_klt (k3' i i1 i2)
 have xlast:∀(ha:X.size-1<X.size),ky κ X[X.size-1]=kAt κ .(i) (sa+na-1):=λha=>by
  rw[xg _ ha,<-zbm];rw[xz,<-Nat.add_sub_assoc (ybK ek),e2]
 have hi0:∀(ha:X.size-1<X.size),∀ q∈Y.toList,le κ q X[X.size-1]:=λha q hq=>by
  obtain ⟨i,i1,e,_⟩:=ym q hq;unfold le;rw[xlast ha,e];exact KeyOrd.kle_of_klt (c2' i i1)
 have fin:∀ m st',zck κ X Y m->SG (setPending st pend) st'->wpS (model prog w) A E s (do
   modify λs=>setArr s (m.toList.zipIdx.foldl (λa (q:Keyed×Nat)=>a.setIfInBounds (sa+k+q.2) q.1) (arrOf s))
   return (failedOf (<-get)).isNone) Q st':=λm st' hm g=>by
  obtain ⟨b1,b2,b3⟩:=same _ g;refine wpS_bind (wpS_modify ?_);refine wpS_bind (wpS_get ?_);have hf:failedOf (setArr st' (m.toList.zipIdx.foldl (λa (q:Keyed×Nat)=>a.setIfInBounds (sa+k+q.2) q.1) (arrOf st')))=none:=b1.failed;rw[hf];rw[<-hX,<-hY]at hm;obtain ⟨o1,o2⟩:=zmb hz' ua ub ek c1 (ybn e3) k2' c3' hm;refine wpS_pure (h _ ?_ ?_ ?_ b3)
  .refine b1.off (lo:=sa) (hi:=sa+(na+nb)) ?_;rw[b2];exact o1
  .show Off .(i) (back (arrOf st') (sa+k) m) _ _;rw[b2];exact o1
  .show Up κ (back (arrOf st') (sa+k) m) _ _;rw[b2];exact o2
 by_cases e4:na-k<=c
 .rw[if_pos e4];refine wpS_bind ?_;refine zlN hO B0.kind kX kY sX sY x0 v0 (lo0 _) ?_ λm st' hm g=>fin m st' hm g;intro q hq i hi x hx;have:x=X[X.size-1]'(ya5 x0):=by
   rw[Nat.eq_sub_of_add_eq hi,zfm (ya5 x0),yba (by rw[yaA,Nat.sub_add_cancel x0];exact yaa _)]at hx;exact yao.mp hx
  rw[this];exact hi0 _ q hq
 .rw[if_neg e4];refine wpS_bind ?_;exact zlO hO B0.kind kX kY sX sY x0 v0 (lo0 _) (hi0 (ya5 x0)) λm st' hm g=>fin m st' hm g
end
end Tim
namespace Tim
open PySem PyProof.Rows
section
variable {κ:KeyKind}{xs ys:Array Keyed}
def Runs (κ:KeyKind)(xs:Array Keyed):List (Nat×Nat×Nat)->Nat->Nat->Prop
 | [],a,b=>a=b
 | (s,n,_)::r,a,b=>s=a/\0<n/\Up κ xs a (a+n)/\Runs κ xs r (a+n) b
def Runs.le:∀{l:List (Nat×Nat×Nat)} {a b:Nat},Runs κ xs l a b->a+l.length<=b
 | [],_,_,h=>by rw[show _=_ from h];simp
 | (s,n,p)::r,a,b,⟨_,h1,_,h2⟩=>by
  have:=Runs.le h2;rw[yaQ];lia
def Runs.split:∀{l m:List (Nat×Nat×Nat)} {a b:Nat},Runs κ xs (l++m) a b->∃ c,Runs κ xs l a c/\Runs κ xs m c b
 | [],m,a,b,h=>#[a,rfl,h]
 | (s,n,p)::r,m,a,b,⟨h0,h1,h2,h3⟩=>by
  obtain ⟨c,c1,c2⟩:=Runs.split (l:=r) h3;exact #[c,#[h0,h1,h2,c1],c2]
def Runs.glue:∀{l m:List (Nat×Nat×Nat)} {a b c:Nat},Runs κ xs l a c->Runs κ xs m c b->Runs κ xs (l++m) a b
 | [],m,a,b,c,h,g=>by rw[show a=c from h];exact g
 | (s,n,p)::r,m,a,b,c,⟨h0,h1,h2,h3⟩,g=>#[h0,h1,h2,Runs.glue h3 g]
def Up.off {lo a b:Nat}(h:Up κ xs a b)(o:Off xs ys lo hi)(d:b<=lo\/hi<=a):Up κ ys a b:=λi j h1 h2 h3=>by
 rw[zku o .(a),zku o .(a)];exact h i j h1 h2 h3
def Runs.off {lo:Nat}(o:Off xs ys lo hi):∀{l:List (Nat×Nat×Nat)} {a b:Nat},Runs κ xs l a b->(b<=lo\/hi<=a)->Runs κ ys l a b
 | [],_,_,h,_=>h
 | (s,n,p)::r,a,b,⟨h0,h1,h2,h3⟩,d=>by
  have:=Runs.le h3;exact #[h0,h1,h2.off o .(a),Runs.off o h3 .(a)]
def zjg {α:Type}{x y v:α}{post:List α}:∀ pre:List α,((pre++x::y::post).set pre.length v).eraseIdx (pre.length+1)=pre++v::post
 | []=>rfl
 | p::pre=>by
  rw[List.cons_append,yaQ,List.set_cons_succ,List.eraseIdx_cons_succ,zjg pre,List.cons_append]
end
section
variable {prog:Program}{w:World}{A:Around}{E:Value->Shared->Prop}{s:Shared}{κ:KeyKind}{kd:SortKind}
structure SI (κ:KeyKind)(kd:SortKind)(a₀:Array Keyed)(lo:Nat)(st:SortSt):Prop where
 tb:TB κ kd a₀.size st
 perm: .(i).Perm a₀
 le:lo<=a₀.size
 runs:Runs κ .(i) .(J).toList 0 lo
def zfT {st:SortSt}{lo i:Nat}{Q:Bool->SortSt->Prop}(hO:LtG prog w A s κ kd)(hI:SI κ kd a₀ lo st)(hi:i+1< .(J).size)
  (h:∀ st',SI κ kd a₀ lo st'->Off .(i) (arrOf st') 0 lo->(pendingOf st').size+1= .(J).size->Q true st'):wpS .(e) A E s (mergeAt' i) Q st:=by
 have hl: .(J).toList.length= .(J).size:=yaA;obtain ⟨pre,x,y,post,e,hp⟩:∃ pre x y post,(pendingOf st).toList=pre++x::y::post/\pre.length=i:=by
  refine #[.(J).toList.take i,.(J).toList[i]' .(a),.(J).toList[i+1]' .(a),.(J).toList.drop (i+2),?_,?_]
  .rw[<-ycq,<-ycq,ya2]
  .rw[yar];lia
 obtain ⟨sa,na,pa⟩:=x;obtain ⟨sb,nb,pb⟩:=y;have hr:=hI.runs;rw[e]at hr;obtain ⟨c,r1,h0,h1,ua,h2,h3,ub,r2⟩:=hr.split;subst h0 h2;have l1:=r2.le;have l0:=hI.le;have g1: .(J)[i]?=some (sa,na,pa):=by
  rw[<-ybd,e,<-hp];simp
 have g2: .(J)[i+1]?=some (sa+na,nb,pb):=by
  rw[<-ybd,e,<-hp,ybt .(a),show pre.length+1-pre.length=1 by lia];rfl
 refine zlP hO hI.tb g1 g2 h1 h3 .(a) ua ub λst' b1 b2 b3 b4=>?_;have e':(pendingOf st').toList=pre++(sa,na+nb,pa)::post:=by
  rw[b4,Array.toList_eraseIdxIfInBounds,Array.toList_setIfInBounds,e,<-hp];exact zjg pre
 refine h st' #[b1,b2.perm.trans hI.perm,hI.le,?_] (b2.wide (yaF _) .(a)) ?_
 .rw[e'];refine (r1.off b2 (.inl (yaa _))).glue #[rfl,by lia,b3,?_];have:=r2.off b2 (.inr .(a));rwa[show sa+na+nb=sa+(na+nb) by lia]at this
 .have z1:=congrArg List.length e;have z2:=congrArg List.length e';rw[yaA,yan,yaQ]at z1 z2;rw[yaQ]at z1;lia
end
end Tim
namespace Tim
open PySem PyProof.Rows
section
variable {prog:Program}{w:World}{A:Around}{E:Value->Shared->Prop}{s:Shared}{κ:KeyKind}{kd:SortKind}
def Runs.modify {p:Nat}:∀{l:List (Nat×Nat×Nat)} {a b:Nat} (i:Nat),Runs κ xs l a b->Runs κ xs (l.modify i λx=>(x.fst,x.2.fst,p)) a b
 | [],_,_,i,h=>by
  cases i<;>exact h
 | (s,n,q)::r,a,b,0,h=>h
 | (s,n,q)::r,a,b,i+1,⟨h0,h1,h2,h3⟩=>#[h0,h1,h2,Runs.modify i h3]
def SI.setp {lo hi:Nat}{st:SortSt}{p:Array (Nat×Nat×Nat)}(hI:SI κ kd a₀ lo st)(hz:hi<=a₀.size)(hr:Runs κ .(i) p.toList 0 hi):SI κ kd a₀ hi (setPending st p):=
 #[#[hI.tb.kind,hI.tb.keys,hI.tb.failed,hI.tb.size],hI.perm,hz,hr]
def SI.pushed {st:SortSt}{lo n:Nat}(hI:SI κ kd a₀ lo st)(hn:0<n)(hz:lo+n<=a₀.size)(hU:Up κ .(i) lo (lo+n)):SI κ kd a₀ (lo+n) (setPending st (.(J).push (lo,n,0))):=by
 refine hI.setp hz ?_;rw[ycs];exact hI.runs.glue #[rfl,hn,hU,rfl]
def SI.marked {st:SortSt}{lo p:Nat}(hI:SI κ kd a₀ lo st):SI κ kd a₀ lo (setPending st (.(J).modify (.(J).size-1) λx=>(x.fst,x.2.fst,p))):=by
 refine hI.setp hI.le ?_;rw[Array.toList_modify];exact hI.runs.modify _
def zoU {c:Prop}[Decidable c]{n:Nat}(h:2<=n):(if c then n-2-1 else n-2)+1<n:=by
 split<;>lia
def zjZ {st:SortSt}{Q:Unit->SortSt->Prop}(hO:LtG prog w A s κ kd)(hI:SI κ kd a₀ 0 st)(h2:2<=a₀.size)
  (h:∀ st',(arrOf st').Perm a₀->failedOf st'=none->Up κ (arrOf st') 0 a₀.size->Q () st'):wpS .(e) A E s sortRuns' Q st:=by
 rw[sortRuns'_eq];refine wpS_bind (wpS_get ?_);dsimp only;simp only[hI.tb.size];generalize minRun' a₀.size a₀.size 0=mr;refine wpS_bind (wpS_mono (wpS_forRange (I:=λx c st'=>∃ lo,c=(none,lo)/\x<=lo/\SI κ kd a₀ lo st') (Q:=λc st'=>c=(none,a₀.size)/\SI κ kd a₀ a₀.size st') ?step ?fin #[0,rfl,yaa _,hI]) ?post)
 case fin=>
  rintro c st' ⟨lo,rfl,hx,hI'⟩;have e:lo=a₀.size:=by
   have:=hI'.le;lia
  subst e;exact #[rfl,hI']
 case step=>
  rintro x c st' _ hx ⟨lo,rfl,hxl,hI'⟩;have hle:=hI'.le;dsimp only;by_cases hlo:lo >= a₀.size
  .rw[if_pos hlo];have e:lo=a₀.size:=by lia
   subst e;exact wpS_pure #[rfl,hI']
  .rw[if_neg hlo];refine wpS_bind (zj0 hO hI'.tb .(a) .(a) λr st2 hr=>?_);obtain ⟨n,ys,rfl,n1,n2,rfl,ho,hU⟩:=hr;have hI2:SI κ kd a₀ lo (setArr st' ys):=#[hI'.tb.off ho,ho.perm.trans hI'.perm,hle,hI'.runs.off ho (.inl (yaa _))];dsimp only;apply mp2
   case m=>
    intro key;by_cases hmr:n<mr
    .rw[if_pos hmr];have l1:lo+min (a₀.size-lo) mr<=a₀.size:=Nat.add_le_of_le_sub' hle (Nat.min_le_left _ _);have l2:=Nat.le_min.mpr #[n2,yaj hmr];refine wpS_bind (zda (wpS_bind (zhT hO hI2.tb l1 l2 hU λzs oz uz=>?_)));simp only[ycW,ya1,if_false];refine (?_:SI κ kd a₀ lo (setArr st' zs)->Up κ zs lo (lo+min (a₀.size-lo) mr)->0<min (a₀.size-lo) mr->lo+min (a₀.size-lo) mr<=a₀.size->_) #[hI2.tb.off oz,oz.perm.trans hI2.perm,hle,hI2.runs.off oz (.inl (yaa _))] uz (yad n1 l2) l1;generalize min (a₀.size-lo) mr=m;generalize zs=xs
     revert m xs
     exact key
    .rw[if_neg hmr];exact key n ys hI2 hU n1 (Nat.add_le_of_le_sub' hle n2)
   intro m xs hI3 uz m0 m1;have m2:x+1<=lo+m:=Nat.add_le_add hxl m0;refine wpS_bind (wpS_get ?_);cases hb:(pendingOf (setArr st' xs)).back? with
   | none=>
    dsimp only;exact wpS_bind (wpS_modify (wpS_pure #[_,rfl,m2,hI3.pushed m0 m1 uz]))
   | some x1=>
    obtain ⟨s1,n1',p1⟩:=x1;dsimp only;refine wpS_bind (wpS_mono (wpS_forRange (I:=λ_ c st5=>c=(none,())/\SI κ kd a₀ lo st5/\Up κ (arrOf st5) lo (lo+m)) (Q:=λc st5=>c=(none,())/\SI κ kd a₀ lo st5/\Up κ (arrOf st5) lo (lo+m)) ?_ (λ_ _ z=>z) #[rfl,hI3,uz]) ?_)
    .rintro i c st5 _ _ ⟨rfl,hI5,hU5⟩;refine wpS_bind (wpS_get ?_);by_cases h1:(pendingOf st5).size>1
     .have h2:=Nat.sub_lt (ybH h1) yb7;rw[if_pos h1,ybl h2];obtain ⟨q1,q2,q3⟩:=(pendingOf st5)[(pendingOf st5).size-2]'h2;dsimp only;split
      .exact wpS_pure #[rfl,hI5,hU5]
      .refine wpS_bind (zfT hO hI5 .(a) λst6 h3 h4 _=>?_);simp only[ycW,ya1,if_false];exact wpS_pure #[rfl,h3,hU5.off h4 (.inr (yaa _))]
     .rw[if_neg h1];exact wpS_pure #[rfl,hI5,hU5]
    .rintro c st5 ⟨rfl,hI5,hU5⟩;dsimp only;exact wpS_bind (wpS_modify (wpS_bind (wpS_modify (wpS_pure #[_,rfl,m2,SI.pushed (SI.marked hI5) m0 m1 hU5]))))
 case post=>
  rintro c st' ⟨rfl,hI'⟩;dsimp only;refine wpS_bind (wpS_mono (wpS_forRange (I:=λx c st''=>c=(none,())/\SI κ kd a₀ a₀.size st''/\(pendingOf st'').size+x<=a₀.size+1) (Q:=λc st''=>c=(none,())/\SI κ kd a₀ a₀.size st''/\(pendingOf st'').size<=1) ?_ ?_ #[rfl,hI',?_]) ?_)
  .rintro x c st'' _ hx ⟨rfl,hJ,hz⟩;refine wpS_bind (wpS_get ?_);by_cases h1:(pendingOf st'').size<=1
   .rw[if_pos h1];exact wpS_pure #[rfl,hJ,h1]
   .rw[if_neg h1];refine wpS_bind (zfT hO hJ ?_ λst3 h3 _ h4=>?_)
    .exact zoU .(a)
    .simp only[ycW,ya1,if_false];exact wpS_pure #[rfl,h3,by lia]
  .rintro c st'' ⟨rfl,hJ,hz⟩;exact #[rfl,hJ,by lia]
  .have:=hI'.runs.le;rw[yaA]at this;lia
  .rintro c st'' ⟨rfl,hJ,hz⟩;dsimp only;refine wpS_pure (h _ hJ.perm hJ.tb.failed ?_);have hr:=hJ.runs;rw[<-yaA]at hz
   match e:(pendingOf st'').toList,hz,hr with
   | [],_,hr=>
    have:0=a₀.size:=hr;lia
   | [(s1,n1,p1)],_,hr=>
    obtain ⟨_,_,u,z⟩:=hr;have z:0+n1=a₀.size:=z;rw[z]at u;exact u
end
end Tim
namespace Tim
open PySem PyProof.Rows
section
variable {prog:Program}{w:World}{A:Around}{E:Value->Shared->Prop}{s:Shared}{κ:KeyKind}{kd:SortKind}
def zfS (a:Addr)(h h':Heap):Prop:=∀ b o,b≠a->h.get? b=some o->h'.get? b=some o
def keyV (κ:KeyKind)(v:Value):κ.α:=(κ.keyOf v).getD κ.dflt
def zjX:∀ vs:List Value,vs.zip vs=vs.map λv=>(v,v)
 | []=>rfl
 | v::vs=>by rw[yda,zjX vs,yav]
def zix {vs:List Value}{p:Keyed}(h:p∈(pairsOf vs).toList):p.1=p.2/\p.1∈vs:=by
 have e:(pairsOf vs).toList=vs.zip vs:=by
  unfold pairsOf;simp
 rw[e]at h;rw[zjX]at h;obtain ⟨v,hv,rfl⟩:=yaE.mp h;exact #[rfl,hv]
def zno (vs:List Value):(pairsOf vs).toList.map (·.2)=vs:=by
 have e:(pairsOf vs).toList=vs.zip vs:=by
  unfold pairsOf;simp
 rw[e,zjX,ybM];have z:((λx:Keyed=>x.2) ∘ λv:Value=>(v,v))=id:=rfl
 first
  | rw[z,List.map_id]
  | exact List.map_id vs
def zte {vs:List Value}{xs:Array Keyed}(hp:xs.Perm (pairsOf vs))(hU:Up κ xs 0 (pairsOf vs).size) :
  (xs.toList.map (·.2)).Perm vs/\(xs.toList.map (·.2)).Pairwise (λx y=>κ.kle (keyV κ x) (keyV κ y)):=by
 have hpl:=yc6.mp hp;refine #[?_,?_]
 .have:=hpl.map (·.2);rwa[zno]at this
 .have hs:SL κ xs.toList:=zrY (by rw[hp.size_eq];exact hU);refine ycf.mpr (hs.imp_of_mem λ{a b} ha hb hab=>?_);have ea:=(zix (hpl.mem_iff.mp ha)).1;have eb:=(zix (hpl.mem_iff.mp hb)).1;unfold le ky at hab;unfold keyV;rw[<-ea,<-eb];exact hab
def zqv {a:Addr}{vs:List Value}{n:Nat}{P:Fin->Shared->Prop}(ho:s.heap.get? a=some (seqObj "list" vs.toArray n))(hz:vs.length<=sizeLine)(keys:∀ v∈vs,∃ k,κ.keyOf v=some k)
  (hlt:∀ h',zfS a s.heap h'->LtG prog w A { s with heap:=h' } κ kd)
  (hkd:∀(h':Heap) (E:Value->Shared->Prop) (Q:SortKind->Shared->Prop),zfS a s.heap h'->2<=vs.length->Q kd { s with heap:=h' }->wpAny .(e) A (keyKind' vs.toArray) Q E { s with heap:=h' })
  (h:∀ out:List Value,out.Perm vs->out.Pairwise (λx y=>κ.kle (keyV κ x) (keyV κ y))->P (.done (.ret .none)) { s with heap:=sortedHeap s.heap a vs out.toArray }) :
  wpAny .(e) A (Builtin.«list.sort» #[[.ref a],[]]) P E s:=by
 rw[list_sort_plain];have hlt0:a<s.heap.objs.size:=yag ho;refine wpAny_bind (listItems_at ho rfl ?_);refine wpAny_bind (listUpdate_at ho rfl ?_ (by simpa using hz) (yaF _));obtain ⟨m,ho1⟩:∃ m,(s.heap.update a (Obj.mapSeq λ_=>(List.toArray []))).get? a=some (seqObj "list" (List.toArray []) m):=#[_,get?_update_seq ho (λ_=>(List.toArray []))];refine wpAny_bind (seqEpoch_at ho1 rfl ?_);refine wpAny_bind (wpAny_newTuple ?_ (by simpa using hz));refine wpAny_bind (wpAny_newList ?_);refine wpAny_holding ?_;have z1:(s.heap.update a (Obj.mapSeq λ_=>(List.toArray []))).objs.size=s.heap.objs.size:=by rw[Heap.size_update]
 have hk:zfS a s.heap (((s.heap.update a (Obj.mapSeq λ_=>(List.toArray []))).push (seqObj "tuple" vs.toArray 0)).push .(R)):=λb o hb e=>
  yam _ (yam _ ((ybQ _ _ (Ne.symm hb)).trans e))
 have ho6:(((s.heap.update a (Obj.mapSeq λ_=>(List.toArray []))).push (seqObj "tuple" vs.toArray 0)).push (seqObj "list" (List.toArray []) 0)).get? a=some (seqObj "list" (List.toArray []) m):=yam _ (yam _ ho1);show wpAny (model prog w) A _ P E { s with heap:=((s.heap.update a (Obj.mapSeq λ_=>(List.toArray []))).push (seqObj "tuple" vs.toArray 0)).push (seqObj "list" (List.toArray []) 0) };dsimp only;have fin:∀ st':SortSt,(arrOf st').Perm (pairsOf vs)->failedOf st'=none->Up κ (arrOf st') 0 (pairsOf vs).size->wpAny (model prog w) A (do
   let touched:=(<-seqEpoch a) != m
   Builtin.List.listUpdate (.ref a) λ_=>(arrOf st').map (·.2)
   if let some e:=failedOf st' then rule "list.sort.comparison-raised";throw e
   if touched then rule "list.sort.modified";raiseError "ValueError" "list modified during sort"
   ret .none) P E { s with heap:=((s.heap.update a (Obj.mapSeq λ_=>(List.toArray []))).push (seqObj "tuple" vs.toArray 0)).push (seqObj "list" (List.toArray []) 0) }:=λst' hp hf hU=>by
  refine wpAny_bind (seqEpoch_at ho6 rfl ?_);refine wpAny_bind (listUpdate_at ho6 rfl ?_ (yaF _) (by
   refine yad (yaS ((Array.size_map ..).trans (hp.size_eq.trans (pairsOf_size _)))) ?_;lia))
  rw[hf];simp only[bne_self_eq_false,ya1,if_false];obtain ⟨o1,o2⟩:=zte hp hU;have:=h _ o1 o2;have e:((arrOf st').toList.map (·.2)).toArray=(arrOf st').map (·.2):=by rw[<-Array.toList_map,Array.toArray_toList]
  rw[e]at this;exact wpAny_pure this
 by_cases h2:vs.toArray.size<2
 .rw[if_pos h2,if_pos h2];refine wpAny_bind (wpAny_pure ?_);rw[StateT.run_pure];refine wpAny_bind (wpAny_pure ?_);refine fin (SortSt.mk' general' (vs.toArray.zip vs.toArray) (List.toArray []) 7 none) (Array.Perm.refl _) rfl ?_;intro i j q1 q2 q3;have:i=j:=by
   rw[pairsOf_size]at q3;simp at h2;lia
  subst this;exact KeyOrd.kle_refl _
 .rw[if_neg h2,if_neg h2];have h2':2<=vs.length:=by
   simp at h2;lia
  refine wpAny_bind (hkd _ _ _ hk h2' ?_);refine wpAny_bind (wpAny_mono (zjZ (κ:=κ) (hlt _ hk) (a₀:=pairsOf vs) (st:=SortSt.mk' kd (vs.toArray.zip vs.toArray) (List.toArray []) 7 none)
   (Q:=λ_ st'=>(arrOf st').Perm (pairsOf vs)/\failedOf st'=none/\Up κ (arrOf st') 0 (pairsOf vs).size)
   #[#[rfl,λp hp=>keys _ (zix hp).2,rfl,rfl],Array.Perm.refl _,yaF _,rfl] (by rw[pairsOf_size];lia) λst' a1 a2 a3=>#[a1,a2,a3]) ?_ λ_ _ e=>e)
  rintro ⟨⟨⟩,st'⟩ s' ⟨rfl,hp,hf,hs⟩;exact fin st' hp hf hs
def zgU {h:Heap}{a:Addr}{vs out:List Value}{n:Nat}(ho:h.get? a=some (seqObj "list" vs.toArray n)):zfS a h (sortedHeap h a vs out.toArray)/\∃ c,(sortedHeap h a vs out.toArray).get? a=some (seqObj "list" out.toArray c):=by
 unfold sortedHeap;refine #[λb o hb e=>(ybQ _ _ (Ne.symm hb)).trans (yam _ (yam _ ((ybQ _ _ (Ne.symm hb)).trans e))),?_];exact #[_,get?_update_seq (yam _ (yam _ (get?_update_seq ho (λ_=>(List.toArray []))))) λ_=>out.toArray]
def zo6 {l:Addr}{vs:List Value}{Q:Value->Shared->Prop}(hl:s.heap.IsList l vs.toArray)(hz:vs.length<=sizeLine)(keys:∀ v∈vs,∃ k,κ.keyOf v=some k)
  (hlt:∀ h',(∀ b o,s.heap.get? b=some o->h'.get? b=some o)->LtG prog w A.in1.in1 { s with heap:=h' } κ kd)
  (hkd:∀(h':Heap) (E:Value->Shared->Prop) (Q:SortKind->Shared->Prop),(∀ b o,s.heap.get? b=some o->h'.get? b=some o)->2<=vs.length->Q kd { s with heap:=h' }->wpAny .(e) A.in1.in1 (keyKind' vs.toArray) Q E { s with heap:=h' })
  (h:∀(out:List Value) (h':Heap) (c:Nat),out.Perm vs->out.Pairwise (λx y=>κ.kle (keyV κ x) (keyV κ y))->(∀ b o,s.heap.get? b=some o->h'.get? b=some o)->
   h'.get? (s.heap.objs.size+1)=some (seqObj "list" out.toArray c)->Q (.ref (s.heap.objs.size+1)) { s with heap:=h' }) :
  wpAny .(e) A (call (.builtin "sorted") [.ref l]) Q E s:=by
 refine Calls.call_function_entry kind_sorted plain_sorted entry_sorted (args_sorted1 _) ?_;unfold Builtin.«sorted»;refine wpAny_bind (m:=checkCount "sorted" 1 1 _) (wpAny_pure ?_);refine wpAny_bind (collect_list hl ?_ hz);refine wpAny_bind (wpAny_newList ?_ (by simpa using hz));have z1:((s.heap.push .(R)).update s.heap.objs.size (Obj.mapSeq (· ++ vs.toArray))).objs.size=s.heap.objs.size+1:=by
  rw[Heap.size_update,size_push']
 have hn:(((s.heap.push .(R)).update s.heap.objs.size (Obj.mapSeq (· ++ vs.toArray))).push (seqObj "list" vs.toArray 0)).get? (s.heap.objs.size+1)=some (seqObj "list" vs.toArray 0):=by
  rw[<-z1];exact yaD _ rfl
 have hk:∀ b o,s.heap.get? b=some o->(((s.heap.push .(R)).update s.heap.objs.size (Obj.mapSeq (· ++ vs.toArray))).push (seqObj "list" vs.toArray 0)).get? b=some o:=λb o e=>
  yam _ ((ybQ _ _ (ybG (yag e))).trans (yam _ e))
 show wpAny _ _ _ _ _ { s with heap:=((s.heap.push (seqObj "list" (List.toArray []) 0)).update s.heap.objs.size (Obj.mapSeq (· ++ vs.toArray))).push (seqObj "list" vs.toArray 0) };rw[z1];generalize ((s.heap.push (seqObj "list" (List.toArray []) 0)).update s.heap.objs.size (Obj.mapSeq (· ++ vs.toArray))).push (seqObj "list" vs.toArray 0)=h1 at hn hk ⊢;have up:∀ h',zfS (s.heap.objs.size+1) h1 h'->∀ b o,s.heap.get? b=some o->h'.get? b=some o:=λh' kb b o e=>kb b o (λz=>by
  have:=yag e;rw[z]at this;exact absurd this (ybY.mpr (yaT _))) (hk b o e)
 refine wpAny_bind (wpAny_holding (wpAny_call_entry slot_list_sort #[_,hn,rfl] entry_list_sort (zqv (s:={ s with heap:=h1 }) hn hz keys (λh' kb=>hlt h' (up h' kb)) (λh' E Q kb h2 q=>hkd h' E Q (up h' kb) h2 q) λout p1 p2=> .(z)) (args_list_sort _)));obtain ⟨kb,c,hc⟩:=zgU (out:=out) hn;exact wpAny_pure #[_,rfl,h out _ c p1 p2 (up _ kb) hc]
end
end Tim
namespace L2
open PySem PySem.Spec PyProof.Rows
structure DF (K:Frag)(mg:Str->Option Value)(x:Str)(st:Stmt)(ps:List Str):Prop where
 ex:∃ f fd,Fun K x x st f fd/\zdx K fd ps []/\mg x=some (.ref f)
structure FC (P:Program)(w:World)(K:Frag)(mg:Str->Option Value)(base:Heap)(k:Nat)(x:Str)(ps:List Str)(sp:Sp):Prop where
 ex:∃ f fd,FnOk P w K mg base CX0 k f fd ps sp/\zdx K fd ps []/\keepIn K (.ref f)=true/\mg x=some (.ref f)/\∃ oc od osl,K.lookup f=some #[oc,od,.func fd,osl]
def FC.at {w:World}{K:Frag}{mg:Str->Option Value}{base:Heap}{k:Nat}{x:Str}{f:Addr}{fd:FuncData}{oc:Value}{od:Option Addr}{osl:Array (Option Value)}(F:FC P w K mg base k x ps sp)(m:mg x=some (.ref f))(l:K.lookup f=some #[oc,od,.func fd,osl]):FnOk P w K mg base CX0 k f fd ps sp:=by
 obtain ⟨f',fd',ok,_,_,m',oc',od',osl',l'⟩:=F.ex;rw[m]at m';cases m'
 rw[l]at l';cases l'
 exact ok
def DF.ok {w:World}{K:Frag}{mg:Str->Option Value}{base:Heap}{x:Str}{st:Stmt}{N:List Str}{k:Nat}{sp:Sp}(D:DF K mg x st ps)(S:zar N ps (zaj st))(len:∀ vs H Q E,sp vs H Q E->vs.length=ps.length)
  (hbody:∀(f:Addr) (cdv:Value) (A:Around) (outer:List Env) (s:Shared) (H:Hp) (vs:List V) (Q:VK) (E:XK),Room k (A.deeper (envOfC x (zaj st) s.heap.objs.size f cdv))->sp vs H Q E->
   ∃ t,PSs (cxOf CX0 P w K mg base N x (zaj st) f cdv A outer s H E).nox (za3 st) t/\t { nx:=λ_ H'=>Q .non H',rt:=Q } (zdb N vs) H):FC P w K mg base (k+1) x ps sp:=by
 obtain ⟨f,fd,F,b,m⟩:=D.ex;exact #[f,fd,F.ok S len λcdv A outer s H vs Q E hr h=>hbody f cdv A outer s H vs Q E hr h,b,F.kp,m,by
  obtain ⟨oc,od,kV,doc,pm,an,cdv,ct,osl,rfl,lk,hcd⟩:=F.ex;exact #[oc,od,osl,lk]]
def zaA {X:Cx}{k:Nat}{e:Expr}{es:List Expr}{t:TA}{p pos:Pos}(F:FC X.prog X.w X.K X.mg X.base j x ps sp)(hr:Room k X.A)(ha:PA X (e::es) t)(hjk:j<=k:=by decide)(hg:Gl X x:=by rfl)
  (hdb: .(r)=false:=by decide) (he:starEach (e::es) X.env= .(B)::starEach es X.env:=by rfl) (hpl: .(t).any (·.1)=false:=by rfl):PE X (.Call (.Name x p) (e::es) [] pos) (zrf sp [] E0 t):=by
 obtain ⟨f,fd,ok,b,kp,m,_⟩:=F.ex;exact zrG ok (hr.mono hjk) hg m kp b .nil znm ha hdb he hpl
def zuh (t u:TS):TS:=λD U H=>∃ M:St->Hp->Prop,t { D with nx:=M } U H/\∀ U' H',M U' H'->u D U' H'
def zaB {st:Stmt}{rest:List Stmt}{t:TS}(h1:PS X st t)(h2:PSs X rest u):PSs X (st::rest) (zuh t u):=by
 intro pins s U H D I h;obtain ⟨M,h,hM⟩:=h;refine wpAny_execs_cons (thn (h1 pins s U H { D with nx:=M } I h) λf s1 q=>?_);cases f with
 | next=>
  obtain ⟨U',H',I',q⟩:=q;exact h2 pins s1 U' H' D I' (hM U' H' q)
 | ret v=>exact q
 | brk=>exact q
 | cont=>exact q
def zuC (i j:Int):Prop:=0<j/\j<2^4000
section
variable {X:Cx}
def kitO (a b:String):Option Bool:=if (Value.type a==Value.type b)=true then some true else if PySem.W.kitMeta b=true then (PySem.fastBuiltinMro a).map (·.contains (.type b)) else none
def zr3 {K:Frag}:kitOne K (.type a) (.type b)=kitO a b:=rfl
inductive rIsi (K:Frag)(xs:List V)(H:Hp)(Q:VK):Prop
 | c:∀ x n t b,xs=[x,.ty n]->TyOf K H x (.type t)->kitO t n=some b->Q (.bl b) H->rIsi K xs H Q
def zqf:zcL X (.builtin "isinstance") (rIsi X.K):=by
 intro pins s U H xs us Q I r h;obtain ⟨x,n,t,b,e,ty,ki,q⟩:=h;subst e;obtain ⟨u,w',e,r1,r2⟩:=zhg r;subst e;cases r2
 exact zn5 I r1 ty (zr3.trans ki) λtk=>#[.bl b,H,I.tok tk,rfl,q]
def zqH:kitO "int" "int" = some true:=by decide +kernel
def zqI:kitO "int" "bool" = some false:=by decide +kernel
def ztC:kitO "bool" "bool" = some true:=by decide +kernel
inductive znd (x:V)(xs:List V)(H:Hp)(Q:VK):Prop
 | c:∀ i,x=.int i->xs=[]->Q (.int (Builtin.Int.intBits i:Nat)) H->znd x xs H Q
def ziD:MtR X "int.bit_length" znd:=by
 intro pins s U H x xs v us Q I rx rv h;obtain ⟨i,rfl,rfl,q⟩:=h;obtain ⟨t,rfl⟩:=rx;cases rv
 exact call_int_bit_length #[.int _,H,I.tok _,#[_,rfl],q]
end
def zpS {c A B:Prop}[Decidable c](hc:¬ c)(h:B):if decide c=true then A else B:=by
 rw[yai hc];exact iteF h
def zr5 {c A B:Prop}[Decidable c](hc:c)(h:A):if decide c=true then A else B:=by
 rw[yah hc];exact iteT h
def zdt (L:Addr)(a l:Int):HO:=.dK [(.inr "script",.ref L),(.inr "at",.int a),(.inr "left",.int l)]
def Keep (d:Addr)(H H':Hp):Prop:=∀ b o,b≠d->H b=some o->H' b=some o
def Keep.refl (d:Addr)(H:Hp):Keep d H H:=λ_ _ _ h=>h
def Keep.trans (a:Keep d H H1)(b:Keep d H1 H2):Keep d H H2:=λc o n h=>b c o n (a c o n h)
def Same.keep (s:Same H H'):Keep d H H':=λb o _ h=>s b o h
structure LS (K:Frag)(L d:Addr)(H:Hp):Prop where
 ex:∃(ns:List Int) (a l:Int),H d=some (zdt L a l)/\SqL K H L .(E)
def zgf {K:Frag}{H:Hp}{d:Addr}(hd:H d=some (zdt L' a l))(k:Keep d H H')(h:SqL K H L xs):SqL K H' L xs:=by
 have ne:∀ o,H L=some o->(∀ kvs,o≠.dK kvs)->L≠d:=λo e n z=>by
  rw[z,hd]at e;cases e
  exact n _ rfl
 rcases h with (h|⟨o,h⟩)|h
 .exact .inl (.inl (k L _ (ne _ h nofun) h))
 .exact .inl (.inr #[o,k L _ (ne _ h nofun) h])
 .exact .inr h
def LS.set {K:Frag}{d:Addr}{H:Hp}{ns:List Int}{a l:Int}(hd:H d=some (zdt L a l))(h:SqL K H L .(E)):LS K L d (upd H d (zdt L a' l'))/\Keep d H (upd H d (zdt L a' l')):=by
 have k:Keep d H (upd H d (zdt L a' l')):=λb o n e=>by rw[zag n];exact e
 exact #[#[ns,a',l',zab,zgf hd k h],k]
def LS.same {K:Frag}(s:LS K L d H)(k:Same H H'):LS K L d H':=by
 obtain ⟨ns,a,l,e,q⟩:=s.ex;exact #[ns,a,l,k _ _ e,k.seq q]
def zai {H:Hp}{p:Addr}(h:H p=none)(o:HO):Same H (upd H p o):=λb u q=>by rw[zag (zad q h)];exact q
def LS.put {K:Frag}{p:Addr}{H2:Hp}{o:HO}(s:LS K L d H0)(hp:H0 p=none)(k:∀ b o,b≠d->b≠p->H0 b=some o->H2 b=some o)(s2:LS K L d H2):LS K L d (upd H2 p o):=by
 obtain ⟨ns,a,l,e,q⟩:=s.ex;obtain ⟨ns2,a2,l2,e2,_⟩:=s2.ex;have hdp:d≠p:=zad e hp;have go:∀ u,H0 L=some u->(∀ kvs,u≠.dK kvs)->upd H2 p o L=some u:=λu hu hn=>by
  have h1:L≠p:=zad hu hp;have h2:L≠d:=λz=>by
   rw[z,e]at hu;cases hu
   exact hn _ rfl
  rw[zag h1];exact k L u h2 h1 hu
 refine #[ns,a2,l2,by rw[zag hdp];exact e2,?_];rcases q with (h|⟨ob,h⟩)|h
 .exact .inl (.inl (go _ h nofun))
 .exact .inl (.inr #[ob,go _ h nofun])
 .exact .inr h
section
variable {H:Hp}{d L:Addr}{a l:Int}
def zey {x y:Str}(h:x≠y):(Sum.inr x:Key)≠Sum.inr y:=λz=>h (Sum.inr.inj z)
def zmi (h:H d=some (zdt L a l)):DGet H d (.str "script") (some (.ref L)):=.inl #[_,.inr "script",.inl h,rfl,by rw[zcO rfl]]
def ztP (h:H d=some (zdt L a l)):DGet H d (.str "at") (some (.int a)):=.inl #[_,.inr "at",.inl h,rfl,by rw[zbC (zey (show ("script" : Str) ≠ "at" by decide +kernel)),zcO rfl]]
def ziN (h:H d=some (zdt L a l)):DGet H d (.str "left") (some (.int l)):=.inl #[_,.inr "left",.inl h,rfl,by rw[zbC (zey (show ("script" : Str) ≠ "left" by decide +kernel)),zbC (zey (show ("at" : Str) ≠ "left" by decide +kernel)),zcO rfl]]
def zqA {k:Key}{kvs kvs':List (Key×V)}(h:H d=some (.dK kvs))(hl:kvs.length<sizeLine)(e:putK kvs k v=kvs'):DPut H d (kV k) v (upd H d (.dK kvs')):=by
 subst e;exact DPut.k h hl
def zs0 (h:H d=some (zdt L a l)):DPut H d (.str "at") (.int a') (upd H d (zdt L a' l)):=
 zqA (k:=.inr "at") h (by show 3 < sizeLine;decide) (by
  unfold putK;rw[if_pos (by simp)];simp only[yav,yco,if_neg (zey (show ("script" : Str) ≠ "at" by decide +kernel)),if_neg (zey (show ("left" : Str) ≠ "at" by decide +kernel)),if_true])
def zlb (h:H d=some (zdt L a l)):DPut H d (.str "left") (.int l') (upd H d (zdt L a l')):=
 zqA (k:=.inr "left") h (by show 3 < sizeLine;decide) (by
  unfold putK;rw[if_pos (by simp)];simp only[yav,yco,if_neg (zey (show ("script" : Str) ≠ "left" by decide +kernel)),if_neg (zey (show ("at" : Str) ≠ "left" by decide +kernel)),if_true])
end
inductive zfV (K:Frag)(vs:List V)(H:Hp)(Q:VK)(w_1:XK):Prop
 | c:∀(d L:Addr) (m:Int),vs=[.ref d,.int m]->(0<m/\m<1073741824)->LS K L d H->(∀(v:Int) (H':Hp),0<=v->v<m->Keep d H H'->LS K L d H'->Q (.int v) H')->zfV K vs H Q w_1
inductive zj7 (vs:List V)(H:Hp)(Q:VK)(w_1:XK):Prop
 | c:∀(c k:Int),vs=[.int c,.int k]->(∀ v:Int,Q (.int v) H)->zj7 vs H Q w_1
inductive zkc (K:Frag)(vs:List V)(H:Hp)(Q:VK)(w_1:XK):Prop
 | c:∀(L:Addr) (ns:List Int),vs=[.ref L]->SqL K H L (ns.map V.int)->(∀(d:Addr) (H':Hp),H d=none->Same H H'->LS K L d H'->Q (.ref d) H')->zkc K vs H Q w_1
def zt2 {ns:List Int}{k:Int}(h:0<ns.length):∃ v:Int,atI .(E) (k%((.(E).length:Nat):Int))=some (.int v):=by
 have e: .(E).length=ns.length:=yab _;have h1:(0:Int)<((.(E).length:Nat):Int):=by rw[e];lia
 have z0:=ycx k (Int.ne_of_gt h1);have z1:=ycy k h1;generalize hj:k%((.(E).length:Nat):Int)=j at z0 z1;rw[e]at z1;have hk:j.toNat<ns.length:=by lia
 obtain ⟨n,rfl⟩:∃ n:Nat,j=(n:Int):=#[j.toNat,by lia];have hn:n<ns.length:=by lia
 exact #[ns[n],zeI (by rw[yax,yac hn];rfl)]
end L2
namespace L2
open PySem PySem.Spec PyProof.Rows PySem.SeqAt
def Ext (H H':Hp):Prop:=∀ b o,H b=some o->(∀ kvs,o≠.dK kvs)->H' b=some o
def Same.ext (s:Same H H'):Ext H H':=λb o h _=>s b o h
def Keep.ext {a l:Int}(k:Keep d H H')(h:H d=some (zdt L a l)):Ext H H':=λb o e n=>k b o (λz=>by
 rw[z,h]at e;cases e
 exact n _ rfl) e
def LS.ext {K:Frag}(s:LS K L d H)(k:Keep d H H'):Ext H H':=by
 obtain ⟨ns,a,l,e,_⟩:=s.ex;exact k.ext e
def LS.of_new {K:Frag}(s:LS K L d H){p:Addr}(hp:H p=none)(o:HO):LS K L d (upd H p o):=s.same (zai hp o)
def SqL.ext {K:Frag}{a:Addr}(e:Ext H H')(h:SqL K H a xs):SqL K H' a xs:=by
 rcases h with (h|⟨o,h⟩)|h
 .exact .inl (.inl (e _ _ h nofun))
 .exact .inl (.inr #[o,e _ _ h nofun])
 .exact .inr h
def SqT.ext {K:Frag}{a:Addr}(e:Ext H H')(h:SqT K H a xs):SqT K H' a xs:=by
 rcases h with (h|⟨o,h⟩)|h
 .exact .inl (.inl (e _ _ h nofun))
 .exact .inl (.inr #[o,e _ _ h nofun])
 .exact .inr h
class Rep (α:Type) where
 dec:DecidableEq α
 depth:Nat
 has:Frag->Hp->α->V->Prop
 mono:∀{K:Frag} {H H':Hp} {a:α} {v:V},Ext H H'->has K H a v->has K H' a v
 inj:∀{X:Cx} {pins:List (Addr×Obj)} {U:St} {H:Hp} {s:Shared} {a b:α} {v:V},Inv X pins U H s->has X.K H a v->has X.K H b v->a=b
 rc:∀{X:Cx} {pins:List (Addr×Obj)} {U:St} {H:Hp} {s:Shared} {A:Around} {a b:α} {x y:V} {u v:Value},Inv X pins U H s->A.units+depth<cLine->has X.K H a x->has X.K H b y->RelV x u->RelV y v->RcAt A s u v (dec a b).decide
 rn:∀{X:Cx} {pins:List (Addr×Obj)} {U:St} {H:Hp} {s:Shared} {A:Around} {a b:α} {x y:V} {u v:Value},Inv X pins U H s->A.units+depth<cLine->has X.K H a x->has X.K H b y->RelV x u->RelV y v->RcNeAt A s u v (!(dec a b).decide)
 eq:∀{X:Cx} {pins:List (Addr×Obj)} {U:St} {H:Hp} {s:Shared} {A:Around} {a b:α} {x y:V} {u v:Value},Inv X pins U H s->A.units+depth<cLine->has X.K H a x->has X.K H b y->RelV x u->RelV y v->EqAt A s u v (dec a b).decide
instance (priority:=low) repDec {α:Type} [Rep α]:DecidableEq α:=Rep.dec
def zkH {i j:Int}:(i==j)=(Int.instDecidableEq i j).decide:=by
 by_cases h:i=j
 .subst h;simp
 .rw[beq_eq_false_iff_ne.mpr h];exact (yai h).symm
instance:Rep Int where
 dec:=Int.instDecidableEq
 depth:=0
 has:=λ_ _ i v=>v=.int i
 mono:=λ_ h=>h
 inj:=λ_ h1 h2=>V.int.inj (h1.symm.trans h2)
 rc:=λ_ _ h1 h2 r1 r2=>by
  subst h1 h2;obtain ⟨t,rfl⟩:=r1;obtain ⟨t',rfl⟩:=r2;rw[<-zkH];exact RcAt.int_int _ _ _ _
 rn:=λ_ _ h1 h2 r1 r2=>by
  subst h1 h2;obtain ⟨t,rfl⟩:=r1;obtain ⟨t',rfl⟩:=r2;rw[<-zkH];exact RcNeAt.int_int _ _ _ _
 eq:=λ_ _ h1 h2 r1 r2=>by
  subst h1 h2;obtain ⟨t,rfl⟩:=r1;obtain ⟨t',rfl⟩:=r2;rw[<-zkH];exact EqAt.int_int _ _ _ _
def pImp {α β:Type}{R S:α->β->Prop}(h:∀ a b,R a b->S a b){as:List α}{bs:List β}(p:Paired R as bs):Paired S as bs:=by
 induction p with
 | nil=>exact .nil
 | cons a _ ih=>exact .cons (h _ _ a) ih
def pApp {α β:Type}{R:α->β->Prop}{as cs:List α}{bs ds:List β}(p:Paired R as bs)(q:Paired R cs ds):Paired R (as++cs) (bs++ds):=by
 induction p with
 | nil=>exact q
 | cons a _ ih=>exact .cons a ih
def zan {α:Type}[Rep α](K:Frag)(H:Hp):List α->List V->Prop:=Paired (Rep.has K H)
section
variable {α:Type}[Rep α]{K:Frag}{H H':Hp}
def zan.mono (e:Ext H H'){as:List α}{xs:List V}(h:zan K H as xs):zan K H' as xs:=pImp (λ_ _=>Rep.mono e) h
def zan.length {as:List α}{xs:List V}(h:zan K H as xs):as.length=xs.length:=Paired.length h
def zan.get:∀{as:List α} {xs:List V} {i:Nat} {x:V},zan K H as xs->xs[i]?=some x->∃ a,as[i]?=some a/\Rep.has K H a x
 | _,_,_,_,.nil,e=>by simp at e
 | _,_,0,_,.cons h _,e=>by simp at e;subst e;exact #[_,rfl,h]
 | _,_,i+1,x,.cons _ t,e=>by
  obtain ⟨a,h1,h2⟩:=zan.get (i:=i) (x:=x) t (by simpa using e);exact #[a,by simpa using h1,h2]
def zan.append {as bs:List α}{xs ys:List V}(h:zan K H as xs)(g:zan K H bs ys):zan K H (as++bs) (xs++ys):=pApp h g
def zan.one {a:α}{x:V}(h:Rep.has K H a x):zan K H [a] [x]:=.cons h .nil
def zan.ints:∀{ns:List Int},zan K H ns .(E)
 | []=>.nil
 | _::_=>.cons rfl zan.ints
def zan.toInts {ns:List Int}{xs:List V}(h:zan K H ns xs):xs=ns.map V.int:=by
 unfold zan at h
 induction h with
 | nil=>rfl
 | cons h _ ih=>
  have e:_=V.int _:=h;rw[e,ih];rfl
def zan.inj (I:Inv X pins U H s){as bs:List α}{xs:List V}(h:zan X.K H as xs)(g:zan X.K H bs xs):as=bs:=by
 unfold zan at h g
 induction h generalizing bs with
 | nil=>cases g;rfl
 | cons h _ ih=>
  cases g with
  | cons h' t'=>rw[Rep.inj I h h',ih t']
end
def zfR {α:Type}[DecidableEq α]:∀(as bs:List α),as.length=bs.length->((List.range as.length).all λj=>decide (as[j]?=bs[j]?))=decide (as=bs):=by
 intro as bs hl;by_cases h:as=bs
 .subst h;simp
 .rw[yai h,List.all_eq_false]
  false_or_by_contra
  rename_i z;apply h;apply ybo;intro i;by_cases hi:i<as.length
  .false_or_by_contra
   rename_i q;exact z #[i,ybk.mpr hi,by simpa using q]
  .rw[yaY .(a),yaY .(a)]
section
variable {α:Type}[r:Rep α]
def zbW {A:Around}:A.in1.units<=A.units+1:=by
 first
  | exact yaa _
  | (unfold Around.in1;simp)
def zgx {A:Around}{as bs:List α}{xs ys:List V}{us vs:List Value}(I:Inv X pins U H s)(hu:A.units+Rep.depth α<cLine)
  (h1:zan X.K H as xs) (h2:zan X.K H bs ys) (r1:Vals xs us) (r2:Vals ys vs):∀ j (q1:j<us.toArray.size) (q2:j<vs.toArray.size),EqAt A s us.toArray[j] vs.toArray[j] (decide (as[j]?=bs[j]?)):=by
 intro j q1 q2;have l1:=r1.length;have l2:=r2.length;have m1:=h1.length;have m2:=h2.length;have j1:j<us.length:=by simpa using q1
 have j2:j<vs.length:=by simpa using q2
 obtain ⟨a,ea,ha⟩:=h1.get (i:=j) (yac .(a));obtain ⟨b,eb,hb⟩:=h2.get (i:=j) (yac .(a));obtain ⟨u,eu,ru⟩:=r1.get (i:=j) (yac .(a));obtain ⟨v,ev,rv⟩:=r2.get (i:=j) (yac .(a));have gu:us.toArray[j]=u:=by
  have:us[j]?=some us[j]:=yac j1;rw[eu]at this;simpa using (yae this).symm
 have gv:vs.toArray[j]=v:=by
  have:vs[j]?=some vs[j]:=yac j2;rw[ev]at this;simpa using (yae this).symm
 rw[gu,gv,ea,eb];have e:decide (some a=some b)=(Rep.dec a b).decide:=by
  by_cases z:a=b
  .subst z;simp
  .rw[yai (λq=>z (yae q))];exact (yai z).symm
 rw[e];exact Rep.eq I hu ha hb ru rv
end
inductive hasL {α:Type}[Rep α](K:Frag)(H:Hp)(as:List α)(v:V):Prop
 | c:∀ a xs,v=.ref a->SqL K H a xs->zan K H as xs->hasL K H as v
section
variable {α:Type}[r:Rep α]{X:Cx}{pins:List (Addr×Obj)}{U:St}{H:Hp}{s:Shared}{A:Around}{as bs:List α}{x y:V}{u v:Value}
def zpW (I:Inv X pins U H s)(h1:hasL X.K H as x)(h2:hasL X.K H bs x):as=bs:=by
 obtain ⟨a,xs,rfl,q1,h1⟩:=h1;obtain ⟨b,ys,e,q2,h2⟩:=h2;cases e
 rw[I.list_inj q2 q1]at h2;exact h1.inj I h2
def zob (I:Inv X pins U H s)(hu:A.units+(Rep.depth α+1)<cLine)(h1:hasL X.K H as x)(h2:hasL X.K H bs y)(r1:RelV x u)(r2:RelV y v):RcAt A s u v (decide (as=bs)):=by
 obtain ⟨a,xs,rfl,q1,h1⟩:=h1;obtain ⟨b,ys,rfl,q2,h2⟩:=h2;cases r1
 cases r2
 obtain ⟨us,ru,pu,_⟩:=I.list q1;obtain ⟨vs,rv,pv,_⟩:=I.list q2;have l1:=ru.length;have l2:=rv.length;have m1:=h1.length;have m2:=h2.length;have hin:A.in1.units+Rep.depth α<cLine:=yaJ (ya8 zbW _) .(a);by_cases hl:as.length=bs.length
 .have e:=zfR as bs hl;rw[<-e];have z:as.length=us.toArray.size:=by simp;lia
  rw[z];exact RcAt.lists pu.isList pv.isList (by simp;lia) .(a) (zgx I hin h1 h2 ru rv)
 .rw[yai (λz=>hl (by rw[z]))];exact RcAt.lists_lengths pu.isList pv.isList (by simp;lia) .(a)
def zsb (I:Inv X pins U H s)(hu:A.units+(Rep.depth α+1)<cLine)(h1:hasL X.K H as x)(h2:hasL X.K H bs y)(r1:RelV x u)(r2:RelV y v):RcNeAt A s u v (!decide (as=bs)):=by
 obtain ⟨a,xs,rfl,q1,h1⟩:=h1;obtain ⟨b,ys,rfl,q2,h2⟩:=h2;cases r1
 cases r2
 obtain ⟨us,ru,pu,_⟩:=I.list q1;obtain ⟨vs,rv,pv,_⟩:=I.list q2;have l1:=ru.length;have l2:=rv.length;have m1:=h1.length;have m2:=h2.length;have hin:A.in1.units+Rep.depth α<cLine:=yaJ (ya8 zbW _) .(a);by_cases hl:as.length=bs.length
 .have e:=zfR as bs hl;rw[<-e];have z:as.length=us.toArray.size:=by simp;lia
  rw[z];exact RcNeAt.lists pu.isList pv.isList (by simp;lia) .(a) (zgx I hin h1 h2 ru rv)
 .rw[yai (λz=>hl (by rw[z])),Bool.not_false];exact RcNeAt.lists_lengths pu.isList pv.isList (by simp;lia) .(a)
def zsc (I:Inv X pins U H s)(hu:A.units+(Rep.depth α+1)<cLine)(h1:hasL X.K H as x)(h2:hasL X.K H bs y)(r1:RelV x u)(r2:RelV y v):EqAt A s u v (decide (as=bs)):=by
 have rc:=zob (A:=A) I hu h1 h2 r1 r2;obtain ⟨a,xs,rfl,q1,h1⟩:=h1;obtain ⟨b,ys,rfl,q2,h2⟩:=h2;cases r1
 cases r2
 by_cases hab:a=b
 .subst hab;rw[I.list_inj q2 q1]at h2;rw[yah (h1.inj I h2)];exact EqAt.same _
 .exact EqAt.of_refs hab rc
end
instance {α:Type} [Rep α]:Rep (List α) where
 dec:=inferInstance
 depth:=Rep.depth α+1
 has:=hasL
 mono:=λe ⟨a,xs,h1,h2,h3⟩=>#[a,xs,h1,h2.ext e,h3.mono e]
 inj:=λI h1 h2=>zpW I h1 h2
 rc:=λI hu h1 h2 r1 r2=>zob I hu h1 h2 r1 r2
 rn:=λI hu h1 h2 r1 r2=>zsb I hu h1 h2 r1 r2
 eq:=λI hu h1 h2 r1 r2=>zsc I hu h1 h2 r1 r2
inductive hasP {α β:Type}[Rep α][Rep β](K:Frag)(H:Hp)(p:α×β)(v:V):Prop
 | c:∀ a x y,v=.ref a->H a=some (.tup [x,y])->Rep.has K H p.1 x->Rep.has K H p.2 y->hasP K H p v
section
variable {α β:Type}[ra:Rep α][rb:Rep β]{X:Cx}{pins:List (Addr×Obj)}{U:St}{H:Hp}{s:Shared}{A:Around}{p q:α×β}{x y:V}{u v:Value}
def zlA (I:Inv X pins U H s)(h1:hasP X.K H p x)(h2:hasP X.K H q x):p=q:=by
 obtain ⟨a,x1,x2,rfl,q1,e1,e2⟩:=h1;obtain ⟨b,y1,y2,e,q2,f1,f2⟩:=h2;cases e
 have z:=I.tuple_inj (SqT.of q2) (SqT.of q1);cases z
 have g1:=Rep.inj I e1 f1;have g2:=Rep.inj I e2 f2;obtain ⟨p1,p2⟩:=p;obtain ⟨s1,s2⟩:=q;cases g1
 cases g2
 rfl
def zoa (I:Inv X pins U H s)(hu:A.units+(Rep.depth α+Rep.depth β+1)<cLine)(h1:hasP X.K H p x)(h2:hasP X.K H q y)(r1:RelV x u)(r2:RelV y v):RcAt A s u v (decide (p=q)):=by
 obtain ⟨a,x1,x2,rfl,q1,e1,e2⟩:=h1;obtain ⟨b,y1,y2,rfl,q2,f1,f2⟩:=h2;cases r1
 cases r2
 obtain ⟨us,ru,pu,_⟩:=I.tuple (SqT.of q1);obtain ⟨vs,rv,pv,_⟩:=I.tuple (SqT.of q2);obtain ⟨u1,u2,rfl,ru1,ru2⟩:=zhg ru;obtain ⟨v1,v2,rfl,rv1,rv2⟩:=zhg rv;have hin:∀ n,n<=Rep.depth α+Rep.depth β->A.in1.units+n < cLine:=λn hn=>yaJ (ya8 zbW _) (by lia);have c1:=Rep.eq (A:=A.in1) I (hin _ (by lia)) e1 f1 ru1 rv1;have c2:=Rep.eq (A:=A.in1) I (hin _ (by lia)) e2 f2 ru2 rv2;have:=RcAt.tuples (A:=A) (s:=s) (l:=a) (b:=b) (items:=(List.toArray [u1,u2])) (items2:=(List.toArray [v1,v2])) (e:=λj=>if j=0 then (Rep.dec p.1 q.1).decide else (Rep.dec p.2 q.2).decide) pu pv (by lia) (by
  intro j h1 h2;have h1':j<2:=h1;have z:j=0\/j=1:=by lia
  rcases z with rfl|rfl
  .exact c1
  .exact c2)
 have e:((List.range (min ((List.toArray [u1,u2]):Array Value).size ((List.toArray [v1,v2]):Array Value).size)).all (λj=>if j=0 then (Rep.dec p.1 q.1).decide else (Rep.dec p.2 q.2).decide)&&((List.toArray [u1,u2]):Array Value).size==((List.toArray [v1,v2]):Array Value).size)=decide (p=q):=by
  obtain ⟨p1,p2⟩:=p;obtain ⟨s1,s2⟩:=q;show (((List.range 2).all λj=>if j=0 then (Rep.dec p1 s1).decide else (Rep.dec p2 s2).decide)&&true)=_
  rw[show List.range 2=[0,1] from rfl];simp only[ycn,List.all_nil,ycX,if_true];rw[if_neg .(k)];by_cases z1:p1=s1
  .by_cases z2:p2=s2
   .subst z1 z2;simp
   .subst z1;simp[z2]
  .simp[z1]
 rw[e]at this;exact this
def zr9 (I:Inv X pins U H s)(hu:A.units+(Rep.depth α+Rep.depth β+1)<cLine)(h1:hasP X.K H p x)(h2:hasP X.K H q y)(r1:RelV x u)(r2:RelV y v):RcNeAt A s u v (!decide (p=q)):=by
 obtain ⟨a,x1,x2,rfl,q1,e1,e2⟩:=h1;obtain ⟨b,y1,y2,rfl,q2,f1,f2⟩:=h2;cases r1
 cases r2
 obtain ⟨us,ru,pu,_⟩:=I.tuple (SqT.of q1);obtain ⟨vs,rv,pv,_⟩:=I.tuple (SqT.of q2);obtain ⟨u1,u2,rfl,ru1,ru2⟩:=zhg ru;obtain ⟨v1,v2,rfl,rv1,rv2⟩:=zhg rv;have hin:∀ n,n<=Rep.depth α+Rep.depth β->A.in1.units+n < cLine:=λn hn=>yaJ (ya8 zbW _) (by lia);have c1:=Rep.eq (A:=A.in1) I (hin _ (by lia)) e1 f1 ru1 rv1;have c2:=Rep.eq (A:=A.in1) I (hin _ (by lia)) e2 f2 ru2 rv2;have:=RcNeAt.tuples (A:=A) (s:=s) (l:=a) (b:=b) (items:=(List.toArray [u1,u2])) (items2:=(List.toArray [v1,v2])) (e:=λj=>if j=0 then (Rep.dec p.1 q.1).decide else (Rep.dec p.2 q.2).decide) pu pv (by lia) (by
  intro j h1 h2;have h1':j<2:=h1;have z:j=0\/j=1:=by lia
  rcases z with rfl|rfl
  .exact c1
  .exact c2)
 have e:((List.range (min ((List.toArray [u1,u2]):Array Value).size ((List.toArray [v1,v2]):Array Value).size)).all (λj=>if j=0 then (Rep.dec p.1 q.1).decide else (Rep.dec p.2 q.2).decide)&&((List.toArray [u1,u2]):Array Value).size==((List.toArray [v1,v2]):Array Value).size)=decide (p=q):=by
  obtain ⟨p1,p2⟩:=p;obtain ⟨s1,s2⟩:=q;show (((List.range 2).all λj=>if j=0 then (Rep.dec p1 s1).decide else (Rep.dec p2 s2).decide)&&true)=_
  rw[show List.range 2=[0,1] from rfl];simp only[ycn,List.all_nil,ycX,if_true];rw[if_neg .(k)];by_cases z1:p1=s1
  .by_cases z2:p2=s2
   .subst z1 z2;simp
   .subst z1;simp[z2]
  .simp[z1]
 rw[e]at this;exact this
def zsa (I:Inv X pins U H s)(hu:A.units+(Rep.depth α+Rep.depth β+1)<cLine)(h1:hasP X.K H p x)(h2:hasP X.K H q y)(r1:RelV x u)(r2:RelV y v):EqAt A s u v (decide (p=q)):=by
 have rc:=zoa (A:=A) I hu h1 h2 r1 r2;have h1':=id h1;have h2':=id h2;obtain ⟨a,x1,x2,rfl,q1,e1,e2⟩:=h1;obtain ⟨b,y1,y2,rfl,q2,f1,f2⟩:=h2;cases r1
 cases r2
 by_cases hab:a=b
 .subst hab;rw[yah (zlA I h1' h2')];exact EqAt.same _
 .exact EqAt.of_refs hab rc
end
instance {α β:Type} [Rep α] [Rep β]:Rep (α×β) where
 dec:=inferInstance
 depth:=Rep.depth α+Rep.depth β+1
 has:=hasP
 mono:=λe ⟨a,x,y,h1,h2,h3,h4⟩=>#[a,x,y,h1,e _ _ h2 nofun,Rep.mono e h3,Rep.mono e h4]
 inj:=λI h1 h2=>zlA I h1 h2
 rc:=λI hu h1 h2 r1 r2=>zoa I hu h1 h2 r1 r2
 rn:=λI hu h1 h2 r1 r2=>zr9 I hu h1 h2 r1 r2
 eq:=λI hu h1 h2 r1 r2=>zsa I hu h1 h2 r1 r2
def huD {k:Nat}{α:Type}[Rep α](hr:Room k A)(h:Rep.depth α<=64:=by decide):A.units+Rep.depth α<cLine:=yaJ (yaK h _) hr.units
inductive rEqD (α:Type)[Rep α](K:Frag)(x:V)(y:V)(H:Hp)(Q:VK):Prop
 | c:∀(a b:α),Rep.has K H a x->Rep.has K H b y->Q (.bl (decide (a=b))) H->rEqD α K x y H Q
inductive rNeD (α:Type)[Rep α](K:Frag)(x:V)(y:V)(H:Hp)(Q:VK):Prop
 | c:∀(a b:α),Rep.has K H a x->Rep.has K H b y->Q (.bl (!decide (a=b))) H->rNeD α K x y H Q
section
variable {X:Cx}
def zti (α:Type)[Rep α](hu:X.A.units+Rep.depth α<cLine):OpR X (compareOp .Eq) (rEqD α X.K):=by
 intro pins s U H x y v u Q I rx ry h;obtain ⟨a,b,ha,hb,q⟩:=h;refine Rep.rc I hu ha hb rx ry X.prog X.w X.xe _ #[.bl _,H,I,rfl,?_];have e:(Rep.dec a b).decide=decide (a=b):=rfl;rw[e];exact q
def zlj (α:Type)[Rep α](hu:X.A.units+Rep.depth α<cLine):OpR X (compareOp .NotEq) (rNeD α X.K):=by
 intro pins s U H x y v u Q I rx ry h;obtain ⟨a,b,ha,hb,q⟩:=h;refine Rep.rn I hu ha hb rx ry X.prog X.w X.xe _ #[.bl _,H,I,rfl,?_];have e:(Rep.dec a b).decide=decide (a=b):=rfl;rw[e];exact q
end
end L2
namespace L2
open PySem PySem.Spec PyProof.Rows
section
variable {X:Cx}{pins:List (Addr×Obj)}{U:St}{H:Hp}{s:Shared}{h':Heap}
def Inv.turnedNew {t':Nat}{fp:List Addr}{p:Addr}{o:HO}(I:Inv X pins U H s)(k:∀ b ob,b∉fp->s.heap.get? b=some ob->h'.get? b=some ob)(hf:∀ b∈fp,FpOk X pins H b)
  (hp:s.heap.objs.size<=p) (new:zbl X.prog X.w (upd H p o) h' p o):Inv X pins U (upd H p o) { s with heap:=h',toks:=t' }:=by
 have hn:H p=none:=I.hok.fresh hp;have nfp:∀ b u,H b=some u->b∉fp:=λb u e z=>by rw[(hf b z).1]at e;cases e
 have nep:∀ b ob,s.heap.get? b=some ob->b≠p:=λb ob e=>yau (yak (yag e) hp);refine I.step (g':=s.gens) (d':=s.drawn) (ch:=fp) (λb hb=>?_) (λb ob _ _ hc e _=>k b ob hc e) (λb ob _ _ hc e _=>#[ob.slots,k b ob hc e]) (λb ob _ e n=>by rw[zag (nep b ob e)];exact n)
  (λb ob hc e=>#[ob,k b ob hc e]) (λb xs e=>by rw[zag (zad e hn)];exact e) (λb ob u e=>by rw[zag (zad e hn)];exact e) (λb ps e=>#[(List.toArray []),by rw[zag (zad e hn),e];simp]) (λm hm=>?_) (λb u e=>?_) I.bare
 .obtain ⟨_,h2,_,h4,h5,h6⟩:=hf b hb;exact #[h4,h2,h5,h6]
 .obtain ⟨ob,es,ep,ho,r⟩:=hm;exact #[ob,es,ep,k _ ob (λz=>(hf _ z).2.1 rfl) ho,r]
 .by_cases hb:b=p
  .subst hb;rw[zab]at e;cases e;exact new
  .rw[zag hb]at e;refine (I.hok b u e).stay (λc v hc q=>k c v ?_ q) (λc q=>by rw[zag (zad q hn)];exact q) λc xs q=>by rw[zag (zad q hn)];exact q
   rcases hc with z|z
   .rw[z];exact nfp b u e
   .exact nfp c _ z
def zmJ {h:Heap}{p:Addr}{x y:V}{u v:Value}(rx:RelV x u)(ry:RelV y v)(e:h.get? p=some { cls:=.type "tuple",data:=.seq (List.toArray [u,v]) }):zbl P w H h p (.tup [x,y]):=
 #[by show 2<=sizeLine;decide,[u,v],.cons rx (.cons ry .nil),_,e,rfl,0,rfl]
end
def Ite (K:Frag)(a:Addr):It:=
 #[λi H=>∃ xs x,SqL K H a xs/\xs[i]?=some x,λi H x H'=>∃ p y,x=.ref p/\H p=none/\(∀ xs,SqL K H a xs->xs[i]?=some y)/\H'=upd H p (.tup [.int i,y]),λi H=>∃ xs,SqL K H a xs/\xs.length<=i]
def zmG {K:Frag}{es:List Expr}{k0}{pos:Pos}(a it e:Addr)(hne:e≠it):Turn P w K (.Tuple es k0 pos) (Ite K a) [e,it] e (λi h=>(∃ old,IsEnum h e it i old)/\h.IsListIter it a i) where
 mem:=by simp
 obj:=λi h st b hb=>by
  obtain ⟨⟨old,he⟩,o,ho,c,d⟩:=st;rcases yaq.mp hb with z|z
  .subst z;exact #[_,he,λv z=>by cases z]
  .have z:=yao.mp z;subst z;exact #[o,ho,λv z=>by rw[d]at z;cases z]
 keep:=λi h h' st k=>by
  obtain ⟨⟨old,he⟩,hi⟩:=st;exact #[#[old,k e .(h) _ he],hi.at λo q=>k it .(h) o q]
 item:=by
  intro X hP hw hK hc i pins s U H E I hf st hg;subst hP hw hK;obtain ⟨⟨old,he⟩,hi⟩:=st;obtain ⟨xs,x,hq,hx⟩:=hg;obtain ⟨its,rv,p,hz⟩:=I.list hq;obtain ⟨u,hu,ru⟩:=rv.get hx;refine wpAny_pyNext_enum_item he hi p.isList (x:=u) (by simpa using hu) hne λh1 he1 hi1 ht1 _ k1=>?_;refine #[_,rfl,wpAny_letOwnedTupleGo_enum (s:={ s with heap:=h1,toks:=s.toks+1 }) he1 λh2 he2 sb=>?_];have np:s.heap.objs.size≠e:=ybG (yag he);have ht2:h2.get? s.heap.objs.size=some { cls:=.type "tuple",data:=.seq (List.toArray [.int i s.toks,u]) }:=(sb.2 _ np).trans ht1;have I2:Inv X pins U (upd H s.heap.objs.size (.tup [.int i,x])) { s with heap:=h2,toks:=s.toks+1 }:=
   I.turnedNew (fp:=[e,it]) (λb ob hb q=>(sb.2 b (λz=>hb (by simp[z]))).trans (k1 b ob (λz=>hb (by simp[z])) (λz=>hb (by simp[z])) q)) hf (yaa _) (zmJ #[_,rfl] ru ht2)
  refine #[.ref s.heap.objs.size,_,I2,rfl,#[_,x,rfl,I.hok.fresh (yaa _),λys hy=>by rw[I.list_inj hy hq];exact hx,rfl],#[#[u,?_],?_],λb hb=>?_]
  .have z:IsEnum h2 e it ((i:Int)+1) u:=he2;exact z
  .exact hi1.at λo q=>(sb.2 it (Ne.symm hne)).trans q
  .have z:=(hf b hb).1;rw[zag ?_]
   .exact z
   .rcases yaq.mp hb with q|q
    .rw[q];exact Ne.symm np
    .rw[yao.mp q];obtain ⟨o,ho,_⟩:=hi;exact yau (yag ho)
 done:=by
  intro X hP hw hK hc i pins s U H E I hf st hg;subst hP hw hK;obtain ⟨⟨old,he⟩,hi⟩:=st;obtain ⟨xs,hq,hx⟩:=hg;obtain ⟨its,rv,p,hz⟩:=I.list hq;obtain ⟨f0,f1,f2,f3,f4,f5⟩:=hf it .(h);have hl:=rv.length;exact wpAny_pyNext_enum_end (I.ok.hd hc) he hi p.isList (by simp;lia) λh' eb=>#[rfl,I.turned (t':=s.toks) (λb o hb q=>eb b o hb q) f0 f1 f3 f4 f5]
 self:=λ_ _ _ _ _ st h=>by
  obtain ⟨⟨old,he⟩,_⟩:=st;exact wpAny_pyIter_enum he h
inductive zqY (K:Frag)(R:It->Hp->Prop)(vs:List V)(H1:Hp):Prop
 | c:∀ a,vs=[.ref a]->(∃ xs,SqL K H1 a xs)->R (Ite K a) H1->zqY K R vs H1
def zux (K:Frag)(ta:TA):TI:=λU H R=>ta U H λvs H1=>zqY K R vs H1
section
variable {X:Cx}
def zjj {es:List Expr}{k0}{tp:Pos}{a:Expr}{p pos:Pos}(hg:Gl X "enumerate")(hm:X.mg "enumerate" = none)(ha:PA X [a] ta)(hs:starEach [a] X.env=[(false,eval a X.env)]:=by rfl):PI X (.Tuple es k0 tp) (.Call (.Name "enumerate" p) [a] [] pos) (zux X.K ta):=by
 intro pins s U H R I h;refine Call_ (zfe I hg hm boot_enumerate (PyProof.Rows.callWith_type1 (thn .(S) λus s1 zq0=>?_) hs rfl));obtain ⟨vs,H1,I1,r1,q1⟩:=zq0;obtain ⟨l,e,⟨xs,hq⟩,q⟩:=q1;subst e;cases r1 with
 | cons r rr=>
  cases rr
  cases r
  obtain ⟨its,rv,pl,hz⟩:=I1.list hq;refine call_enumerate_list pl.isList λh' he hi _ hk=>?_;have I2:Inv X pins U H1 { s1 with heap:=h' }:=I1.kept (t':=s1.toks) hk;refine wpAny_pyIter_enum (s:={ s1 with heap:=h' }) he #[_,[s1.heap.objs.size+1,s1.heap.objs.size],_,_,H1,rfl,I2,zmG l s1.heap.objs.size (s1.heap.objs.size+1) (Nat.succ_ne_self _),#[#[_,he],hi],λb hb=>?_,q];have hb':s1.heap.objs.size<=b:=by
   rcases yaq.mp hb with z|z
   .rw[z];exact yaT _
   .rw[yao.mp z];exact yaa _
  exact I1.fpOk hb' (I1.hok.fresh hb')
end
def zp4 {K:Frag}{g:TG}{tb:TS}{D:Ends}{U:St}{H:Hp}(Pv:Nat->St->Hp->Prop)(h0:Pv 0 U H)(hl:∀ i U H,i<=xs.length->Pv i U H->SqL K H a xs)
  (hs:∀ i x U H p,xs[i]?=some x->Pv i U H->H p=none->g (.ref p) U (upd H p (.tup [.int i,x])) λU2 H2=>tb { D with nx:=Pv (i+1),ct:=Pv (i+1),bk:=D.nx } U2 H2) (hd:∀ U H,Pv xs.length U H->D.nx U H) :
  ∃ W:Nat->Nat->St->Hp->Prop,(∃ m,W 0 m U H)/\∀ i m U H,W i m U H->((Ite K a).stop i H/\D.nx U H)\/((Ite K a).go i H/\∃ N:St->Hp->Prop,(∀ U' H',N U' H'->∃ m',m'<m/\W (i+1) m' U' H')/\∀ x H',(Ite K a).yld i H x H'->g x U H' λU2 H2=>tb { D with nx:=N,ct:=N,bk:=D.nx } U2 H2):=by
 refine #[λi m U H=>i+m=xs.length/\Pv i U H,#[xs.length,by lia,h0],λi m U H zq0=>?_];obtain ⟨e,pv⟩:=zq0;have hS:=hl i U H .(a) pv;by_cases hi:i<xs.length
 .refine .inr #[#[xs,xs[i],hS,yac hi],Pv (i+1),λU' H' q=>#[m-1,by lia,by lia,q],λx H' y=>?_];obtain ⟨p,z,rfl,hp,hz,rfl⟩:=y;exact hs i z U H p (hz xs hS) pv hp
 .have:i=xs.length:=by lia
  subst this;exact .inl #[#[xs,hS,yaa _],hd U H pv]
def Itz (K:Frag)(a b:Addr):It:=
 #[λi H=>∃ xs ys x y,SqL K H a xs/\SqL K H b ys/\xs[i]?=some x/\ys[i]?=some y,λi H x H'=>∃ p y z,x=.ref p/\H p=none/\(∀ xs,SqL K H a xs->xs[i]?=some y)/\(∀ xs,SqL K H b xs->xs[i]?=some z)/\H'=upd H p (.tup [y,z]),λi H=>∃ xs ys,SqL K H a xs/\SqL K H b ys/\(xs.length<=i\/ys.length<=i)]
def zoV {K:Frag}{es:List Expr}{k0}{pos:Pos}{a b z TI TO i1 i2:Addr}(D:ZipApart z TI TO i1 i2 a b):Turn P w K (.Tuple es k0 pos) (Itz K a b) [z,TI,TO,i1,i2] z
  (λi h=>IsZip h z TI TO .none/\IsPair h TI (.ref i1) (.ref i2)/\(∃ u v,IsPair h TO u v)/\h.IsListIter i1 a i/\h.IsListIter i2 b i) where
 mem:=by simp
 obj:=λi h st c hc=>by
  obtain ⟨hz,hTI,⟨u,v,hTO⟩,⟨o1,e1,_,d1⟩,⟨o2,e2,_,d2⟩⟩:=st;simp only[yaq,ybC,or_false]at hc;rcases hc with rfl|rfl|rfl|rfl|rfl
  .exact #[_,hz,λv q=>by cases q]
  .exact #[_,hTI,λv q=>by cases q]
  .exact #[_,hTO,λv q=>by cases q]
  .exact #[o1,e1,λv q=>by rw[d1]at q;cases q]
  .exact #[o2,e2,λv q=>by rw[d2]at q;cases q]
 keep:=λi h h' st k=>by
  obtain ⟨hz,hTI,⟨u,v,hTO⟩,h1,h2⟩:=st;exact #[k z .(h) _ hz,k TI .(h) _ hTI,#[u,v,k TO .(h) _ hTO],h1.at λo q=>k i1 .(h) o q,h2.at λo q=>k i2 .(h) o q]
 item:=by
  intro X hP hw hK hc i pins s U H E I hf st hg;subst hP hw hK;obtain ⟨hz,hTI,⟨u0,v0,hTO⟩,h1,h2⟩:=st;obtain ⟨xs,ys,x,y,hqa,hqb,hx,hy⟩:=hg;obtain ⟨its,rv,p,_⟩:=I.list hqa;obtain ⟨jts,rw',p',_⟩:=I.list hqb;obtain ⟨u,hu,ru⟩:=rv.get hx;obtain ⟨v,hv,rv'⟩:=rw'.get hy;refine wpAny_pyNext_zip_item D hz hTI hTO h1 h2 p.isList p'.isList (x:=u) (y:=v) (by simpa using hu) (by simpa using hv) λh1' hz1 hTO1 hi1 hi2 ht1 _ k1=>?_;refine #[_,rfl,wpAny_letOwnedTupleGo_zip (s:={ s with heap:=h1' }) hz1 λh2' hz2 sb=>?_];have np:s.heap.objs.size≠z:=ybG (yag hz);have ht2:h2'.get? s.heap.objs.size=some { cls:=.type "tuple",data:=.seq (List.toArray [u,v]) }:=(sb.2 _ np).trans ht1;have I2:Inv X pins U (upd H s.heap.objs.size (.tup [x,y])) { s with heap:=h2',toks:=s.toks }:=
   I.turnedNew (fp:=[z,TI,TO,i1,i2]) (λc ob hb q=>(sb.2 c (λr=>hb (by simp[r]))).trans (k1 c ob (λr=>hb (by simp[r])) (λr=>hb (by simp[r])) (λr=>hb (by simp[r])) (λr=>hb (by simp[r])) q)) hf (yaa _) (zmJ ru rv' ht2)
  refine #[.ref s.heap.objs.size,_,I2,rfl,#[_,x,y,rfl,I.hok.fresh (yaa _),λys hy'=>by rw[I.list_inj hy' hqa];exact hx,λys hy'=>by rw[I.list_inj hy' hqb];exact hy,rfl],#[hz2,(sb.2 _ D.TIz).trans (k1 TI _ D.TIz D.TITO D.TIi1 D.TIi2 hTI),#[_,_,(sb.2 _ D.TOz).trans hTO1],hi1.at λo q=>(sb.2 i1 D.i1z).trans q,hi2.at λo q=>(sb.2 i2 D.i2z).trans q],λc hb=>?_];have zf:=(hf c hb).1;have lt:c<s.heap.objs.size:=by
   simp only[yaq,ybC,or_false]at hb;obtain ⟨o1,e1,_⟩:=h1;obtain ⟨o2,e2,_⟩:=h2;rcases hb with rfl|rfl|rfl|rfl|rfl
   .exact yag hz
   .exact yag hTI
   .exact yag hTO
   .exact yag e1
   .exact yag e2
  rw[zag (yau lt)];exact zf
 done:=by
  intro X hP hw hK hc i pins s U H E I hf st hg;subst hP hw hK;obtain ⟨hz,hTI,⟨u0,v0,hTO⟩,h1,h2⟩:=st;obtain ⟨xs,ys,hqa,hqb,hend⟩:=hg;obtain ⟨its,rv,p,_⟩:=I.list hqa;obtain ⟨jts,rw',p',_⟩:=I.list hqb;have l1:=rv.length;have l2:=rw'.length;refine wpAny_pyNext_zip_end (I.ok.hd hc) D hz hTI hTO h1 h2 p.isList p'.isList (by
   rcases hend with q|q
   .left;simp;lia
   .right;simp;lia) λh' kk=>#[rfl,?_]
  refine I.step (g':=s.gens) (d':=s.drawn) (t':=s.toks) (ch:=[z,TI,TO,i1,i2]) (λc hb=>?_) (λc ob _ _ hn q _=>kk c ob .(K) .(K) .(K) .(K) q)
   (λc ob _ _ hn q _=>#[ob.slots,kk c ob .(K) .(K) .(K) .(K) q]) (λ_ _ _ _ n=>n)
   (λc ob hn q=>#[ob,kk c ob .(K) .(K) .(K) .(K) q]) (λ_ _ q=>q) (λ_ _ _ q=>q) (λc ps q=>#[(List.toArray []),by rw[q];simp]) (λm hm=>?_) (λc u e=>?_) I.bare
  .obtain ⟨_,q2,_,q4,q5,q6⟩:=hf c hb;exact #[q4,q2,q5,q6]
  .obtain ⟨ob,es,ep,ho,r⟩:=hm;have nL:∀ c∈[z,TI,TO,i1,i2],X.env.locals≠c:=λc hc=>Ne.symm (hf c hc).2.1;exact #[ob,es,ep,kk _ ob (nL z .(h)) (nL TO .(h)) (nL i1 .(h)) (nL i2 .(h)) ho,r]
  .have nf:∀ c' u,H c'=some u->∀ q∈[z,TI,TO,i1,i2],c'≠q:=λc' u e q hq r=>by rw[r,(hf q hq).1]at e;cases e
   refine (I.hok c u e).stay (λc' v hc' q=>?_) (λ_ q=>q) λ_ _ q=>q;have go:∀ u',H c'=some u'->h'.get? c'=some v:=λu' e'=>kk c' v (nf c' _ e' z .(h)) (nf c' _ e' TO .(h)) (nf c' _ e' i1 .(h)) (nf c' _ e' i2 .(h)) q;rcases hc' with r|r
   .exact go u (by rw[r];exact e)
   .exact go _ r
 self:=λ_ _ _ _ _ st h=>wpAny_pyIter_zip st.1 h
def zmt {l l' n:Nat}(hl:l<n)(hl':l'<n):ZipApart (n+4) (n+2) (n+3) n (n+1) l l':=by
 constructor<;>(intro z;have z':(_:Nat)=_:=z;lia)
def zsE {n c:Nat}(h:c∈[n+4,n+2,n+3,n,n+1]):n<=c:=by
 simp only[yaq,ybC,or_false]at h;lia
inductive zua (K:Frag)(R:It->Hp->Prop)(vs:List V)(H1:Hp):Prop
 | c:∀ a b,vs=[.ref a,.ref b]->(∃ xs,SqL K H1 a xs)->(∃ xs,SqL K H1 b xs)->R (Itz K a b) H1->zua K R vs H1
def iZip (K:Frag)(ta:TA):TI:=λU H R=>ta U H λvs H1=>zua K R vs H1
section
variable {X:Cx}
def zqB {es:List Expr}{k0}{tp:Pos}{a b:Expr}{p pos:Pos}(hg:Gl X "zip")(hm:X.mg "zip" = none)(ha:PA X [a,b] ta)(hs:starEach [a,b] X.env=[(false,eval a X.env),(false,eval b X.env)]:=by rfl)(hs2:starEach [b] X.env=[(false,eval b X.env)]:=by rfl):PI X (.Tuple es k0 tp) (.Call (.Name "zip" p) [a,b] [] pos) (iZip X.K ta):=by
 intro pins s U H R I h;refine Call_ (zfe I hg hm boot_zip (PyProof.Rows.callWith_type1 (thn .(S) λus s1 zq0=>?_) (by rw[hs,hs2]) (by rw[hs2];rfl)));obtain ⟨vs,H1,I1,r1,q1⟩:=zq0;obtain ⟨l,l',e,⟨xs,hq⟩,⟨ys,hq'⟩,q⟩:=q1;subst e;cases r1 with
 | cons r rr=>
  cases rr with
  | cons r' rr=>
   cases rr
   cases r
   cases r'
   obtain ⟨its,rv,pl,hz⟩:=I1.list hq;obtain ⟨jts,rv',pl',hz'⟩:=I1.list hq';have hl:l<s1.heap.objs.size:=by obtain ⟨o,_,e,_⟩:=pl;exact yag e
   have hl':l'<s1.heap.objs.size:=by obtain ⟨o,_,e,_⟩:=pl';exact yag e
   refine call_zip_2 pl.isList pl'.isList λh' hz hTI hTO hi hi' _ hk=>?_;have I2:Inv X pins U H1 { s1 with heap:=h' }:=I1.kept (t':=s1.toks) hk;refine wpAny_pyIter_zip (s:={ s1 with heap:=h' }) hz #[_,[s1.heap.objs.size+4,s1.heap.objs.size+2,s1.heap.objs.size+3,s1.heap.objs.size,s1.heap.objs.size+1],_,_,H1,rfl,I2,zoV (zmt hl hl'),#[hz,hTI,#[_,_,hTO],hi,hi'],λc hb=>?_,q];have hb':s1.heap.objs.size<=c:=zsE hb;exact I1.fpOk hb' (I1.hok.fresh hb')
end
def zsh {K:Frag}{xs ys:List V}{g:TG}{tb:TS}{D:Ends}{U:St}{H:Hp}(hlen:xs.length=ys.length)(Pv:Nat->St->Hp->Prop)(h0:Pv 0 U H)(hl:∀ i U H,i<=xs.length->Pv i U H->SqL K H a xs/\SqL K H b ys)
  (hs:∀ i x y U H p,xs[i]?=some x->ys[i]?=some y->Pv i U H->H p=none->g (.ref p) U (upd H p (.tup [x,y])) λU2 H2=>tb { D with nx:=Pv (i+1),ct:=Pv (i+1),bk:=D.nx } U2 H2) (hd:∀ U H,Pv xs.length U H->D.nx U H) :
  ∃ W:Nat->Nat->St->Hp->Prop,(∃ m,W 0 m U H)/\∀ i m U H,W i m U H->((Itz K a b).stop i H/\D.nx U H)\/((Itz K a b).go i H/\∃ N:St->Hp->Prop,(∀ U' H',N U' H'->∃ m',m'<m/\W (i+1) m' U' H')/\∀ x H',(Itz K a b).yld i H x H'->g x U H' λU2 H2=>tb { D with nx:=N,ct:=N,bk:=D.nx } U2 H2):=by
 refine #[λi m U H=>i+m=xs.length/\Pv i U H,#[xs.length,by lia,h0],λi m U H zq0=>?_];obtain ⟨e,pv⟩:=zq0;obtain ⟨hS,hS'⟩:=hl i U H .(a) pv;by_cases hi:i<xs.length
 .refine .inr #[#[xs,ys,xs[i],ys[i]' .(a),hS,hS',yac hi,yac .(a)],Pv (i+1),λU' H' q=>#[m-1,by lia,by lia,q],λx H' y=>?_];obtain ⟨p,z,z',rfl,hp,hz,hz',rfl⟩:=y;exact hs i z z' U H p (hz xs hS) (hz' ys hS') pv hp
 .have:i=xs.length:=by lia
  subst this;exact .inl #[#[xs,ys,hS,hS',.inl (yaa _)],hd U H pv]
end L2
namespace L2
open PySem PySem.Spec PyProof.Rows
def zc (z:Option Str)(C:Addr)(cl:List (Str×Addr)):List (Str×Addr):=match z with|none=>cl|some y=>(y,C+1)::cl
def zsH {x:Str}{cc:Addr}(e:(zc z C cl).lookup x=some cc):(z=some x/\cc=C+1)\/(z≠some x/\cl.lookup x=some cc):=by
 cases z with
 | none=>exact .inr #[(λq=>nomatch q),e]
 | some y=>
  unfold zc at e;rw[ya6]at e;cases hx:x==y with
  | true=>
   rw[hx]at e;exact .inl #[congrArg some (eq_of_beq hx).symm,(yae e).symm]
  | false=>
   rw[hx]at e;exact .inr #[λq=>(by rw[yae q,beq_self_eq_true]at hx;cases hx),e]
def zsF {x:Str}:(zc (some x) C cl).lookup x=some (C+1):=by unfold zc;rw[ya6,beq_self_eq_true]
def zsG {z:Option Str}{cl:List (Str×Addr)}{x:Str}{cc:Addr}(hz:z≠some x)(e:cl.lookup x=some cc):(zc z C cl).lookup x=some cc:=by
 cases z with
 | none=>exact e
 | some y=>
  unfold zc;rw[ya6,show (x==y)=false from beq_eq_false_iff_ne.mpr λq=>hz (congrArg some q.symm)];exact e
def zbY (X:Cx)(N:List Str)(scope:Scope)(z:Option Str)(cl:List (Str×Addr))(C:Addr)(s₂:Shared)(H₂:Hp)(fp:List Addr):Cx:=
 { X with N:=N,s₀:=s₂,H₀:=H₂,env:=compEnvC scope (zc z C cl) C X.env,outer:=X.stack,stack:=X.stack,ex:=fp,fn:=λx=>z==some x,xe:=λ_ _=>False }
structure zjW (scope:Scope)(env:Env)(cl:List (Str×Addr)):Prop where
 eq:closureFor scope env=pure cl
 sub:∀ x c,cl.lookup x=some c->env.cells.lookup x=some c
 has:∀ x,(x,NameKind.free)∈scope.names->∃ c,cl.lookup x=some c
def zg5 {env:Env}:∀(names:List (Str×NameKind)) (cs:List (Str×Addr)),(∀ x,(x,NameKind.free)∈names->∃ c,env.cells.lookup x=some c)->(∀ x c,cs.lookup x=some c->env.cells.lookup x=some c)->
  ∃ cl:List (Str×Addr),(forIn names cs (λ(x:Str×NameKind) (r:List (Str×Addr))=>if (x.2==NameKind.free)=true then (do let c <-cellOf env x.1;pure (ForInStep.yield ((x.1,c)::r))) else pure (ForInStep.yield r)):Sem (List (Str×Addr)))=pure cl/\
   (∀ x c,cl.lookup x=some c->env.cells.lookup x=some c)/\(∀ x c,cs.lookup x=some c->∃ c',cl.lookup x=some c')/\∀ x,(x,NameKind.free)∈names->∃ c,cl.lookup x=some c
 | [],cs,_,h2=>#[cs,by rw[List.forIn_nil],h2,λx c e=>#[c,e],λ_ z=>nomatch z]
 | (n,k)::r,cs,h1,h2=>by
  by_cases hk:k=.free
  .subst hk;obtain ⟨c,hc⟩:=h1 n yaB;have hn:∀ x c',((n,c)::cs).lookup x=some c'->env.cells.lookup x=some c':=λx c' e=>by
    rw[ya6]at e;cases hx:x==n with
    | true=>
     rw[hx]at e;cases e
     rw[eq_of_beq hx];exact hc
    | false=>
     rw[hx]at e;exact h2 x c' e
   obtain ⟨cl,e,s1,s2,s3⟩:=zg5 r ((n,c)::cs) (λx hx=>h1 x (yaz _ hx)) hn;have here:∃ c',cl.lookup n=some c':=s2 n c (by rw[ya6,beq_self_eq_true]);refine #[cl,?_,s1,λx c' q=>?_,λx hx=>?_]
   .rw[List.forIn_cons,if_pos (by rfl)];have q:cellOf env n=pure c:=by unfold cellOf;rw[hc]
    rw[q];simp only[pure_bind];exact e
   .cases hxn:x==n with
    | true=>rw[eq_of_beq hxn];exact here
    | false=>exact s2 x c' (by rw[ya6,hxn];exact q)
   .rcases yaq.mp hx with z|z
    .cases z;exact here
    .exact s3 x z
  .obtain ⟨cl,e,s1,s2,s3⟩:=zg5 r cs (λx hx=>h1 x (yaz _ hx)) h2;refine #[cl,?_,s1,s2,λx hx=>?_]
   .have hb:(k==NameKind.free)=false:=by simpa using hk
    rw[List.forIn_cons,if_neg (by rw[hb];exact yaC)];simp only[pure_bind];exact e
   .rcases yaq.mp hx with z|z
    .cases z;exact absurd rfl hk
    .exact s3 x z
def zg4 {scope:Scope}{env:Env}(h:∀ x,(x,NameKind.free)∈scope.names->∃ c,env.cells.lookup x=some c):∃ cl,zjW scope env cl:=by
 obtain ⟨cl,e,s1,_,s3⟩:=zg5 scope.names [] h (λ_ _ z=>nomatch z);refine #[cl,?_,s1,s3];unfold closureFor;exact (by simpa using e)
def zcI {env:Env}:∀{names:List (Str×NameKind)} {x:Str},names.lookup x=some .free->
  (names.map λ(n,k)=>if .(y) then (n,NameKind.cell) else (n,k)).lookup x=some .cell\/
  (names.map λ(n,k)=>if .(y) then (n,NameKind.cell) else (n,k)).lookup x=some .free
 | [],_,h=>by simp at h
 | (n,k)::r,x,h=>by
  have ih:=@zcI env r x;show List.lookup x ((if .(y)=true then (n,NameKind.cell) else (n,k))::_)=_\/List.lookup x ((if .(y)=true then (n,NameKind.cell) else (n,k))::_)=_
  cases hx:x==n with
  | true=>
   simp only[ya6,hx]at h;cases h
   by_cases hc:(NameKind.free==NameKind.free&&env.scope.kind == .function&&env.kindOf n==some .cell)=true
   .rw[if_pos hc];left;simp only[ya6,hx]
   .rw[if_neg hc];right;simp only[ya6,hx]
  | false=>
   simp only[ya6,hx]at h;by_cases hc: .(y)=true
   .rw[if_pos hc];simp only[ya6,hx];exact ih h
   .rw[if_neg hc];simp only[ya6,hx];exact ih h
def zes {n:Nat}{h:Heap}:∀{names:List (Str×NameKind)} {acc:List (Str×Addr)},names.filter (λy=>y.2 == .cell)=[]->cellsFrom n names acc=acc/\pushCells h names=h
 | [],_,_=> .(L)
 | (x,k)::r,acc,e=>by
  cases hk:k==NameKind.cell with
  | true=>
   rw[ybp (by exact hk)]at e;cases e
  | false=>
   rw[ybD (by rw[show ((x,k):Str×NameKind).2=k from rfl,hk];decide)]at e;unfold cellsFrom pushCells;rw[hk];exact zes e
def zg6 {n:Nat}{h:Heap}{z:Str}:∀{names:List (Str×NameKind)} {acc:List (Str×Addr)},names.filter (λy=>y.2 == .cell)=[(z,.cell)]->cellsFrom n names acc=(z,n)::acc/\pushCells h names=h.push { cls:=.type "cell",data:=.cell none }
 | [],_,e=>by cases e
 | (x,k)::r,acc,e=>by
  cases hk:k==NameKind.cell with
  | true=>
   rw[ybp (by exact hk)]at e;obtain ⟨e1,e2⟩:=List.cons.inj e;have e3:x=z:=congrArg Prod.fst e1;subst e3;unfold cellsFrom pushCells;rw[hk];exact zes e2
  | false=>
   rw[ybD (by rw[show ((x,k):Str×NameKind).2=k from rfl,hk];decide)]at e;unfold cellsFrom pushCells;rw[hk];exact zg6 e
def zuz {M:Model}{A:Around}{E:Value->Shared->Prop}{s:Shared}{scope:Scope}{z:Option Str}{globals:Addr}{qual:Str}{env:Env}{Q:Env->Shared->Prop}
  (one:scope.names.filter (λy=>y.2 == .cell)=z.toList.map (·,NameKind.cell))
  (hQ:∀ h₁:Heap,(∀ b o,s.heap.get? b=some o->h₁.get? b=some o)->h₁.Ns s.heap.objs.size (λ_=>none)->(∀ y,z=some y->h₁.IsCell (s.heap.objs.size+1) none)->
   Q { scope,locals:=s.heap.objs.size,globals,cells:=zc z s.heap.objs.size closure,qual,func:=none,code:=env.code,frame:=env.frame,builtins:=env.builtins } { s with heap:=h₁ }) :
  wpAny M A (newFunctionEnv scope globals closure [] qual none .none (some env)) Q E s:=by
 simp only[newFunctionEnv,Option.isSome_some,if_true];refine wpAny_bind (wpAny_alloc ?_);refine wpAny_bind (wpAny_layCells _ (λname kind cells=>by cases hkc:kind==NameKind.cell<;>simp[hkc]) _ _ _ _ ?_)
 rw[show ({ s with heap:=s.heap.push { cls:=.type "dict",data:=.dict (List.toArray []) } }:Shared).heap.objs.size=s.heap.objs.size+1 from yb3 ..];refine wpAny_bind ?_;rw[List.forIn_nil];cases z with
 | none=>
  rw[(zes (n:=s.heap.objs.size+1) (h:=s.heap) one).1,(zes (n:=0) (h:=s.heap.push { cls:=.type "dict",data:=.dict (List.toArray []) }) (acc:=[]) one).2];exact wpAny_pure (wpAny_pure (hQ _ (λb o e=>yam _ e) (Heap.Ns.new s.heap (.type "dict")) nofun))
 | some y=>
  rw[(zg6 (n:=s.heap.objs.size+1) (h:=s.heap) one).1,(zg6 (n:=0) (h:=s.heap.push { cls:=.type "dict",data:=.dict (List.toArray []) }) (acc:=[]) one).2];refine wpAny_pure (wpAny_pure (hQ _ (λb o e=>yam _ (yam _ e)) ((Heap.Ns.new s.heap (.type "dict")).push _) λ_ _=>#[{ cls:=.type "cell",data:=.cell none },?_,rfl]));have e:(s.heap.push { cls:=.type "dict",data:=.dict (List.toArray []) }).objs.size=s.heap.objs.size+1:=yb3 ..;rw[<-e];exact yaD _ rfl
def zfD {env:Env}:∀{names:List (Str×NameKind)} {x:Str} {k':NameKind},(names.map λ(n,k)=>if .(y) then (n,NameKind.cell) else (n,k)).lookup x=some k'->k'=.cell\/k'=.free->
  (x,NameKind.free)∈names\/(x,NameKind.cell)∈names
 | [],_,_,h,_=>by simp at h
 | (n,k)::r,x,k',h,hk=>by
  have ih:=@zfD env r x k';have h':List.lookup x ((if .(y)=true then (n,NameKind.cell) else (n,k))::r.map λ(n,k)=>if .(y) then (n,NameKind.cell) else (n,k))=some k':=h
  cases hx:x==n with
  | true=>
   have e:=eq_of_beq hx;subst e;by_cases hf:k=.free
   .subst hf;exact .inl yaB
   .have hb:(k==NameKind.free)=false:=by simpa using hf
    rw[if_neg (by rw[hb];simp),ya6,hx]at h';cases h'
    rcases hk with z|z
    .subst z;exact .inr yaB
    .exact absurd z hf
  | false=>
   refine (ih ?_ hk).imp (yaz _) (yaz _);by_cases hcd: .(y)=true
   .rw[if_pos hcd,ya6,hx]at h';exact h'
   .rw[if_neg hcd,ya6,hx]at h';exact h'
def zfU (own:Nat)(cap:List Nat)(U:St):St:=List.replicate own none++cap.map λi=>(U[i]?).getD none
structure zlM (X:Cx)(scope:Scope)(z:Option Str)(N:List Str)(own:Nat)(cap:List Nat):Prop where
 kind:scope.kind=.function
 one:(scope.names.filter (λy=>y.2 == .cell),z.map λy=>scope.names.lookup y)=(z.toList.map (·,NameKind.cell),z.map λ_=>some NameKind.cell)
 locs:(scope.names.all λy=>y.2 != .local||scope.names.lookup y.1==some .local)=true
 frees:(scope.names.all λy=>y.2 != .free||(X.env.kindOf y.1==some .cell||X.env.kindOf y.1==some .free))=true
 len:N.length=own+cap.length
 caps:((List.range cap.length).all λj=>(N[own+j]?==X.N[cap[j]!]?)&&(match N[own+j]? with|some x=>scope.names.lookup x==some .free&&(X.env.kindOf x==some .cell||X.env.kindOf x==some .free)|none=>false))=true
section
variable {prog:Program}{w:World}{A:Around}{R:Result->Shared->Prop}{s:Shared}
def zkD {elt target iter:Expr}{ifs:List Expr}{scope:Scope}{pos:Pos}{it acc:Value}{env:Env}(I:Nat->Shared->Prop)
  (turn:∀ n s,I n s->wpAny (model prog w) A (pyNext it) (λr s₁=>match r with
   | none=>R (.ok .next) s₁
   | some v=>wpAny (model prog w) A (letOwnedTupleGo target it v) (λ_ s₁'=>wpAny (model prog w) A (assign target env v) (λ_ s₂=>
     wpAny (model prog w) A (forIn ifs true λc r=>if r=true then do let ok <-isTrue c env (eval c env);pure (ForInStep.yield ok) else pure (ForInStep.yield r)) (λok s₃=>
      if ok=true then wpAny (model prog w) A (eval elt env) (λx s₄=>
       wpAny (model prog w) A (call (.builtin "list.append") [acc,x]) (λ_ s₅=>∃ m,m<n/\I m s₅) (λ_ _=>False) s₄) (λ_ _=>False) s₃
      else ∃ m,m<n/\I m s₃) (λ_ _=>False) s₂) (λ_ _=>False) s₁') (λ_ _=>False) s₁) (λ_ _=>False) s)
  (n:Nat) (h:I n s) :
  codeAny .(e) A (.compLoop (.ListComp elt [#[target,iter,ifs,0]] scope pos) 0 it acc env) R s:=by
 refine codeAny_loop rfl I (λn s hI=>?_) n h;show wpAny _ A ((compTurn (.ListComp elt [#[target,iter,ifs,0]] scope pos) 0 it acc env).onRaise (λx=>do noteFrame x env;theTreesLotGoes x)) _ _ s
 refine wpAny_noted ?_;rw[compTurn_list];refine wpAny_bind (wpAny_standAt (wpAny_bind (wpAny_mono (turn n s hI) (λr s₁ h₁=>?_) λ_ _ h'=>h'.elim)));cases r with
 | none=>exact wpAny_pure h₁
 | some v=>
  refine wpAny_bind (wpAny_mono h₁ (λ_ s₁' h₁'=>?_) λ_ _ h'=>h'.elim);refine wpAny_bind (wpAny_mono h₁' (λ_ s₂ h₂=>wpAny_bind (wpAny_mono h₂ (λok s₃ h₃=>?_) λ_ _ h'=>h'.elim)) λ_ _ h'=>h'.elim);cases ok with
  | true=>
   simp only[if_true]at h₃ ⊢;exact wpAny_bind (wpAny_bind (wpAny_mono h₃ (λx s₄ h₄=>wpAny_bind (wpAny_mono h₄ (λ_ s₅ h₅=>wpAny_pure (wpAny_pure #[rfl,h₅])) λ_ _ h'=>h'.elim)) λ_ _ h'=>h'.elim))
  | false=>
   simp only[ya1,if_false]at h₃ ⊢;exact wpAny_pure #[rfl,h₃]
end
section
variable {X:Cx}
def PTs (X:Cx)(ifs:List Expr)(t:TT):Prop:=
 ∀(pins:List (Addr×Obj)) (s:Shared) (U:St) (H:Hp) (Q:Bool->Hp->Prop),Inv X pins U H s->t U H Q->
  wpAny .(d) X.A (forIn ifs true λc r=>if r=true then do let ok <-isTrue c X.env (eval c X.env);pure (ForInStep.yield ok) else pure (ForInStep.yield r)) (TP X pins U Q) X.xe s
def tYes:TT:=λ_ H Q=>Q true H
def zb4:PTs X [] tYes:=λ_ _ _ H _ I h=>wpAny_tests_nil #[H,I,h]
def zdh {t:TT}(h:PT X c t):PTs X [c] t:=λpins s U H Q I q=>wpAny_tests_one (h pins s U H Q I q)
def zpU {C:Addr}{fp:List Addr}{h₁:Heap}{tk:Nat}{D:Addr}
  (I:Inv X pins U H s) (c:zlM X scope z N own cap) (hcl:zjW scope X.env cl) (f:∀ b∈fp,FpOk X pins H b) (hD:s.heap.objs.size<=D) (hC:s.heap.objs.size<=C) (hCD:D≠C)
  (kp:∀ b o,s.heap.get? b=some o->h₁.get? b=some o) (hnew:h₁.get? D=some { cls:=.type "list",data:=.seq (List.toArray []) }) (hns:∃ m,h₁.Ns C m) (hcz:∀ y,z=some y->h₁.IsCell (C+1) none) (hDz:D≠C+1) (hfp:∀ b∈fp,b<s.heap.objs.size) (hcalm:X.calm=true) :
  Inv (zbY X N scope z cl C s H fp) pins (zfU own cap U) (upd H D .(M)) { s with heap:=h₁,toks:=tk }:=by
 have hfr:H D=none:=I.hok.fresh hD;have hfrC:H C=none:=I.hok.fresh hC;have sz:∀ b o,s.heap.get? b=some o->b≠D/\b≠C:=λb o e=>#[yau (yak (yag e) hD),yau (yak (yag e) hC)];have cells:∀ x cc,cl.lookup x=some cc->∃ v,s.heap.IsCell cc v:=λx cc e=>I.cell x cc (hcl.sub x cc e);have cellne:∀ x cc,cl.lookup x=some cc->cc≠D/\cc≠C:=λx cc e=>by
  obtain ⟨v,o,ho,_⟩:=cells x cc e;exact sz cc o ho
 have czlt:∀ x cc,cl.lookup x=some cc->cc≠C+1:=λx cc e q=>by
  obtain ⟨v,o,ho,_⟩:=cells x cc e;exact absurd (show C+1<s.heap.objs.size from (by rw[<-q];exact yag ho)) (ybY.mpr (yad hC (yaT _)))
 have lk:=λx cc (e:(zc z C cl).lookup x=some cc)=>zsH e;have hfrZ:H (C+1)=none:=I.hok.fresh (yad hC (yaT _));have ok:(zbY X N scope z cl C s H fp).Ok:=by
  refine #[I.ok.mod,c.kind,I.ok.glob,I.ok.blt,hC,λx y cc e1 e2=>?_,λx hx=>?_,λx cc e1 e2=>?_,I.ok.hd,I.ok.frames,.inl rfl,λb hb=>?_,λb o e=>I.bs b o e,?_,λb o e hb=>?_,λb hb z=>?_,I.stack,λb hb=>I.stkFree b hb]
  .rcases lk x cc e1 with ⟨q1,q2⟩|⟨q1,q2⟩<;>rcases lk y cc e2 with ⟨r1,r2⟩|⟨r1,r2⟩
   .exact yae (q1.symm.trans r1)
   .exact absurd q2 (czlt y cc r2)
   .exact absurd r2 (czlt x cc q2)
   .exact I.ok.inj x y cc (hcl.sub x cc q2) (hcl.sub y cc r2)
  .show ∃ c,(zc z C cl).lookup x=some c;by_cases hxz:z=some x
   .exact #[C+1,by rw[hxz];exact zsF]
   have hor:(x,NameKind.free)∈scope.names\/(x,NameKind.cell)∈scope.names:=by
    rcases hx with y|y
    .exact zfD (env:=X.env) (names:=scope.names) (x:=x) (k':=.cell) y .(Q)
    .exact zfD (env:=X.env) (names:=scope.names) (x:=x) (k':=.free) y (.inr rfl)
   rcases hor with q|q
   .obtain ⟨cc,hcc⟩:=hcl.has x q;exact #[cc,zsG hxz hcc]
   .have hf:(x,NameKind.cell)∈scope.names.filter (λy=>y.2 == .cell):=ybj.mpr #[q,rfl];rw[show scope.names.filter (λy=>y.2 == .cell)=z.toList.map (·,NameKind.cell) from congrArg Prod.fst c.one]at hf;obtain ⟨y,hy,e⟩:=yaE.mp hf;exact absurd ((Option.mem_toList.mp hy).trans (congrArg some (congrArg Prod.fst e))) hxz
  .rcases lk x cc e2 with ⟨_,q2⟩|⟨q1,_⟩
   .rw[q2];exact yad hC (yaT _)
   .exact absurd (eq_of_beq (show (z==some x)=true from e1)) q1
  ·exact #[yau (yak (hfp b hb) hC),λx cc e q=>by
    rcases lk x cc e with ⟨_,q2⟩|⟨_,q2⟩
    .exact absurd (show C+1<s.heap.objs.size from (by rw[<-q2,q];exact hfp b hb)) (ybY.mpr (yad hC (yaT _)))
    .exact (f b hb).2.2.2.2.1 x cc (hcl.sub x cc q2) q]
  .exact yad I.ok.bsz I.sz
  .obtain ⟨_,_,_,h4,_⟩:=f b hb;rcases h4 with z|z
   .exact I.ok.noex b o e z
   .exact absurd (yak (yag e) (yad I.ok.bsz z)) (ybF _)
  .obtain ⟨_,h2,h3,_⟩:=f b hb;rcases yaq.mp (I.stkSub b z) with q|q
   .exact h2 q
   .exact h3 q
 have hokN:zbl X.prog X.w (upd H D .(M)) h₁ D .(M):=#[yaF _,[],0,.nil,hnew];refine #[ok,I.os.symm ▸ rfl,I.bare,Un.laid kp hD hfr,?_,λx cc e=>?_,?_,λx cc e=>?_,λp hp=>?_,I.hok.laid kp hD hokN,?_]
 .obtain ⟨m,hm⟩:=hns;refine #[m,hm,λi x v e1 e2 e3=>?_];have hi:own<=i:=by
   false_or_by_contra
   rename_i z;unfold zfU at e2;rw[ybu (by rw[ybP];lia),List.getElem?_replicate]at e2;split at e2<;>cases e2
  obtain ⟨j,rfl⟩:∃ j,i=own+j:=#[i-own,by lia];have hj:j<cap.length:=by
   have:=(yap.mp e1).1;have z:=c.len;have this':own+j<N.length:=this;lia
  have hc:=ybq.mp c.caps j (ybk.mpr hj);have e1':N[own+j]?=some x:=e1;rw[e1']at hc;simp only[ybz,beq_iff_eq,Bool.or_eq_true]at hc;obtain ⟨hN,hf,hk⟩:=hc;have e2':U[cap[j]!]?=some (some v):=by
   unfold zfU at e2;rw[ybt (by rw[ybP];lia),ybP,show own+j-own=j by lia,yax]at e2;have g:cap[j]! = cap[j]:=by simp[hj]
   rw[yac hj,Option.map_some]at e2;rw[g];have e2:=yae e2;cases q:U[cap[j]]? with
   | none=>rw[q]at e2;cases e2
   | some z=>rw[q]at e2;exact congrArg some e2
  obtain ⟨m0,_,hl⟩:=I.loc;obtain ⟨u,ru,lk⟩:=hl (cap[j]!) x v hN.symm e2' (by
   rcases hk with z|z
   .exact .inr (.inl z)
   .exact .inr (.inr z))
  refine #[u,ru,.inr #[zcI (env:=X.env) hf,?_]];rcases lk with ⟨z,_⟩|⟨_,cc,ec,ic⟩
  .rcases hk with q|q
   .rw[q]at z;cases z
   .rw[q]at z;cases z
  ·obtain ⟨c',hc'⟩:=hcl.has x (by
    have:(x,NameKind.free)∈scope.names:=by
     have hlk:=hf;obtain ⟨l1,l2,hs,hno⟩:=List.lookup_eq_some_iff.mp hlk;rw[hs];exact yaI _ yaB
    exact this)
   have:=hcl.sub x c' hc';rw[ec]at this;cases this
   obtain ⟨o,ho,hd⟩:=ic;refine #[cc,?_,o,kp cc o ho,hd];refine zsG (λq=>?_) hc';have z2:=congrArg Prod.snd c.one;rw[q]at z2;rw[show scope.names.lookup x=some .cell from yae z2]at hf;cases hf
 .rcases lk x cc e with ⟨q1,q2⟩|⟨_,q2⟩
  .rw[q2];exact #[_,hcz x q1]
  .obtain ⟨v,o,ho,hd⟩:=cells x cc q2;exact #[v,o,kp cc o ho,hd]
 .show upd H D .(M) C=none;rw[zag (Ne.symm hCD)];exact hfrC
 .show upd H D .(M) cc=none;rcases lk x cc e with ⟨_,q2⟩|⟨_,q2⟩
  .rw[q2,zag (Ne.symm hDz)];exact hfrZ
  .rw[zag (cellne x cc q2).1];exact I.freeC x cc (hcl.sub x cc q2)
 .obtain ⟨e,n,ne,nf,d⟩:=I.pin p hp;refine #[kp _ _ e,?_,(sz _ _ e).2,λz=>?_,d]
  .show upd H D .(M) p.1=none;rw[zag (sz _ _ e).1];exact n
  .rcases yaq.mp (I.stkSub p.1 z) with q|q
   .exact ne q
   .exact nf q
 .show (zfU own cap U).length=N.length;unfold zfU;rw[yan,ybP,yab,c.len]
def zsS (own:Nat)(cap:List Nat)(wi:TI)(g:TG)(ts:TT)(te:TE):TE:=λU H Q=>wi U H λJ H1=>∀ D,H1 D=none->∃ W:Nat->Nat->St->Hp->Prop,(∃ m,W 0 m (zfU own cap U) (upd H1 D .(M)))/\∀ i m U H,W i m U H->
 (J.stop i H/\Q (.ref D) H)\/(J.go i H/\∀ x H',J.yld i H x H'->g x U H' λU2 H2=>ts U2 H2 λb H3=>if b=true then te U2 H3 λy H4=>∃ xs,H4 D=some (.lst xs)/\xs.length<sizeLine/\∃ m',m'<m/\W (i+1) m' U2 (upd H4 D (.lst (xs++[y]))) else ∃ m',m'<m/\W (i+1) m' U2 H3)
def zjK {fp:List Addr}{iter:Expr}{pos:Pos}{Q:VK}
  {E:Value->Shared->Prop} {RR:Value->Addr->Result->Shared->Prop}
  (hcalm:X.calm=true) (c:zlM X scope z N own cap) (hcl:zjW scope X.env cl)
  (hg:∀ cl C s₂ H₂ fp,PG (zbY X N scope z cl C s₂ H₂ fp) tg g) (hts:∀ cl C s₂ H₂ fp,PTs (zbY X N scope z cl C s₂ H₂ fp) ifs ts) (he:∀ cl C s₂ H₂ fp,PE (zbY X N scope z cl C s₂ H₂ fp) elt te)
  (I2:Inv X pins U H2 s2) (T:Turn X.prog X.w X.K tg J fp it tn) (st2:tn 0 s2.heap) (f2:∀ b∈fp,FpOk X pins H2 b)
  (rd:∀ D,H2 D=none->∃ W:Nat->Nat->St->Hp->Prop,(∃ m,W 0 m (zfU own cap U) (upd H2 D (.lst [])))/\∀ i m U H,W i m U H->
   (J.stop i H/\Q (.ref D) H)\/(J.go i H/\∀ x H',J.yld i H x H'->g x U H' λU2 H2=>ts U2 H2 λb H3=>if b=true then te U2 H3 λy H4=>∃ xs,H4 D=some (.lst xs)/\xs.length<sizeLine/\∃ m',m'<m/\W (i+1) m' U2 (upd H4 D (.lst (xs++[y]))) else ∃ m',m'<m/\W (i+1) m' U2 H3))
  (hRR:∀ D C s' H',Inv X pins U H' s'->(∃ m,s'.heap.Ns C m)->FpOk X pins H' C->Q (.ref D) H'->RR (.ref D) C (.ok .next) s') :
  wpAny (model X.prog X.w) X.A (newList []) (λacc s₃=>wpAny (model X.prog X.w) X.A (newFunctionEnv scope X.env.globals cl [] X.env.qual none .none (some X.env)) (λcenv s₄=>
   codeAny (model X.prog X.w) X.A (.compStart (.ListComp elt [#[tg,iter,ifs,0]] scope pos) 0 (.ref it) acc { cenv with scope:=relabel scope X.env }) (RR acc cenv.locals) s₄) E s₃) E s2:=by
 have hfp:∀ b∈fp,b<s2.heap.objs.size:=λb hb=>by
  obtain ⟨o,e,_⟩:=T.obj 0 _ st2 b hb;exact yag e
 refine wpAny_newObj_type (zuz (congrArg Prod.fst c.one) λh₁ kp₁ hns₁ hcz=>?_);dsimp only at kp₁ hns₁ hcz ⊢;generalize hHH:s2.heap.push { cls:=.type "list",dict:=none,data:=.seq ([]:List Value).toArray }=HH at kp₁ hns₁ hcz ⊢;have hC:HH.objs.size=s2.heap.objs.size+1:=by rw[<-hHH,yb3]
 have hDC:s2.heap.objs.size≠HH.objs.size:=by rw[hC];exact yau (yck _)
 have hCle:s2.heap.objs.size<=HH.objs.size:=by rw[hC];exact yaT _
 have old:∀ b o,s2.heap.get? b=some o->h₁.get? b=some o:=λb o e=>kp₁ b o (hHH ▸ yam _ e);have hnew:h₁.get? s2.heap.objs.size=some { cls:=.type "list",data:=.seq (List.toArray []) }:=kp₁ _ _ (hHH ▸ yaD _ rfl);have I3:∀ tk,Inv (zbY X N scope z cl HH.objs.size s2 H2 fp) pins (zfU own cap U) (upd H2 s2.heap.objs.size .(M)) { s2 with heap:=h₁,toks:=tk }:=λtk=>
  zpU I2 c hcl f2 (yaa _) hCle hDC old hnew #[_,hns₁] hcz (by rw[hC];exact yau (Nat.lt_succ_of_lt (yck _))) hfp hcalm
 obtain ⟨W,⟨m0,w0⟩,turn⟩:=rd s2.heap.objs.size (I2.hok.fresh (yaa _));have st3:tn 0 h₁:=T.keep _ _ _ st2 λb _ o e=>old b o e;have fr3:∀ b∈fp,upd H2 s2.heap.objs.size .(M) b=none:=λb hb=>by rw[zag (yau (hfp b hb))];exact (f2 b hb).1
 have stat:∀{H':Hp},(∀ b∈fp,H' b=none)->∀ b∈fp,FpOk (zbY X N scope z cl HH.objs.size s2 H2 fp) pins H' b:=λhn b hb=>by
  obtain ⟨_,h2,h3,_,h5,h6⟩:=f2 b hb;refine #[hn b hb,yau (yak (hfp b hb) hCle),λz=>?_,.inl hb,λx cc e=>?_,h6]
  .rcases yaq.mp (I2.stkSub b z) with q|q
   .exact h2 q
   .exact h3 q
  .rcases zsH (show (zc _ HH.objs.size cl).lookup x=some cc from e) with ⟨_,e⟩|⟨_,e⟩
   .exact λq=>absurd (show HH.objs.size+1<s2.heap.objs.size from (by rw[<-e,q];exact hfp b hb)) (ybY.mpr (yad hCle (yaT _)))
   .exact h5 x cc (hcl.sub x cc e)
 have loop:∀ s₃:Shared,s₃={ s2 with heap:=h₁ }->
   codeAny .(d) X.A (.compLoop (.ListComp elt [#[tg,iter,ifs,0]] scope pos) 0 (.ref it) (.ref s2.heap.objs.size) (compEnvC scope (zc z HH.objs.size cl) HH.objs.size X.env)) (RR (.ref s2.heap.objs.size) HH.objs.size) s₃:=by
  rintro s₃ rfl;refine zkD (λn s'=>∃ i U' H',Inv (zbY X N scope z cl HH.objs.size s2 H2 fp) pins U' H' s'/\tn i s'.heap/\(∀ b∈fp,H' b=none)/\W i n U' H') ?_ m0 #[0,_,_,I3 _,st3,fr3,w0];rintro n s3 ⟨i,U3,H3,J3,t3,fr,w3⟩;rcases turn i n U3 H3 w3 with ⟨stop,qn⟩|⟨go,step⟩
  .refine thn (T.done (zbY X N scope z cl HH.objs.size s2 H2 fp) rfl rfl rfl hcalm i pins s3 U3 H3 (λ_ _=>False) J3 (stat fr) t3 stop) λr s4 zq0=>?_;obtain ⟨hr,I4⟩:=zq0;subst hr;obtain ⟨mm,hmm,_⟩:=I4.loc;refine hRR _ _ s4 H3 (I2.call' I4.os I4.base I4.hok I4.bare λb hb=>?_) #[mm,hmm] (I2.fpOk hCle I4.free) qn;obtain ⟨_,h2,_,h4,h5,h6⟩:=f2 b hb;exact #[h4,h2,h5,h6]
  .refine thn (T.item (zbY X N scope z cl HH.objs.size s2 H2 fp) rfl rfl rfl hcalm i pins s3 U3 H3 (λ_ _=>False) J3 (stat fr) t3 go) λr s4 zq0=>?_;obtain ⟨u,hr,h4⟩:=zq0;subst hr;refine thn h4 λ_ s5 zq0=>?_;obtain ⟨x,H5,I5,r5,y5,st5,fr5⟩:=zq0;have I5':=I5.pinned (stat fr5) (T.obj _ _ st5);have back:∀{U7:St} {H7:Hp} {s7:Shared} {m':Nat},Inv (zbY X N scope z cl HH.objs.size s2 H2 fp) (pins++zji fp s5.heap) U7 H7 s7->W (i+1) m' U7 H7->∃ i U' H',Inv (zbY X N scope z cl HH.objs.size s2 H2 fp) pins U' H' s7/\tn i s7.heap/\(∀ b∈fp,H' b=none)/\W i m' U' H':=λ{U7 H7 s7 m'} I7 w7=>by
    refine #[i+1,U7,H7,I7.unpinned,T.keep _ _ _ st5 λb hb o e=>(I7.pin (b,o) (yaI _ (yaI _ (zen hb e)))).1,λb hb=>?_,w7];obtain ⟨o,e,d⟩:=T.obj _ _ st5 b hb;exact (I7.pin (b,o) (yaI _ (yaI _ (zen hb e)))).2.1
   refine thn (hg cl HH.objs.size s2 H2 fp _ s5 U3 H5 x u _ I5' r5 (step x H5 y5)) λ_ s6 zq0=>?_;obtain ⟨U6,H6,I6,q6⟩:=zq0;refine thn (hts cl HH.objs.size s2 H2 fp _ s6 U6 H6 _ I6 q6) λb s7 zq0=>?_;obtain ⟨H7,I7,q7⟩:=zq0;cases b with
   | false=>
    rw[if_neg yaC]at q7 ⊢;obtain ⟨m',hm,w7⟩:=q7;exact #[m',hm,back I7 w7]
   | true=>
    rw[if_pos rfl]at q7 ⊢;refine thn (he cl HH.objs.size s2 H2 fp _ s7 U6 H7 _ I7 q7) λv s8 zq0=>?_;obtain ⟨y,H8,I8,r8,q8⟩:=zq0;obtain ⟨xs,hx,hz,m',hm,w8⟩:=q8;refine thn (za0 (X:=zbY X N scope z cl HH.objs.size s2 H2 fp) _ s8 U6 H8 (.ref s2.heap.objs.size) [y] (.ref s2.heap.objs.size) [v] (λ_ H9=>H9=upd H8 s2.heap.objs.size (.lst (xs++[y]))) I8 rfl (.cons r8 .nil) #[_,xs,y,rfl,rfl,hx,hz,rfl]) λ_ s9 zq0=>?_;obtain ⟨_,H9,I9,_,e9⟩:=zq0;subst e9;exact #[m',hm,back I9 w8]
 refine codeAny_compStart_list (loop _ rfl) ?_;exact T.self _ 0 _ _ _ st3 (loop _ rfl)
def zpk (z:Option Str){N:List Str}{own:Nat}{cap:List Nat}{scope:Scope}{tg elt iter:Expr}{ifs:List Expr}{pos:Pos}{wi:TI}{g:TG}{ts:TT}{te:TE}(hcalm:X.calm=true)(hi:PI X tg iter wi)(c:zlM X scope z N own cap)
  (hg:∀ cl C s₂ H₂ fp,PG (zbY X N scope z cl C s₂ H₂ fp) tg g) (hts:∀ cl C s₂ H₂ fp,PTs (zbY X N scope z cl C s₂ H₂ fp) ifs ts) (he:∀ cl C s₂ H₂ fp,PE (zbY X N scope z cl C s₂ H₂ fp) elt te)
  (hs:∀ x,foldedSetIterable iter X.env x=pure x:=by intro _;rfl):PE X (.ListComp elt [#[tg,iter,ifs,0]] scope pos) (zsS own cap wi g ts te):=by
 intro pins s U H Q I h;obtain ⟨cl,hcl⟩:=zg4 (scope:=scope) (env:=X.env) λx hx=>I.ok.has x (by
  have:=ybq.mp c.frees _ hx;simpa using this)
 rw[eval_ListComp];refine wpAny_comprehension_free (use:=none) rfl hs hcl.eq c.kind (λx hx hl=>by
  have:=ybq.mp c.locs x hx;rw[hl]at this;simpa using this) (thn (hi pins s U H _ I h) λv s1 h1=>thn h1 λitv s2 h2=>?_)
 obtain ⟨it,fp,tn,J,H2,e,I2,T,st2,f2,rd⟩:=h2;subst e;refine zjK (RR:=λacc C=>compPost .(d) X.A X.xe none .(N) acc C) hcalm c hcl hg hts he I2 T st2 f2 rd ?_;intro D C s' H' I' hm fC q;obtain ⟨m,hm⟩:=hm;obtain ⟨f0,f1,f2,f3,f4,f5⟩:=fC;exact #[m,hm,λh' hsb=>#[.ref D,H',I'.turned (t':=s'.toks) (λb o hb e=>(hsb.2 b hb).trans e) f0 f1 f3 f4 f5,rfl,q]]
def zlc (z:Option Str){i:Nat}{x:Str}{N:List Str}{own:Nat}{cap:List Nat}{scope:Scope}{tg elt iter:Expr}{ifs:List Expr}{pos pos' spos:Pos}{wi:TI}{g:TG}{ts:TT}{te:TE}(hN:X.N.Nodup)(hxi:X.N[i]?=some x)(hx:X.env.scope.names.lookup x=some .local)(hcalm:X.calm=true)(hi:PI X tg iter wi)(c:zlM X scope z N own cap)
  (hg:∀ cl C s₂ H₂ fp,PG (zbY X N scope z cl C s₂ H₂ fp) tg g) (hts:∀ cl C s₂ H₂ fp,PTs (zbY X N scope z cl C s₂ H₂ fp) ifs ts) (he:∀ cl C s₂ H₂ fp,PE (zbY X N scope z cl C s₂ H₂ fp) elt te)
  (hsw:swapsWith (.ListComp elt [#[tg,iter,ifs,0]] scope pos) (some (.Name x pos')) spos.line X.env=pure true:=by rfl)
  (hs:∀ x,foldedSetIterable iter X.env x=pure x:=by intro _;rfl):PS X (.Assign [.Name x pos'] (.ListComp elt [#[tg,iter,ifs,0]] scope pos) spos) (tAsg (zsS own cap wi g ts te) (zkx i)):=by
 intro pins s U H D I h;obtain ⟨cl,hcl⟩:=zg4 (scope:=scope) (env:=X.env) λx hx=>I.ok.has x (by
  have:=ybq.mp c.frees _ hx;simpa using this)
 rw[exec_Assign_Name_used _ _ _ _ hsw];refine wpAny_bind (wpAny_standAt (wpAny_bind ?_));show wpAny _ X.A (do let _ <-comprehension (.ListComp elt [#[tg,iter,ifs,0]] scope pos) scope X.env _ (newList []) false (eval iter X.env) (some (assign (.Name x pos') X.env))) _ _ s
 refine wpAny_bind (wpAny_mono (wpAny_comprehension_free (use:=some (assign (.Name x pos') X.env)) (Q:=λ_ s'=>SP X pins D .next s') rfl hs hcl.eq c.kind (λx hx hl=>by
  have:=ybq.mp c.locs x hx;rw[hl]at this;simpa using this) (thn (hi pins s U H _ I h) λv s1 h1=>thn h1 λitv s2 h2=>?_)) (λ_ s' hq=>wpAny_pure (wpAny_pure hq)) λ_ _ e=>e)
 obtain ⟨it,fp,tn,J,H2,e,I2,T,st2,f2,rd⟩:=h2;subst e;refine zjK (RR:=λacc C=>compPost .(d) X.A X.xe (some (assign (.Name x pos') X.env)) (λ_ s'=>SP X pins D .next s') acc C) (Q:=λx H1=>zkx i x U H1 D.nx) hcalm c hcl hg hts he I2 T st2 f2 rd ?_;intro Dd C s' H' I' hm fC q;obtain ⟨m,hm⟩:=hm;have hne:∀ a,(a=X.env.locals\/X.env.cells.lookup x=some a)->a≠C:=λa z=>by
  obtain ⟨f0,f1,f2,f3,f4,f5⟩:=fC;rcases z with z|z
  .rw[z];exact Ne.symm f1
  .exact f4 x a z
 show wpAny _ X.A (assign (.Name x pos') X.env (.ref Dd)) _ _ _;refine wpAny_assign_Name (zja I' hN hxi (.inl hx) (v:=.ref Dd) rfl (λs'' I'' hch=>?_) (.inr hx));obtain ⟨a,hsb,ha⟩:=hch;refine #[m,hm.sameBut hsb (Ne.symm (hne a ha)),λh' hs'=>?_];obtain ⟨f0,f1,f2,f3,f4,f5⟩:=fC;exact #[_,H',I''.turned (t':=s''.toks) (λb o hb e=>(hs'.2 b hb).trans e) f0 f1 f3 f4 f5,q]
abbrev zbU:=@zpk X none
abbrev zeA:=@zlc X none
abbrev zpf (z:Str):=@zlc X (some z)
end
end L2
namespace L2
open PySem PySem.Spec PyProof.Rows PySem.SeqAt
class Srt (α:Type)[Rep α] where
 blt:α->α->Bool
 irrefl:∀ a,blt a a=false
 trans:∀ a b c,blt a b=true->blt b c=true->blt a c=true
 negTrans:∀ a b c,blt a c=true->blt a b=true\/blt b c=true
 total:∀ a b,blt a b=false->blt b a=false->a=b
 kd:SortKind
 one:α
 lt:∀{X:Cx} {pins:List (Addr×Obj)} {U:St} {H:Hp} {s:Shared} {A:Around} {a b:α} {x y:V} {u v:Value} {Q:Bool->Shared->Prop} {E:Value->Shared->Prop},Inv X pins U H s->Rep.has X.K H a x->Rep.has X.K H b y->RelV x u->RelV y v->Q (blt a b) s->wpAny .(d) A (keyLt' kd u v) Q E s
 kind:∀{X:Cx} {pins:List (Addr×Obj)} {U:St} {H:Hp} {s:Shared} {A:Around} {as:List α} {xs:List V} {us:List Value} {Q:SortKind->Shared->Prop} {E:Value->Shared->Prop},Inv X pins U H s->zan X.K H as xs->Vals xs us->2<=us.length->Q kd s->wpAny .(d) A (keyKind' us.toArray) Q E s
section
variable {α:Type}[Rep α][Srt α]
noncomputable def srtKind (α:Type)[Rep α][Srt α](K:Frag)(H:Hp):PyProof.Rows.KeyKind where
 α:=α
 blt:=Srt.blt
 irrefl:=Srt.irrefl
 trans:=Srt.trans
 negTrans:=Srt.negTrans
 total:=Srt.total
 keyOf:=λu=>open Classical in if h:∃ a:α,∃ x,RelV x u/\Rep.has K H a x then some (Classical.choose h) else none
 dflt:=Srt.one
def zpR {a:α}{x:V}{u:Value}(I:Inv X pins U H s)(r:RelV x u)(h:Rep.has X.K H a x):(srtKind α X.K H).keyOf u=some a:=by
 have e:∃ a:α,∃ x,RelV x u/\Rep.has X.K H a x:=#[a,x,r,h];unfold srtKind;dsimp only;rw[dif_pos e];obtain ⟨y,ry,hy⟩:=Classical.choose_spec e;have z:=ry.inj r;subst z;exact congrArg some (Rep.inj I hy h)
def zeo {K:Frag}{a:α}{u:Value}(h:(srtKind α K H).keyOf u=some a):∃ x,RelV x u/\Rep.has K H a x:=by
 unfold srtKind at h;dsimp only at h;split at h
 .rename_i e;cases h
  exact Classical.choose_spec e
 .cases h
def zcB (as:List α):List α:=as.mergeSort λa b=>!Srt.blt b a
def zb3 (as:List α):(zcB as).Perm as:=List.mergeSort_perm _ _
def zdI {as:List α}{a:α}:a∈zcB as↔a∈as:=(zb3 as).mem_iff
def zcP (as:List α):(zcB as).length=as.length:=(zb3 as).length_eq
def zoG {a b:α}(h:Srt.blt a b=true):Srt.blt b a=false:=by
 cases e:Srt.blt b a with
 | false=>rfl
 | true=>
  have:=Srt.trans _ _ _ h e;rw[Srt.irrefl]at this;cases this
def zk4 (as:List α):(zcB as).Pairwise λa b=>Srt.blt b a=false:=by
 have h:=List.pairwise_mergeSort (le:=λa b:α=>!Srt.blt b a) (λa b c h1 h2=>by
  simp only[ybW]at h1 h2 ⊢;cases e:Srt.blt c a with
  | false=>rfl
  | true=>
   rcases Srt.negTrans c b a e with z|z
   .rw[h2]at z;cases z
   .rw[h1]at z;cases z) (λa b=>by
  cases e:Srt.blt b a with
  | false=>rfl
  | true=>rw[zoG e];rfl) as
 exact h.imp λ{a b} z=>by simpa using z
def zeN {as bs:List α}(hp:bs.Perm as)(hs:bs.Pairwise λa b=>Srt.blt b a=false):bs=zcB as:=
 List.Perm.eq_of_pairwise (λa b _ _ h1 h2=>Srt.total a b h2 h1) hs (zk4 as) (hp.trans (zb3 as).symm)
def zjd {as:List α}(hs:as.Pairwise λa b=>Srt.blt b a=false):zcB as=as:=(zeN (List.Perm.refl _) hs).symm
def zd2 {as:List α}(hn:as.Nodup):(zcB as).Pairwise λa b=>Srt.blt a b=true:=by
 have h1:=zk4 as;have h2:(zcB as).Nodup:=(zb3 as).nodup_iff.mpr hn;refine (h1.and h2).imp λ{a b} z=>?_;cases e:Srt.blt a b with
 | true=>rfl
 | false=>exact absurd (Srt.total a b e z.1) z.2
def zgR {K:Frag}:∀{out:List Value},(∀ v∈out,∃ a:α,∃ x,RelV x v/\Rep.has K H a x/\(srtKind α K H).keyOf v=some a)->
  ∃(ws:List V) (bs:List α),Vals ws out/\zan K H bs ws/\bs=out.map (Tim.keyV (srtKind α K H))
 | [],_=>#[[],[],.nil,.nil,rfl]
 | v::out,h=>by
  obtain ⟨ws,bs,h1,h2,h3⟩:=zgR (out:=out) λu hu=>h u (yaz _ hu);obtain ⟨a,x,r,e,k⟩:=h v yaB;refine #[x::ws,a::bs,.cons r h1,.cons e h2,?_];rw[yav,<-h3];have z:Tim.keyV (srtKind α K H) v=a:=by
   unfold Tim.keyV;rw[k];rfl
  rw[z];rfl
def zks (I:Inv X pins U H s):∀{as:List α} {xs:List V} {us:List Value},zan X.K H as xs->Vals xs us->us.map (Tim.keyV (srtKind α X.K H))=as/\∀ v∈us,∃ a:α,∃ x,RelV x v/\Rep.has X.K H a x/\(srtKind α X.K H).keyOf v=some a
 | _,_,_,.nil,.nil=>#[rfl,λ_ z=>nomatch z]
 | _,_,_,.cons e t,.cons r q=>by
  obtain ⟨h1,h2⟩:=zks I t q;have k:=zpR I r e;refine #[?_,λv hv=>?_]
  .rw[yav,h1];unfold Tim.keyV;rw[k];rfl
  .rcases yaq.mp hv with z|z
   .subst z;exact #[_,_,r,e,k]
   .exact h2 v z
end
inductive zqz (α:Type)[Rep α][Srt α](K:Frag)(xs:List V)(H:Hp)(Q:VK):Prop
 | c:∀(p:Addr) (vs:List V) (as:List α),xs=[.ref p]->SqL K H p vs->zan K H as vs->(∀ l ws,H l=none->zan K H (zcB as) ws->Q (.ref l) (upd H l (.lst ws)))->zqz α K xs H Q
section
variable {X:Cx}
def zeu (α:Type)[Rep α][Srt α]:zcL X (.builtin "sorted") (zqz α X.K):=by
 intro pins s U H xs us Q I r h;obtain ⟨p,vs,as,rfl,hq,ha,q⟩:=h;obtain ⟨u,rfl,rx⟩:=zfu r;cases rx
 obtain ⟨its,rv,pl,hz⟩:=I.list hq;have hlen:=rv.length;obtain ⟨km,kk⟩:=zks I ha rv;refine Tim.zo6 (κ:=srtKind α X.K H) (kd:=Srt.kd α) pl.isList .(a) (λv hv=>?_) (λh' k E x y a b Q hx hy q=>?_) (λh' E Q k h2 q=>Srt.kind (Inv.kept (t':=s.toks) I k) ha rv h2 q) λout h' c p1 p2 k hc=>?_
 .obtain ⟨a,_,_,_,e⟩:=kk v hv;exact #[a,e]
 .obtain ⟨x1,r1,e1⟩:=zeo hx;obtain ⟨y1,r2,e2⟩:=zeo hy;exact Srt.lt (Inv.kept (t':=s.toks) I k) e1 e2 r1 r2 q
 .obtain ⟨ws,bs,w1,w2,w3⟩:=zgR (α:=α) (K:=X.K) (H:=H) (out:=out) λv hv=>kk v (p1.mem_iff.mp hv);have eb:bs=zcB as:=by
   refine zeN ?_ ?_
   .rw[w3,<-km];exact p1.map _
   .rw[w3];exact ycf.mpr p2
  rw[eb]at w2;have hw:ws.length<=sizeLine:=by
   have:=w1.length;have:=p1.length_eq;lia
  exact #[.ref (s.heap.objs.size+1),_,I.laid (a:=s.heap.objs.size+1) (o:=.lst ws) (t':=s.toks) k (yaT _) #[hw,out,c,w1,hc],rfl,q _ ws (I.hok.fresh (yaT _)) w2]
end
instance:Srt Int where
 blt:=λa b=>decide (a<b)
 irrefl:=λa=>by simp
 trans:=λa b c h1 h2=>by
  simp only[decide_eq_true_eq]at *;lia
 negTrans:=λa b c h=>by
  simp only[decide_eq_true_eq]at *;lia
 total:=λa b h1 h2=>by
  simp only[decide_eq_false_iff_not]at *;lia
 kd:=oneType'
 one:=0
 lt:=λ{X pins U H s A a b x y u v Q E} _ h1 h2 r1 r2 q=>by
  have h1:x=.int a:=h1;have h2:y=.int b:=h2;subst h1 h2;obtain ⟨t,rfl⟩:=r1;obtain ⟨t',rfl⟩:=r2;exact PySem.W.kat_lt_int q
 kind:=λ{X pins U H s A as xs us Q E} _ h r hl q=>by
  have e:=zan.toInts h;subst e;have hi:IntsAre us as:=by
   clear q hl
   induction as generalizing us with
   | nil=>cases r;exact .nil
   | cons a as ih=>
    cases r with
    | cons r1 r2=>
     obtain ⟨t,rfl⟩:=r1;exact .cons a t (ih (by first|exact zan.ints|assumption) r2)
  match us,hl,hi with
  | v₁::v₂::rest,_,hi=>
   rw[keyKind_ints hi];exact wpAny_pure q
def pLt (a b:Int×Int):Bool:=decide (a.1<b.1)||(decide (a.1=b.1)&&decide (a.2<b.2))
def zc2 :pLt a b=true↔a.1<b.1\/(a.1=b.1/\a.2<b.2):=by
 unfold pLt;simp
def zkg :pLt a b=false↔¬ (a.1<b.1\/(a.1=b.1/\a.2<b.2)):=by
 rw[<-zc2];simp
def ziw {a:Int×Int}{x:V}{u:Value}(I:Inv X pins U H s)(h:Rep.has X.K H a x)(r:RelV x u) :
  ∃(p:Addr) (o:Obj) (n:Nat) (t t':Tok),u=.ref p/\s.heap.get? p=some o/\o.cls=.type "tuple"/\o.data=.seq (List.toArray [.int a.1 t,.int a.2 t']) n:=by
 obtain ⟨p,x1,x2,rfl,q,e1,e2⟩:=(show hasP X.K H a x from h);have e1:x1=.int a.1:=e1;have e2:x2=.int a.2:=e2;subst e1 e2;cases r
 obtain ⟨us,ru,pu,_⟩:=I.tuple (SqT.of q);obtain ⟨u1,u2,rfl,⟨t,rfl⟩,⟨t',rfl⟩⟩:=zhg ru;obtain ⟨o,ho,hc,n,hd⟩:=pu;exact #[p,o,n,t,t',rfl,ho,hc,hd]
def zqE {prog:Program}{w:World}{A:Around}{E:Value->Shared->Prop}{s:Shared}{x y:Int}{t u:Tok}{Q:Bool->Shared->Prop}(b:Bool)(h:Q (decide (x<y)) s):wpAny .(e) A (oneLt' b (.int x t) (.int y u)) Q E s:=by
 cases b with
 | true=>
  rw[<-keyLt'_oneType];exact PySem.W.kat_lt_int h
 | false=>exact PySem.W.kat_one _ _ (lt_int h)
instance:Srt (Int×Int) where
 blt:=pLt
 irrefl:=λa=>by rw[zkg];lia
 trans:=λa b c h1 h2=>by
  rw[zc2]at *;lia
 negTrans:=λa b c h=>by
  rw[zc2]at *;rw[zc2];lia
 total:=λa b h1 h2=>by
  rw[zkg]at *;obtain ⟨a1,a2⟩:=a;obtain ⟨b1,b2⟩:=b;have:a1=b1/\a2=b2:=by dsimp only at *;lia
  rw[this.1,this.2]
 kd:=tuples' true
 one:=(0,0)
 lt:=λ{X pins U H s A a b x y u v Q E} I h1 h2 r1 r2 q=>by
  obtain ⟨p,o,n,t1,t2,rfl,ho,hc,hd⟩:=ziw I h1 r1;obtain ⟨p',o',n',t3,t4,rfl,ho',hc',hd'⟩:=ziw I h2 r2;refine PySem.W.kat_lt ho hd ho' hd' ?_;show PySem.W.KatLex X.prog X.w A true _ Q [(.int a.1 t1,.int b.1 t3),(.int a.2 t2,.int b.2 t4)] 0 s;refine PySem.W.kat_cons (EqAt.int_int a.1 t1 b.1 t3 _ _ _ _ (PySem.W.kat_go (λe=>PySem.W.kat_yes ?_) (λe=>PySem.W.kat_no ?_)))
  .have e1:a.1=b.1:=eq_of_beq e;refine PySem.W.kat_cons (EqAt.int_int a.2 t2 b.2 t4 _ _ _ _ (PySem.W.kat_go (λe=>PySem.W.kat_yes (PySem.W.kat_nil ?_)) (λe=>PySem.W.kat_no (zqE _ ?_))))
   .have e2:a.2=b.2:=eq_of_beq e;have z:pLt a b=false:=by rw[zkg];lia
    rw[z]at q;exact q
   .have z:pLt a b=decide (a.2<b.2):=by
     unfold pLt;rw[yai (by lia:¬ a.1<b.1),yah e1];rfl
    rw[z]at q;exact q
  .have e1:¬ a.1=b.1:=λz=>by rw[z]at e;simp at e
   refine zqE _ ?_;have z:pLt a b=decide (a.1<b.1):=by
    unfold pLt;rw[yai e1];simp
   rw[z]at q;exact q
 kind:=λ{X pins U H s A as xs us Q E} I h r hl q=>by
  have go:∀{as:List (Int×Int)} {xs:List V} {us:List Value},zan X.K H as xs->Vals xs us->∃ fs,PySem.W.KatTups s.heap us fs/\fs.length=us.length/\∀ v∈fs,∃ i t,v=Value.int i t:=by
   intro as
   induction as with
   | nil=>
    intro xs us h r;cases h
    cases r
    exact #[[],.nil,rfl,λ_ z=>nomatch z]
   | cons a as ih=>
    intro xs us h r;cases h with
    | cons h1 h2=>
     cases r with
     | cons r1 r2=>
      obtain ⟨fs,f1,f2,f3⟩:=ih h2 r2;obtain ⟨p,o,n,t,t',rfl,ho,hc,hd⟩:=ziw I h1 r1;refine #[.int a.1 t::fs,PySem.W.KatTups.cons ho hc hd rfl f1,by rw[yaQ,yaQ,f2],λv hv=>?_];rcases yaq.mp hv with z|z
      .exact #[_,_,z]
      .exact f3 v z
  obtain ⟨fs,f1,f2,f3⟩:=go h r;refine PySem.W.kat_kind (T:=.type "int") f1 .(a) (λv hv=>?_) .(k) ?_
  .obtain ⟨i,t,rfl⟩:=f3 v hv;exact PySem.W.Looks.of_pure rfl
  .exact q
end L2
namespace L2
open PySem PySem.Spec PyProof.Rows
section
variable {X:Cx}
def zdp {i:Int}{pos:Pos}(hg:Gl X x)(hm:∃ t,X.mg x=some (.int i t))(hd: .(r)=false:=by decide):PE X (.Name x pos) (tC (.int i)):=by
 obtain ⟨t,e⟩:=hm;exact zb6 hg e #[t,rfl] hd
end
def zch {K:Frag}{g:TG}{ts:TT}{te:TE}{U:St}{H:Hp}{Q:Hp->Prop}(Pv:Nat->St->Hp->Prop)(h0:Pv 0 U H)(hl:∀ i U H,i<=xs.length->Pv i U H->SqL K H a xs)
  (hs:∀ i m x U H,xs[i]?=some x->i+m=xs.length->Pv i U H->g x U H λU2 H2=>ts U2 H2 λb H3=>if b=true then te U2 H3 λy H4=>∃ zs,H4 D=some (.lst zs)/\zs.length<sizeLine/\∃ m',m'<m/\(i+1+m'=xs.length/\Pv (i+1) U2 (upd H4 D (.lst (zs++[y])))) else ∃ m',m'<m/\(i+1+m'=xs.length/\Pv (i+1) U2 H3))
  (hd:∀ U H,Pv xs.length U H->Q H) :
  ∃ W:Nat->Nat->St->Hp->Prop,(∃ m,W 0 m U H)/\∀ i m U H,W i m U H->((Itl K a).stop i H/\Q H)\/((Itl K a).go i H/\∀ x H',(Itl K a).yld i H x H'->g x U H' λU2 H2=>ts U2 H2 λb H3=>if b=true then te U2 H3 λy H4=>∃ xs,H4 D=some (.lst xs)/\xs.length<sizeLine/\∃ m',m'<m/\W (i+1) m' U2 (upd H4 D (.lst (xs++[y]))) else ∃ m',m'<m/\W (i+1) m' U2 H3):=by
 refine #[λi m U H=>i+m=xs.length/\Pv i U H,#[xs.length,by lia,h0],λi m U H zq0=>?_];obtain ⟨e,pv⟩:=zq0;have hS:=hl i U H .(a) pv;by_cases hi:i<xs.length
 .refine .inr #[#[xs,xs[i],hS,yac hi],λx H' y=>?_];obtain ⟨e1,y⟩:=y;subst e1;exact hs i m x U _ (y xs hS) e pv
 .have:i=xs.length:=by lia
  subst this;exact .inl #[#[xs,hS,yaa _],hd U H pv]
def zb7 {lo:Int}{n:Nat}{g:TG}{ts:TT}{te:TE}{U:St}{H:Hp}{Q:Hp->Prop}(Pv:Nat->St->Hp->Prop)(h0:Pv 0 U H)
  (hs:∀ i m U H,i+m=n->i<n->Pv i U H->g (.int (lo+i)) U H λU2 H2=>ts U2 H2 λb H3=>if b=true then te U2 H3 λy H4=>∃ zs,H4 D=some (.lst zs)/\zs.length<sizeLine/\∃ m',m'<m/\(i+1+m'=n/\Pv (i+1) U2 (upd H4 D (.lst (zs++[y])))) else ∃ m',m'<m/\(i+1+m'=n/\Pv (i+1) U2 H3))
  (hd:∀ U H,Pv n U H->Q H) :
  ∃ W:Nat->Nat->St->Hp->Prop,(∃ m,W 0 m U H)/\∀ i m U H,W i m U H->((Itr lo n).stop i H/\Q H)\/((Itr lo n).go i H/\∀ x H',(Itr lo n).yld i H x H'->g x U H' λU2 H2=>ts U2 H2 λb H3=>if b=true then te U2 H3 λy H4=>∃ xs,H4 D=some (.lst xs)/\xs.length<sizeLine/\∃ m',m'<m/\W (i+1) m' U2 (upd H4 D (.lst (xs++[y]))) else ∃ m',m'<m/\W (i+1) m' U2 H3):=by
 refine #[λi m U H=>i+m=n/\Pv i U H,#[n,by lia,h0],λi m U H zq0=>?_];obtain ⟨e,pv⟩:=zq0;by_cases hi:i<n
 .refine .inr #[hi,λx H' y=>?_];obtain ⟨e1,y⟩:=y;subst e1 y;exact hs i m U _ e hi pv
 .have:i=n:=by lia
  subst this;exact .inl #[yaa _,hd U H pv]
end L2
namespace L2
open PySem PySem.Spec PyProof.Rows
def metI (ns:List Int):List Int:=firstMet (λi=>ns.getD i 0) ns.length
def zlX:∀ ns:List Int,(List.range ns.length).map (λi=>ns.getD i 0)=ns:=λns=>by
 apply ybo;intro i;rw[yax];by_cases h:i<ns.length
 .rw[ycY h,Option.map_some,yaf,yac h];rfl
 .rw[yaY (by rw[ybr];lia),yaY .(a)];rfl
def zg0:∀(ns U:List Int),(U++ns).Nodup->ns.foldl step_dedup U=U++ns
 | [],U,_=>by simp
 | n::ns,U,h=>by
  have hn:¬ (U.any (· == n))=true:=λz=>by
   obtain ⟨x,hx,e⟩:=List.any_eq_true.mp z;have e:=eq_of_beq e;subst e;rw[ybh]at h;exact h.2.2 x hx x yaB rfl
  rw[List.foldl_cons];have e:step_dedup U n=U++[n]:=by
   unfold step_dedup;rw[if_neg hn]
  rw[e,zg0 ns (U++[n]) (by rw[yaV];exact h),yaV];rfl
def zhD {ns:List Int}(h:ns.Nodup):metI ns=ns:=by
 unfold metI firstMet;rw[zlX];exact zg0 ns [] h
def zcN:∀{ns:List Int} {us:List Value},Vals .(E) us->IntsAre us ns
 | [],_,.nil=>.nil
 | n::_,_,.cons ⟨t,e⟩ q=>by
  subst e;exact .cons n t (zcN q)
section
variable {X:Cx}
def zmp:zcL X (.builtin "len") (λxs H Q=>∃ p S n,xs=[.ref p]/\H p=some (.set S n)/\n<=1000/\Q (.int (n:Nat)) H):=by
 intro pins s U H xs us Q I r h;obtain ⟨p,S,n,rfl,hp,hn,q⟩:=h;obtain ⟨u,rfl,rx⟩:=zfu r;cases rx
 have ok:s.heap.SetOf (intKind X.prog X.w) p S n:=I.hok p _ hp;obtain ⟨o,ho,hex,es,ep,t,hd,_,_,hm,hf⟩:=ok.objOf;subst hm;exact call_len_set ho hex hd hf .(a) #[.int _,H,I.tok _,#[_,rfl],q]
end
end L2
namespace L2
def zc0 {i:Nat}{x:V}{U:St}{H:Hp}{A B:St->Hp->Prop}(h:A (U.set i (some x)) H):zkx i x U H λU2 H2=>tYes U2 H2 λb H3=>if b=true then A U2 H3 else B U2 H3:=by
 show (if true=true then A (U.set i (some x)) H else B (U.set i (some x)) H)
 rw[if_pos rfl];exact h
end L2
namespace L2
open PySem PySem.Spec PyProof.Rows
section
variable {X:Cx}
def zoC (hc:X.calm=true):zcL X (.builtin "sum") (λxs H Q=>∃(p:Addr) (ns:List Int),xs=[.ref p]/\SqL X.K H p .(E)/\Q (.int ns.sum) H):=by
 intro pins s U H xs us Q I r h;obtain ⟨p,ns,rfl,hq,q⟩:=h;obtain ⟨u,rfl,rx⟩:=zfu r;cases rx
 obtain ⟨its,rv,pl,_⟩:=I.list hq;have hi:=zcN rv;obtain ⟨xs,hx⟩:=hi.allInts.items;have hl':s.heap.IsList p (intItems xs):=hx ▸ pl.isList;refine sum_intListG (I.ok.hd hc) hl' λh' tk t' hk=>?_;have e1:ns=xs.toList.map (·.1):=by
  rw[<-nums_intItems,<-hx];exact (show numsOf its.toArray.toList=ns from hi.numsOf).symm
 have e2:preSum (numAt xs) xs.size=ns.sum:=by
  rw[preSum_eq,yat .(h),e1]
 rw[e2];exact #[.int _,H,Inv.kept (t':=tk) I hk,#[t',rfl],q]
end
end L2
namespace L2
open PySem PySem.Spec PyProof.Rows
section
variable {X:Cx}{K:Frag}
def zak (h:X.K=K:=by rfl):zcL X (.builtin "len") (λxs H Q=>∃ p ys,xs=[.ref p]/\(SqL K H p ys\/SqT K H p ys)/\Q (.int ys.length) H):=by
 subst h;exact zjN
def zfp (h:X.K=K:=by rfl):zcL X (.builtin "isinstance") (rIsi K):=by
 subst h;exact zqf
def zaC (h:X.K=K:=by rfl):IxR X (rIxL K):=by
 subst h;exact zr4
def zaG (h:X.K=K:=by rfl):IxR X (rIxT K):=by
 subst h;exact ztI
def zct (h:X.K=K:=by rfl):zcL X (.type "list") (λxs H Q=>∃ p ys,xs=[.ref p]/\(SqL K H p ys\/SqT K H p ys)/\∀ l,H l=none->Q (.ref l) (upd H l (.lst ys))):=by
 subst h;exact zjM
end
end L2
namespace L2
open PySem PySem.Spec PyProof.Rows
def zgB {c:TT}{tb:TS}{D:Ends}{U:St}{H:Hp}(Pv Pe:St->Hp->Prop)(μ:St->Hp->Nat)(h0:Pv U H)
  (hs:∀ U H,Pv U H->c U H λb H1=>if b=true then tb { D with nx:=λU' H'=>Pv U' H'/\μ U' H'<μ U H,ct:=λU' H'=>Pv U' H'/\μ U' H'<μ U H,bk:=D.nx } U H1 else Pe U H1)
  (mono:∀ U H Q Q',(∀ b H1,Q b H1->Q' b H1)->c U H Q->c U H Q') (he:∀ U H,Pe U H->D.nx U H):zmN c tb D U H:=by
 refine zkR Pv μ h0 (λU H p=>mono U H _ _ (λb H1 q=>?_) (hs U H p)) mono;cases b with
 | true=>exact q
 | false=>exact he _ _ q
def zsB (c:TT):Prop:=∀ U H Q Q',(∀ b H1,Q b H1->Q' b H1)->c U H Q->c U H Q'
def zi9 (ha:zsB a)(hb:zsB b):zsB (tAnd a b):=λU H Q Q' m h=>ha U H _ _ (λc H1 q=>by
 cases c with
 | false=>exact m _ _ q
 | true=>exact hb U H1 Q Q' m q) h
section
variable {X:Cx}{K:Frag}
def zhz (h:X.K=K:=by rfl):OpR X (compareOp .In) (rIn K false):=by
 subst h;exact znt
def zbf (h:X.K=K:=by rfl):OpR X (compareOp .NotIn) (rIn K true):=by
 subst h;exact zjn
def zrC {k:Nat}{t:TGs}{n:Nat}{pos:Pos}(hc:X.calm=true)(h:PGs X es t)(hK:X.K=K:=by rfl)
  (hn:(assignEach es X.env).length=n:=by rfl) (hst:(assignEach es X.env).findIdx? (·.1)=none:=by rfl):PG X (.Tuple es k pos) (gTup K n t):=by
 subst hK;exact zhw hc h hn hst
def zeO (h:X.K=K:=by rfl):SlR X (rSlL K):=by
 subst h;exact zrt
end
def zqb {K:Frag}{xs ys:List V}{g:TG}{ts:TT}{te:TE}{U:St}{H:Hp}{Q:Hp->Prop}(hlen:xs.length=ys.length)(Pv:Nat->St->Hp->Prop)(h0:Pv 0 U H)(hl:∀ i U H,i<=xs.length->Pv i U H->SqL K H a xs/\SqL K H b ys)
  (hs:∀ i m x y U H r,xs[i]?=some x->ys[i]?=some y->i+m=xs.length->Pv i U H->H r=none->g (.ref r) U (upd H r (.tup [x,y])) λU2 H2=>ts U2 H2 λb H3=>if b=true then te U2 H3 λy H4=>∃ zs,H4 D=some (.lst zs)/\zs.length<sizeLine/\∃ m',m'<m/\(i+1+m'=xs.length/\Pv (i+1) U2 (upd H4 D (.lst (zs++[y])))) else ∃ m',m'<m/\(i+1+m'=xs.length/\Pv (i+1) U2 H3))
  (hd:∀ U H,Pv xs.length U H->Q H) :
  ∃ W:Nat->Nat->St->Hp->Prop,(∃ m,W 0 m U H)/\∀ i m U H,W i m U H->((Itz K a b).stop i H/\Q H)\/((Itz K a b).go i H/\∀ x H',(Itz K a b).yld i H x H'->g x U H' λU2 H2=>ts U2 H2 λb H3=>if b=true then te U2 H3 λy H4=>∃ xs,H4 D=some (.lst xs)/\xs.length<sizeLine/\∃ m',m'<m/\W (i+1) m' U2 (upd H4 D (.lst (xs++[y]))) else ∃ m',m'<m/\W (i+1) m' U2 H3):=by
 refine #[λi m U H=>i+m=xs.length/\Pv i U H,#[xs.length,by lia,h0],λi m U H zq0=>?_];obtain ⟨e,pv⟩:=zq0;obtain ⟨hS,hS'⟩:=hl i U H .(a) pv;by_cases hi:i<xs.length
 .refine .inr #[#[xs,ys,xs[i],ys[i]' .(a),hS,hS',yac hi,yac .(a)],λx H' y=>?_];obtain ⟨p,z,z',rfl,hp,hz,hz',rfl⟩:=y;exact hs i m z z' U H p (hz xs hS) (hz' ys hS') e pv hp
 .have:i=xs.length:=by lia
  subst this;exact .inl #[#[xs,ys,hS,hS',.inl (yaa _)],hd U H pv]
end L2
namespace L2
open PySem PySem.Spec PyProof.Rows
section
variable {X:Cx}
def zoE (hc:X.calm=true):zcL X (.builtin "min") (λxs H Q=>∃(p:Addr) (ns:List Int),xs=[.ref p]/\SqL X.K H p .(E)/\0<ns.length/\∀ M,M∈ns->(∀ a,a∈ns->M<=a)->Q (.int M) H):=by
 intro pins s U H xs us Q I r h;obtain ⟨p,ns,rfl,hq,hne,q⟩:=h;obtain ⟨u,rfl,rx⟩:=zfu r;cases rx
 obtain ⟨its,rv,pl,_⟩:=I.list hq;have hi:=zcN rv;obtain ⟨xs,hx⟩:=hi.allInts.items;have hl':s.heap.IsList p (intItems xs):=hx ▸ pl.isList;have e1:ns=xs.toList.map (·.1):=by
  rw[<-nums_intItems,<-hx];exact (show numsOf its.toArray.toList=ns from hi.numsOf).symm
 have hsz:0<xs.size:=by
  rw[e1,yab,yaA]at hne;exact hne
 refine min_intList (I.ok.hd hc) hl' hsz λv h' tk hv hk=>?_;obtain ⟨t,rfl⟩:=intItems_at hv;obtain ⟨h1,h2⟩:=argBest_lt (numAt xs) (xs.size-1);refine #[.int _,H,Inv.kept (t':=tk) I hk,#[t,rfl],q _ ?_ λa ha=>?_]
 .rw[e1,numAt_eq];rw[yaf,yac (by rw[yab,yaA];lia)];exact yaR _
 .rw[e1]at ha;obtain ⟨j,hj,rfl⟩:=mem_getD ha;rw[yab,yaA]at hj;rw[<-numAt_eq];exact h2 j .(a)
end
def zer {K:Frag}{g:TG}{ts:TT}{te:TE}{U:St}{H:Hp}{Q:Hp->Prop}(Pv:Nat->St->Hp->Prop)(h0:Pv 0 U H)(hl:∀ i U H,i<=xs.length->Pv i U H->SqT K H a xs)
  (hs:∀ i m x U H,xs[i]?=some x->i+m=xs.length->Pv i U H->g x U H λU2 H2=>ts U2 H2 λb H3=>if b=true then te U2 H3 λy H4=>∃ zs,H4 D=some (.lst zs)/\zs.length<sizeLine/\∃ m',m'<m/\(i+1+m'=xs.length/\Pv (i+1) U2 (upd H4 D (.lst (zs++[y])))) else ∃ m',m'<m/\(i+1+m'=xs.length/\Pv (i+1) U2 H3))
  (hd:∀ U H,Pv xs.length U H->Q H) :
  ∃ W:Nat->Nat->St->Hp->Prop,(∃ m,W 0 m U H)/\∀ i m U H,W i m U H->((Itt K a).stop i H/\Q H)\/((Itt K a).go i H/\∀ x H',(Itt K a).yld i H x H'->g x U H' λU2 H2=>ts U2 H2 λb H3=>if b=true then te U2 H3 λy H4=>∃ xs,H4 D=some (.lst xs)/\xs.length<sizeLine/\∃ m',m'<m/\W (i+1) m' U2 (upd H4 D (.lst (xs++[y]))) else ∃ m',m'<m/\W (i+1) m' U2 H3):=by
 refine #[λi m U H=>i+m=xs.length/\Pv i U H,#[xs.length,by lia,h0],λi m U H zq0=>?_];obtain ⟨e,pv⟩:=zq0;have hS:=hl i U H .(a) pv;by_cases hi:i<xs.length
 .refine .inr #[#[xs,xs[i],hS,yac hi],λx H' y=>?_];obtain ⟨e1,y⟩:=y;subst e1;exact hs i m x U _ (y xs hS) e pv
 .have:i=xs.length:=by lia
  subst this;exact .inl #[#[xs,hS,yaa _],hd U H pv]
end L2
namespace L2
open PySem PySem.Spec PyProof.Rows
def Itv (K:Frag)(a:Addr)(n:Nat):It:=
 #[λi H=>i<n/\∃ xs,SqL K H a xs/\xs.length=n,λi H x H'=>H'=H/\∀ xs,SqL K H a xs->xs.length=n->xs.reverse[i]?=some x,λi _=>i=n]
def zoW {K:Frag}(a it:Addr)(n:Nat):Turn P w K tg (Itv K a n) [it] it (λi h=>h.IsRevIter it a ((n:Int)-1-(i:Int))) where
 mem:=by simp
 obj:=λi h st b hb=>by
  have e:b=it:=by simpa using hb
  subst e;obtain ⟨o,e,c,d⟩:=st;exact #[o,e,λv z=>by rw[d]at z;cases z]
 keep:=λi h h' st k=>st.at λo e=>k it .(h) o e
 item:=by
  intro X hP hw hK hc i pins s U H E I hf st hg;subst hP hw hK;obtain ⟨hi,xs,hq,hn⟩:=hg;obtain ⟨its,rv,p,hz⟩:=I.list hq;have hx:xs[n-1-i]?=some (xs[n-1-i]' .(a)):=yac .(a);obtain ⟨u,hu,ru⟩:=rv.get hx;obtain ⟨f0,f1,f2,f3,f4,f5⟩:=hf it .(h);have e1:(n:Int)-1-(i:Int)=((n-1-i:Nat):Int):=by lia
  rw[e1]at st;refine wpAny_pyNext_rev_item st p.isList (x:=u) (by simpa using hu) λh' st' sb=>?_;have e2:((n-1-i:Nat):Int)-1=(n:Int)-1-((i+1:Nat):Int):=by lia
  rw[e2]at st';have I1:Inv X pins U H { s with heap:=h' }:=I.turned (t':=s.toks) (λb o hb e=>(sb.2 b hb).trans e) f0 f1 f3 f4 f5;obtain ⟨o,e,c,d⟩:=id st';refine #[u,rfl,zoi (s:={ s with heap:=h' }) e c d .(k) #[xs[n-1-i]' .(a),H,I1,ru,#[rfl,λys hy hyn=>?_],st',λb hb=>(hf b hb).1]];rw[I.list_inj hy hq,ydb .(a),show xs.length-1-i=n-1-i by lia];exact hx
 done:=by
  intro X hP hw hK hc i pins s U H E I hf st hg;subst hP hw hK;have hi:i=n:=hg;subst hi;obtain ⟨f0,f1,f2,f3,f4,f5⟩:=hf it .(h);have e1:(i:Int)-1-(i:Int) = -1:=by lia
  rw[e1]at st;exact wpAny_pyNext_rev_end (I.ok.hd hc) st λh' eb=>#[rfl,I.turned (t':=s.toks) (λb o hb e=>eb b o hb e) f0 f1 f3 f4 f5]
 self:=λ_ _ _ _ _ st h=>wpAny_pyIter_revIter st h
inductive zud (K:Frag)(R:It->Hp->Prop)(vs:List V)(H1:Hp):Prop
 | c:∀ a xs,vs=[.ref a]->SqL K H1 a xs->R (Itv K a xs.length) H1->zud K R vs H1
def iRev (K:Frag)(ta:TA):TI:=λU H R=>ta U H λvs H1=>zud K R vs H1
section
variable {X:Cx}
def zke {a:Expr}{p pos:Pos}(hg:Gl X "reversed")(hm:X.mg "reversed" = none)(ha:PA X [a] ta)(hs:starEach [a] X.env=[(false,eval a X.env)]:=by rfl):PI X tg (.Call (.Name "reversed" p) [a] [] pos) (iRev X.K ta):=by
 intro pins s U H R I h;refine Call_ (zfe I hg hm boot_reversed (PyProof.Rows.callWith_type1 (thn .(S) λus s1 zq0=>?_) hs rfl));obtain ⟨vs,H1,I1,r1,q1⟩:=zq0;obtain ⟨l,xs,e,hq,q⟩:=q1;subst e;cases r1 with
 | cons r rr=>
  cases rr
  cases r
  obtain ⟨its,rv,pl,hz⟩:=I1.list hq;have hl:=rv.length;refine call_reversed_list pl.isList ?_;have I2:Inv X pins U H1 { s1 with heap:=s1.heap.push (revObj l ((its.toArray.size:Int)-1)) }:=I1.kept (t':=s1.toks) λb o e=>yam _ e;have hr:(s1.heap.push (revObj l ((its.toArray.size:Int)-1))).IsRevIter s1.heap.objs.size l (((xs.length:Nat):Int)-1-((0:Nat):Int)):=by
   refine #[_,yaD _ rfl,rfl,?_];have:(its.toArray.size:Int)-1=((xs.length:Nat):Int)-1-((0:Nat):Int):=by
    rw[yay,hl];lia
   rw[this];rfl
  refine wpAny_pyIter_revIter (s:={ s1 with heap:=s1.heap.push (revObj l ((its.toArray.size:Int)-1)) }) hr #[_,[s1.heap.objs.size],_,_,H1,rfl,I2,zoW l s1.heap.objs.size xs.length,hr,λb hb=>?_,q];have e:b=s1.heap.objs.size:=by simpa using hb
  subst e;exact I1.fpOk (yaa _) (I1.hok.fresh (yaa _))
end
def zsi {K:Frag}{g:TG}{tb:TS}{D:Ends}{U:St}{H:Hp}(Pv:Nat->St->Hp->Prop)(h0:Pv 0 U H)(hl:∀ i U H,i<=xs.length->Pv i U H->SqL K H a xs)
  (hs:∀ i x U H,xs.reverse[i]?=some x->Pv i U H->g x U H λU2 H2=>tb { D with nx:=Pv (i+1),ct:=Pv (i+1),bk:=D.nx } U2 H2) (hd:∀ U H,Pv xs.length U H->D.nx U H) :
  ∃ W:Nat->Nat->St->Hp->Prop,(∃ m,W 0 m U H)/\∀ i m U H,W i m U H->((Itv K a xs.length).stop i H/\D.nx U H)\/((Itv K a xs.length).go i H/\∃ N:St->Hp->Prop,(∀ U' H',N U' H'->∃ m',m'<m/\W (i+1) m' U' H')/\∀ x H',(Itv K a xs.length).yld i H x H'->g x U H' λU2 H2=>tb { D with nx:=N,ct:=N,bk:=D.nx } U2 H2):=by
 refine #[λi m U H=>i+m=xs.length/\Pv i U H,#[xs.length,by lia,h0],λi m U H zq0=>?_];obtain ⟨e,pv⟩:=zq0;have hS:=hl i U H .(a) pv;by_cases hi:i<xs.length
 .refine .inr #[#[hi,xs,hS,rfl],Pv (i+1),λU' H' q=>#[m-1,by lia,by lia,q],λx H' y=>?_];obtain ⟨e1,y⟩:=y;subst e1;exact hs i x U _ (y xs hS rfl) pv
 .have:i=xs.length:=by lia
  subst this;exact .inl #[rfl,hd U H pv]
end L2
namespace L2
open PySem PySem.Spec PyProof.Rows
def znb {k:Key}{u:Value}(h:(zbg P w).is k u=true):RelV (kV k) u:=by
 rw[zma]at h;rcases za2 h with ⟨i,t,rfl,rfl⟩|⟨x,t,rfl,rfl⟩
 .exact #[t,rfl]
 .exact #[t,rfl]
section
variable {X:Cx}
def zmo (hc:X.calm=true):zcL X (.type "list") (λxs H Q=>∃(p:Addr) (kvs:List (Key×V)),xs=[.ref p]/\H p=some (.dK kvs)/\∀ l,H l=none->Q (.ref l) (upd H l (.lst (kvs.map λkv=>kV kv.1)))):=by
 intro pins s U H xs us Q I r h;obtain ⟨p,kvs,rfl,hq,q⟩:=h;obtain ⟨u,rfl,rx⟩:=zfu r;cases rx
 obtain ⟨hz,hne,vs,rel,o,es,ep,h1,h2,h3,h4,h5,h6⟩:=zso I.hok hq;have hlen:kvs.length=vs.length:=rel.length;refine PySem.W.kdl_call (PySem.W.kdl_dict (knd:=zbg X.prog X.w) (kvs:=vs) (ep:=ep) hne) (I.ok.hd hc) #[o,es,h1,h2,h3,h4,h5,h6] .(a) λh' tk acc c k e hi=>?_;have hv:Vals (kvs.map λkv=>kV kv.1) acc.toList:=by
  obtain ⟨g1,g2⟩:=hi;have key:∀(m:Nat) (kvs:List (Key×V)) (vs:List (Key×Value)) (us:List Value),KV kvs vs->us.length=vs.length->(∀(i:Nat) (v:Value),us[i]?=some v->∃ k x,vs[i]?=some (k,x)/\(zbg X.prog X.w).is k v=true)->Vals (kvs.map λkv=>kV kv.1) us:=by
   intro m kvs
   induction kvs with
   | nil=>
    intro vs us r hl _;cases r
    have:us=[]:=ydc hl;subst this;exact .nil
   | cons kv kvs ih=>
    intro vs us r hl hh;cases r with
    | cons a b=>
     cases us with
     | nil=>cases hl
     | cons v us=>
      refine .cons ?_ (ih _ us b (Nat.succ.inj hl) λi v e=>?_)
      .obtain ⟨k,x,e1,e2⟩:=hh 0 v rfl;cases e1
       have h9:=znb e2;have a1:kv.1=k:=a.1;rw[<-a1]at h9;exact h9
      .have:=hh (i+1) v (by simpa using e);simpa using this
  refine key 0 kvs vs acc.toList rel (by rw[yaA];exact g1) λi v e=>?_;exact g2 i v (by rw[<-ybd];exact e)
 refine #[.ref s.heap.objs.size,_,I.laid (a:=s.heap.objs.size) (o:=.lst (kvs.map λkv=>kV kv.1)) (t':=tk) k (yaa _) #[?_,acc.toList,c,hv,by rw[Array.toArray_toList];exact e],rfl,q _ (I.hok.fresh (yaa _))];rw[yab];lia
end
end L2
namespace L2
open PySem PySem.Spec PyProof.Rows
inductive zuc (K:Frag)(R:It->Hp->Prop)(x:V)(H1:Hp):Prop
 | c:∀ a,x=.ref a->((∃ xs,SqL K H1 a xs)/\R (Itl K a) H1\/(∃ xs,SqT K H1 a xs)/\R (Itt K a) H1)->zuc K R x H1
def iSeq (K:Frag)(tl:TE):TI:=λU H R=>tl U H λx H1=>zuc K R x H1
section
variable {X:Cx}{tg:Expr}
def zs8 (hl:PE X l tl):PI X tg l (iSeq X.K tl):=by
 intro pins s U H R I h;refine thn (hl pins s U H _ I h) λv s1 zq0=>?_;obtain ⟨x,H1,I1,r1,a,e,q1⟩:=zq0;subst e;cases r1
 have new:∀ b∈[s1.heap.objs.size],FpOk X pins H1 b:=λb hb=>by
  rw[yao.mp hb];exact I1.fpOk (yaa _) (I1.hok.fresh (yaa _))
 rcases q1 with ⟨⟨xs,hq⟩,q⟩|⟨⟨xs,hq⟩,q⟩
 .obtain ⟨its,rv,p,hz⟩:=I1.list hq;exact wpAny_pyIter_list p.isList #[s1.heap.objs.size,[s1.heap.objs.size],_,_,H1,rfl,Inv.kept (t':=s1.toks) I1 (λb o e=>yam _ e),zi1 a _,#[_,yaD _ rfl,rfl,rfl],new,q]
 .obtain ⟨its,rv,p,hz⟩:=I1.tuple hq;exact wpAny_pyIter_tuple (show s1.heap.IsTuple a its.toArray from p) #[s1.heap.objs.size,[s1.heap.objs.size],_,_,H1,rfl,Inv.kept (t':=s1.toks) I1 (λb o e=>yam _ e),zho a _,#[_,yaD _ rfl,rfl,rfl],new,q]
end
section
variable {prog:Program}{w:World}{A:Around}{E:Value->Shared->Prop}{s:Shared}
def zkE {l:Addr}{vs:List Value}{Q:List Value->Shared->Prop}(hl:s.heap.IsTuple l vs.toArray)
  (h:Q vs { s with heap:=(s.heap.push .(R)).update s.heap.objs.size (Obj.mapSeq (· ++ vs.toArray)) }) (hsz:vs.length<=sizeLine):wpAny .(e) A (collect (.ref l)) Q E s:=by
 obtain ⟨o,ho,hc,n,hd⟩:=id hl;unfold collect;refine wpAny_bind (wpAny_runValue (codeAny_builtin entry_proto_collect' ?_));show wpAny _ _ (do again (.builtin "list.__iadd__" #[[<-newList [],.ref l],[]])) _ _ s
 refine wpAny_bind (wpAny_newList (wpAny_pure #[Code.quiet_builtin _ (by decide +kernel),codeAny_builtin entry_list_iadd' ?_]));show wpAny _ _ (Builtin.List.listExtendWith (.ref s.heap.objs.size) (.ref l) (.ref s.heap.objs.size)) _ _ { s with heap:=s.heap.push .(R) };unfold Builtin.List.listExtendWith;have there:(s.heap.push .(R)).get? l=some o:=yam _ ho;refine wpAny_bind (wpAny_typeOf (T := "tuple") #[o,there,hc] ?_);have ht:(Value.type "tuple" == Value.type "tuple")=true:=rfl;rw[if_pos (by rw[ht,Bool.or_true])];refine wpAny_bind (listItems_at there hd ?_);refine wpAny_bind (listItems_at (xs:=(List.toArray [])) (n:=0) (yaD _ rfl) rfl ?_);rw[if_neg .(h)];have fits:((List.toArray [])++vs.toArray).size<=sizeLine+1:=by
  simp only[Array.size_append,yay,yb5];lia
 refine wpAny_bind (listUpdate_at (xs:=(List.toArray [])) (n:=0) (yaD _ rfl) rfl ?_ (yaF _) fits);refine wpAny_pure ?_;show wpAny .(e) A (load s.heap.objs.size >>= λo=>match o.data with|.seq xs _=>pure xs.toList|_=>unsupported "internal:collect") Q E { s with heap:=(s.heap.push .(R)).update s.heap.objs.size (Obj.mapSeq (· ++ vs.toArray)) }
 refine wpAny_bind (wpAny_load (get?_update_seq (yaD _ rfl) _) ?_);show wpAny _ _ (pure (((List.toArray []):Array Value)++vs.toArray).toList) Q E _;have e0:(((List.toArray []):Array Value)++vs.toArray).toList=vs:=by simp
 rw[e0];exact wpAny_pure h
end
end L2
namespace Tim
open PySem PyProof.Rows
section
variable {prog:Program}{w:World}{A:Around}{E:Value->Shared->Prop}{s:Shared}{κ:KeyKind}{kd:SortKind}
def zo5 {l:Addr}{vs:List Value}{Q:Value->Shared->Prop}(hl:s.heap.IsTuple l vs.toArray)(hz:vs.length<=sizeLine)(keys:∀ v∈vs,∃ k,κ.keyOf v=some k)
  (hlt:∀ h',(∀ b o,s.heap.get? b=some o->h'.get? b=some o)->LtG prog w A.in1.in1 { s with heap:=h' } κ kd)
  (hkd:∀(h':Heap) (E:Value->Shared->Prop) (Q:SortKind->Shared->Prop),(∀ b o,s.heap.get? b=some o->h'.get? b=some o)->2<=vs.length->Q kd { s with heap:=h' }->wpAny .(e) A.in1.in1 (keyKind' vs.toArray) Q E { s with heap:=h' })
  (h:∀(out:List Value) (h':Heap) (c:Nat),out.Perm vs->out.Pairwise (λx y=>κ.kle (keyV κ x) (keyV κ y))->(∀ b o,s.heap.get? b=some o->h'.get? b=some o)->
   h'.get? (s.heap.objs.size+1)=some (seqObj "list" out.toArray c)->Q (.ref (s.heap.objs.size+1)) { s with heap:=h' }) :
  wpAny .(e) A (call (.builtin "sorted") [.ref l]) Q E s:=by
 refine Calls.call_function_entry kind_sorted plain_sorted entry_sorted (args_sorted1 _) ?_;unfold Builtin.«sorted»;refine wpAny_bind (m:=checkCount "sorted" 1 1 _) (wpAny_pure ?_);refine wpAny_bind (L2.zkE hl ?_ hz);refine wpAny_bind (wpAny_newList ?_ (by simpa using hz));have z1:((s.heap.push .(R)).update s.heap.objs.size (Obj.mapSeq (· ++ vs.toArray))).objs.size=s.heap.objs.size+1:=by
  rw[Heap.size_update,size_push']
 have hn:(((s.heap.push .(R)).update s.heap.objs.size (Obj.mapSeq (· ++ vs.toArray))).push (seqObj "list" vs.toArray 0)).get? (s.heap.objs.size+1)=some (seqObj "list" vs.toArray 0):=by
  rw[<-z1];exact yaD _ rfl
 have hk:∀ b o,s.heap.get? b=some o->(((s.heap.push .(R)).update s.heap.objs.size (Obj.mapSeq (· ++ vs.toArray))).push (seqObj "list" vs.toArray 0)).get? b=some o:=λb o e=>
  yam _ ((ybQ _ _ (ybG (yag e))).trans (yam _ e))
 show wpAny _ _ _ _ _ { s with heap:=((s.heap.push (seqObj "list" (List.toArray []) 0)).update s.heap.objs.size (Obj.mapSeq (· ++ vs.toArray))).push (seqObj "list" vs.toArray 0) };rw[z1];generalize ((s.heap.push (seqObj "list" (List.toArray []) 0)).update s.heap.objs.size (Obj.mapSeq (· ++ vs.toArray))).push (seqObj "list" vs.toArray 0)=h1 at hn hk ⊢;have up:∀ h',zfS (s.heap.objs.size+1) h1 h'->∀ b o,s.heap.get? b=some o->h'.get? b=some o:=λh' kb b o e=>kb b o (λz=>by
  have:=yag e;rw[z]at this;exact absurd this (ybY.mpr (yaT _))) (hk b o e)
 refine wpAny_bind (wpAny_holding (wpAny_call_entry slot_list_sort #[_,hn,rfl] entry_list_sort (zqv (s:={ s with heap:=h1 }) hn hz keys (λh' kb=>hlt h' (up h' kb)) (λh' E Q kb h2 q=>hkd h' E Q (up h' kb) h2 q) λout p1 p2=> .(z)) (args_list_sort _)));obtain ⟨kb,c,hc⟩:=zgU (out:=out) hn;exact wpAny_pure #[_,rfl,h out _ c p1 p2 (up _ kb) hc]
end
end Tim
namespace L2
open PySem PySem.Spec PyProof.Rows
section
variable {X:Cx}
inductive zqy (α:Type)[Rep α][Srt α](K:Frag)(xs:List V)(H:Hp)(Q:VK):Prop
 | c:∀(p:Addr) (vs:List V) (as:List α),xs=[.ref p]->SqT K H p vs->zan K H as vs->(∀ l ws,H l=none->zan K H (zcB as) ws->Q (.ref l) (upd H l (.lst ws)))->zqy α K xs H Q
def zhQ (α:Type)[Rep α][Srt α]:zcL X (.builtin "sorted") (zqy α X.K):=by
 intro pins s U H xs us Q I r h;obtain ⟨p,vs,as,rfl,hq,ha,q⟩:=h;obtain ⟨u,rfl,rx⟩:=zfu r;cases rx
 obtain ⟨its,rv,pl,hz⟩:=I.tuple hq;have hlen:=rv.length;obtain ⟨km,kk⟩:=zks I ha rv;refine Tim.zo5 (κ:=srtKind α X.K H) (kd:=Srt.kd α) (show s.heap.IsTuple p its.toArray from pl) .(a) (λv hv=>?_) (λh' k E x y a b Q hx hy q=>?_) (λh' E Q k h2 q=>Srt.kind (Inv.kept (t':=s.toks) I k) ha rv h2 q) λout h' c p1 p2 k hc=>?_
 .obtain ⟨a,_,_,_,e⟩:=kk v hv;exact #[a,e]
 .obtain ⟨x1,r1,e1⟩:=zeo hx;obtain ⟨y1,r2,e2⟩:=zeo hy;exact Srt.lt (Inv.kept (t':=s.toks) I k) e1 e2 r1 r2 q
 .obtain ⟨ws,bs,w1,w2,w3⟩:=zgR (α:=α) (K:=X.K) (H:=H) (out:=out) λv hv=>kk v (p1.mem_iff.mp hv);have eb:bs=zcB as:=by
   refine zeN ?_ ?_
   .rw[w3,<-km];exact p1.map _
   .rw[w3];exact ycf.mpr p2
  rw[eb]at w2;have hw:ws.length<=sizeLine:=by
   have:=w1.length;have:=p1.length_eq;lia
  exact #[.ref (s.heap.objs.size+1),_,I.laid (a:=s.heap.objs.size+1) (o:=.lst ws) (t':=s.toks) k (yaT _) #[hw,out,c,w1,hc],rfl,q _ ws (I.hok.fresh (yaT _)) w2]
end
section
variable {prog:Program}{w:World}{A:Around}{E:Value->Shared->Prop}{s:Shared}
def zj3:isSubtype (.type "tuple") (.type "set")=pure false:=by rw[isSubtype_type];kernel_rfl
def zhh:isSubtype (.type "tuple") (.type "frozenset")=pure false:=by rw[isSubtype_type];kernel_rfl
abbrev ziB (led:Bool):Obj:={ cls:=.type "set",dict:=none,data:=.set (List.toArray []) 0 (.fresh 0 0 led) }
set_option maxRecDepth 100000 in
set_option maxHeartbeats 3200000 in
def zlU {l:Addr}{items:Array Value}{ns:List Int}{Q:Value->Shared->Prop}(hh:A.handled=none)(hl:s.heap.IsTuple l items)(hi:IntsAre items.toList ns)(hb:items.size+1<scanBound)
  (h:∀(h':Heap) (tk:Nat),h'.SetOf (intKind prog w) s.heap.objs.size (λk'=>(firstMet (λi=>ns.getD i 0) items.size).any (· == k')) (firstMet (λi=>ns.getD i 0) items.size).length->
   (∀ b o,b<s.heap.objs.size->s.heap.get? b=some o->h'.get? b=some o)->Q (.ref s.heap.objs.size) { s with heap:=h',toks:=tk }) :
  wpAny .(e) A (call (.type "set") [.ref l]) Q E s:=by
 obtain ⟨c,tl,hmro⟩:=F.called_set.mro;have hmade:=F.called_set.made;have hsub:=F.called_set.sub;refine wpAny_call (codeAny_of_tree ?_);show wpAny _ _ (callAny (.type "set") _) _ _ _;refine wpAny_pure #[Code.quiet_builtin _ (by decide +kernel),codeAny_builtin F.entry_type_call ?_];rw[Around.under_plain (weight_type_call_type "set" [.ref l] []) rfl];have h1:=F.called_set.notType;have h2:=F.called_set.canCreate;have hct:=F.typeCall_set_1 (.ref l)
 repeat (any_goals (first|assumption|wp_step))
 refine codeAny_mono (code_set_new_1 (.ref l) (E:=E) (Q₁:=λobj s₁=>∃ led:Bool,obj=.ref s.heap.objs.size/\s₁={ s with heap:=s.heap.push (ziB led) }) λled=>#[led,rfl,rfl]) λr s₁ hr=>?_;cases r with
 | error e=>exact hr
 | ok fl=>
  cases fl with
  | ret obj=>
   obtain ⟨led,rfl,rfl⟩:=hr;have hS:(s.heap.push (ziB led)).get? s.heap.objs.size=some (ziB led):=yaD _ rfl;have hT:Shared.TypeIs { s with heap:=s.heap.push (ziB led) } (.ref s.heap.objs.size) "set":=#[_,hS,rfl];have hli:=F.called_set.init.lookup;have hbi:=F.called_set.init.bind (.ref s.heap.objs.size)
   repeat (any_goals (first|assumption|wp_step))
   refine codeAny_mono (codeAny_call_builtin (R:=wants (λr s₂=>r=.none/\∃ h' tk,s₂={ s with heap:=h',toks:=tk }/\
     h'.SetOf (intKind prog w) s.heap.objs.size (λk'=>(firstMet (λi=>ns.getD i 0) items.size).any (· == k')) (firstMet (λi=>ns.getD i 0) items.size).length/\
     (∀ b o,b<s.heap.objs.size->s.heap.get? b=some o->h'.get? b=some o)) E) F.called_set.init.plain F.entry_set_init (check_set_init_1 hT ?_)) λr₂ s₂ hr₂=>?_
   .obtain ⟨ol,hol,hcl,nl,hdl⟩:=hl;obtain ⟨ocls,odict,odata,oslots⟩:=ol;simp only at hcl hdl;subst hcl;subst hdl;have there:(s.heap.push (ziB led)).get? l=some { cls:=.type "tuple",dict:=odict,data:=.seq items nl,slots:=oslots }:=yam _ hol;have hsls:=zj3;have hslf:=zhh;have hne:(Value.type "tuple" == Value.type "dict")=false:=by decide
    have hl1:(s.heap.push (ziB led)).IsTuple l items:=#[_,there,rfl,nl,rfl];unfold Builtin.«set.__init__» noKeywords Builtin.Frozenset.updateFrom;generalize hPI:pyIter=PI
    wp_walk
    subst hPI;refine wpAny_pyIter_tuple hl1 ?_;refine wpAny_bind (wpAny_runValue ?_);have hlS:l<s.heap.objs.size:=yag hol;have h3:A.in1.in1.in1.handled=none:=by simp[hh]
    have hsz:(s.heap.push (ziB led)).objs.size=s.heap.objs.size+1:=yb3 ..;have hneI:l≠(s.heap.push (ziB led)).objs.size:=by
     rw[hsz];exact yau (Nat.lt_succ_of_lt hlS)
    have hSf:s.heap.objs.size∉[(s.heap.push (ziB led)).objs.size,l]:=by
     rw[hsz];simp only[yaq,ybC,or_false,not_or];exact #[yau (yck _),ybG hlS]
    have hval:∀(i:Nat) (v:Value),items[i]?=some v->∃ t,v=.int ((λi=>ns.getD i 0) i) t:=λi v hv=>
     IntsAre.int_at hi i v (by rw[ybd];exact hv)
    refine codeAny_set_update_loopS ((Walks.tuple h3 _ l hneI items).toS) s.heap.objs.size
     hSf (λi=>ns.getD i 0) hval hb (items.size-0) 0 _ .(a) (yaF _)
     #[#[_,yaD _ rfl,rfl,rfl],(hl1.push _)] ?hS0 ?hR
    case hS0=>
     exact SetOf_congr ((setObjOf_fresh (knd:=intKind prog w) led).setOf (yam _ hS) (by unfold scanBound;lia)) (λ_=>rfl) rfl
    case hR=>
     intro s' hm hS';obtain ⟨h',g',d',tk',os'⟩:=s';have eg:g'=s.gens:=hm.gens;have ed:d'=s.drawn:=hm.drawn;have eo:os'=s.os:=hm.os;subst eg;subst ed;subst eo;show wpAny _ _ _ _ _ _;refine wpAny_pure ?_;show wpAny _ _ (ret Value.none) _ _ _;refine wpAny_pure #[rfl,h',tk',rfl,hS',λb o hb e=>?_];refine hm.heap b o ?_ (yam _ (yam _ e));rw[hsz];simp only[yaq,ybC,or_false,not_or];exact #[yau hb,yau (Nat.lt_succ_of_lt hb)]
   .cases r₂ with
    | error e=>exact hr₂
    | ok fl₂=>
     cases fl₂ with
     | ret r=>
      obtain ⟨rfl,h',tk,rfl,hS',hk'⟩:=hr₂
      repeat (any_goals (first|assumption|wp_step))
      exact h _ _ hS' hk'
     | _=>exact hr₂.elim
  | _=>exact hr.elim
end
section
variable {X:Cx}
inductive zsX (K:Frag)(xs:List V)(H:Hp)(Q:VK):Prop
 | c:∀(p:Addr) (ns:List Int),xs=[.ref p]->SqT K H p (ns.map V.int)->ns.length<=1000->(∀ l,H l=none->Q (.ref l) (upd H l (.set (λk=>(metI ns).any (· == k)) (metI ns).length)))->zsX K xs H Q
def zoD (hc:X.calm=true):zcL X (.type "set") (zsX X.K):=by
 intro pins s U H xs us Q I r h;obtain ⟨p,ns,rfl,hq,hz,q⟩:=h;obtain ⟨u,rfl,rx⟩:=zfu r;cases rx
 obtain ⟨its,rv,pl,_⟩:=I.tuple hq;have hl:=rv.length;rw[yab]at hl;refine zlU (ns:=ns) (I.ok.hd hc) (show s.heap.IsTuple p its.toArray from pl) (by simpa using zcN rv) (by unfold scanBound;simp only[yay];lia) λh' tk hS hk=>?_;have e:its.toArray.size=ns.length:=by simp only[yay];lia
 rw[e]at hS;exact #[.ref s.heap.objs.size,_,I.laid (a:=s.heap.objs.size) (o:=.set _ _) (t':=tk) (λb o eb=>hk b o (yag eb) eb) (yaa _) hS,rfl,q _ (I.hok.fresh (yaa _))]
def zfP:zcL X (.builtin "isinstance") (λxs H Q=>∃ a p,xs=[.ref a,.ref p]/\H p=some (.tup [.ty "list",.ty "tuple"])/\((∃ ys,H a=some (.lst ys))\/∃ ys,H a=some (.tup ys))/\Q (.bl true) H):=by
 intro pins s U H xs us Q I r h;obtain ⟨a,p,rfl,hp,ha,q⟩:=h;obtain ⟨u,w',rfl,r1,r2⟩:=zhg r;cases r1
 cases r2
 obtain ⟨_,its,rv,⟨oc,od,odt,osl⟩,h1,h2,n,h3⟩:=(show zbl X.prog X.w H s.heap p (.tup [.ty "list",.ty "tuple"]) from I.hok p _ hp);have h2:oc=.type "tuple":=h2;have h3:odt=.seq its.toArray n:=h3;subst h2 h3;obtain ⟨c1,c2,rfl,e1,e2⟩:=zhg rv;have e1:c1=.type "list":=e1;have e2:c2=.type "tuple":=e2;subst e1 e2;have fin:∀ tk,EP X pins U Q (Value.bool true) { s with toks:=tk }:=λtk=>#[.bl true,H,I.tok tk,rfl,q];rcases ha with ⟨ys,ha⟩|⟨ys,ha⟩
 .obtain ⟨_,_,n,_,g1⟩:=(show zbl X.prog X.w H s.heap a (.lst ys) from I.hok a _ ha);exact PySem.W.kia_tup PySem.W.kitx_list I.kIn #[_,g1,rfl] h1 (b:=true) (by rfl) nofun fin
 .obtain ⟨_,_,_,o,g1,g2,_⟩:=(show zbl X.prog X.w H s.heap a (.tup ys) from I.hok a _ ha);exact PySem.W.kia_tup PySem.W.kitx_tuple I.kIn #[o,g1,g2] h1 (b:=true) (by rfl) nofun fin
end
end L2
namespace HT
open PySem PySem.Spec PyProof.Rows
section
variable {prog:Program}{w:World}{A:Around}{E:Value->Shared->Prop}{s:Shared}
def getItem_tuple_all {t sl:Addr}{items:Array Value}{vl vu:Value}{lo hi:Option Int}{Q:Value->Shared->Prop}(ht:IsTup s.heap t items)(hs:s.heap.IsSliceOf sl vl vu .none)(pl:IsPart vl lo)(pu:IsPart vu hi)
  (hw:sIx items.size 0 lo=0/\sIx items.size items.size hi=items.size) (h:Q (.ref t) s):wpAny .(e) A (getItem (.ref t) (.ref sl)) Q E s:=by
 obtain ⟨os,hos,hcs,hds⟩:=id hs;have hTs:s.TypeIs (.ref sl) "slice":=#[os,hos,hcs];unfold getItem
 try with_reducible refine wpAny_holding ?_
 first|refine wpAny_bind (wpAny_pure ?_)|skip
 refine wpAny_bind (wpAny_sequenceKey ht.typeIs .(k) ?_);refine wpAny_bind (wpAny_callSpecial?_slot (name:=Str.ofString "__getitem__") ht.typeIs PyProof.Rows.slot_tuple_getitem (wpAny_call_entry PyProof.Rows.slot_tuple_getitem ht.typeIs entry_tuple_getitem ?_ (args_tuple_getitem _ _)));show wpAny _ _ (Builtin.Tuple.tupleItemsOf (.ref t) >>= _) _ _ s;refine wpAny_bind (tupleItemsOf_ ht ?_);refine wpAny_bind (wpAny_typeOf hTs ?_);rw[if_pos .(k)];refine wpAny_bind (zdy hs pl pu ?_);have yes:(((sIx items.size 0 lo:Nat):Int)==0&&(1:Int)==1&&(sIx items.size items.size hi-sIx items.size 0 lo)==items.size)=true:=by
  rw[hw.1,hw.2];simp
 show wpAny _ _ (if (((sIx items.size 0 lo:Nat):Int)==0&&(1:Int)==1&&(sIx items.size items.size hi-sIx items.size 0 lo)==items.size)=true then _ else _) _ _ s
 rw[if_pos yes];refine wpAny_bind ?_;unfold Builtin.Tuple.tupleIsExact;refine wpAny_bind (wpAny_typeOf ht.typeIs ?_);refine wpAny_pure ?_;rw[if_pos .(k)];exact wpAny_bind (wpAny_rule (wpAny_pure #[_,rfl,wpAny_pure h]))
end
end HT
namespace L2
open PySem PySem.Spec PyProof.Rows
section
variable {X:Cx}
inductive rSlX (K:Frag)(x:V)(lo:Option Int)(hi:Option Int)(H:Hp)(Q:VK):Prop
 | c:∀ a xs,x=.ref a->SqT K H a xs->((HT.sIx xs.length 0 lo=0/\HT.sIx xs.length xs.length hi=xs.length)->Q (.ref a) H)->(¬ (HT.sIx xs.length 0 lo=0/\HT.sIx xs.length xs.length hi=xs.length)->∀ p,H p=none->Q (.ref p) (upd H p (.tup (cutV xs lo hi))))->rSlX K x lo hi H Q
def zrs:SlR X (rSlX X.K):=by
 intro pins s U H x v vl vu lo hi sl Q I rx hs pl pu h;obtain ⟨a,xs,e,hx,q1,q2⟩:=h;by_cases hw:HT.sIx xs.length 0 lo=0/\HT.sIx xs.length xs.length hi=xs.length
 .subst e;cases rx
  obtain ⟨its,r,ht,hz⟩:=I.tuple hx;have hlen:its.toArray.size=xs.length:=by rw[yay];exact r.length.symm
  refine #["tuple",_,PyProof.Rows.slot_tuple_getitem.lookup,ht.typeIs,?_];exact HT.getItem_tuple_all ht hs pl pu (by rw[hlen];exact hw) #[.ref a,H,I,rfl,q1 hw]
 .exact zsU pins s U H x v vl vu lo hi sl Q I rx hs pl pu #[a,xs,e,hx,hw,q2 hw]
def zd3 {K:Frag}(h:X.K=K:=by rfl):SlR X (rSlX K):=by
 subst h;exact zrs
inductive zrv (K:Frag)(x:V)(y:V)(H:Hp)(Q:VK):Prop
 | c:∀ a b xs ys,x=.ref a->y=.ref b->SqT K H a xs->SqT K H b ys->ys≠[]->xs.length+ys.length<=sizeLine->(xs=[]->Q (.ref b) H)->(xs≠[]->∀ p,H p=none->Q (.ref p) (upd H p (.tup (xs++ys))))->zrv K x y H Q
def zdq:OpR X (binaryOp .Add) (zrv X.K):=by
 intro pins s U H x y v u Q I rx ry h;obtain ⟨a,b,xs,ys,e1,e2,ha,hb,hy,hz,q1,q2⟩:=h;by_cases hx:xs=[]
 .subst e1 e2;cases rx
  cases ry
  obtain ⟨its,r1,p1,_⟩:=I.tuple ha;obtain ⟨its2,r2,p2,_⟩:=I.tuple hb;obtain ⟨⟨cls,dd,data,sl⟩,ho,hc,n,hd⟩:=id p1;obtain ⟨⟨cls2,dd2,data2,sl2⟩,ho2,hc2,n2,hd2⟩:=id p2;simp only at hc hd hc2 hd2;subst hc hd hc2 hd2;have hv:its=[]:=r1.nil_iff.mpr hx;exact concat_meets #[_,ho,rfl] #[_,ho2,rfl] noFill_tuple_add seq_tuple_add PySem.F.slot_tuple_add PySem.F.entry_tuple_add (PySem.F.args_tuple_add_2 _ _)
   (tuple_addW0 a b its.toArray its2.toArray n n2 dd dd2 sl sl2 (by simp[hv])) #[ho,ho2,.ref b,H,I,rfl,q1 hx]
 .exact ziy pins s U H x y v u Q I rx ry #[a,b,xs,ys,e1,e2,ha,hb,hx,hz,λz=>absurd z hy,λ_=>q2 hx]
end
end L2
namespace L2
open PySem PySem.Spec PyProof.Rows PySem.SeqAt
def hasO (o:Option Int)(v:V):Prop:=match o with
 | none=>v=.non
 | some i=>v=.int i
instance:Rep (Option Int) where
 dec:=inferInstance
 depth:=0
 has:=λ_ _ o v=>hasO o v
 mono:=λ_ h=>h
 inj:=λ{_ _ _ _ _ a b v} _ h1 h2=>by
  cases a<;>cases b
  .rfl
  .have h1:v=.non:=h1;have h2:v=.int _:=h2;rw[h1]at h2;cases h2
  .have h1:v=.int _:=h1;have h2:v=.non:=h2;rw[h1]at h2;cases h2
  .have h1:v=.int _:=h1;have h2:v=.int _:=h2;rw[V.int.inj (h1.symm.trans h2)]
 rc:=λ{_ _ _ _ _ _ a b x y u v} _ _ h1 h2 r1 r2=>by
  cases a with
  | none=>
   have h1:x=.non:=h1;subst h1;obtain rfl:u=.none:=r1;cases b with
   | none=>
    have h2:y=.non:=h2;subst h2;obtain rfl:v=.none:=r2;exact RcAt.none_none
   | some j=>
    have h2:y=.int j:=h2;subst h2;obtain ⟨t,rfl⟩:=r2;exact RcAt.none_int _ _
  | some i=>
   have h1:x=.int i:=h1;subst h1;obtain ⟨t,rfl⟩:=r1;cases b with
   | none=>
    have h2:y=.non:=h2;subst h2;obtain rfl:v=.none:=r2;exact RcAt.int_none _ _
   | some j=>
    have h2:y=.int j:=h2;subst h2;obtain ⟨t',rfl⟩:=r2;have e:decide (some i=some j)=(i==j):=by
     by_cases z:i=j
     .subst z;simp
     .rw[yai (λq=>z (yae q)),beq_eq_false_iff_ne.mpr z]
    have:=RcAt.int_int (A:=‹Around›) (s:=‹Shared›) i t j t';rw[<-e]at this;exact this
 rn:=λ{_ _ _ _ _ _ a b x y u v} _ _ h1 h2 r1 r2=>by
  cases a with
  | none=>
   have h1:x=.non:=h1;subst h1;obtain rfl:u=.none:=r1;cases b with
   | none=>
    have h2:y=.non:=h2;subst h2;obtain rfl:v=.none:=r2;exact RcNeAt.none_none
   | some j=>
    have h2:y=.int j:=h2;subst h2;obtain ⟨t,rfl⟩:=r2;exact RcNeAt.none_int _ _
  | some i=>
   have h1:x=.int i:=h1;subst h1;obtain ⟨t,rfl⟩:=r1;cases b with
   | none=>
    have h2:y=.non:=h2;subst h2;obtain rfl:v=.none:=r2;exact RcNeAt.int_none _ _
   | some j=>
    have h2:y=.int j:=h2;subst h2;obtain ⟨t',rfl⟩:=r2;have e:decide (some i=some j)=(i==j):=by
     by_cases z:i=j
     .subst z;simp
     .rw[yai (λq=>z (yae q)),beq_eq_false_iff_ne.mpr z]
    have:=RcNeAt.int_int (A:=‹Around›) (s:=‹Shared›) i t j t';rw[<-e]at this;exact this
 eq:=λ{_ _ _ _ _ _ a b x y u v} _ _ h1 h2 r1 r2=>by
  cases a with
  | none=>
   have h1:x=.non:=h1;subst h1;obtain rfl:u=.none:=r1;cases b with
   | none=>
    have h2:y=.non:=h2;subst h2;obtain rfl:v=.none:=r2;exact EqAt.same _
   | some j=>
    have h2:y=.int j:=h2;subst h2;obtain ⟨t,rfl⟩:=r2;exact EqAt.none_int _ _
  | some i=>
   have h1:x=.int i:=h1;subst h1;obtain ⟨t,rfl⟩:=r1;cases b with
   | none=>
    have h2:y=.non:=h2;subst h2;obtain rfl:v=.none:=r2;exact EqAt.int_none _ _
   | some j=>
    have h2:y=.int j:=h2;subst h2;obtain ⟨t',rfl⟩:=r2;have e:decide (some i=some j)=(i==j):=by
     by_cases z:i=j
     .subst z;simp
     .rw[yai (λq=>z (yae q)),beq_eq_false_iff_ne.mpr z]
    have:=EqAt.int_int (A:=‹Around›) (s:=‹Shared›) i t j t';rw[<-e]at this;exact this
structure Tup (α:Type) where
 l:List α
def Tup.ext' {α:Type}{a b:Tup α}(h:a.l=b.l):a=b:=by
 cases a
 cases b
 cases h
 rfl
instance {α:Type} [DecidableEq α]:DecidableEq (Tup α):=λa b=>if h:a.l=b.l then .isTrue (Tup.ext' h) else .isFalse λz=>h (by rw[z])
inductive hasT {α:Type}[Rep α](K:Frag)(H:Hp)(t:Tup α)(v:V):Prop
 | c:∀ a xs,v=.ref a->SqT K H a xs->zan K H t.l xs->hasT K H t v
section
variable {α:Type}[r:Rep α]{X:Cx}{pins:List (Addr×Obj)}{U:St}{H:Hp}{s:Shared}{A:Around}{as bs:Tup α}{x y:V}{u v:Value}
def zlz (I:Inv X pins U H s)(h1:hasT X.K H as x)(h2:hasT X.K H bs x):as=bs:=by
 obtain ⟨a,xs,rfl,q1,h1⟩:=h1;obtain ⟨b,ys,e,q2,h2⟩:=h2;cases e
 rw[I.tuple_inj q2 q1]at h2;exact Tup.ext' (h1.inj I h2)
def zmI {as bs:List α}(n m:Nat)(hn:as.length=n)(hm:bs.length=m):((List.range (min n m)).all (λj=>decide (as[j]?=bs[j]?))&&n==m)=decide (as=bs):=by
 by_cases hl:as.length=bs.length
 .have e:=zfR as bs hl;have z:min n m=as.length:=by lia
  rw[z,e,beq_iff_eq.mpr (by lia:n=m),ycX]
 .rw[yai (λz=>hl (by rw[z])),beq_eq_false_iff_ne.mpr (by lia:n≠m),Bool.and_false]
def zos:decide (as=bs)=decide (as.l=bs.l):=by
 by_cases h:as.l=bs.l
 .rw[yah h,yah (Tup.ext' h)]
 .rw[yai h,yai (λz=>h (by rw[z]))]
def zn9 (I:Inv X pins U H s)(hu:A.units+(Rep.depth α+1)<cLine)(h1:hasT X.K H as x)(h2:hasT X.K H bs y)(r1:RelV x u)(r2:RelV y v):RcAt A s u v (decide (as=bs)):=by
 obtain ⟨a,xs,rfl,q1,h1⟩:=h1;obtain ⟨b,ys,rfl,q2,h2⟩:=h2;cases r1
 cases r2
 obtain ⟨us,ru,pu,_⟩:=I.tuple q1;obtain ⟨vs,rv,pv,_⟩:=I.tuple q2;have l1:=ru.length;have l2:=rv.length;have m1:=h1.length;have m2:=h2.length;have hin:A.in1.units+Rep.depth α<cLine:=yaJ (ya8 zbW _) .(a);have:=RcAt.tuples (A:=A) (s:=s) (l:=a) (b:=b) (items:=us.toArray) (items2:=vs.toArray) (e:=λj=>decide (as.l[j]?=bs.l[j]?)) pu pv .(a) (zgx I hin h1 h2 ru rv);rw[zmI (as:=as.l) (bs:=bs.l) us.toArray.size vs.toArray.size (by simp;lia) (by simp;lia),<-zos]at this;exact this
def zr7 (I:Inv X pins U H s)(hu:A.units+(Rep.depth α+1)<cLine)(h1:hasT X.K H as x)(h2:hasT X.K H bs y)(r1:RelV x u)(r2:RelV y v):RcNeAt A s u v (!decide (as=bs)):=by
 obtain ⟨a,xs,rfl,q1,h1⟩:=h1;obtain ⟨b,ys,rfl,q2,h2⟩:=h2;cases r1
 cases r2
 obtain ⟨us,ru,pu,_⟩:=I.tuple q1;obtain ⟨vs,rv,pv,_⟩:=I.tuple q2;have l1:=ru.length;have l2:=rv.length;have m1:=h1.length;have m2:=h2.length;have hin:A.in1.units+Rep.depth α<cLine:=yaJ (ya8 zbW _) .(a);have:=RcNeAt.tuples (A:=A) (s:=s) (l:=a) (b:=b) (items:=us.toArray) (items2:=vs.toArray) (e:=λj=>decide (as.l[j]?=bs.l[j]?)) pu pv .(a) (zgx I hin h1 h2 ru rv);rw[zmI (as:=as.l) (bs:=bs.l) us.toArray.size vs.toArray.size (by simp;lia) (by simp;lia),<-zos]at this;exact this
def zr8 (I:Inv X pins U H s)(hu:A.units+(Rep.depth α+1)<cLine)(h1:hasT X.K H as x)(h2:hasT X.K H bs y)(r1:RelV x u)(r2:RelV y v):EqAt A s u v (decide (as=bs)):=by
 have rc:=zn9 (A:=A) I hu h1 h2 r1 r2;have h1':=id h1;have h2':=id h2;obtain ⟨a,xs,rfl,q1,h1⟩:=h1;obtain ⟨b,ys,rfl,q2,h2⟩:=h2;cases r1
 cases r2
 by_cases hab:a=b
 .subst hab;rw[yah (zlz I h1' h2')];exact EqAt.same _
 .exact EqAt.of_refs hab rc
end
instance {α:Type} [Rep α]:Rep (Tup α) where
 dec:=inferInstance
 depth:=Rep.depth α+1
 has:=hasT
 mono:=λe ⟨a,xs,h1,h2,h3⟩=>#[a,xs,h1,h2.ext e,h3.mono e]
 inj:=λI h1 h2=>zlz I h1 h2
 rc:=λI hu h1 h2 r1 r2=>zn9 I hu h1 h2 r1 r2
 rn:=λI hu h1 h2 r1 r2=>zr7 I hu h1 h2 r1 r2
 eq:=λI hu h1 h2 r1 r2=>zr8 I hu h1 h2 r1 r2
end L2
namespace L2
open PySem PySem.Spec PyProof.Rows
section
variable {X:Cx}{K:Frag}
def zaP (h:X.K=K:=by rfl):zcL X (.type "tuple") (λxs H Q=>∃ p ys,xs=[V.ref p]/\((SqL K H p ys/\∀ l,H l=none->Q (.ref l) (upd H l (.tup ys)))\/(SqT K H p ys/\Q (.ref p) H))):=by
 subst h;exact ziS
end
end L2
namespace L2
open PySem PySem.Spec PyProof.Rows
section
variable {X:Cx}{K:Frag}{tg:Expr}
def zrB (hl:PE X l tl)(h:X.K=K:=by rfl):PI X tg l (iTup K tl):=by
 subst h;exact zex hl
end
end L2
namespace L2
open PySem PySem.Spec PyProof.Rows PySem.SeqAt
def RelV.uniq {x y:V}{u:Value}(h:RelV x u)(g:RelV y u):x=y:=by
 cases x<;>cases y<;>(unfold RelV at h g)<;>(first|(obtain ⟨_,rfl⟩:=h)|subst h)<;>(first|(obtain ⟨_,g⟩:=g;cases g<;>rfl)|(cases g<;>rfl)|rfl)
def zoL (its:List Value)(e:Value->Bool):its.toArray.any e=its.any e:=by simp
inductive rInD (α:Type)[Rep α](K:Frag)(neg:Bool)(x:V)(y:V)(H:Hp)(Q:VK):Prop
 | c:∀(p:Addr) (xs:List V) (a:α) (as:List α),y=.ref p->(SqL K H p xs\/SqT K H p xs)->Rep.has K H a x->zan K H as xs->(∀ b:Bool,(b=true↔a∈as)->Q (.bl (if neg then !b else b)) H)->rInD α K neg x y H Q
section
variable {X:Cx}{α:Type}[Rep α]
def zsv (I:Inv X pins U H s){a:α}{e:Value->Bool}(he:∀ u,e u=true↔∃ y,RelV y u/\Rep.has X.K H a y):∀{as:List α} {xs:List V} {us:List Value},zan X.K H as xs->Vals xs us->us.any e=decide (a∈as)
 | _,_,_,.nil,.nil=>rfl
 | b::as,x::xs,u::us,.cons h t,.cons r t2=>by
  rw[ybv,zsv I he t t2];by_cases z:a=b
  .subst z;rw[(he u).mpr #[x,r,h],yah yaB];rfl
  .have e1:e u=false:=by
    cases c:e u with
    | false=>rfl
    | true=>
     obtain ⟨y,r2,h2⟩:=(he u).mp c;rw[RelV.uniq r2 r]at h2;exact absurd (Rep.inj I h2 h) z
   rw[e1,Bool.false_or];by_cases m:a∈as
   .rw[yah m,yah (yaz _ m)]
   .rw[yai m,yai (λq=>(yaq.mp q).elim z m)]
def zrT {A:Around}(I:Inv X pins U H s)(hu:A.units+Rep.depth α<cLine){a:α}{x0:V}{v:Value}(ha:Rep.has X.K H a x0)(rv:RelV x0 v){e:Value->Bool}(he:∀ u,e u=true↔∃ y,RelV y u/\Rep.has X.K H a y):∀{as:List α} {xs:List V} {us:List Value},zan X.K H as xs->Vals xs us->∀ u∈us,EqAt A s u v (e u)
 | _,_,_,.nil,.nil=>λu hu=>by cases hu
 | b::as,x::xs,u::us,.cons h t,.cons r t2=>λu' hm=>by
  rcases yaq.mp hm with z|z
  .subst z;have q:=Rep.eq (A:=A) I hu h ha r rv;have e2:e u'=(Rep.dec b a).decide:=by
    by_cases c:b=a
    .have e3:(Rep.dec b a).decide=true:=yah c;rw[e3];exact (he u').mpr #[x,r,c ▸ h]
    .have e3:(Rep.dec b a).decide=false:=yai c;rw[e3];cases k:e u' with
     | false=>rfl
     | true=>
      obtain ⟨y,r2,h2⟩:=(he u').mp k;rw[RelV.uniq r2 r]at h2;exact absurd (Rep.inj I h h2) c
   rw[e2];exact q
  .exact zrT I hu ha rv he t t2 u' z
def znr (α:Type)[Rep α](hu:X.A.units+Rep.depth (List α)<cLine):OpR X (compareOp .NotIn) (rInD α X.K true):=by
 intro pins s U H x y v u Q I rx ry h;obtain ⟨p,xs,a,as,rfl,hq,ha,hs,q⟩:=h;cases ry
 have hin:X.A.in1.units+Rep.depth α<cLine:=yaJ (ya8 zbW _) (by have e:Rep.depth (List α)=Rep.depth α+1:=rfl;lia);have he:∀ u,(@decide (∃ y,RelV y u/\Rep.has X.K H a y) (Classical.propDecidable _))=true↔∃ y,RelV y u/\Rep.has X.K H a y:=λu=>by
  exact @decide_eq_true_iff _ (Classical.propDecidable _)
 rcases hq with hq|hq
 .obtain ⟨its,r,pl,hz⟩:=I.list hq;refine SeqAt.notIn_listAt _ pl.isList (λw hw=>zrT I hin ha rx he hs r w (by simpa using hw)) #[.bl _,H,I,rfl,?_];rw[zoL,zsv I he hs r];exact q _ decide_eq_true_iff
 .obtain ⟨its,r,pl,hz⟩:=I.tuple hq;refine SeqAt.notIn_tupleAt _ pl (λw hw=>zrT I hin ha rx he hs r w (by simpa using hw)) #[.bl _,H,I,rfl,?_];rw[zoL,zsv I he hs r];exact q _ decide_eq_true_iff
end
end L2
namespace L2
open PySem PySem.Spec PyProof.Rows
def ItF (hi:Int)(n:Nat):It:=#[λi _=>i<n,λi H x H'=>H'=H/\x=.int (hi-i),λi _=>n<=i]
def zmF {K:Frag}(it:Addr)(hi:Int)(n:Nat):Turn P w K tg (ItF hi n) [it] it (λi h=>IsRangeIter h it (hi+(i:Nat)*(-1)) ((n:Int)-(i:Nat)) (-1)) where
 mem:=by simp
 obj:=λi h st b hb=>by
  have e:b=it:=by simpa using hb
  subst e;exact #[_,st,λv z=>by
   have z':Data.fields _=Data.cell v:=z;cases z']
 keep:=λi h h' st k=>k it .(h) _ st
 item:=by
  intro X hP hw hK hc i pins s U H E I hf st hg;subst hP hw hK;obtain ⟨f0,f1,f2,f3,f4,f5⟩:=hf it .(h);have W:=Walks.range (prog:=X.prog) (w:=X.w) (I.ok.hd hc) it hi (-1) n;refine W.item i s _ _ hg st λv h' tk hv st' kk=>?_;obtain ⟨t,rfl⟩:=hv;have I1:Inv X pins U H { s with heap:=h',toks:=tk }:=I.turned (λb o hb e=>kk b o (by simpa using hb) e) f0 f1 f3 f4 f5;refine #[_,rfl,zoi (s:={ s with heap:=h',toks:=tk }) (n := "range_iterator") st' rfl rfl .(k) #[.int (hi-i),H,I1,#[t,?_],.(L),st',λb hb=>(hf b hb).1]];rw[show hi+((i:Nat):Int)*(-1)=hi-i by lia]
 done:=by
  intro X hP hw hK hc i pins s U H E I hf st hg;subst hP hw hK;obtain ⟨f0,f1,f2,f3,f4,f5⟩:=hf it .(h);exact wpAny_pyNext_range_end (I.ok.hd hc) st (by have:n<=i:=hg;lia) λh' eb=>#[rfl,I.turned (t':=s.toks) (λb o hb e=>eb b o hb e) f0 f1 f3 f4 f5]
 self:=λ_ _ _ _ _ st h=>wpAny_pyIter_rangeiter st h
def zjf (a b:Int):Builtin.Range.rangeSize a b (-1)=if a>b then a-b else 0:=by
 unfold Builtin.Range.rangeSize;rw[if_neg .(k)];split
 .rw[show -(-1:Int)=1 from rfl,Int.ediv_one];lia
 .rfl
def zlS {a b:Int}(ha:-(2^62)<=a)(ha':a<2^62)(hb:-(2^62)<=b)(hb':b<2^62):Builtin.Range.small a b (-1)=true:=by
 unfold Builtin.Range.small;rw[zjf];simp only[Builtin.Range.rangeFitsLong,ybz,Bool.or_eq_true,decide_eq_true_eq,beq_iff_eq,show ¬ (-1:Int)>0 by decide,if_false];split<;>lia
section
variable {X:Cx}{tg:Expr}
def zsl {R:It->Hp->Prop}{E:Value->Shared->Prop}{hi lo:Int}{t u v:Tok}{tk:Nat}(I:Inv X pins U H s)(h1:-(2^62)<=hi)(h2:hi<2^62)(h3:-(2^62)<=lo)(h4:lo<2^62)
  (q:R (ItF hi (hi-lo).toNat) H):wpAny .(d) X.A (pyIter (.ref s.heap.objs.size)) (PIE X pins U tg R) E { s with heap:=s.heap.push { cls:=.type "range",data:=.fields (List.toArray [.int hi t,.int lo u,.int (-1) v]) },toks:=tk }:=by
 refine wpAny_pyIter_range (IsRange.new ..) (zlS h1 h2 h3 h4) ?_;have I1:Inv X pins U H { s with heap:=s.heap.push { cls:=.type "range",data:=.fields (List.toArray [.int hi t,.int lo u,.int (-1) v]) },toks:=tk }:=I.kept λb o e=>yam _ e;refine #[(s.heap.push { cls:=.type "range",data:=.fields (List.toArray [.int hi t,.int lo u,.int (-1) v]) }).objs.size,[(s.heap.push { cls:=.type "range",data:=.fields (List.toArray [.int hi t,.int lo u,.int (-1) v]) }).objs.size],_,_,H,rfl,
  I1.kept (t':=tk) λb o e=>yam _ e,zmF _ hi (hi-lo).toNat,?_,λb hb=>?_,q]
 .have e1:hi+((0:Nat):Int)*(-1)=hi:=by simp
  have e2:(((hi-lo).toNat:Nat):Int)-((0:Nat):Int)=Builtin.Range.rangeSize hi lo (-1):=by rw[zjf];split<;>lia
  show IsRangeIter _ _ (hi+((0:Nat):Int)*(-1)) ((((hi-lo).toNat:Nat):Int)-((0:Nat):Int)) (-1);rw[e1,e2];exact yaD _ rfl
 .have e:b=(s.heap.push { cls:=.type "range",data:=.fields (List.toArray [.int hi t,.int lo u,.int (-1) v]) }).objs.size:=by simpa using hb
  subst e;exact I1.fpOk (yaa _) (I1.hok.fresh (yaa _))
inductive zqU (R:It->Hp->Prop)(vs:List V)(H1:Hp):Prop
 | c:∀(i j:Int),vs=[.int i,.int j,.int (-1)]->(-(2^62)<=i/\i<2^62/\-(2^62)<=j/\j<2^62)->R (ItF i (i-j).toNat) H1->zqU R vs H1
def zut (ta:TA):TI:=λU H R=>ta U H λvs H1=>zqU R vs H1
def znk {a b c:Expr}{p pos:Pos}(hg:Gl X "range")(hm:X.mg "range" = none)(ha:PA X [a,b,c] ta)(hs:starEach [a,b,c] X.env=[(false,eval a X.env),(false,eval b X.env),(false,eval c X.env)]:=by rfl)(hs2:starEach [b,c] X.env=[(false,eval b X.env),(false,eval c X.env)]:=by rfl) :
  PI X tg (.Call (.Name "range" p) [a,b,c] [] pos) (zut ta):=by
 intro pins s U H R I h;refine Call_ (zfe I hg hm boot_range (PyProof.Rows.callWith_type1 (thn .(S) λus s1 zq0=>?_) (by rw[hs,hs2]) (by rw[hs2];rfl)));obtain ⟨vs,H1,I1,r1,q1⟩:=zq0;obtain ⟨i,j,e,⟨q1,q2,q3,q4⟩,q⟩:=q1;subst e;cases r1 with
 | cons r rr=>
  cases rr with
  | cons r' rr=>
   cases rr with
   | cons r2 rr=>
    cases rr
    obtain ⟨t,rfl⟩:=r;obtain ⟨t',rfl⟩:=r';obtain ⟨t2,rfl⟩:=r2;exact call_range_3 .(k) (zsl I1 q1 q2 q3 q4 q) (Or.inl (PyProof.noPylong_small .(k)))
end
def zp3 {hi:Int}{n:Nat}{g:TG}{tb:TS}{D:Ends}{U:St}{H:Hp}(Pv:Nat->St->Hp->Prop)(h0:Pv 0 U H)
  (hs:∀ i U H,i<n->Pv i U H->g (.int (hi-i)) U H λU2 H2=>tb { D with nx:=Pv (i+1),ct:=Pv (i+1),bk:=D.nx } U2 H2) (hd:∀ U H,Pv n U H->D.nx U H) :
  ∃ W:Nat->Nat->St->Hp->Prop,(∃ m,W 0 m U H)/\∀ i m U H,W i m U H->
   ((ItF hi n).stop i H/\D.nx U H)\/((ItF hi n).go i H/\∃ N:St->Hp->Prop,(∀ U' H',N U' H'->∃ m',m'<m/\W (i+1) m' U' H')/\∀ x H',(ItF hi n).yld i H x H'->g x U H' λU2 H2=>tb { D with nx:=N,ct:=N,bk:=D.nx } U2 H2):=by
 refine #[λi m U H=>m=n-i/\i<=n/\Pv i U H,#[n,by simp,yaF _,h0],?_];rintro i m U H ⟨rfl,hi,p⟩;by_cases hlt:i<n
 .refine .inr #[hlt,Pv (i+1),λU' H' p'=>#[n-(i+1),by lia,rfl,hlt,p'],λx H' y=>?_];obtain ⟨e,y⟩:=y;subst e y;exact hs i U _ hlt p
 .have e:i=n:=by lia
  subst e;exact .inl #[yaa _,hd U H p]
end L2
namespace L2
open PySem PySem.Spec PyProof.Rows
structure ziX (scope:Scope)(ps caps:List Str):Prop where
 kind:scope.kind=.function
 co:scope.isCoroutine=false
 gen:scope.isGenerator=false
 nocell:∀ x∈scope.names,x.2≠.cell
 par:∀ x∈ps,scope.names.lookup x=some .local
 cap:∀ x∈caps,scope.names.lookup x=some .free
 nd:(ps++caps).Nodup
def zqa (P:Program)(w:World)(K:Frag)(mg:Str->Option Value)(base:Heap)(N:List Str)(qual:Str)(scope:Scope)(f:Addr)(cd:Value)(cl:List (Str×Addr))(A:Around)(outer:List Env)(s:Shared)(H:Hp):Cx where
 prog:=P
 w:=w
 K:=K
 mg:=mg
 base:=base
 A:=A.deeper (PySem.W.envX qual scope s.heap.objs.size f cd cl)
 N:=N
 s₀:=s
 H₀:=H
 env:=PySem.W.envX qual scope s.heap.objs.size f cd cl
 outer:=outer
 stack:=PySem.W.envX qual scope s.heap.objs.size f cd cl::outer
 ex:=[]
 calm:=true
 fn:=λ_=>false
 pn:=[]
 xe:=λ_ _=>False
def zoA (c:Addr)(q:Str):Heap->Prop:=λh=>h.CodeRec (.ref c) q
def zhS (H:Hp)(c:Addr)(q:Str):Prop:=H c=some (.ext (zoA c q))
def zmn (h1 h2:Heap)(x:zoA c q h1)(k:∀ o,h1.get? c=some o->h2.get? c=some o):zoA c q h2:=by
 obtain ⟨c',o,vs,t,e,ho,r⟩:=x;cases e
 exact #[c,o,vs,t,rfl,k o ho,r]
def zhS.rec {w:World}{h:Heap}{c:Addr}(x:zhS H c q)(ok:HOk P w H h):h.CodeRec (.ref c) q:=(ok c _ x).1
def zhu {x:Str}{u:Value}:∀{ps:List Str} {us:List Value} {i:Nat},ps.Nodup->ps[i]?=some x->us[i]?=some u->(ps.zip us).reverse.lookup x=some u
 | [],_,_,_,e,_=>by simp at e
 | _::_,[],_,_,_,e=>by simp at e
 | p::ps,v::us,0,hn,e1,e2=>by
  have e1:p=x:=by simpa using e1
  have e2:v=u:=by simpa using e2
  subst e1 e2;rw[yda,ycZ,List.lookup_append];have z:(ps.zip us).reverse.lookup p=none:=by
   rw[List.lookup_eq_none_iff];intro y hy;have:=ycl (ycz.mp hy);simp only[beq_eq_false_iff_ne,ne_eq,bne_iff_ne];intro q;rw[ya4]at hn
   first
    | exact hn.1 (q ▸ this.1)
    | (rw[q]at hn;exact hn.1 this.1)
  rw[z];simp
 | p::ps,v::us,i+1,hn,e1,e2=>by
  rw[ya4]at hn;have ih:=zhu (ps:=ps) (us:=us) (i:=i) hn.2 (by simpa using e1) (by simpa using e2);rw[yda,ycZ,List.lookup_append,ih];rfl
inductive zo3 (n:Nat)(tb:TE)(vcs:List V)(c:Addr)(q:Str)(vs:List V)(H:Hp)(Q:VK)(w_1:XK):Prop
 | c:vs.length=n->zhS H c q->tb (vs.map some++vcs.map some) H Q->zo3 n tb vcs c q vs H Q w_1
def ztA {K:Frag}{base:Heap}{k:Nat}{f c:Addr}{name qual:Str}{params:Arguments}{body:Expr}{cl:List (Str×Addr)}{pm ctv:Value}{vcs:List V}
  (S:ziX scope ps caps) (hf:base.get? f=some (PySem.W.kla_obj name qual params body scope cl pm c ctv)) (hlen:vcs.length=caps.length)
  (hcap:∀(j:Nat) (x:Str) (v:V),caps[j]?=some x->vcs[j]?=some v->∃ a u,cl.lookup x=some a/\base.IsCell a (some u)/\RelV v u)
  (hcell:∀ x a,cl.lookup x=some a->∃ v,base.IsCell a v) (hinj:∀ x y a,cl.lookup x=some a->cl.lookup y=some a->x=y) (hhas:∀ x,scope.names.lookup x=some .free->∃ a,cl.lookup x=some a)
  (hb:∀(A:Around) (outer:List Env) (s:Shared) (H:Hp),Room k (A.deeper (PySem.W.envX qual scope s.heap.objs.size f (.ref c) cl))->PE (zqa P w K mg base (ps++caps) qual scope f (.ref c) cl A outer s H) body tb) :
  FnOk P w K mg base CX0 (k+1) f (PySem.W.kla_fn name qual params body scope cl pm (.ref c) ctv) ps (zo3 ps.length tb vcs c qual):=by
 refine #[λvs H Q E h=>h.1,λA outer s H args us vs Q E hr e0 hbind r hsp=>?_];obtain ⟨hl,hc,hq⟩:=hsp;have bk:∀ b o,base.get? b=some o->s.heap.get? b=some o:=λb o e=>(e0.bs b o e).1;have hul:us.length=ps.length:=by rw[<-r.length];exact hl
 refine PySem.W.kla_callFunE hr.depth (bk _ _ hf) rfl S.co S.gen rfl (hc.rec e0.hok) ?_;refine hbind _ _ _ _ ?_;refine wpAny_newFunctionEnv S.nocell (λy hy=>S.par _ (ycl hy).1) (λh1 hns hsb=>#[(e0.mod.nolimit.keeps bk).fresh _ hsb,?_]) S.kind;show codeAny _ _ (.expr body (PySem.W.envX qual scope s.heap.objs.size f (.ref c) cl)) _ _;have hk:∀ b o,s.heap.get? b=some o->h1.get? b=some o:=λb o e=>hsb.extBut b o (yau (yag e)) (yam _ e);have cellK:∀ a v,base.IsCell a v->h1.IsCell a v/\H a=none:=λa v ⟨o,ho,hd⟩=>#[#[o,hk _ _ (bk _ _ ho),hd],(e0.bs _ _ ho).2];have ndps:ps.Nodup:=(ybh.mp S.nd).1;have noA:∀ b:Addr,b∉([]:List Addr):=λb z=>absurd z .(h);have I:Inv (zqa P w K mg base (ps++caps) qual scope f (.ref c) cl A outer s H) [] (vs.map some++vcs.map some) H { s with heap:=h1,toks:=s.toks+(ps.zip us).length }:=by
  refine #[#[e0.mod,S.kind,rfl,rfl,yaa _,hinj,λy hy=>?_,λy a z _=>(by cases z),λ_=>hr.hd,Around.frames_deeper e0.frames,.inr #[rfl,rfl],λb z=>absurd z (noA b),e0.bs,e0.bsz,λb _ _=>noA b,λb z=>absurd z (noA b),e0.funs,e0.frf],
   rfl,e0.bare,Un.kept hk,#[_,hns,λi y v h1' h2 h3=>?_],λy a h=>?_,e0.hok.fresh (yaa _),λy a h=>?_,λp hp=>absurd (show p∈([]:List (Addr×Obj)) from hp) (by simp),e0.hok.kept hk,?_]
  .have hy:scope.names.lookup y=some .cell\/scope.names.lookup y=some .free:=hy;rcases hy with hy|hy
   .exact absurd rfl (S.nocell _ (PySem.mem_of_lookup hy))
   .exact hhas y hy
  .have h1':(ps++caps)[i]?=some y:=h1';by_cases hi:i<ps.length
   .rw[ybu hi]at h1';rw[ybu .(G),yax]at h2;cases e:vs[i]? with
    | none=>rw[e]at h2;cases h2
    | some v'=>
     rw[e]at h2;cases h2
     obtain ⟨u,hu,ru⟩:=r.get e;exact #[u,ru,.inl #[S.par y (yaM h1'),zhu ndps h1' hu]]
   .rw[ybt .(a)]at h1';rw[ybt .(G),yab,yax]at h2;cases e:vcs[i-vs.length]? with
    | none=>rw[e]at h2;cases h2
    | some v'=>
     rw[e]at h2;cases h2
     rw[hl]at e;obtain ⟨a,u,e1,e2,ru⟩:=hcap _ _ _ h1' e;exact #[u,ru,.inr #[.inr (S.cap y (yaM h1')),a,e1,(cellK _ _ e2).1]]
  .obtain ⟨v,z⟩:=hcell y a h;exact #[v,(cellK _ _ z).1]
  .obtain ⟨v,z⟩:=hcell y a h;exact (cellK _ _ z).2
  .show (vs.map some++vcs.map some).length=(ps++caps).length;rw[yan,yan,yab,yab,hl,hlen]
 refine PySem.W.kla_codeExpr (wpAny_mono (hb A outer s H (hr.deeper _) [] _ _ H Q I hq) (λu s' hu=>?_) λ_ _ z=>(show False from z).elim);obtain ⟨v,H',J,rv,q⟩:=hu;exact #[v,H',J.os,J.bare,J.base,J.hok,rv,q]
end L2
namespace L2
open PySem PySem.Spec PyProof.Rows
def Gro (Pt:Addr)(H H':Hp):Prop:=∀ b o,b≠Pt->H b=some o->H' b=some o
def Gro.refl (Pt:Addr)(H:Hp):Gro Pt H H:=λ_ _ _ h=>h
structure zbw (H:Hp)(Pt:Addr)(pos:Pos)(q:Str):Prop where
 ex:∃ tab:Array Value,H Pt=some (.tbl tab)/\TriplesOk tab.toList/\(codeAmong pos tab.toList=none\/∃ c,codeAmong pos tab.toList=some (.ref c)/\zhS H c q)
def zbw.ext (x:zbw H Pt pos q)(e:Ext H H'):zbw H' Pt pos q:=by
 obtain ⟨tab,h1,h2,h3⟩:=x.ex;refine #[tab,e _ _ h1 nofun,h2,?_];rcases h3 with h3|⟨c,h3,h4⟩
 .exact .inl h3
 .exact .inr #[c,h3,e _ _ h4 nofun]
def BMAt (mg:Str->Option Value)(base:Heap):Prop:=∃ bm o,mg "__builtins__" = some (.ref bm)/\bm≠builtinsNs/\bm≠mainGlobals/\base.get? bm=some o/\o.cls=.type "module"/\o.dict=some builtinsNs/\o.data=.plain
section
variable {X:Cx}{pins:List (Addr×Obj)}{U:St}{H:Hp}{s:Shared}{params:Arguments}{body:Expr}{scope:Scope}{lpos:Pos}{c Pt:Addr}{Q:Value->Shared->Prop}
def zp0 {c':Addr}{q:Str}{tab more:Array Value}{h':Heap}{tk:Nat}(I:Inv X pins U H s)(hP:H Pt=some (.tbl tab))(hx:∀ b o,b≠Pt->s.heap.get? b=some o->h'.get? b=some o)(hge:s.heap.objs.size<=c')
  (hrec:h'.CodeRec (.ref c') q) (htb:h'.get? Pt=some (PySem.W.tabObj (tab++more))):Inv X pins U (upd (upd H Pt (.tbl (tab++more))) c' (.ext (zoA c' q))) { s with heap:=h',toks:=tk }:=by
 have hfr:H c'=none:=I.hok.fresh hge;have nPc:Pt≠c':=zad hP hfr;have low:∀ b u,H b=some u->b≠c':=λb u e=>zad e hfr;have lows:∀ b o,s.heap.get? b=some o->b≠c':=λb o e=>yau (yak (yag e) hge);have nP:∀ b,H b=none->b≠Pt:=λb n z=>by rw[z,hP]at n;cases n
 refine I.un (t':=tk) #[λb o e n _ _=>hx b o (nP b n) e,λb o e n _ _=>#[o.slots,hx b o (nP b n) e],λb o e n _=>?_,λb o e _=>?_,λb xs e=>?_,λb o u e=>?_,λb ps e=>?_] λa o e=>?_
 .rw[zag (lows b o e),zag (nP b n)];exact n
 .by_cases z:b=Pt
  .exact #[_,by rw[z];exact htb]
  .exact #[o,hx b o z e]
 .rw[zag (low b _ e),zag (λz=>by rw[z,hP]at e;cases e)]
  exact e
 .rw[zag (low b _ e),zag (λz=>by rw[z,hP]at e;cases e)]
  exact e
 .by_cases z:b=Pt
  .rw[z,hP]at e;cases e
   exact #[more,by rw[z,zag nPc,zab]]
  .exact #[(List.toArray []),by rw[zag (low b _ e),zag z,e];simp]
 .by_cases z:a=c'
  .subst z;rw[zab]at e;cases e
   obtain ⟨c2,o2,vs,t,e2,ho2,r2⟩:=id hrec;cases e2
   exact #[hrec,#[o2,ho2],λh1 h2 x k=>zmn h1 h2 x k]
  .rw[zag z]at e;by_cases y:a=Pt
   .subst y;rw[zab]at e;cases e
    exact htb
   .rw[zag y]at e;refine (I.hok a o e).stay (λb u hb q=>hx b u ?_ q) (λb q=>?_) λb xs q=>?_
    .rcases hb with rfl|hb
     .exact y
     .intro z2;rw[z2,hP]at hb;cases hb
    .rw[zag (low b _ q),zag (λz2=>by rw[z2,hP]at q;cases q)]
     exact q
    .rw[zag (low b _ q),zag (λz2=>by rw[z2,hP]at q;cases q)]
     exact q
def zpP (I:Inv X pins U H s)(hdef:defaultsOf params X.env=([],[]))(hfr:∀ x,(x,NameKind.free)∈scope.names->(X.env.kindOf x=some .cell\/X.env.kindOf x=some .free))(hcode:X.env.code=.ref c)(hC:codeHdIn X.K c Pt=true)(hBM:BMAt X.mg X.base)
  (hT:zbw H Pt lpos .(s))
  (h:∀(f c':Addr) (cl:List (Str×Addr)) (pm ctv:Value) (H':Hp) (s':Shared),zjW scope X.env cl->Inv X pins U H' s'->s'.heap.get? f=some (PySem.W.kla_obj "<lambda>" (X.env.qual ++ "<lambda>") params body scope cl pm c' ctv)->H' f=none->s.heap.objs.size<=f->
   Gro Pt H H'->zbw H' Pt lpos (X.env.qual ++ "<lambda>")->zhS H' c' (X.env.qual ++ "<lambda>")->Q (.ref f) s') :
  wpAny .(d) X.A (eval (.Lambda params body scope lpos) X.env) Q X.xe s:=by
 obtain ⟨cl,hcl⟩:=zg4 (scope:=scope) (env:=X.env) λx hx=>I.ok.has x (hfr x hx);obtain ⟨tab,hP,ht,hor⟩:=hT.ex;have hPo:s.heap.get? Pt=some (PySem.W.tabObj tab):=I.hok Pt _ hP;have C:PySem.W.CodeHd s.heap c Pt:=(PySem.W.codeHd_of_K I.ok.mod.kin hC).keeps I.bk;have hgl:=I.mod.glob.keeps I.bk;have hgP:mainGlobals≠Pt:=λz=>by
  obtain ⟨o,es,ep,e,_⟩:=I.mod.glob;have:=(I.bs _ _ e).2;rw[z,hP]at this;cases this
 have hb:s.heap.BuiltinsAt X.mg Pt:=by
  obtain ⟨bm,o,b1,b2,b3,b4,b5⟩:=hBM;refine #[bm,o,b1,b2,b3,λz=>?_,I.bk _ _ b4,b5];have:=(I.bs _ _ b4).2;rw[z,hP]at this;cases this
 refine PySem.W.kla_eval hdef ?_;rcases hor with hnone|⟨c',hsome,hca⟩
 .refine PySem.W.kla_makeFunction (clos:=cl) hcl.eq I.ok.glob hgl hcode C hPo ht hnone hgP hb λc' ctv h' tk hx hge hlt hrec htb=>?_;have hx':∀ o2 b o,b≠Pt->s.heap.get? b=some o->(h'.push o2).get? b=some o:=λo2 b o n e=>yam _ (hx b o n e);have I':=zp0 (c':=c') (q:=X.env.qual ++ "<lambda>") (tk:=tk) I hP (hx' _) hge (hrec.push (PySem.W.kla_obj "<lambda>" .(s) params body scope cl ((X.mg "__name__").getD .none) c' ctv)) (yam _ htb);have hsz:s.heap.objs.size<=h'.objs.size:=yaj (yaJ hge hlt);have nPc:Pt≠c':=zad hP (I.hok.fresh hge);have eT:(tab++(List.toArray [rawInt lpos.line,rawInt lpos.col,.ref c'])).toList=tab.toList++[rawInt lpos.line,rawInt lpos.col,.ref c']:=by simp
  have hTI:zbw (upd (upd H Pt (.tbl (tab++(List.toArray [rawInt lpos.line,rawInt lpos.col,.ref c'])))) c' (.ext (zoA c' (X.env.qual ++ "<lambda>")))) Pt lpos .(s):=
   #[_,by rw[zag nPc,zab],by rw[eT];exact TriplesOk_snoc _ _ _ _ ht,.inr #[c',by rw[eT];exact codeAmong_snoc _ ht hnone,zab]]
  refine h h'.objs.size c' cl _ ctv _ _ hcl I' (yaD _ rfl) ?_ hsz ?_ hTI zab
  .rw[zag (ybG hlt),zag (λz=>?_)]
   .exact I.hok.fresh hsz
   .have:=yag hPo;rw[<-z]at this;exact absurd this (ybY.mpr hsz)
  .intro b o n e;rw[zag (zad e (I.hok.fresh hge)),zag n];exact e
 .refine PySem.W.kla_makeFunctionHit (clos:=cl) hcl.eq I.ok.glob hgl hcode C hPo ht hsome hb λctv h' tk hk hsz=>?_;exact h h'.objs.size c' cl _ ctv H _ hcl (I.kept (t':=tk) λb o e=>yam _ (hk b o e)) (yaD _ rfl) (I.hok.fresh hsz) hsz (Gro.refl _ _) hT hca
end
end L2
namespace L2
open PySem PySem.Spec PyProof.Rows
def zfr (X:Cx)(s:Shared)(H:Hp):Heap:=PySem.W.hideAll s.heap (trk s.heap H++frs X.stack)
def zgY {h b1 b2:Heap}:∀{l:List Env},h.FunFrames b1 l->(∀ b∈frs l,b2.get? b=none)->h.FunFrames b2 l
 | [],_,_=>trivial
 | env::l,⟨h1,⟨L,o,h2,h3,h4,h5⟩,h6⟩,k=>by
  have m:∀ b∈frs l,b∈frs (env::l):=λb hb=>by
   unfold frs;rw[yb2,h2];exact yaz _ hb
  refine #[h1,#[L,o,h2,k L ?_,h4,h5],zgY h6 λb hb=>k b (m b hb)];unfold frs;rw[yb2,h2];exact yaB
section
variable {X:Cx}{pins:List (Addr×Obj)}{U:St}{H:Hp}{s:Shared}
def zfQ {b:Addr}{o:Obj}(e:s.heap.get? b=some o)(n:H b=none)(hf:b∉frs X.stack):(zfr X s H).get? b=some o:=
 PySem.W.hideAll_get _ e λhm=>by
  rcases yal.mp hm with z|z
  .have q:(H b).isSome=true:=(ybj.mp z).2;rw[n]at q;cases q
  .exact hf z
def zjo {b:Addr}{o:Obj}(e:(zfr X s H).get? b=some o):s.heap.get? b=some o/\H b=none/\b∉frs X.stack:=by
 have e1:=PySem.W.of_hideAll _ e;have hm:b∉trk s.heap H++frs X.stack:=λz=>by
  unfold zfr at e;rw[PySem.W.hideAll_none _ z]at e;cases e
 rw[yal,not_or]at hm;refine #[e1,?_,hm.2];cases q:H b with
 | none=>rfl
 | some u=>exact absurd (ybj.mpr #[ybk.mpr (yag e1),by rw[q];rfl]) hm.1
def zmq (I:Inv X pins U H s):∀ b o,X.base.get? b=some o->(zfr X s H).get? b=some o:=λb o e=>by
 obtain ⟨h1,h2⟩:=I.bs b o e;refine zfQ h1 h2 λz=>?_;have:=(I.stack.mem z).1;rw[e]at this;cases this
def zkJ (I:Inv X pins U H s):Env0 X.prog X.w X.K X.mg (zfr X s H) X.A X.stack s H:=by
 have sub:=zmq I;refine #[I.ok.frames,#[I.mod.kin.keeps sub,I.mod.glob.keeps sub,?_,I.mod.nolimit.keeps sub],λb o e=>#[(zjo e).1,(zjo e).2.1],yaS (PySem.W.hideAll_size _ _),zgY I.stack λb hb=>PySem.W.hideAll_none _ (yaI _ hb),I.stkFree,I.hok,I.bare];obtain ⟨mb,h1,h2⟩:=I.mod.blt;exact #[mb,h1.keeps sub,h2]
end
structure FV (P:Program)(w:World)(K:Frag)(mg:Str->Option Value)(base:Heap)(k:Nat)(f:Addr)(ps:List Str)(sp:Sp):Prop where
 ex:∃ fd,FnOk P w K mg base CX0 k f fd ps sp/\zdx K fd ps []/\PySem.W.FnAt f base
section
variable {X:Cx}
def zsT (X:Cx)(kr:Nat)(tf:TE)(t:TA):TE:=λU H Q=>tf U H λx H1=>∃ f k ps sp,x=.ref f/\FV X.prog X.w X.K X.mg X.base k f ps sp/\k<=kr/\t U H1 λvs H2=>sp vs H2 Q E0
def zpl {x:Str}{e:Expr}{es:List Expr}{t:TA}{p pos:Pos}(hr:Room kr X.A)(hf:PE X (.Name x p) tf)(ha:PA X (e::es) t)
  (he:starEach (e::es) X.env= .(B)::starEach es X.env:=by rfl) (hpl: .(t).any (·.1)=false:=by rfl):PE X (.Call (.Name x p) (e::es) [] pos) (zsT X kr tf t):=by
 intro pins s U H Q I h;refine wpAny_Call_Name_kw (thn (hf pins s U H _ I h) λu s1 zq0=>?_);obtain ⟨x1,H1,I1,r1,q1⟩:=zq0;obtain ⟨f,k,ps,sp,rfl,hF,hk,q⟩:=q1;cases r1
 obtain ⟨fd,ok,bd,oc,od,fd2,sl,ho⟩:=hF.ex;refine PySem.W.callWith_F #[oc,od,fd2,sl,I1.bk _ _ ho] (thn (ha pos pins s1 U H1 _ I1 q) λus s2 zq0=>?_) he hpl;obtain ⟨vs,H2,I2,r,q2⟩:=zq0;refine #[#[oc,od,fd2,sl,I2.bk _ _ ho],?_];exact zk7 ok (hr.mono hk) bd .nil znm I2 r (by rw[yaw];exact q2)
structure zsD (X:Cx)(params:Arguments)(body:Expr)(scope:Scope)(ps caps:List Str)(cap:List Nat):Prop where
 sc:ziX scope ps caps
 frees:∀ x,(x,NameKind.free)∈scope.names->(X.env.kindOf x=some .cell\/X.env.kindOf x=some .free)
 capAt:∀(j:Nat) (x:Str),caps[j]?=some x->∃ i:Nat,cap[j]?=some i/\X.N[i]?=some x/\(X.env.kindOf x=some .cell\/X.env.kindOf x=some .free)
 dflt:defaultsOf params X.env=([],[])
 binds:∀(cl:List (Str×Addr)) (pm cdv ct:Value) (us:List Value),us.length=ps.length->bindArgs (PySem.W.kla_fn "<lambda>" .(s) params body scope cl pm cdv ct) #[us,[]]=pure (ps.zip us)
 own:∀ x,X.fn x=true
def zuy {f c':Addr}{pm ctv:Value}{vcs:List V}{k n:Nat}(I:Inv X pins U H s)(L:zsD X params body scope ps caps cap)(hcl:zjW scope X.env cl)
  (ho:s.heap.get? f=some (PySem.W.kla_obj "<lambda>" .(s) params body scope cl pm c' ctv)) (hn:H f=none) (hfr:∀ b∈frs X.stack,b<n) (hge:n<=f)
  (hv:vcs.length=caps.length) (hvs:∀(j i:Nat) (v:V),cap[j]?=some i->vcs[j]?=some v->U[i]?=some (some v))
  (hb:∀(base:Heap) (f:Addr) (cd:Value) (cl:List (Str×Addr)) (A:Around) (outer:List Env) (s:Shared) (H:Hp),Room k (A.deeper (PySem.W.envX .(s) scope s.heap.objs.size f cd cl))->PE (zqa X.prog X.w X.K X.mg base (ps++caps) .(s) scope f cd cl A outer s H) body tb) :
  FV X.prog X.w X.K X.mg (zfr X s H) (k+1) f ps (zo3 ps.length tb vcs c' .(s)):=by
 have nf:f∉frs X.stack:=λz=>absurd (yak (hfr f z) hge) (ybF _);have hbf:=zfQ (X:=X) ho hn nf;have cellB:∀ x a v,X.env.cells.lookup x=some a->s.heap.IsCell a v->(zfr X s H).IsCell a v:=λx a v e ⟨o,h1,h2⟩=>by
  refine #[o,zfQ h1 (I.freeC x a e) λz=>?_,h2];rcases yaq.mp (I.stkSub a z) with y|y
  .exact I.cne x a e y
  .obtain ⟨_,o2,h3,_⟩:=I.ok.funs.mem y;exact absurd (yak (yag h3) (I.ok.cab x a (L.own x) e)) (ybF _)
 refine #[_,ztA L.sc hbf hv (λj x v h1 h2=>?_) (λx a e=>?_) (λx y a h1 h2=>I.ok.inj x y a (hcl.sub x a h1) (hcl.sub y a h2)) (λx e=>?_) (λA outer s H hr=>hb _ f _ cl A outer s H hr),.all (L.binds cl pm (.ref c') ctv),#[_,_,_,_,hbf]]
 ·obtain ⟨i,e1,e2,e3⟩:=L.capAt j x h1;obtain ⟨m,hm,hl⟩:=I.loc;obtain ⟨u,ru,lk⟩:=hl i x v e2 (hvs j i v e1 h2) (by
   rcases e3 with z|z
   .exact .inr (.inl z)
   .exact .inr (.inr z))
  rcases lk with ⟨z,_⟩|⟨_,a,e4,e5⟩
  .rcases e3 with y|y
   .rw[y]at z;cases z
   .rw[y]at z;cases z
  .obtain ⟨a',e6⟩:=hcl.has x (PySem.mem_of_lookup (L.sc.cap x (yaM h1)));have e7:=hcl.sub x a' e6;rw[e4]at e7;cases e7
   exact #[a,u,e6,cellB x a _ e4 e5,ru]
 .obtain ⟨v,z⟩:=I.cell x a (hcl.sub x a e);exact #[v,cellB x a v (hcl.sub x a e) z]
 .exact hcl.has x (PySem.mem_of_lookup e)
def zo0 (X:Cx)(n kf:Nat)(ps:List Str)(cap:List Nat)(Pt:Addr)(lpos:Pos)(tb te:TE)(spH:Heap->Sp):TE:=λU H Q=>te U H λx1 H1=>zbw H1 Pt lpos .(s)/\∃ vcs:List V,vcs.length=n/\(∀(j i:Nat) (v:V),cap[j]?=some i->vcs[j]?=some v->U[i]?=some (some v))/\
 ∀(base:Heap) (f c':Addr) (H2:Hp),Gro Pt H1 H2->zbw H2 Pt lpos .(s)->zhS H2 c' .(s)->FV X.prog X.w X.K X.mg base kf f ps (zo3 ps.length tb vcs c' .(s))->spH base [x1,.ref f] H2 Q E0
def zlZ {q1 q2:Str}{lpos p pos:Pos}{spH:Heap->Sp}{k:Nat}{c Pt:Addr}
  (F:∀ base,FC X.prog X.w X.K X.mg base j x [q1,q2] (spH base)) (hr:Room k X.A) (h1:PE X e1 te) (L:zsD X params body scope ps caps cap) (hcode:X.env.code=.ref c) (hC:codeHdIn X.K c Pt=true) (hBM:BMAt X.mg X.base)
  (hb:∀(base:Heap) (f:Addr) (cd:Value) (cl:List (Str×Addr)) (A:Around) (outer:List Env) (s:Shared) (H:Hp),Room kf (A.deeper (PySem.W.envX .(s) scope s.heap.objs.size f cd cl))->PE (zqa X.prog X.w X.K X.mg base (ps++caps) .(s) scope f cd cl A outer s H) body tb)
  (hjk:j<=k:=by decide) (hg:Gl X x:=by rfl) (hdb: .(r)=false:=by decide) (he:starEach [e1,.Lambda params body scope lpos] X.env=(false,eval e1 X.env)::starEach [.Lambda params body scope lpos] X.env:=by rfl)
  (he2:starEach [.Lambda params body scope lpos] X.env=[(false,eval (.Lambda params body scope lpos) X.env)]:=by rfl) (hpl:(backTo pos (starEach [.Lambda params body scope lpos] X.env)).any (·.1)=false:=by rfl) :
  PE X (.Call (.Name x p) [e1,.Lambda params body scope lpos] [] pos) (zo0 X caps.length (kf+1) ps cap Pt lpos tb te spH):=by
 intro pins s U H Q I h;obtain ⟨g,fd,_,_,kp,m,oc,od,osl,lk⟩:=(F X.base).ex;refine wpAny_Call_Name_kw (zeE I hg m ?_ hdb);refine PySem.W.callWith_K (h₀:=X.base) I.ok.mod.kin kp ?_ he hpl;rw[he];show wpAny _ _ (spliced ((false,eval e1 X.env)::backTo pos (starEach [.Lambda params body scope lpos] X.env))) _ _ s;refine Calls.spliced_cons (thn (h1 pins s U H _ I h) λu s1 zq0=>?_);obtain ⟨x1,H1,I1,r1,q1⟩:=zq0;obtain ⟨hT,vcs,hv,hvs,q⟩:=q1;rw[he2];show wpAny _ _ (spliced ((false,eval (.Lambda params body scope lpos) X.env)::[])) _ _ s1;refine Calls.spliced_cons (zpP I1 L.dflt L.frees hcode hC hBM hT λf c' cl pm ctv H2 s2 hcl I2 ho hn hge hgr hT2 hca=>?_);refine Calls.spliced_nil #[I2.kIn,?_];have hF:=zuy (k:=kf) (n:=s1.heap.objs.size) I2 L hcl ho hn (λb hb=>by
  obtain ⟨_,o,e,_⟩:=I1.stack.mem hb;exact yag e) hge hv hvs hb
 have hsp:=q (zfr X s2 H2) f c' H2 hgr hT2 hca hF;obtain ⟨g2,fd2,ok,bd,_,m2,_⟩:=(F (zfr X s2 H2)).ex;rw[m]at m2;cases m2
 have r2:Vals [x1,.ref f] [u,.ref f]:=.cons r1 (.cons rfl .nil);refine wpAny_call (codeAny_mono (ok.run X.A X.stack s2 H2 #[[u,.ref f],[]] [u,.ref f] [x1,.ref f] Q E0 (hr.mono hjk) (zkJ I2) (bd s2 [u,.ref f] I2.kIn rfl) r2 hsp) λr s' hq=>?_);cases r with
 | error e=>exact False.elim hq
 | ok fl=>
  cases fl with
  | ret u=>exact I2.after hq
  | next=>exact False.elim hq
  | brk=>exact False.elim hq
  | cont=>exact False.elim hq
end
end L2
namespace L2
open PySem PySem.Spec PyProof.Rows
def znX {K:Frag}{mg mb:Str->Option Value}{k:Nat}{fa a:Addr}{x:Str}{s₁:Shared}{vs:List Value}{ns:List Int}{tabs:List (Addr×Addr)}
  (KX:K.In s₁.heap) (hns:s₁.heap.Ns mainGlobals mg) (hb:s₁.heap.Ns builtinsNs mb) (hbb:∀ x:Str,x ≠ "__name__"->mb x=bootBuiltins x) (hlim:s₁.heap.NoLimit) (hg:s₁.gens=(List.toArray [])) (hBM:BMAt mg s₁.heap)
  (hT:PySem.W.TabsAt tabs s₁.heap) (hKT:∀ q∈tabs,K.lookup q.2=none)
  (ha:s₁.heap.get? a=some { cls:=.type "list",data:=.seq vs.toArray }) (hi:IntsAre vs ns) (hl:ns.length<=sizeLine) (hr:Room k callerA)
  (F:∀ base:Heap,K.In base->base.Ns mainGlobals mg->BMAt mg base->FnOk P w K mg base CX k fa fd [x] sp) (hbind:∀(s:Shared) (u:Value),BindsTo s fd #[[u],[]] [(x,u)])
  (hsp:∀ H:Hp,(∀ q∈tabs,H q.2=some (.tbl (List.toArray [])))->SqL K H a .(E)->sp [.ref a] H (λv _=>v=.bl true) λ_ _ _=>False)
  (hCX:∀ H e s',CX [] H s₁ (λ_ _ _=>False) e s'->False) :
  codeAny (model P w) callerA (.call (.ref fa) #[[.ref a],[]]) (λr s'=>r=.ok (.ret (.bool true))/\OldK s₁.heap s'.heap/\s'.os=s₁.os/\AllBare s'.gens) s₁:=by
 have rv:=ziZ hi;have lenV:=hi.length;have tabO:∀ b,b∈tabs.map (·.2)->s₁.heap.get? b=some (PySem.W.tabObj (List.toArray []))/\isCodeTable s₁.heap b/\K.lookup b=none:=λb hm=>by
  obtain ⟨q,hq,rfl⟩:=yaE.mp hm;exact #[(hT q hq).2,((hT q hq).1.tab (hT q hq).2).isCodeTable,hKT q hq]
 have nat:a∉tabs.map (·.2):=λz=>by
  have:=(tabO a z).1;rw[ha]at this;cases this
 have core:∀ Hs:Hp,(∀ b,Hs b=none\/(b=a/\Hs b=some (.frz { cls:=.type "list",data:=.seq vs.toArray } (.lst .(E)))))->(∀ H:Hp,(∀ b,b∉tabs.map (·.2)->H b=Hs b)->SqL K H a .(E))->(Hs a≠none->K.lookup a=none)->
   codeAny (model P w) callerA (.call (.ref fa) #[[.ref a],[]]) (λr s'=>r=.ok (.ret (.bool true))/\OldK s₁.heap s'.heap/\s'.os=s₁.os/\AllBare s'.gens) s₁:=by
  intro Hs hO hS hK;obtain ⟨H,hH⟩:∃ H:Hp,H=λb=>if b∈tabs.map (·.2) then some (.tbl (List.toArray [])) else Hs b:=#[_,rfl]
  have H1:∀ b,b∈tabs.map (·.2)->H b=some (.tbl (List.toArray [])):=λb z=>by rw[hH];exact if_pos z
  have H2:∀ b,b∉tabs.map (·.2)->H b=Hs b:=λb z=>by rw[hH];exact if_neg z
  have cases3:∀ b,H b=none\/(b=a/\H b=some (.frz { cls:=.type "list",data:=.seq vs.toArray } (.lst .(E))))\/(b∈tabs.map (·.2)/\H b=some (.tbl (List.toArray []))):=λb=>by
   by_cases z:b∈tabs.map (·.2)
   .exact .inr (.inr #[z,H1 b z])
   .rcases hO b with y|⟨y1,y2⟩
    .exact .inl ((H2 b z).trans y)
    .exact .inr (.inl #[y1,(H2 b z).trans y2])
  have hok:HOk P w H s₁.heap:=λb u e=>by
   rcases cases3 b with y|⟨y1,y2⟩|⟨y1,y2⟩
   .rw[y]at e;cases e
   .rw[y2]at e;cases e
    subst y1;exact #[ha,by rw[yab];exact hl,vs,_,rv,ha]
   .rw[y2]at e;cases e
    exact (tabO b y1).1
  have base_of:∀{b:Addr} {o:Obj},s₁.heap.get? b=some o->H b=none->(hidT s₁.heap H).get? b=some o:=λe n=>zpV e n;have noD:∀{b:Addr} {o:Obj},s₁.heap.get? b=some o->(∀ xs n,o.data≠.seq xs n)->(∀ xs,o.data≠.fields xs)->H b=none:=λ{b o} e d1 d2=>by
   rcases cases3 b with y|⟨y1,y2⟩|⟨y1,y2⟩
   .exact y
   .subst y1;rw[ha]at e;cases e
    exact absurd rfl (d1 _ _)
   .rw[(tabO b y1).1]at e;cases e
    exact absurd rfl (d2 _)
  have nsK:∀{b:Addr} {m:Str->Option Value},s₁.heap.Ns b m->(hidT s₁.heap H).Ns b m:=λ{b m} ⟨o,es,ep,e,d,r⟩=>#[o,es,ep,base_of e (noD e (λ_ _ z=>by rw[d]at z;cases z) (λ_ z=>by rw[d]at z;cases z)),d,r]
  have hKb:K.In (hidT s₁.heap H):=λb o e=>base_of (KX b o e) (by
   rcases cases3 b with y|⟨y1,y2⟩|⟨y1,y2⟩
   .exact y
   .subst y1;rw[hK (by rw[<-H2 b nat,y2];exact λz=>nomatch z)]at e;cases e
   .rw[(tabO b y1).2.2]at e;cases e)
  have hM:Mod K mg (hidT s₁.heap H):=#[hKb,nsK hns,#[mb,nsK hb,hbb],let ⟨mc,h1,h2⟩:=hlim;#[mc,nsK h1,h2]];have hBMb:BMAt mg (hidT s₁.heap H):=by
   obtain ⟨bm,o,b1,b2,b3,b4,b5,b6,b7⟩:=hBM;exact #[bm,o,b1,b2,b3,base_of b4 (noD b4 (λ_ _ z=>by rw[b7]at z;cases z) (λ_ z=>by rw[b7]at z;cases z)),b5,b6,b7]
  have e0:Env0 P w K mg (hidT s₁.heap H) callerA [] s₁ H:=#[rfl,hM,λb o e=>zrS e,yaS (zn8 _ _),trivial,λb hb=>absurd (show b∈([]:List Addr) from hb) .(h),hok,.of_eq hg];refine codeAny_mono ((F _ hKb (nsK hns) hBMb).run callerA [] s₁ H #[[.ref a],[]] [.ref a] [.ref a] _ _ hr e0 (hbind s₁ (.ref a)) (.cons rfl .nil) (hsp H (λq hq=>H1 _ (List.mem_map_of_mem hq)) (hS H H2))) λr s' h=>?_;cases r with
  | error e=>exact (hCX H e s' h).elim
  | ok fl=>
   cases fl with
   | next=>exact False.elim h
   | brk=>exact False.elim h
   | cont=>exact False.elim h
   | ret u=>
    obtain ⟨v,H',os,bare,un,hok',r',q⟩:=h;have q':v=.bl true:=q;subst q';obtain rfl:u=Value.bool true:=r';have keep:∀ b o,H b=none->s₁.heap.get? b=some o->s'.heap.get? b=some o:=λb o n e=>un.keep b o e n (by intro z;exact absurd (show b∈([]:List Addr) from z) .(h)) .(h);have frz:∀ b o,b=a->H b=some (.frz { cls:=.type "list",data:=.seq vs.toArray } (.lst .(E)))->s₁.heap.get? b=some o->s'.heap.get? b=some o:=λb o y1 y2 e=>by
     obtain ⟨e1,_⟩:=hok b _ y2;obtain ⟨e2,_⟩:=hok' b _ (un.frzs b _ _ y2);rw[e]at e1;cases e1
     exact e2
    have tbl:∀ b,H b=some (.tbl (List.toArray []))->∃ ps,s'.heap.get? b=some (PySem.W.tabObj ps):=λb y=>by
     obtain ⟨more,e⟩:=un.tbls b _ y;exact #[_,hok' b _ e]
    refine #[rfl,#[λb o e=>?_,λb o e=>?_],os,bare]
    .rcases cases3 b with y|⟨y1,y2⟩|⟨y1,y2⟩
     .exact .inl (keep b o y e)
     .exact .inl (frz b o y1 y2 e)
     .obtain ⟨ps,hp⟩:=tbl b y2;obtain ⟨t1,t2,_⟩:=tabO b y1;rw[e]at t1;cases t1
      exact .inr (.inl #[t2,rfl,(List.toArray []),ps,rfl,by rw[Array.empty_append];exact hp])
    .rcases cases3 b with y|⟨y1,y2⟩|⟨y1,y2⟩
     .exact #[o,keep b o y e]
     .exact #[o,frz b o y1 y2 e]
     .obtain ⟨ps,hp⟩:=tbl b y2;exact #[_,hp]
 cases hk:K.lookup a with
 | some o=>
  have e:=KX a o hk;rw[ha]at e;cases e
  exact core (λ_=>none) (λ_=>.inl rfl) (λH _=>.inr #[_,vs.toArray,_,hk,rfl,rfl,rfl,by rw[yay,lenV];exact hl,by simpa using rv]) λz=>absurd rfl z
 | none=>
  refine core (λb=>if b=a then some (.frz { cls:=.type "list",data:=.seq vs.toArray } (.lst .(E))) else none) (λb=>?_) (λH h=>.inl (.inr #[{ cls:=.type "list",data:=.seq vs.toArray },by rw[h a nat];exact if_pos rfl])) λ_=>hk
  by_cases z:b=a
  .exact .inr #[z,if_pos z]
  .exact .inl (if_neg z)
def zoR {l:OpenLaw}{n k:Nat}{q:Program}{loose:List Str}{XP:(Str->Option Value)->Heap->Prop}{YP:World->Heap->Prop}{d:DefRec}{K:Params->Frag}{sp:World->Sp}{x:Str}{tabs:List (Addr×Addr)}
  (hn:l.most=some n) (hn2:n<=sizeLine) (hdf:d.params.defaults=[]) (hr:Room k callerA)
  (hY:∀(w:World) (h:Heap),YP w h->(K w.params).In h) (hYT:∀(w:World) (h:Heap),YP w h->∀ q∈tabs,h.get? q.2=some (PySem.W.tabObj (List.toArray [])))
  (hC:∀(w:World),∀ q∈tabs,codeHdIn (K w.params) q.1 q.2=true/\(K w.params).lookup q.2=none)
  (F:∀(w:World) (mg:Str->Option Value) (fa:Addr) (h:Heap),(K w.params).In h->h.Ns mainGlobals mg->mg d.name=some (.ref fa)->
   ∃ fd:FuncData,(∀(s:Shared) (u:Value),BindsTo s fd #[[u],[]] [(x,u)])/\
    ∀ base:Heap,(K w.params).In base->base.Ns mainGlobals mg->BMAt mg base->FnOk l.prog w (K w.params) mg base CX0 k fa fd [x] (sp w))
  (hsp:∀(w:World) (H:Hp) (a:Addr) (ns:List Int),ns.length<=n->(∀ q∈tabs,H q.2=some (.tbl (List.toArray [])))->SqL (K w.params) H a .(E)->sp w [.ref a] H (λv _=>v=.bl true) λ_ _ _=>False) :
  PySem.W.WalkO q loose XP YP l.row.toRowW d [] (λf vs=>PySem.call f vs):=by
 refine Att.attach_call hn hdf λw s₀ s₁ mg mb fa o pm cd doc a vs ns G Y ho hd hcd hmg hobj hints hlen hg=>?_;have KX:=hY w _ Y;obtain ⟨fd,hb,hF⟩:=F w mg fa _ KX G.T.g hmg;have hBM:BMAt mg s₁.heap:=by
  obtain ⟨bm,ob,b1,b2,b3,b4,b5,b6⟩:=G.T.bmain;refine #[bm,ob,b1,b2,λz=>?_,b3,b4,b5,b6];obtain ⟨o,es,ep,e,hd,_⟩:=G.T.g;rw[z,e]at b3;cases b3
  rw[hd]at b6;cases b6
 exact znX (tabs:=tabs) KX G.T.g G.T.b G.T.builtins G.T.nolimit hg hBM (λq hq=>#[PySem.W.codeHd_of_K KX (hC w q hq).1,hYT w _ Y q hq]) (λq hq=>(hC w q hq).2) hobj hints (yad hlen hn2) hr hF hb (λH hO hS=>hsp w H a ns hlen hO hS) λH e s' z=>z
structure DFT (K:Frag)(mg:Str->Option Value)(x:Str)(st:Stmt)(ps:List Str)(c Pt:Addr):Prop where
 ex:∃(f:Addr) (oc:Value) (od:Option Addr) (kV dc pm:Value) (an:Option Addr) (ct:Value) (osl:Array (Option Value)),K.lookup f=some #[oc,od,.func (fnOf x x (zbX st) (za3 st) (zaj st) .none kV dc pm an (.ref c) ct),osl]/\
  codeIn K (.ref c) x=true/\keepIn K (.ref f)=true/\mg x=some (.ref f)/\zdx K (fnOf x x (zbX st) (za3 st) (zaj st) .none kV dc pm an (.ref c) ct) ps []
 hd:codeHdIn K c Pt=true
def DFT.ok {w:World}{K:Frag}{mg:Str->Option Value}{base:Heap}{x:Str}{st:Stmt}{N:List Str}{k:Nat}{sp:Sp}{c:Addr}(D:DFT K mg x st ps c Pt)(S:zar N ps (zaj st))(len:∀ vs H Q E,sp vs H Q E->vs.length=ps.length)
  (hbody:∀(f:Addr) (A:Around) (outer:List Env) (s:Shared) (H:Hp) (vs:List V) (Q:VK) (E:XK),Room k (A.deeper (envOfC x (zaj st) s.heap.objs.size f (.ref c)))->sp vs H Q E->
   ∃ t,PSs (cxOf CX0 P w K mg base N x (zaj st) f (.ref c) A outer s H E).nox (za3 st) t/\t { nx:=λ_ H'=>Q .non H',rt:=Q } (zdb N vs) H):FC P w K mg base (k+1) x ps sp:=by
 obtain ⟨f,oc,od,kV,dc,pm,an,ct,osl,lk,hcd,kp,m,bd⟩:=D.ex;refine #[f,_,zp5 lk hcd S len λA outer s H vs Q E hr hsp=>?_,bd,kp,m,oc,od,osl,lk];obtain ⟨t,h,q⟩:=hbody f A outer s H vs Q E hr hsp;exact #[t,h.nox,q]
def zoY {K:Frag}{x:Str}{c Pt f:Addr}{oc:Value}{od:Option Addr}{fd:FuncData}{sl:Array (Option Value)}(a:nsIn K mainGlobals x=some (some (.ref f)))(l:K.lookup f=some #[oc,od,.func fd,sl])(t:tabIn K x=some (c,Pt)):fd.code=.ref c:=by
 unfold tabIn at t;rw[a]at t;dsimp only at t;rw[l]at t;dsimp only at t;split at t
 .rename_i c2 hc;split at t
  .split at t
   .cases t
    exact hc
   .cases t
  .cases t
 .cases t
end L2
namespace L2
open PySem PySem.Spec PyProof.Rows
def ztB {X:Cx}{params:Arguments}{body:Expr}{osc:Scope}{N:List Str}{cap:List Nat}(sc:ziX scope ps caps)
  (h1:∀ p∈scope.names,p.2=NameKind.free->osc.names.lookup p.1=some NameKind.cell) (h2:∀ p∈caps.zip cap,N[p.2]?=some p.1/\osc.names.lookup p.1=some NameKind.cell) (hl:caps.length=cap.length)
  (ho:X.env.scope=osc) (hN:X.N=N) (d:defaultsOf params X.env=([],[]))
  (b:∀(cl:List (Str×Addr)) (pm cdv ct:Value) (us:List Value),us.length=ps.length->bindArgs (PySem.W.kla_fn "<lambda>" .(s) params body scope cl pm cdv ct) #[us,[]]=pure (ps.zip us))
  (o:∀ x,X.fn x=true):zsD X params body scope ps caps cap:=by
 have hk:∀ x,X.env.kindOf x=osc.names.lookup x:=λx=>by
  unfold Env.kindOf;rw[ho]
 refine #[sc,λx hx=>.inl ?_,λj x hj=>?_,d,b,o]
 .rw[hk];exact h1 (x,.free) hx rfl
 .have hj':=(yap.mp hj).1;have hc:cap[j]?=some (cap[j]' .(a)):=yac _;have hz:(caps.zip cap)[j]?=some (x,cap[j]' .(a)):=by
   rw[List.getElem?_zip_eq_some];exact #[hj,hc]
  obtain ⟨a1,a2⟩:=h2 _ (yaM hz);refine #[_,hc,?_,.inl ?_]
  .rw[hN];exact a1
  .rw[hk];exact a2
end L2
namespace L2
open PySem PySem.Spec PyProof.Rows PySem.SeqAt
structure Tri (α β γ:Type) where
 a:α
 b:β
 c:γ
def Tri.ext' {α β γ:Type}:∀{p q:Tri α β γ},p.a=q.a->p.b=q.b->p.c=q.c->p=q
 | ⟨_,_,_⟩,⟨_,_,_⟩,rfl,rfl,rfl=>rfl
instance {α β γ:Type} [DecidableEq α] [DecidableEq β] [DecidableEq γ]:DecidableEq (Tri α β γ):=λp q=>
 if h1:p.a=q.a then if h2:p.b=q.b then if h3:p.c=q.c then .isTrue (Tri.ext' h1 h2 h3) else .isFalse λz=>h3 (by rw[z]) else .isFalse λz=>h2 (by rw[z]) else .isFalse λz=>h1 (by rw[z])
def zoS {x y z:V}{us:List Value}(r:Vals [x,y,z] us):∃ u v w,us=[u,v,w]/\RelV x u/\RelV y v/\RelV z w:=by
 cases r with
 | cons r1 r=>
  cases r with
  | cons r2 r=>
   cases r with
   | cons r3 r=>
    cases r
    exact #[_,_,_,rfl,r1,r2,r3]
inductive has3 {α β γ:Type}[Rep α][Rep β][Rep γ](K:Frag)(H:Hp)(p:Tri α β γ)(v:V):Prop
 | c:∀ a x y z,v=.ref a->H a=some (.tup [x,y,z])->Rep.has K H p.a x->Rep.has K H p.b y->Rep.has K H p.c z->has3 K H p v
section
variable {α β γ:Type}[ra:Rep α][rb:Rep β][rc:Rep γ]{X:Cx}{pins:List (Addr×Obj)}{U:St}{H:Hp}{s:Shared}{A:Around}{p q:Tri α β γ}{x y:V}{u v:Value}
def zlB (I:Inv X pins U H s)(h1:has3 X.K H p x)(h2:has3 X.K H q x):p=q:=by
 obtain ⟨a,x1,x2,x3,rfl,q1,e1,e2,e3⟩:=h1;obtain ⟨b,y1,y2,y3,e,q2,f1,f2,f3⟩:=h2;cases e
 have z:=I.tuple_inj (SqT.of q2) (SqT.of q1);cases z
 exact Tri.ext' (Rep.inj I e1 f1) (Rep.inj I e2 f2) (Rep.inj I e3 f3)
def zmK {p q:Tri α β γ}:((List.range (min 3 3)).all (λj=>if j=0 then (Rep.dec p.a q.a).decide else if j=1 then (Rep.dec p.b q.b).decide else (Rep.dec p.c q.c).decide)&&(3==3))=decide (p=q):=by
 rw[show List.range (min 3 3)=[0,1,2] from rfl];simp only[ycn,List.all_nil,ycX,if_true,beq_self_eq_true];rw[if_neg .(k),if_neg .(k),if_neg .(k)];have e1:(Rep.dec p.a q.a).decide=decide (p.a=q.a):=rfl;have e2:(Rep.dec p.b q.b).decide=decide (p.b=q.b):=rfl;have e3:(Rep.dec p.c q.c).decide=decide (p.c=q.c):=rfl;rw[e1,e2,e3];by_cases z1:p.a=q.a
 .by_cases z2:p.b=q.b
  .by_cases z3:p.c=q.c
   .rw[yah z1,yah z2,yah z3,yah (Tri.ext' z1 z2 z3)];rfl
   .have n:¬ p=q:=λz=>z3 (by rw[z]);rw[yai z3,yai n];simp
  .have n:¬ p=q:=λz=>z2 (by rw[z]);rw[yai z2,yai n];simp
 .have n:¬ p=q:=λz=>z1 (by rw[z]);rw[yai z1,yai n];simp
def zi3 (I:Inv X pins U H s){B:Around}{x1 x2 x3 y1 y2 y3:V}{u1 u2 u3 v1 v2 v3:Value}(hin:∀ n,n<=Rep.depth α+Rep.depth β+Rep.depth γ->B.units+n<cLine)
  (e1:Rep.has X.K H p.a x1) (e2:Rep.has X.K H p.b x2) (e3:Rep.has X.K H p.c x3) (f1:Rep.has X.K H q.a y1) (f2:Rep.has X.K H q.b y2) (f3:Rep.has X.K H q.c y3) (r1:RelV x1 u1) (r2:RelV x2 u2) (r3:RelV x3 u3) (t1:RelV y1 v1) (t2:RelV y2 v2) (t3:RelV y3 v3) :
  ∀ j (h1:j<((List.toArray [u1,u2,u3]):Array Value).size) (h2:j<((List.toArray [v1,v2,v3]):Array Value).size),EqAt B s ((List.toArray [u1,u2,u3]):Array Value)[j] ((List.toArray [v1,v2,v3]):Array Value)[j] (if j=0 then (Rep.dec p.a q.a).decide else if j=1 then (Rep.dec p.b q.b).decide else (Rep.dec p.c q.c).decide):=by
 have c1:=Rep.eq (A:=B) I (hin _ .(a)) e1 f1 r1 t1;have c2:=Rep.eq (A:=B) I (hin _ .(a)) e2 f2 r2 t2;have c3:=Rep.eq (A:=B) I (hin _ .(a)) e3 f3 r3 t3;intro j h1 h2;have h1':j<3:=h1;have z:j=0\/j=1\/j=2:=by lia
 rcases z with rfl|rfl|rfl
 .exact c1
 .exact c2
 .exact c3
def zoc (I:Inv X pins U H s)(hu:A.units+(Rep.depth α+Rep.depth β+Rep.depth γ+1)<cLine)(h1:has3 X.K H p x)(h2:has3 X.K H q y)(r1:RelV x u)(r2:RelV y v):RcAt A s u v (decide (p=q)):=by
 obtain ⟨a,x1,x2,x3,rfl,q1,e1,e2,e3⟩:=h1;obtain ⟨b,y1,y2,y3,rfl,q2,f1,f2,f3⟩:=h2;cases r1
 cases r2
 obtain ⟨us,ru,pu,_⟩:=I.tuple (SqT.of q1);obtain ⟨vs,rv,pv,_⟩:=I.tuple (SqT.of q2);obtain ⟨u1,u2,u3,rfl,ru1,ru2,ru3⟩:=zoS ru;obtain ⟨v1,v2,v3,rfl,rv1,rv2,rv3⟩:=zoS rv;have hin:∀ n,n<=Rep.depth α+Rep.depth β+Rep.depth γ->A.in1.units+n<cLine:=λn hn=>yaJ (ya8 zbW _) .(a);have:=RcAt.tuples (A:=A) (s:=s) (l:=a) (b:=b) (items:=(List.toArray [u1,u2,u3])) (items2:=(List.toArray [v1,v2,v3])) pu pv .(a) (zi3 (p:=p) (q:=q) I hin e1 e2 e3 f1 f2 f3 ru1 ru2 ru3 rv1 rv2 rv3);rw[<-zmK];exact this
def zsd (I:Inv X pins U H s)(hu:A.units+(Rep.depth α+Rep.depth β+Rep.depth γ+1)<cLine)(h1:has3 X.K H p x)(h2:has3 X.K H q y)(r1:RelV x u)(r2:RelV y v):RcNeAt A s u v (!decide (p=q)):=by
 obtain ⟨a,x1,x2,x3,rfl,q1,e1,e2,e3⟩:=h1;obtain ⟨b,y1,y2,y3,rfl,q2,f1,f2,f3⟩:=h2;cases r1
 cases r2
 obtain ⟨us,ru,pu,_⟩:=I.tuple (SqT.of q1);obtain ⟨vs,rv,pv,_⟩:=I.tuple (SqT.of q2);obtain ⟨u1,u2,u3,rfl,ru1,ru2,ru3⟩:=zoS ru;obtain ⟨v1,v2,v3,rfl,rv1,rv2,rv3⟩:=zoS rv;have hin:∀ n,n<=Rep.depth α+Rep.depth β+Rep.depth γ->A.in1.units+n<cLine:=λn hn=>yaJ (ya8 zbW _) .(a);have:=RcNeAt.tuples (A:=A) (s:=s) (l:=a) (b:=b) (items:=(List.toArray [u1,u2,u3])) (items2:=(List.toArray [v1,v2,v3])) pu pv .(a) (zi3 (p:=p) (q:=q) I hin e1 e2 e3 f1 f2 f3 ru1 ru2 ru3 rv1 rv2 rv3);rw[<-zmK];exact this
def zse (I:Inv X pins U H s)(hu:A.units+(Rep.depth α+Rep.depth β+Rep.depth γ+1)<cLine)(h1:has3 X.K H p x)(h2:has3 X.K H q y)(r1:RelV x u)(r2:RelV y v):EqAt A s u v (decide (p=q)):=by
 have rc:=zoc (A:=A) I hu h1 h2 r1 r2;have h1':=id h1;have h2':=id h2;obtain ⟨a,x1,x2,x3,rfl,q1,e1,e2,e3⟩:=h1;obtain ⟨b,y1,y2,y3,rfl,q2,f1,f2,f3⟩:=h2;cases r1
 cases r2
 by_cases hab:a=b
 .subst hab;rw[yah (zlB I h1' h2')];exact EqAt.same _
 .exact EqAt.of_refs hab rc
end
instance {α β γ:Type} [Rep α] [Rep β] [Rep γ]:Rep (Tri α β γ) where
 dec:=inferInstance
 depth:=Rep.depth α+Rep.depth β+Rep.depth γ+1
 has:=has3
 mono:=λe ⟨a,x,y,z,h1,h2,h3,h4,h5⟩=>#[a,x,y,z,h1,e _ _ h2 nofun,Rep.mono e h3,Rep.mono e h4,Rep.mono e h5]
 inj:=λI h1 h2=>zlB I h1 h2
 rc:=λI hu h1 h2 r1 r2=>zoc I hu h1 h2 r1 r2
 rn:=λI hu h1 h2 r1 r2=>zsd I hu h1 h2 r1 r2
 eq:=λI hu h1 h2 r1 r2=>zse I hu h1 h2 r1 r2
end L2
namespace L2
open PySem PySem.Spec PyProof.Rows
structure DM (K:Frag)(C:Addr)(m q:Str)(st:Stmt)(ps:List Str):Prop where
 ex:∃ f fd,Fun K m q st f fd/\zdx K fd ps []/\Meth K C m f
structure FM (P:Program)(w:World)(K:Frag)(mg:Str->Option Value)(base:Heap)(C:Addr)(k:Nat)(m:Str)(ps:List Str)(sp:Sp):Prop where
 ex:∃ f fd,FnOk P w K mg base CX0 k f fd ps sp/\zdx K fd ps []/\Meth K C m f/\∃ oc od osl,K.lookup f=some #[oc,od,.func fd,osl]
structure DI (K:Frag)(C:Addr)(q:Str)(st:Stmt)(ps:List Str):Prop where
 ex:∃ f fd,Fun K "__init__" q st f fd/\zdx K fd ps []/\Mk K C f
structure FI (P:Program)(w:World)(K:Frag)(mg:Str->Option Value)(base:Heap)(C:Addr)(k:Nat)(ps:List Str)(sp:Sp):Prop where
 ex:∃ f fd,FnOk P w K mg base CX0 k f fd ps sp/\zdx K fd ps []/\Mk K C f
section
variable {P:Program}{w:World}{K:Frag}{mg:Str->Option Value}{base:Heap}{C:Addr}{m q:Str}{st:Stmt}{N ps:List Str}{k:Nat}{sp:Sp}
def DM.ok (D:DM K C m q st ps)(S:zar N ps (zaj st))(len:∀ vs H Q E,sp vs H Q E->vs.length=ps.length)
  (hbody:∀(f:Addr) (cdv:Value) (A:Around) (outer:List Env) (s:Shared) (H:Hp) (vs:List V) (Q:VK) (E:XK),Room k (A.deeper (envOfC q (zaj st) s.heap.objs.size f cdv))->sp vs H Q E->
   ∃ t,PSs (cxOf CX0 P w K mg base N q (zaj st) f cdv A outer s H E).nox (za3 st) t/\t { nx:=λ_ H'=>Q .non H',rt:=Q } (zdb N vs) H):FM P w K mg base C (k+1) m ps sp:=by
 obtain ⟨f,fd,F,b,me⟩:=D.ex;exact #[f,fd,F.ok S len λcdv A outer s H vs Q E hr h=>hbody f cdv A outer s H vs Q E hr h,b,me,by
  obtain ⟨oc,od,kV,doc,pm,an,cdv,ct,osl,rfl,lk,hcd⟩:=F.ex;exact #[oc,od,osl,lk]]
def DI.ok (D:DI K C q st ps)(S:zar N ps (zaj st))(len:∀ vs H Q E,sp vs H Q E->vs.length=ps.length)
  (hbody:∀(f:Addr) (cdv:Value) (A:Around) (outer:List Env) (s:Shared) (H:Hp) (vs:List V) (Q:VK) (E:XK),Room k (A.deeper (envOfC q (zaj st) s.heap.objs.size f cdv))->sp vs H Q E->
   ∃ t,PSs (cxOf CX0 P w K mg base N q (zaj st) f cdv A outer s H E).nox (za3 st) t/\t { nx:=λ_ H'=>Q .non H',rt:=Q } (zdb N vs) H):FI P w K mg base C (k+1) ps sp:=by
 obtain ⟨f,fd,F,b,me⟩:=D.ex;exact #[f,fd,F.ok S len λcdv A outer s H vs Q E hr h=>hbody f cdv A outer s H vs Q E hr h,b,me]
end
section
variable {X:Cx}{j k:Nat}{C:Addr}{m x:Str}{ps:List Str}{sp:Sp}{o e:Expr}{es:List Expr}{ta:TE}{t:TA}{p pos apos:Pos}
def zkf {pl:Sem Bool}(F:FM X.prog X.w X.K X.mg X.base C j m ps sp)(c:Cls X.K C)(hr:Room k X.A)(he:PE X o ta)(ha:PA X (e::es) t)(hjk:j<=k:=by decide)
  (hst:starEach (e::es) X.env= .(B)::starEach es X.env:=by rfl) (hpl: .(t).any (·.1)=false:=by rfl)
  (ht:eval (.Call (.Attribute o m apos) (e::es) [] pos) X.env=(do
   let ov <-eval o X.env
   standAt apos.atName
   let (f,first) <-holding [ov] (getMethod ov m pl)
   callWith pos f first (backTo pos (starEach (e::es) X.env)) (backToKw pos (keywordEach [] X.env))):=by rfl) :
  PE X (.Call (.Attribute o m apos) (e::es) [] pos) (zoZ C m sp [] E0 ta t):=by
 obtain ⟨f,fd,ok,b,me,_⟩:=F.ex;exact zrD he c me ok (hr.mono hjk) b .nil znm ha hst hpl ht
def ztb {pl:Sem Bool}(F:FM X.prog X.w X.K X.mg X.base C j m ps sp)(c:Cls X.K C)(hr:Room k X.A)(he:PE X o ta)(hjk:j<=k:=by decide)
  (ht:eval (.Call (.Attribute o m apos) [] [] pos) X.env=(do
   let ov <-eval o X.env
   standAt apos.atName
   let (f,first) <-holding [ov] (getMethod ov m pl)
   callWith pos f first (backTo pos (starEach [] X.env)) (backToKw pos (keywordEach [] X.env))):=by rfl) :
  PE X (.Call (.Attribute o m apos) [] [] pos) (zoZ C m sp [] E0 ta tNil):=by
 obtain ⟨f,fd,ok,b,me,_⟩:=F.ex;exact zph he c me ok (hr.mono hjk) b .nil znm ht
def zuq (F:FI X.prog X.w X.K X.mg X.base C j ps sp)(hr:Room k X.A)(hm:X.mg x=some (.ref C))(ha:PA X (e::es) t)(hjk:j+1<=k:=by decide)(hg:Gl X x:=by rfl)
  (hdb: .(r)=false:=by decide) (he:starEach (e::es) X.env= .(B)::starEach es X.env:=by rfl) (hpl: .(t).any (·.1)=false:=by rfl) :
  PE X (.Call (.Name x p) (e::es) [] pos) (zsP C sp [] E0 t):=by
 obtain ⟨f,fd,ok,b,me⟩:=F.ex;exact zrE me ok (hr.mono hjk) hg hm b .nil znm ha hdb he hpl
end
end L2
namespace L2
open PySem PySem.Spec PyProof.Rows
section
variable {X:Cx}
def znq (hu:X.A.units+1<cLine):OpR X (compareOp .NotIn) (λx y H Q=>∃ a o,y=.ref a/\DGet H a x o/\Q (.bl (!o.isSome)) H):=by
 intro pins s U H x y v u Q I rx ry h;obtain ⟨a,o,rfl,g,q⟩:=h;cases ry
 exact zsp hu I g rx λs' I'=>#[.bl _,H,I',rfl,q]
def zl2 {A:Around}(hu:A.units+1<cLine)(hA:X.A=A:=by rfl):OpR X (compareOp .NotIn) (λx y H Q=>∃ a o,y=.ref a/\DGet H a x o/\Q (.bl (!o.isSome)) H):=by
 subst hA;exact znq hu
end
end L2
namespace L2
open PySem PySem.Spec PyProof.Rows
section
variable {X:Cx}
inductive zrw (K:Frag)(x:V)(y:V)(H:Hp)(Q:VK):Prop
 | c:∀ a b xs ys,x=.ref a->y=.ref b->SqT K H a xs->SqT K H b ys->xs.length+ys.length<=sizeLine->(xs=[]->Q (.ref b) H)->(xs≠[]->(ys=[]->Q (.ref a) H)/\(ys≠[]->∀ p,H p=none->Q (.ref p) (upd H p (.tup (xs++ys)))))->zrw K x y H Q
def znw:OpR X (binaryOp .Add) (zrw X.K):=by
 intro pins s U H x y v u Q I rx ry h;obtain ⟨a,b,xs,ys,e1,e2,ha,hb,hz,q1,q2⟩:=h;by_cases hx:xs=[]
 .subst e1 e2;cases rx
  cases ry
  obtain ⟨its,r1,p1,_⟩:=I.tuple ha;obtain ⟨its2,r2,p2,_⟩:=I.tuple hb;obtain ⟨⟨cls,dd,data,sl⟩,ho,hc,n,hd⟩:=id p1;obtain ⟨⟨cls2,dd2,data2,sl2⟩,ho2,hc2,n2,hd2⟩:=id p2;simp only at hc hd hc2 hd2;subst hc hd hc2 hd2;have hv:its=[]:=r1.nil_iff.mpr hx;exact concat_meets #[_,ho,rfl] #[_,ho2,rfl] noFill_tuple_add seq_tuple_add PySem.F.slot_tuple_add PySem.F.entry_tuple_add (PySem.F.args_tuple_add_2 _ _)
   (tuple_addW0 a b its.toArray its2.toArray n n2 dd dd2 sl sl2 (by simp[hv])) #[ho,ho2,.ref b,H,I,rfl,q1 hx]
 .exact ziy pins s U H x y v u Q I rx ry #[a,b,xs,ys,e1,e2,ha,hb,hx,hz,λz=>(q2 hx).1 z,λz=>(q2 hx).2 z]
end
end L2
namespace L2
open PySem PySem.Spec PyProof.Rows
def zbl.there {w:World}{h:Heap}{a:Addr}{o:HO}(x:zbl P w H h a o):∃ ob,h.get? a=some ob:=by
 cases o with
 | lst xs=>obtain ⟨_,_,_,_,e⟩:=x;exact #[_,e]
 | tup xs=>obtain ⟨_,_,_,o,e,_⟩:=x;exact #[_,e]
 | dK kvs=>obtain ⟨_,_,_,_,o,_,_,e,_⟩:=x;exact #[_,e]
 | dT kvs=>obtain ⟨_,_,_,_,o,_,_,e,_⟩:=x;exact #[_,e]
 | set S n=>obtain ⟨o,_,_,_,e,_⟩:=x;exact #[_,e]
 | ins C dx fs=>obtain ⟨_,_,_,e,_⟩:=x;exact #[_,e]
 | own y=>obtain ⟨o,e⟩:=x;exact #[o,e]
 | xd fs=>obtain ⟨_,⟨o,_,_,e,_⟩,_⟩:=x;exact #[_,e]
 | rng lo hi=>obtain ⟨_,_,_,e⟩:=x;exact #[_,e]
 | frz ob u=>obtain ⟨e,_⟩:=x;exact #[_,e]
 | tbl ps=>exact #[_,(show h.get? a=some _ from x)]
 | met f y=>exact #[_,(show h.get? a=some _ from x)]
 | ext φ=>obtain ⟨_,⟨o,e⟩,_⟩:=x;exact #[o,e]
structure Air (P:Program)(w:World)(l:List Env)(H:Hp)(old:Heap)(a:Addr)(cls fl:Value)(H':Hp)(h:Heap):Prop where
 un:Un (frs l) [] H H' old h
 hok:HOk P w H' h
 ua:H' a=none
 na:old.get? a=none
 uf:∀ b∈frs l,H' b=none
 nf:∀ b∈frs l,∃ o,h.get? b=some o/\∀ vs,o.data≠.fields vs
 tr:∃(a0:Value) (oe:Obj) (vs:Array Value) (T:Addr) (oT:Obj) (ts:Array Value),(h.get? a=some oe/\(oe.cls=cls/\vs[0]?=some a0)/\oe.data=.fields vs/\vs[1]?=some (.ref T)/\T≠a/\h.get? T=some oT/\oT.data=.fields ts/\ts[3]?=some fl)/\H' T=none/\old.get? T=none
section
variable {P:Program}{w:World}{l:List Env}{H H':Hp}{old h h':Heap}{a:Addr}{cls fl fl':Value}
def Air.step (x:Air P w l H old a cls fl H' h)(hl:∀ B:Heap,(∀ b,b∈frs l->B.get? b=none)->∀ h:Heap,(∀ b∈frs l,∃ o,h.get? b=some o/\∀ vs,o.data≠.fields vs)->h.FunFrames B l) :
  ∃(B:Heap) (a0:Value),B.StaysIn h/\B.get? a=none/\h.FunFrames B l/\h.TracedAtW B a cls a0 fl/\
   ∀(h':Heap) (fl':Value),B.StaysIn h'->h.UpToSlots h'->h'.TracedAtW B a cls a0 fl'->Air P w l H old a cls fl' H' h':=by
 obtain ⟨a0,oe,vs,T,oT,ts,⟨e1,e2,e3,e4,e5,e6,e7,e8⟩,u1,u2⟩:=x.tr;have hB:∀ b o,h.get? b=some o->b≠a->b≠T->b∉frs l->(PySem.W.hideAll h (a::T::frs l)).get? b=some o:=λb o e n1 n2 n3=>PySem.W.hideAll_get _ e λhm=>by
  rcases yaq.mp hm with z|hm
  .exact n1 z
  rcases yaq.mp hm with z|hm
  .exact n2 z
  .exact n3 hm
 refine #[PySem.W.hideAll h (a::T::frs l),a0,λb o q=>PySem.W.of_hideAll _ q,PySem.W.hideAll_none _ yaB,hl _ (λb hb=>PySem.W.hideAll_none _ (yaz _ (yaz _ hb))) h x.nf,?_,?_]
 .exact #[oe,vs,T,oT,ts,e1,e2,e3,e4,PySem.W.hideAll_none _ (yaz _ yaB),e5,e6,e7,e8]
 intro h' fl' k1 k2 k3;have kT:∀ b o,h.get? b=some o->b≠a->b≠T->∃ sl,h'.get? b=some { o with slots:=sl }:=λb o e n1 n2=>by
  by_cases hb:b∈frs l
  .obtain ⟨o',q,nf⟩:=x.nf b hb;rw[e]at q;cases q
   exact k2 b o e nf
  .exact #[o.slots,k1 b o (hB b o e n1 n2 hb)]
 have ne:∀ b u,H' b=some u->b≠a/\b≠T/\b∉frs l:=λb u e=>#[zad e x.ua,zad e u1,λhb=>(by rw[x.uf b hb]at e;cases e)]
 have ne2:∀ b o,old.get? b=some o->b≠a/\b≠T:=λb o e=>#[λz=>(by rw[z,x.na]at e;cases e),λz=>(by rw[z,u2]at e;cases e)]
 refine #[#[λb o e n hb hx=>?_,λb o e n hb hx=>?_,x.un.free,λb o e hx=>?_,x.un.tups,x.un.frzs,x.un.tbls],λb u e=>?_,x.ua,x.na,x.uf,λb hb=>?_,?_]
 .exact k1 b o (hB b o (x.un.keep b o e n hb hx) (ne2 b o e).1 (ne2 b o e).2 hb)
 .obtain ⟨sl,q⟩:=x.un.slot b o e n hb hx;obtain ⟨sl',q'⟩:=kT b _ q (ne2 b o e).1 (ne2 b o e).2;exact #[sl',q']
 .obtain ⟨o',q⟩:=x.un.there b o e hx;obtain ⟨sl',q'⟩:=kT b _ q (ne2 b o e).1 (ne2 b o e).2;exact #[_,q']
 .refine (x.hok b u e).stay (λc v hc q=>?_) (λ_ q=>q) λ_ _ q=>q;have hc':∃ z,H' c=some z:=by
   rcases hc with rfl|z
   .exact #[_,e]
   .exact #[_,z]
  obtain ⟨z,ez⟩:=hc';exact k1 c v (hB c v q (ne c z ez).1 (ne c z ez).2.1 (ne c z ez).2.2)
 .obtain ⟨o,q,nf⟩:=x.nf b hb;obtain ⟨sl,q'⟩:=k2 b o q nf;exact #[_,q',nf]
 .obtain ⟨oe',vs',T',oT',ts',f1,f2,f3,f4,f5,f6,f7,f8,f9⟩:=k3;have hnT:T'∉frs l:=λhb=>by
   obtain ⟨o,q,nf⟩:=x.nf T' hb;obtain ⟨sl,q'⟩:=k2 T' o q nf;rw[f7]at q';cases q'
   exact nf _ f8
  have hno:∀ o,h.get? T'=some o->T'=T:=λo e=>Decidable.byContradiction λz=>by
   rw[hB T' o e f6 z hnT]at f5;cases f5
  refine #[a0,oe',vs',T',oT',ts',#[f1,f2,f3,f4,f6,f7,f8,f9],?_,?_]
  .cases e:H' T' with
   | none=>rfl
   | some u=>
    obtain ⟨o,q⟩:=(x.hok T' u e).there;rw[hno o q,u1]at e;cases e
  .cases e:old.get? T' with
   | none=>rfl
   | some o=>
    obtain ⟨o',q⟩:=x.un.there T' o e .(h);rw[hno o' q,u2]at e;cases e
end
def zfk {base h0:Heap}:∀{l:List Env},h0.FunFrames base l->∀ B h:Heap,(∀ b,b∈frs l->B.get? b=none)->(∀ b∈frs l,∃ o,h.get? b=some o/\∀ vs,o.data≠.fields vs)->h.FunFrames B l
 | [],_,_,_,_,_=>trivial
 | env::r,⟨hk,⟨L,o,hf,_,_,_⟩,hr⟩,B,h,hB,hh=>by
  have e:frs (env::r)=L::frs r:=by unfold frs;rw[yb2,hf]
  rw[e]at hB hh;obtain ⟨o',q,nf⟩:=hh L yaB;exact #[hk,#[L,o',hf,hB L yaB,q,nf],zfk hr B h (λb hb=>hB b (yaz _ hb)) λb hb=>hh b (yaz _ hb)]
inductive CXE (P:Program)(w:World)(outer:List Env)(H:Hp)(s:Shared)(E:XK)(e:Value)(s':Shared):Prop
 | c:∀(a:Addr) (cls:Value) (H':Hp),e=.ref a->s'.os=s.os->AllBare s'.gens->Air P w outer H s.heap a cls .none H' s'.heap->E cls none H'->CXE P w outer H s E e s'
section
variable {P:Program}{w:World}{K:Frag}{mg:Str->Option Value}{base:Heap}{N:List Str}{q:Str}{sc:Scope}{f:Addr}{cd:Value}{A:Around}{outer:List Env}{s0:Shared}{H0:Hp}{E:XK}
abbrev cxE (P:Program)(w:World)(K:Frag)(mg:Str->Option Value)(base:Heap)(N:List Str)(q:Str)(sc:Scope)(f:Addr)(cd:Value)(A:Around)(outer:List Env)(s0:Shared)(H0:Hp)(E:XK):Cx:=cxOf (CXE P w) P w K mg base N q sc f cd A outer s0 H0 E
def ztR (I:Inv X pins U H s):∀ b∈frs X.stack,∃ o,s.heap.get? b=some o/\∀ vs,o.data≠.fields vs:=λb hb=>(I.stack.mem hb).2
def Air.out {a:Addr}{cls:Value}(I:Inv (cxE P w K mg base N q sc f cd A outer s0 H0 E) pins U H s)(x:Air P w (envOfC q sc s0.heap.objs.size f cd::outer) H s.heap a cls fl H' h):Air P w outer H0 s0.heap a cls fl H' h:=by
 have ef:frs (envOfC q sc s0.heap.objs.size f cd::outer)=s0.heap.objs.size::frs outer:=rfl;have nl:∀ b o,s0.heap.get? b=some o->b≠s0.heap.objs.size:=λb o e=>yau (yag e);have nx:∀ b:Addr,b∉(cxE P w K mg base N q sc f cd A outer s0 H0 E).ex:=λb z=>absurd (show b∈([]:List Addr) from z) .(h);obtain ⟨a0,oe,vs,T,oT,ts,tr,u1,u2⟩:=x.tr;have old:∀ b,s.heap.get? b=none->s0.heap.get? b=none:=λb e=>by
  cases z:s0.heap.get? b with
  | none=>rfl
  | some o=>
   obtain ⟨o',e'⟩:=I.base.there b o z (nx b);rw[e]at e';cases e'
 refine #[#[λb o e n hb hx=>?_,λb o e n hb hx=>?_,λb o e n hx=>?_,λb o e hx=>?_,λb xs e=>x.un.tups b xs (I.base.tups b xs e),λb o u e=>x.un.frzs b o u (I.base.frzs b o u e),λb ps e=>?_],x.hok,x.ua,old a x.na,λb hb=>x.uf b (by rw[ef];exact yaz _ hb),λb hb=>x.nf b (by rw[ef];exact yaz _ hb),a0,oe,vs,T,oT,ts,tr,u1,old T u2]
 .exact x.un.keep b o (I.base.keep b o e n hb (nx b)) (I.base.free b o e n (nx b)) (by rw[ef];exact λz=>(yaq.mp z).elim (nl b o e) hb) hx
 .obtain ⟨sl,e1⟩:=I.base.slot b o e n hb (nx b);obtain ⟨sl',e2⟩:=x.un.slot b _ e1 (I.base.free b o e n (nx b)) (by rw[ef];exact yaz _ hb) hx;exact #[sl',e2]
 .obtain ⟨o',e'⟩:=I.base.there b o e (nx b);exact x.un.free b o' e' (I.base.free b o e n (nx b)) hx
 .obtain ⟨o',e'⟩:=I.base.there b o e (nx b);exact x.un.there b o' e' hx
 .obtain ⟨m1,e1⟩:=I.base.tbls b ps e;obtain ⟨m2,e2⟩:=x.un.tbls b _ e1;exact #[m1++m2,by rw[e2,Array.append_assoc]]
def zur:zft (CXE P w) (cxE P w K mg base N q sc f cd A outer s0 H0 E) E:=by
 intro pins U H s e s' I h;obtain ⟨a,cls,H',rfl,ho,hb,x,hE⟩:=h;obtain ⟨B,a0,b1,b2,b3,b4,next⟩:=x.step λB hB h hh=>zfk I.stack B h hB hh
 show wpAny _ _ (leaving _ _) _ _ _;refine wpAny_leaves_onW (base:=B) (cls:=cls) (a0:=a0) I.ok.frames rfl #[b1,b2,b3,b4] λh' k1 k2=>?_;exact #[a,cls,H',rfl,ho.trans I.os,hb,(next h' .none k1.1 k2 k1.2.2.2).out I,hE]
def zsK {h':Heap}{a:Addr}{cls:Value}{vs:List Value}(I:Inv (cxE P w K mg base N q sc f cd A outer s0 H0 E) pins U H s)(m:Heap.MadeExcOf s.heap h' a cls vs)(hE:E cls none H) :
  (cxE P w K mg base N q sc f cd A outer s0 H0 E).xe (.ref a) { s with heap:=h' }:=by
 have hin:=ztR I;have hB:∀ b o,s.heap.get? b=some o->b∉frs (envOfC q sc s0.heap.objs.size f cd::outer)->(PySem.W.hideAll s.heap (frs (envOfC q sc s0.heap.objs.size f cd::outer))).get? b=some o:=λb o e n=>PySem.W.hideAll_get _ e n;show wpAny _ _ (leaving _ _) _ _ _;refine wpAny_leaves_madeW (base:=PySem.W.hideAll s.heap (frs (envOfC q sc s0.heap.objs.size f cd::outer))) I.ok.frames rfl (λb o q=>PySem.W.of_hideAll _ q) (zfk I.stack _ _ (λb hb=>PySem.W.hideAll_none _ hb) hin) m λh2 t k1 k2 k3 k4=>?_;obtain ⟨k11,k12,k13,oe,ws,T,oT,ts,f1,f2,f3,f4,f5,f6,f7,f8,f9⟩:=k1;have kT:∀ b o,s.heap.get? b=some o->∃ sl,h2.get? b=some { o with slots:=sl }:=λb o e=>by
  by_cases hb:b∈frs (envOfC q sc s0.heap.objs.size f cd::outer)
  .obtain ⟨o',z,nf⟩:=hin b hb;rw[e]at z;cases z
   exact k4 b o (m.keeps b o e) nf
  .exact #[o.slots,k11 b o (hB b o e hb)]
 have trk:∀ b u,H b=some u->∃ o,s.heap.get? b=some o/\b∉frs (envOfC q sc s0.heap.objs.size f cd::outer):=λb u e=>by
  obtain ⟨o,z⟩:=(I.hok b u e).there;exact #[o,z,λhb=>(by rw[I.stkFree b hb]at e;cases e)]
 have hnT:T∉frs (envOfC q sc s0.heap.objs.size f cd::outer):=λhb=>by
  obtain ⟨o,z,nf⟩:=hin T hb;obtain ⟨sl,z'⟩:=kT T o z;rw[f7]at z';cases z'
  exact nf _ f8
 have x:Air P w (envOfC q sc s0.heap.objs.size f cd::outer) H s.heap a cls .none H h2:=by
  refine #[#[λb o e n hb hx=>k11 b o (hB b o e hb),λb o e n hb hx=>kT b o e,λb o e n hx=>n,λb o e hx=>?_,λb xs e=>e,λb o u e=>e,λb ps e=>#[(List.toArray []),by rw[e];simp]],λb u e=>?_,?_,m.new,I.stkFree,λb hb=>?_,.ref t,oe,ws,T,oT,ts,#[f1,f2,f3,f4,f6,f7,f8,f9],?_,?_]
  .obtain ⟨sl,z⟩:=kT b o e;exact #[_,z]
  .refine (I.hok b u e).stay (λc v hc z=>?_) (λ_ q=>q) λ_ _ q=>q;have hc':∃ y,H c=some y:=by
    rcases hc with rfl|y
    .exact #[_,e]
    .exact #[_,y]
   obtain ⟨y,ey⟩:=hc';obtain ⟨o,_,n⟩:=trk c y ey;exact k11 c v (hB c v z n)
  .cases e:H a with
   | none=>rfl
   | some u=>
    obtain ⟨o,z,_⟩:=trk a u e;rw[m.new]at z;cases z
  .obtain ⟨o,z,nf⟩:=hin b hb;obtain ⟨sl,z'⟩:=kT b o z;exact #[_,z',nf]
  .cases e:H T with
   | none=>rfl
   | some u=>
    obtain ⟨o,z,n⟩:=trk T u e;rw[hB T o z n]at f5;cases f5
  .cases e:s.heap.get? T with
   | none=>rfl
   | some o=>
    rw[hB T o e hnT]at f5;cases f5
 exact #[a,cls,H,rfl,I.os,I.bare,x.out I,hE]
end
end L2
namespace L2
open PySem PySem.Spec PyProof.Rows
abbrev zq6:List Value:=[.type "ValueError",.type "Exception",.type "BaseException",.type "object"]
def zsm {K:Frag}{h:Heap}{C:Addr}{bmB:List Value}{newId:String}(X:K.In h)(q:PySem.W.excIn K C bmB newId=true) :
  ∃ bm N nm qn bs hdct sn sub ab col dd k0 k1 k2 k3 k5,∃ mN:Str->Option Value,h.get? C=some (excClassObj nm qn C N bs bm hdct sn sub ab col dd k0 k1 k2 k3 k5 newId)/\h.Ns N mN/\mN "__init__" = none/\OwnTail h bmB bm:=by
 unfold PySem.W.excIn at q;split at q
 rotate_left
 .exact absurd q .(k)
 rename_i dct cdt slots hlook;split at q
 rotate_left
 .exact absurd q .(k)
 rename_i C2 tail s0 s1 s2 s3 nid s5 hmro hslots;simp only[ybz,beq_iff_eq,ybW]at q;obtain ⟨⟨⟨⟨⟨z1,z2⟩,z3⟩,z4⟩,z5⟩,z6⟩:=q;subst z1 z2;obtain ⟨cnm,cbs,cmro,cns,cqn,chd,csn,csub,cab,ccol,cdel⟩:=cdt;dsimp only at hmro z3 z5 z6;subst hmro z3;obtain ⟨ls⟩:=slots;dsimp only at hslots;subst hslots;exact #[tail,cns,cnm,cqn,cbs,chd,csn,csub,cab,ccol,dct,s0,s1,s2,s3,s5,_,X _ _ hlook,.of_isNs (PySem.W.isNs_of_in X z5),PySem.W.nsMap_none_of_in X z5 z6,PySem.W.tail_of_in X z4]
structure Exc (K:Frag)(mg:Str->Option Value)(x:Str)(C:Addr):Prop where
 nm:mg x=some (.ref C)
 ex:PySem.W.excIn K C zq6 "ValueError.__new__" = true
def Thr (X:Cx)(E:XK):Prop:=∀(pins:List (Addr×Obj)) (U:St) (H:Hp) (s:Shared) (h':Heap) (a:Addr) (cls:Value) (vs:List Value),Inv X pins U H s->Heap.MadeExcOf s.heap h' a cls vs->E cls none H->X.xe (.ref a) { s with heap:=h' }
def thrX {K:Frag}:Thr (cxE P w K mg base N q sc f cd A outer s0 H0 E) E:=λ_ _ _ _ _ _ _ _ I m hE=>zsK I m hE
inductive zoN (C:Addr)(E:XK)(vs:List V)(H1:Hp):Prop
 | c:vs.length<=sizeLine->E (.ref C) none H1->zoN C E vs H1
def zsM (C:Addr)(E:XK)(t:TA):TS:=λ_ U H=>t U H λvs H1=>zoN C E vs H1
section
variable {X:Cx}{x:Str}{C:Addr}{E:XK}{e:Expr}{es:List Expr}{t:TA}{np cpos pos:Pos}
def zld (O:Exc X.K X.mg x C)(hT:Thr X E)(hc:X.calm=true)(hg:Gl X x)(ha:PA X (e::es) t)(hd: .(r)=false:=by decide)(he:starEach (e::es) X.env= .(B)::starEach es X.env:=by rfl)(hpl:(backTo cpos (starEach es X.env)).any (·.1)=false:=by rfl) :
  PS X (.Raise (some (.Call (.Name x np) (e::es) [] cpos)) none pos) (zsM C E t):=by
 intro pins s U H D I h;obtain ⟨bm,Nn,nm,qn,bs,hdct,sn,sub,ab,col,dd,k0,k1,k2,k3,k5,mN,hC,hN,hni,T⟩:=zsm I.mod.kin O.ex;refine wpAny_Raise_call_subT (C:=C) (nm:=nm) (q:=qn) (N:=Nn) (bs:=bs) (bm:=bm) (hdct:=hdct) (sn:=sn) (sub:=sub) (ab:=ab) (col:=col) (dd:=dd) (k0:=k0) (k1:=k1) (k2:=k2) (k3:=k3) (k5:=k5)
  F.excBase_ValueError (mN:=mN) (T.hasType F.excBase_ValueError.hasBase) (I.ok.hd hc) (by rw[he];exact hpl) hni (zeE I hg O.nm #[rfl,?_] hd)
 have h1:=ha cpos pins s U H _ I h;rw[he]at h1 ⊢;refine Calls.evalArgs_plain (thn h1 λus s1 zq0=>?_);obtain ⟨vs,H1,I1,r,hl,hE⟩:=zq0;exact #[rfl,by rw[<-r.length];exact hl,I1.bk _ _ hC,hN.keeps I1.bk,T.keeps I1.bk,λh' a m=>hT pins U H1 s1 h' a _ _ I1 m hE]
end
structure FX (P:Program)(w:World)(K:Frag)(mg:Str->Option Value)(base:Heap)(k:Nat)(x:Str)(ps:List Str)(sp:Sp):Prop where
 ex:∃ f fd,FnOk P w K mg base (CXE P w) k f fd ps sp/\zdx K fd ps []/\keepIn K (.ref f)=true/\mg x=some (.ref f)/\∃ oc od osl,K.lookup f=some #[oc,od,.func fd,osl]
def DF.okx {w:World}{K:Frag}{mg:Str->Option Value}{base:Heap}{x:Str}{st:Stmt}{N:List Str}{k:Nat}{sp:Sp}(D:DF K mg x st ps)(S:zar N ps (zaj st))(len:∀ vs H Q E,sp vs H Q E->vs.length=ps.length)
  (hbody:∀(f:Addr) (cdv:Value) (A:Around) (outer:List Env) (s:Shared) (H:Hp) (vs:List V) (Q:VK) (E:XK),Room k (A.deeper (envOfC x (zaj st) s.heap.objs.size f cdv))->sp vs H Q E->
   ∃ t,PSs (cxE P w K mg base N x (zaj st) f cdv A outer s H E) (za3 st) t/\t { nx:=λ_ H'=>Q .non H',rt:=Q } (zdb N vs) H):FX P w K mg base (k+1) x ps sp:=by
 obtain ⟨f,fd,F,b,m⟩:=D.ex;obtain ⟨oc,od,kV,doc,pm,an,cdv,ct,osl,rfl,lk,hcd⟩:=F.ex;exact #[f,_,zp5 lk hcd S len λA outer s H vs Q E hr hsp=>hbody f cdv A outer s H vs Q E hr hsp,b,F.kp,m,oc,od,osl,lk]
section
variable {X:Cx}{j k:Nat}{x:Str}{ps:List Str}{sp:Sp}{e:Expr}{es:List Expr}{t:TA}{p pos:Pos}{E:XK}
def ztZ (F:FX X.prog X.w X.K X.mg X.base j x ps sp)(hr:Room k X.A)(ha:PA X.nox (e::es) t){Q:VK}(I:Inv X pins U H s)(h:t U H λvs H1=>sp vs H1 Q E)(hjk:j<=k:=by decide)(hg:Gl X x:=by rfl)
  (hdb: .(r)=false:=by decide) (he:starEach (e::es) X.env= .(B)::starEach es X.env:=by rfl) (hpl: .(t).any (·.1)=false:=by rfl) :
  wpAny .(d) X.A (eval (.Call (.Name x p) (e::es) [] pos) X.env) .(N) (λer s'=>∃ H1 s1,Inv X pins U H1 s1/\CXE X.prog X.w X.stack H1 s1 E er s') s:=by
 obtain ⟨f,fd,ok,b,kp,m,_⟩:=F.ex;refine wpAny_Call_Name_kw (zeE I hg m ?_ hdb);refine PySem.W.callWith_K (h₀:=X.base) I.ok.mod.kin kp (wpAny_mono (ha pos pins s U H _ (I.wish _) h) (λus s1 zq0=>?_) λ_ _ z=>z.elim) he hpl;obtain ⟨vs,H1,I1,r,q⟩:=zq0;refine #[I1.kIn,?_];have I1':Inv X pins U H1 s1:=I1.unwish;have hl:(us++[]).length=ps.length:=by rw[yaw,<-r.length];exact ok.len _ _ _ _ q
 have hb:=b s1 us I1'.kIn hl;rw[yaw]at hb;refine wpAny_call (codeAny_mono (ok.run X.A X.stack s1 H1 #[us,[]] us vs Q E (hr.mono hjk) I1'.env0 hb r q) λres s' hq=>?_);cases res with
 | error er=>exact #[H1,s1,I1',hq]
 | ok fl=>
  cases fl with
  | ret u=>exact I1'.after hq
  | next=>exact False.elim hq
  | brk=>exact False.elim hq
  | cont=>exact False.elim hq
def ztc (F:FX X.prog X.w X.K X.mg X.base j x ps sp)(hr:Room k X.A)(hP:zft (CXE X.prog X.w) X E)(ha:PA X.nox (e::es) t)(hjk:j<=k:=by decide)(hg:Gl X x:=by rfl)
  (hdb: .(r)=false:=by decide) (he:starEach (e::es) X.env= .(B)::starEach es X.env:=by rfl) (hpl: .(t).any (·.1)=false:=by rfl):PE X (.Call (.Name x p) (e::es) [] pos) (zrf sp [] E t):=by
 intro pins s U H Q I h;refine wpAny_mono (ztZ F hr ha I (Q:=Q) (E:=E) ?_ hjk hg hdb he hpl) (λ_ _ q=>q) λer s' zq0=>(by obtain ⟨H1,s1,I1,q⟩:=zq0;exact hP pins U H1 s1 er s' I1 q);have e1:(λvs H1=>sp (vs++[]) H1 Q E)=λvs H1=>sp vs H1 Q E:=by funext vs H1;rw[yaw]
 have h':t U H λvs H1=>sp (vs++[]) H1 Q E:=h;rw[e1]at h';exact h'
end
end L2
namespace L2
open PySem PySem.Spec PyProof.Rows
def zjE (a:Addr)(cls:Value):HO:=.ext λh=>∃ oe vs,h.get? a=some oe/\oe.cls=cls/\oe.data=.fields vs
def Cx.inH (X:Cx)(a:Addr):Cx:={ X with A:=X.A.mark (some (.ref a)),calm:=false,xe:=λ_ _=>False }
section
variable {X:Cx}{pins:List (Addr×Obj)}{U:St}{H H':Hp}{s:Shared}
def Inv.inH (I:Inv X pins U H s)(a:Addr):Inv (X.inH a) pins U H s:=
 #[#[I.ok.mod,I.ok.kind,I.ok.glob,I.ok.blt,I.ok.above,I.ok.inj,I.ok.has,I.ok.cab,nofun,I.ok.frames,I.ok.stk,I.ok.exf,I.ok.bs,I.ok.bsz,I.ok.noex,I.ok.exfs,I.ok.funs,I.ok.frf],I.os,I.bare,I.base,I.loc,I.cell,I.free,I.freeC,I.pin,I.hok,I.len]
def Inv.outH {a:Addr}(hh:X.calm=true->X.A.handled=none)(I:Inv (X.inH a) pins U H s):Inv X pins U H s:=
 #[#[I.ok.mod,I.ok.kind,I.ok.glob,I.ok.blt,I.ok.above,I.ok.inj,I.ok.has,I.ok.cab,hh,I.ok.frames,I.ok.stk,I.ok.exf,I.ok.bs,I.ok.bsz,I.ok.noex,I.ok.exfs,I.ok.funs,I.ok.frf],I.os,I.bare,I.base,I.loc,I.cell,I.free,I.freeC,I.pin,I.hok,I.len]
def Inv.unname {i:Nat}{x:Str}{m:Str->Option Value}{h':Heap}{v:Option Value}{tk:Nat}(I:Inv X pins U H s)(hN:X.N.Nodup)(hi:X.N[i]?=some x)(hn:s.heap.Ns X.env.locals m)(hn':h'.Ns X.env.locals (λy=>if y=x then v else m y))(hs:Heap.SameBut X.env.locals s.heap h') :
  Inv X pins (U.set i none) H { s with heap:=h',toks:=tk }:=by
 obtain ⟨m0,hn0,hl⟩:=id I.loc;have em:m0=m:=by
  funext y
  obtain ⟨o,es,ep,a1,a2,a3,a4⟩:=hn0;obtain ⟨o',es',ep',b1,b2,b3,b4⟩:=hn;rw[a1]at b1;cases b1
  rw[a2]at b2;cases b2
  rw[<-a4 y,<-b4 y]
 subst em;have ab:∀ b o,X.s₀.heap.get? b=some o->b≠X.env.locals:=λb o e=>yau (yak (yag e) I.ok.above);have trk:∀ b u,H b=some u->b≠X.env.locals:=λb u e=>zad e I.free;refine #[I.ok,I.os,I.bare,#[λb o e n hb hx=>(hs.2 b (ab b o e)).trans (I.base.keep b o e n hb hx),λb o e n hb hx=>?_,I.base.free,λb o e hx=>?_,I.base.tups,I.base.frzs,I.base.tbls],#[_,hn',λj y u e1 e2 e3=>?_],λy c e=>?_,I.free,I.freeC,λp hp=>?_,λb u e=>?_,by simpa using I.len]
 .obtain ⟨sl,e1⟩:=I.base.slot b o e n hb hx;exact #[sl,(hs.2 b (ab b o e)).trans e1]
 .obtain ⟨o',e1⟩:=I.base.there b o e hx;exact #[o',(hs.2 b (ab b o e)).trans e1]
 .have hj:j≠i:=λz=>by
   subst z;rw[ybE]at e2;simp at e2
  rw[yc5 (Ne.symm hj)]at e2;obtain ⟨u',r',q⟩:=hl j y u e1 e2 e3;have hyx:y≠x:=λz=>hj (ziC hN e1 (z ▸ hi));refine #[u',r',?_];rcases q with ⟨k,e⟩|⟨k,c,e,z⟩
  .exact .inl #[k,by simp[hyx,e]]
  .exact .inr #[k,c,e,z.sameBut hs (I.cne y c e)]
 .obtain ⟨w',z⟩:=I.cell y c e;exact #[w',z.sameBut hs (I.cne y c e)]
 .obtain ⟨e,n,ne,nf,d⟩:=I.pin p hp;exact #[(hs.2 p.1 ne).trans e,n,ne,nf,d]
 .refine (I.hok b u e).stay (λc w' hc q=>(hs.2 c ?_).trans q) (λ_ q=>q) λ_ _ q=>q;rcases hc with rfl|z
  .exact trk _ _ e
  .exact trk _ _ z
def Air.held {s':Shared}{a:Addr}{cls:Value}(I:Inv X pins U H1 s1)(ho:s'.os=s1.os)(hg:AllBare s'.gens)(x:Air X.prog X.w X.stack H1 s1.heap a cls fl H' h)(tk:Nat):Inv X pins U (upd H' a (zjE a cls)) { s' with heap:=h,toks:=tk }:=by
 obtain ⟨a0,oe,vs,T,oT,ts,⟨e1,e2,e3,_⟩,_,_⟩:=x.tr;have nt:∀ b u,H' b=some u->b≠a:=λb u e=>zad e x.ua;have un:Un (frs X.stack) [] H1 (upd H' a (zjE a cls)) s1.heap h:=by
  refine #[x.un.keep,x.un.slot,λb o e n hx=>?_,x.un.there,λb xs e=>?_,λb o u e=>?_,λb ps e=>?_]
  .rw[zag (λz=>by rw[z,x.na]at e;cases e)]
   exact x.un.free b o e n hx
  .have:=x.un.tups b xs e;rw[zag (nt b _ this)];exact this
  .have:=x.un.frzs b o u e;rw[zag (nt b _ this)];exact this
  .obtain ⟨m,this⟩:=x.un.tbls b ps e;exact #[m,by rw[zag (nt b _ this)];exact this]
 have hok:HOk X.prog X.w (upd H' a (zjE a cls)) h:=λb u e=>by
  by_cases hb:b=a
  .subst hb;rw[zab]at e;cases e
   exact #[#[oe,vs,e1,e2.1,e3],#[oe,e1],λh1 h2 zq0 k=>(by obtain ⟨o,ws,z1,z2,z3⟩:=zq0;exact #[o,ws,k o z1,z2,z3])]
  .rw[zag hb]at e;refine (x.hok b u e).stay (λc v _ q=>q) (λc q=>by rw[zag (nt c _ q)];exact q) λc xs q=>by rw[zag (nt c _ q)];exact q
 obtain ⟨hh,g,d,t,os⟩:=s';obtain rfl:os=s1.os:=ho;have J:=I.call (h':=h) (g':=g) (d':=d) (t':=tk) (ch:=[]) un hok hg (λb z=>absurd z .(h));exact J
def Air.inv {s':Shared}{a:Addr}{cls:Value}(I:Inv X pins U H1 s1)(ho:s'.os=s1.os)(hg:AllBare s'.gens)(x:Air X.prog X.w X.stack H1 s1.heap a cls fl H' h)(tk:Nat):Inv X pins U H' { s' with heap:=h,toks:=tk }:=by
 obtain ⟨hh,g,d,t,os⟩:=s';obtain rfl:os=s1.os:=ho;have J:=I.call (h':=h) (g':=g) (d':=d) (t':=tk) (ch:=[]) x.un x.hok hg (λb z=>absurd z .(h));exact J
end
structure zhf (K:Frag)(C D:Addr):Prop where
 sub:mroIn K C (.ref D)=some true
 cls:(PySem.W.clsIn K D).isSome=true
 ty:PySem.W.typeIn K (.ref D)=some (.type "type")
 exc:mroIn K D (.type "BaseException")=some true
def zoo {K:Frag}{prog:Program}{w:World}{A:Around}{E:Value->Shared->Prop}{s:Shared}{a:Addr}{oe:Obj}{Q:Bool->Shared->Prop}(X:K.In s.heap)(c:zhf K C D)(he:s.heap.get? a=some oe)(hc:oe.cls=.ref C)(q:Q true s):wpAny .(e) A (excMatches (.ref a) (.ref D)) Q E s:=by
 obtain ⟨hh,g,d,t,os⟩:=s;have L1:PySem.W.Looks .(e) hh (isInstance (.ref D) (.type "tuple")) false:=(PySem.W.looks_typeIn X c.ty).andThen (PySem.W.Looks.of_pure (by rw[isSubtype_type];kernel_rfl));have L2:PySem.W.Looks .(e) hh (isType (.ref D)) true:=by
  obtain ⟨cd,hcd⟩:=ycG.mp c.cls;unfold PySem.W.clsIn at hcd;split at hcd
  .rename_i ho;intro A' Q' E' s' k z;unfold isType loadHead;exact wpAny_bind (wpAny_loadPart (k _ _ (X _ _ ho)) (wpAny_pure z))
  .cases hcd
 have L3:=PySem.W.looks_mroIn (M:=model prog w) X c.exc;have L4:PySem.W.Looks .(e) hh (typeOf (.ref a)) (.ref C):=hc ▸ (PySem.W.Looks.ld he).andThen .now;have L5:=PySem.W.looks_mroIn (M:=model prog w) X c.sub;unfold excMatches;refine wpAny_bind (L1.at ?_);simp only[ya1,if_false];refine wpAny_bind (wpAny_pure ?_);simp only[List.forIn_cons,List.forIn_nil];refine wpAny_bind (wpAny_bind (wpAny_bind (m:=isExcClass _) ?_));unfold isExcClass;refine wpAny_bind (L2.at ?_);simp only[if_true];refine L3.at ?_;simp only[ycW,ya1,if_false];refine wpAny_pure (wpAny_pure ?_);refine wpAny_bind (L4.at ?_);refine wpAny_bind (wpAny_bind (wpAny_bind (L5.at ?_)));simp only[if_true];exact wpAny_pure (wpAny_pure (wpAny_pure q))
end L2
namespace L2
open PySem PySem.Spec PyProof.Rows
def PX (X:Cx)(e:Expr)(t:XK->TE):Prop:=∀(E:XK) (pins:List (Addr×Obj)) (s:Shared) (U:St) (H:Hp) (Q:VK),Inv X pins U H s->t E U H Q->
 wpAny .(d) X.A (eval e X.env) .(N) (λer s'=>∃ H1 s1,Inv X pins U H1 s1/\CXE X.prog X.w X.stack H1 s1 E er s') s
inductive hndE (K:Frag)(D:Addr)(i:Nat)(ts:TS)(De:Ends)(U:St)(cls:Value)(w_1:Option Addr)(H':Hp):Prop
 | c:∀ C,cls=.ref C->zhf K C D->(∀ a,H' a=none->ts { nx:=λU2 H2=>De.nx (U2.set i none) H2,rt:=λ_ _=>False } (U.set i (some (.ref a))) (upd H' a (zjE a cls)))->hndE K D i ts De U cls w_1 H'
def zug (K:Frag)(D:Addr)(i:Nat)(ts:TS)(tc:XK->TE)(j:Nat):TS:=λDe U H=>tc (hndE K D i ts De U) U H λv H'=>De.nx (U.set j (some v)) H'
section
variable {X:Cx}{i:Nat}{n c:Str}{D:Addr}{b0:Stmt}{bs:List Stmt}{ts:TS}{np hpos:Pos}
def zqd (hst:X.stack=X.env::X.outer)(hf:X.env.frame=some X.env.locals)(hN:X.N.Nodup)(hi:X.N[i]?=some n)(hx:X.env.scope.names.lookup n=some .local)(hm:X.mg c=some (.ref D))(hg:Gl X c)(suite:∀ a,PSs (X.inH a) (b0::bs) ts)(hdb:(c==("__debug__" : Str))=false)
        (I1:Inv X pins U H1 s1) (q:CXE X.prog X.w X.stack H1 s1 (hndE X.K D i ts De U) er s') :
  wpAny .(d) X.A (noteFrame er X.env) (λ_ s2=>wpAny .(d) X.A (setFlight er none) (λ_ s3=>wpAny .(d) X.A (handleBy er X.env [.ExceptHandler (some (.Name c np)) (some n) (b0::bs) hpos]) (SP X pins De) X.xe s3) X.xe s2) X.xe s':=by
 obtain ⟨a,cls,H',rfl,ho,hb,x,C,rfl,cat,hq⟩:=q;have fo:=λB h hB hh=>zfk I1.stack B h hB hh;obtain ⟨B,a0,b1,b2,b3,b4,next⟩:=x.step λB hB h hh=>fo B h hB hh
 refine wpAny_looks_onW (base:=B) (cls:=.ref C) (a0:=a0) (env:=X.env) (outer:=X.outer) (by rw[I1.ok.frames,hst]) hf #[b1,b2,hst ▸ b3,b4] λh4 k1 k2=>?_;have x4:=next h4 _ k1.1 k2 k1.2.2.2
 obtain ⟨B',a1,c1,c2,c3,c4,next'⟩:=x4.step λB hB h hh=>fo B h hB hh
 refine wpAny_landsW (base:=B') (l:=X.stack) (cls:=.ref C) (a0:=a1) (L:=X.env.locals) #[c1,c2,c3,c4] λh5 k3 k4=>?_;have x5:=next' h5 .none k3.1 k4 k3.2.2.2
 have J5:Inv (X.inH a) pins U H' { s' with heap:=h5 }:=(x5.inv I1 ho hb s'.toks).inH a;refine wpAny_handleBy_cons (codeAny_handlers_test ?_) (by intro z;cases z)
 refine zeE (X:=X.inH a) J5 hg hm ?_ hdb;obtain ⟨_,oe,vs,T,oT,tt,⟨e1,e2,_⟩,_,_⟩:=x5.tr;refine zoo (K:=X.K) J5.kIn cat e1 e2.1 ?_;refine codeAny_handlers_suite_as ?_;obtain ⟨B2,a2,d1,d2,d3,d4,next2⟩:=x5.step λB hB h hh=>fo B h hB hh;refine lands_againW (base:=B2) (l:=X.stack) (cls:=.ref C) (a0:=a2) #[d1,d2,d3,d4] λh6 k5 k6=>?_;have x6:=next2 h6 .none k5.1 k6 k5.2.2.2;have J6:Inv (X.inH a) pins U (upd H' a (zjE a (.ref C))) { s' with heap:=h6 }:=(x6.held I1 ho hb s'.toks).inH a;refine zgc (X:=X.inH a) J6 hN hi (.inl hx) (v:=.ref a) rfl (λs7 J7=>?_) (.inr hx);refine wpAny_mono (suite a pins s7 _ _ _ J7 (hq a x.ua)) (λfl s8 hf8=>?_) λ_ _ z=>z.elim;cases fl with
 | next=>
  obtain ⟨U2,H2,J8,q2⟩:=hf8;obtain ⟨m,hn,_⟩:=id J8.loc;refine wpAny_nameGoes_keeps hx hn (by rw[I1.ok.kind];rfl) λh9 v hn9 hs9=>?_;exact #[U2.set i none,H2,(J8.outH I1.ok.hd).unname hN hi hn hn9 hs9,q2]
 | ret u=>
  obtain ⟨_,_,_,_,_,z⟩:=hf8;exact z.elim
 | brk=>
  obtain ⟨_,_,_,z⟩:=hf8;exact z.elim
 | cont=>
  obtain ⟨_,_,_,z⟩:=hf8;exact z.elim
variable {ce:Expr}{tc:XK->TE}{epos tpos:Pos}
def zrz {j:Nat}{y:Str}{ypos:Pos}(hc:PX X ce tc)(hj:X.N[j]?=some y)(hy:X.env.scope.names.lookup y=some .local)(hst:X.stack=X.env::X.outer)(hf:X.env.frame=some X.env.locals)(hN:X.N.Nodup)(hi:X.N[i]?=some n)(hx:X.env.scope.names.lookup n=some .local)(hm:X.mg c=some (.ref D))(hg:Gl X c)(suite:∀ a,PSs (X.inH a) (b0::bs) ts)
  (hdb:(c==("__debug__" : Str))=false:=by decide) (hs:swapsWith ce (some (.Name y ypos)) epos.line X.env=pure false:=by rfl):PS X (.Try [.Assign [.Name y ypos] ce epos] [.ExceptHandler (some (.Name c np)) (some n) (b0::bs) hpos] [] [] tpos) (zug X.K D i ts tc j):=by
 intro pins s U H De I h;refine wpAny_Try_except (wpAny_execs_cons (wpAny_Assign_Name (wpAny_mono (hc _ pins s U H _ I h) (λv s1 ⟨z,H1,I1,r1,q1⟩=>?_) λer s' ⟨H1,s1,I1,q⟩=>?_) hs))
 .exact zgc I1 hN hj (.inl hy) r1 (λs2 I2=>wpAny_execs_nil (wpAny_execs_nil #[_,H1,I2,q1])) (.inr hy)
 .exact zqd hst hf hN hi hx hm hg suite hdb I1 q
end
end L2
namespace L2
open PySem PySem.Spec PyProof.Rows PySem.W
structure ExcC (K:Frag)(C:Addr):Prop where
 ga:findIn K (.ref C) "__getattribute__" = some (some (.builtin "BaseException.__getattribute__"))
 gn:findIn K (.ref C) "__getattr__" = some none
 ca:findIn K (.ref C) "__class__" = some (some .(P))
 gg:specialIn K .(P) "__get__" = some (some (.builtin "getset_descriptor.__get__"))
 gt:takesIn K .(P)=some true
 ob:mroIn K C (.type "object")=some true
 be:mroIn K C (.type "BaseException")=some true
 cl:(clsIn K C).isSome=true
section
variable {prog:Program}{w:World}{A:Around}{E:Value->Shared->Prop}{s:Shared}{K:Frag}{x C:Addr}{ox:Obj}{vs:Array Value}
def zsn {R:Result->Shared->Prop}{hh:Heap}{g:Array GenState}{d:Drawn}{t:Nat}{os:OsState}(L0:Looks .(e) hh (typeOf (.ref x)) (.ref C))(L6:Looks .(e) hh (isSubtype (.ref C) (.type "object")) true)(hq:R (.ok (.ret (.ref C))) #[hh,g,d,t,os]) :
  codeAny .(e) A (.call (.builtin "getset_descriptor.__get__") #[[.builtin "object.__class__",.ref x,.ref C],[]]) R #[hh,g,d,t,os]:=by
 have hT5:(#[hh,g,d,t,os]:Shared).TypeIs .(P) "getset_descriptor":=F.typeOf_object_class;have eo:(".".intercalate ("object.__class__".cutAt '.').dropLast) = "object":=by
  rw[show "object.__class__".cutAt '.'=["object","__class__"] by first|rfl|decide +kernel]
  decide +kernel
 have L8:Looks .(e) hh (isSubtype (.ref C) (.type (".".intercalate ("object.__class__".cutAt '.').dropLast))) true:=by rw[eo];exact L6
 refine codeAny_call_builtin F.slot_gs_get.plain F.entry_gs_get ?_;refine F.slot_gs_get.check _ _ _ _ _ _ _ _ hT5 (F.args_gs_get _ _ _) ?_
 repeat (any_goals (first|assumption|(with_reducible refine L0.at ?_)|(with_reducible refine L8.at ?_)|wp_step))
 refine #[Code.quiet_builtin _ (by decide +kernel),?_];refine codeAny_builtin F.entry_object_class ?_
 repeat (any_goals (first|assumption|(with_reducible refine L0.at ?_)|wp_step))
set_option maxHeartbeats 4000000 in
def zop {Q:Option Value->Shared->Prop}(X:K.In s.heap)(c:ExcC K C)(he:s.heap.get? x=some ox)(hc:ox.cls=.ref C)(hd:ox.data=.fields vs)(h:Q (some (.ref C)) { s with toks:=s.toks+1 }) :
  wpAny .(e) A (getAttr? (.ref x) "__class__") Q E s:=by
 obtain ⟨hh,g,d,t,os⟩:=s;have L0:Looks .(e) hh (typeOf (.ref x)) (.ref C):=hc ▸ (Looks.ld he).andThen .now;have L1:=looks_findIn (M:=model prog w) X c.ga;have f3:=F.excAttr_ValueError.ga.bind (.ref x);unfold getAttr? getAttrBy? getAttrBy;refine wpAny_bind (wpAny_mkText (wpAny_bind (wpAny_attempt (wpAny_holding (wpAny_bind (L0.at (wpAny_bind (L1.at ?_))))))));have hx2:(onTheHeap (Value.ref C)&&Value.builtin "BaseException.__getattribute__" == Value.builtin "object.__getattribute__")=false:=by
  rw[show (Value.builtin "BaseException.__getattribute__" == Value.builtin "object.__getattribute__")=false by decide +kernel,Bool.and_false]
 show wpAny _ _ (if _ then _ else _) _ _ _
 rw[hx2];simp only[ya1,if_false];have L2:=looks_findIn (M:=model prog w) X c.gn;have hx0:(false&&onTheHeap (Value.builtin "BaseException.__getattribute__"))=false:=rfl;unfold getAttrByItsOwn hookBefore callGetattribute;dsimp only at X he L1 L2
 repeat (any_goals (first|assumption|(with_reducible refine L0.at ?_)|(with_reducible refine L1.at ?_)|(with_reducible refine L2.at ?_)|wp_step))
 have L3:=looks_mroIn (M:=model prog w) X c.be;have L6:=looks_mroIn (M:=model prog w) X c.ob;have LI:Looks .(e) hh (isInstance (.ref x) (.type "BaseException")) true:=L0.andThen L3;have L4:=looks_findIn (M:=model prog w) X c.ca;have L5:=looks_specialIn (M:=model prog w) X c.gg;have L7:=looks_takesIn (M:=model prog w) X c.gt;have hk:builtinKind "BaseException.__getattribute__" = some .slot:=by decide +kernel
 have hsp:splitId "BaseException.__getattribute__" = some ("BaseException","__getattribute__"):=by decide +kernel
 refine codeAny_call_builtin F.excAttr_ValueError.ga.plain F.entry_bexc_ga ?_;have ha:=F.args_bexc_ga (.ref x) (.str "__class__" t);show wpAny _ _ (checkBuiltinCall _ _) _ _ _;simp only[checkBuiltinCall,hk,hsp];refine wpAny_bind (LI.at ?_)
 repeat (any_goals (first|assumption|(with_reducible refine L0.at ?_)|(with_reducible refine L4.at ?_)|(with_reducible refine L5.at ?_)|(with_reducible refine L7.at ?_)|wp_step))
 refine zsn L0 L6 ?_
 repeat (any_goals (first|assumption|wp_step))
end
def ziJ {K:Frag}{a:Addr}(c:ExcC K C):KitX K (.ref a) (.ref C) (λh=>∃ oe vs,h.get? a=some oe/\oe.cls=.ref C/\oe.data=.fields vs) where
 ty:=λM h _ ⟨oe,_,e1,e2,_⟩=>e2 ▸ (Looks.ld e1).andThen .now
 it:=λM h X _=>by
  obtain ⟨cd,hcd⟩:=ycG.mp c.cl;unfold clsIn at hcd;split at hcd
  .rename_i ho;intro A' Q' E' s' k z;unfold isType loadHead;exact wpAny_bind (wpAny_loadPart (k _ _ (X _ _ ho)) (wpAny_pure z))
  .cases hcd
 ne:=λh tp dd its n sl X htp=>by
  obtain ⟨cd,hcd⟩:=ycG.mp c.cl;refine ycA.mpr λq=>?_;have e:C=tp:=Value.ref.inj (beq_iff_eq.mp q);subst e;unfold clsIn at hcd;split at hcd
  .rename_i ho;rw[X _ _ ho]at htp;cases htp
  .cases hcd
 ca:=λX ⟨_,_,e1,e2,e3⟩ k=>zop X c e1 e2 e3 k
inductive zsZ (K:Frag)(xs:List V)(H:Hp)(Q:VK):Prop
 | c:∀ a C c b,xs=[.ref a,c]->H a=some (zjE a (.ref C))->ExcC K C->((∃ D,c=.ref D/\kitOne K (.ref C) (.ref D)=some b)\/(∃ n,c=.ty n/\kitOne K (.ref C) (.type n)=some b)\/∃(tp:Addr) (Ds:List Addr),c=.ref tp/\H tp=some (.tup (Ds.map V.ref))/\kitAny K (.ref C) (Ds.map Value.ref)=some b)->Q (.bl b) H->zsZ K xs H Q
def zkS:∀{Ds:List Addr} {us:List Value},Vals (Ds.map V.ref) us->us=Ds.map Value.ref
 | [],_,.nil=>rfl
 | d::ds,_,.cons r t=>by
  cases r
  rw[zkS t];rfl
def zdX :zcL X (.builtin "isinstance") (zsZ X.K):=by
 intro pins s U H xs us Q I r h;obtain ⟨a,C,c,b,rfl,ea,cc,hk,q⟩:=h;obtain ⟨u,v,rfl,r1,r2⟩:=zhg r;cases r1
 obtain ⟨p,_,_⟩:=(show zbl X.prog X.w H s.heap a (zjE a (.ref C)) from I.hok a _ ea);rcases hk with ⟨D,rfl,e⟩|⟨n,rfl,e⟩|⟨tp,Ds,rfl,ht,e⟩
 .cases r2
  exact kia_one (ziJ cc) I.kIn p e nofun λtk=>#[.bl b,H,I.tok tk,rfl,q]
 .cases r2
  exact kia_one (ziJ cc) I.kIn p e nofun λtk=>#[.bl b,H,I.tok tk,rfl,q]
 .cases r2
  obtain ⟨_,its,rv,o,h1,h2,n,h3⟩:=(show zbl X.prog X.w H s.heap tp (.tup (Ds.map V.ref)) from I.hok tp _ ht);have ei:=zkS rv;subst ei;obtain ⟨oc,odc,oda,osl⟩:=o;dsimp only at h2 h3;subst h2 h3;exact kia_tup (ziJ cc) I.kIn p h1 e nofun λtk=>#[.bl b,H,I.tok tk,rfl,q]
end L2
namespace L2
open PySem PySem.Spec PyProof.Rows
section
variable {P:Program}{w:World}{K:Frag}{mg:Str->Option Value}{base:Heap}{k:Nat}{x:Str}{ps:List Str}{sp sp2:Sp}
def FC.fx (F:FC P w K mg base k x ps sp):FX P w K mg base k x ps sp:=by
 obtain ⟨f,fd,ok,b,kp,m,l⟩:=F.ex;refine #[f,fd,#[ok.len,λA outer s H args us vs Q E hr he hb hv hs=>?_],b,kp,m,l];refine codeAny_mono (ok.run A outer s H args us vs Q E hr he hb hv hs) λr s' hq=>?_;cases r with
 | error e=>exact False.elim hq
 | ok fl=>
  cases fl with
  | ret u=>exact hq
  | next=>exact hq
  | brk=>exact hq
  | cont=>exact hq
def FX.or (F:FX P w K mg base k x ps sp)(G:FX P w K mg base k x ps sp2):FX P w K mg base k x ps (λvs H Q E=>sp vs H Q E\/sp2 vs H Q E):=by
 obtain ⟨f,fd,ok,b,kp,m,oc,od,osl,l⟩:=F.ex;obtain ⟨f2,fd2,ok2,b2,kp2,m2,oc2,od2,osl2,l2⟩:=G.ex;rw[m]at m2;cases m2
 rw[l]at l2;cases l2
 refine #[f,fd,#[λvs H Q E h=>h.elim (ok.len _ _ _ _) (ok2.len _ _ _ _),λA outer s H args us vs Q E hr he hb hv hs=>?_],b,kp,m,oc,od,osl,l];rcases hs with hs|hs
 .exact ok.run A outer s H args us vs Q E hr he hb hv hs
 .exact ok2.run A outer s H args us vs Q E hr he hb hv hs
end
end L2
namespace L2
open PySem PySem.Spec PyProof.Rows
structure FMX (P:Program)(w:World)(K:Frag)(mg:Str->Option Value)(base:Heap)(C:Addr)(k:Nat)(m:Str)(ps:List Str)(sp:Sp):Prop where
 ex:∃ f fd,FnOk P w K mg base (CXE P w) k f fd ps sp/\zdx K fd ps []/\Meth K C m f/\∃ oc od osl,K.lookup f=some #[oc,od,.func fd,osl]
def DM.okx {w:World}{K:Frag}{mg:Str->Option Value}{base:Heap}{st:Stmt}{N:List Str}{k:Nat}{sp:Sp}(D:DM K C m q st ps)(S:zar N ps (zaj st))(len:∀ vs H Q E,sp vs H Q E->vs.length=ps.length)
  (hbody:∀(f:Addr) (cdv:Value) (A:Around) (outer:List Env) (s:Shared) (H:Hp) (vs:List V) (Q:VK) (E:XK),Room k (A.deeper (envOfC q (zaj st) s.heap.objs.size f cdv))->sp vs H Q E->
   ∃ t,PSs (cxE P w K mg base N q (zaj st) f cdv A outer s H E) (za3 st) t/\t { nx:=λ_ H'=>Q .non H',rt:=Q } (zdb N vs) H):FMX P w K mg base C (k+1) m ps sp:=by
 obtain ⟨f,fd,F,b,me⟩:=D.ex;obtain ⟨oc,od,kV,doc,pm,an,cdv,ct,osl,rfl,lk,hcd⟩:=F.ex;exact #[f,_,zp5 lk hcd S len λA outer s H vs Q E hr hsp=>hbody f cdv A outer s H vs Q E hr hsp,b,me,oc,od,osl,lk]
section
variable {P:Program}{w:World}{K:Frag}{mg:Str->Option Value}{base:Heap}{C:Addr}{k:Nat}{m:Str}{ps:List Str}{sp sp2:Sp}
def FM.fx (F:FM P w K mg base C k m ps sp):FMX P w K mg base C k m ps sp:=by
 obtain ⟨f,fd,ok,b,me,l⟩:=F.ex;refine #[f,fd,#[ok.len,λA outer s H args us vs Q E hr he hb hv hs=>?_],b,me,l];refine codeAny_mono (ok.run A outer s H args us vs Q E hr he hb hv hs) λr s' hq=>?_;cases r with
 | error e=>exact False.elim hq
 | ok fl=>
  cases fl with
  | ret u=>exact hq
  | next=>exact hq
  | brk=>exact hq
  | cont=>exact hq
def FMX.or (F:FMX P w K mg base C k m ps sp)(G:FMX P w K mg base C k m ps sp2):FMX P w K mg base C k m ps (λvs H Q E=>sp vs H Q E\/sp2 vs H Q E):=by
 obtain ⟨f,fd,ok,b,me,oc,od,osl,l⟩:=F.ex;obtain ⟨f2,fd2,ok2,b2,me2,oc2,od2,osl2,l2⟩:=G.ex;have e:=me.at_.symm.trans me2.at_;cases e
 rw[l]at l2;cases l2
 refine #[f,fd,#[λvs H Q E h=>h.elim (ok.len _ _ _ _) (ok2.len _ _ _ _),λA outer s H args us vs Q E hr he hb hv hs=>?_],b,me,oc,od,osl,l];rcases hs with hs|hs
 .exact ok.run A outer s H args us vs Q E hr he hb hv hs
 .exact ok2.run A outer s H args us vs Q E hr he hb hv hs
end
inductive zoO (C:Addr)(m:Str)(sp:Sp)(t:TA)(E:XK)(U:St)(Q:VK)(x:V)(H1:Hp):Prop
 | c:∀ a dx fs,x=.ref a->H1 a=some (.ins C dx fs)->fs.lookup m=none->(t U H1 λvs H2=>sp (x::vs) H2 Q E)->zoO C m sp t E U Q x H1
def zsO (C:Addr)(m:Str)(sp:Sp)(ta:TE)(t:TA)(E:XK):TE:=λU H Q=>ta U H λx H1=>zoO C m sp t E U Q x H1
section
variable {X:Cx}{j k:Nat}{C:Addr}{m:Str}{ps:List Str}{sp:Sp}{o e:Expr}{es:List Expr}{ta:TE}{t:TA}{p pos apos:Pos}{E:XK}
def zrx {pl:Sem Bool}(F:FMX X.prog X.w X.K X.mg X.base C j m ps sp)(c:Cls X.K C)(hr:Room k X.A)(he:PE X.nox o ta)(ha:PA X.nox (e::es) t)(hjk:j<=k:=by decide)
  (hst:starEach (e::es) X.env= .(B)::starEach es X.env:=by rfl) (hpl: .(t).any (·.1)=false:=by rfl)
  (ht:eval (.Call (.Attribute o m apos) (e::es) [] pos) X.env=(do
   let ov <-eval o X.env
   standAt apos.atName
   let (f,first) <-holding [ov] (getMethod ov m pl)
   callWith pos f first (backTo pos (starEach (e::es) X.env)) (backToKw pos (keywordEach [] X.env))):=by rfl) :
  PX X (.Call (.Attribute o m apos) (e::es) [] pos) (zsO C m sp ta t):=by
 intro E pins s U H Q I h;obtain ⟨f,fd,ok,b,me,_⟩:=F.ex;refine PySem.W.methodCall_KW (pl:=pl) (wpAny_mono (he pins s U H _ (I.wish _) h) (λu s1 z=>?_) λ_ _ z=>z.elim) ht;obtain ⟨x,H1,I1,rx,a,dx,fs,ex,ea,l,q⟩:=z;subst ex;obtain rfl:u=Value.ref a:=rx;refine zfI I1.unwish ea c me l ?_;refine PySem.W.callWith_K (first:=[.ref a]) (h₀:=X.base) I.ok.mod.kin me.kp (wpAny_mono (ha pos pins s1 U H1 _ I1 q) (λus s2 z=>#[?_,?_]) λ_ _ z=>z.elim) hst hpl
 .obtain ⟨vs,H2,I2,r,q2⟩:=z;exact I2.kIn
 obtain ⟨vs,H2,I2,r,q2⟩:=z;have I2':Inv X pins U H2 s2:=I2.unwish;have r2:Vals (.ref a::vs) (.ref a::us):=.cons rfl r;have hl:(Value.ref a::us++[]).length=ps.length:=by rw[yaw,<-r2.length];exact ok.len _ _ _ _ q2
 have hb:=b s2 (.ref a::us) I2'.kIn hl;rw[yaw]at hb;refine wpAny_call (codeAny_mono (ok.run X.A X.stack s2 H2 #[.ref a::us,[]] (.ref a::us) (.ref a::vs) Q E (hr.mono hjk) I2'.env0 hb r2 q2) λres s' hq=>?_);cases res with
 | error er=>exact #[H2,s2,I2',hq]
 | ok fl=>
  cases fl with
  | ret u=>exact I2'.after hq
  | next=>exact False.elim hq
  | brk=>exact False.elim hq
  | cont=>exact False.elim hq
end
end L2
set_option maxHeartbeats 4000000
namespace My
open PySem PySem.Spec PyProof.Rows L2
local macro_rules|`(tactic| walk_at "sc") => `(tactic| exact ⟨rfl,rfl,rfl,by decide +kernel,rfl,by decide +kernel,by decide +kernel⟩)
local macro_rules|`(tactic| walk_at "side")=>`(tactic| first|lia|(dsimp only;lia)|(simp only[CDiv,zuC,CPow,CMul];lia)|decide)
local macro_rules|`(tactic| walk_at "rd")=>`(tactic| repeat (first|(refine ⟨_,_,rfl,rfl,(by walk_at "side"),?_⟩)|(refine ⟨_,rfl,?_⟩)|(refine ⟨_,_,rfl,rfl,?_⟩)|(refine ⟨rfl,?_⟩)|(refine ⟨(by walk_at "side"),?_⟩)))
def top (i:Nat):Stmt:=PySem.Challenge.pw_bridgefind_k47_knots_hung.main.body.getD i (.Pass #[0,0,0,0])
abbrev zeb:Stmt:=top 16
abbrev zgp:Stmt:=top 17
abbrev zd6:Stmt:=top 18
abbrev zk6:Stmt:=top 19
abbrev zbD:Stmt:=top 20
abbrev zfB:Stmt:=top 21
abbrev zdd:Stmt:=top 22
abbrev zbL:Stmt:=top 25
abbrev zgg:Stmt:=top 26
abbrev zgi:Stmt:=top 27
abbrev zcQ:Stmt:=top 29
abbrev zcR:Stmt:=top 30
abbrev zeV:Stmt:=top 31
abbrev zik:Stmt:=top 32
abbrev zgq:Stmt:=top 33
abbrev za6:Stmt:=top 36
abbrev zeQ:Stmt:=top 37
abbrev zcC:Stmt:=top 38
abbrev zec:Stmt:=top 39
abbrev zeW:Stmt:=top 40
abbrev zgh:Stmt:=top 43
abbrev zbM:Stmt:=top 44
abbrev zd5:Stmt:=top 45
abbrev zd4:Stmt:=top 46
abbrev zcn:Stmt:=top 47
abbrev zbb:Stmt:=top 48
abbrev zde:Stmt:=top 49
abbrev zeP:Stmt:=top 51
abbrev zeU:Stmt:=top 54
abbrev zeR:Stmt:=top 55
abbrev zgk:Stmt:=top 56
abbrev zim:Stmt:=top 57
abbrev zgj:Stmt:=top 58
abbrev zil:Stmt:=top 59
abbrev zgm:Stmt:=top 60
abbrev zgo:Stmt:=top 61
abbrev zd7:Stmt:=top 62
abbrev zdc:Stmt:=top 63
abbrev zeS:Stmt:=top 64
abbrev zeT:Stmt:=top 65
abbrev zd9:Stmt:=top 66
abbrev zcS:Stmt:=top 67
abbrev zgl:Stmt:=top 68
abbrev zea:Stmt:=top 69
abbrev zgn:Stmt:=top 70
abbrev zd8:Stmt:=top 71
abbrev zo8:Stmt:=top 72
abbrev zbF:Stmt:=zdS (top 52) 0
abbrev zbN:Stmt:=zdS (top 52) 1
abbrev zbE:Stmt:=zdS (top 52) 2
abbrev zdf:Stmt:=zdS (top 52) 3
abbrev zdg:Stmt:=zdS (top 52) 4
abbrev zce:Stmt:=zdS (top 52) 5
abbrev zco:Stmt:=zdS (top 52) 6
abbrev zcT:Stmt:=zdS (top 52) 7
def qds:zar ["thing"] ["thing"] (zaj zeb):=by walk_at "sc"
def qef:zar ["thing"] ["thing"] (zaj zgp):=by walk_at "sc"
def qdt:zar ["thing"] ["thing"] (zaj zd6):=by walk_at "sc"
def qdu:zar ["entry","key","z"] ["entry"] (zaj zk6):=by walk_at "sc"
def qam:zar ["length","is_below","low","high","middle"] ["length","is_below"] (zaj zbD):=by walk_at "sc"
def qey:zar ["row","key"] ["row","key"] (zaj zfB):=by walk_at "sc"
def qaY:zar ["lists","together","entries"] ["lists"] (zaj zdd):=by walk_at "sc"
def qaX:zar ["one","other","unlike"] ["one","other"] (zaj zbL):=by walk_at "sc"
def qaZ:zar ["numbers","told","at","number","figure"] ["numbers"] (zaj zgg):=by walk_at "sc"
def qbk:zar ["entries","numbers","turn"] ["entries"] (zaj zgi):=by walk_at "sc"
def qcS:zar ["things","at"] ["things","at"] (zaj zcQ):=by walk_at "sc"
def qcT:zar ["taken"] ["taken"] (zaj zcR):=by walk_at "sc"
def qbb:zar ["numbers","told","label","at"] ["numbers"] (zaj zeV):=by walk_at "sc"
def qbl:zar ["entries","tints","told","colour","at"] ["entries"] (zaj zik):=by walk_at "sc"
def qeg:zar ["entries"] ["entries"] (zaj zgq):=by walk_at "sc"
def qaR:zar ["many","thing"] ["many","thing"] (zaj za6):=by walk_at "sc"
def qcQ:zar ["parents","knot"] ["parents"] (zaj zeQ):=by walk_at "sc"
def qbI:zar ["tree","thing"] ["tree","thing"] (zaj zcC):=by walk_at "sc"
def qdv:zar ["tree","knot"] ["tree","knot"] (zaj zec):=by walk_at "sc"
def qbo:zar ["tree","knot","told","other"] ["tree","knot"] (zaj zeW):=by walk_at "sc"
def qde:zar ["things","thing"] ["things"] (zaj zgh):=by walk_at "sc"
def qbL:zar ["lists"] ["lists"] (zaj zbM):=by walk_at "sc"
def qb5:zar ["tree","rows","told"] ["tree","rows"] (zaj zd5):=by walk_at "sc"
def qb6:zar ["stand","knot","row","rows"] ["stand","knot","row"] (zaj zd4):=by walk_at "sc"
def qcE:zar ["stand","knot"] ["stand","knot"] (zaj zcn):=by walk_at "sc"
def qal:zar ["stand","knot","tree","told","at","parts"] ["stand","knot"] (zaj zbb):=by walk_at "sc"
def qbJ:zar ["stand","told"] ["stand"] (zaj zde):=by walk_at "sc"
def qbp:zar ["entries","others","away","entry"] ["entries","others"] (zaj zeP):=by walk_at "sc"
def qdQ:zar ["_law_script"] ["_law_script"] (zaj zeU):=by walk_at "sc"
def qbq:zar ["_law_cell","_law_k","_law_one","_law_two"] ["_law_cell","_law_k"] (zaj zeR):=by walk_at "sc"
def qaS:zar ["_law_state","_law_most","_law_k","_law_script","_law_cell","_law_found"] ["_law_state","_law_most"] (zaj zgk):=by walk_at "sc"
def qdL:zar ["_law_state","_law_way"] ["_law_state"] (zaj zim):=by walk_at "sc"
def qbm:zar ["_law_state","_law_most","_law_way","_law_parents","_law_k"] ["_law_state","_law_most"] (zaj zgj):=by walk_at "sc"
def qcU:zar ["_law_state","_law_most","_law_found","_law_k"] ["_law_state","_law_most"] (zaj zil):=by walk_at "sc"
def qaT:zar ["_law_state","_law_many","_law_most","_law_rows_here","_law_k","_law_row_here"] ["_law_state","_law_many","_law_most"] (zaj zgm):=by walk_at "sc"
def qb7:zar ["_law_entry","_law_key_here","_law_knot"] ["_law_entry"] (zaj zgo):=by walk_at "sc"
def qav:zar ["_law_numbers","_law_found","_law_k","_law_one","_law_other","_law_b"] ["_law_numbers"] (zaj zd7):=by walk_at "sc"
def qaA:zar ["_law_numbers","_law_found","_law_high","_law_at","_law_k","_law_beside"] ["_law_numbers"] (zaj zdc):=by walk_at "sc"
def qaB:zar ["_law_entries","_law_numbers","_law_k","_law_shades","_law_found","_law_shade"] ["_law_entries"] (zaj zeS):=by walk_at "sc"
def qaL:zar ["_law_tree_here","_law_rows_here","_law_found","_law_k","_law_up","_law_entry","_law_is_on"] ["_law_tree_here","_law_rows_here"] (zaj zeT):=by walk_at "sc"
def qb8:zar ["_law_before","_law_behind_here","_law_gone"] ["_law_before","_law_behind_here"] (zaj zd9):=by walk_at "sc"
def qaD:zar ["_law_tree_here","_law_ahead","_law_fulls_here","_law_knot","_law_found","_law_gone","_law_come"] ["_law_tree_here","_law_ahead","_law_fulls_here","_law_knot"] (zaj zcS):=by walk_at "sc"
def qbn:zar ["_law_state","_law_tree_here","_law_rows_here","_law_knot","_law_key_here"] ["_law_state","_law_tree_here","_law_rows_here"] (zaj zgl):=by walk_at "sc"
def qb9:zar ["_law_rows_here","_law_knot","_law_key_here","_law_is_put","_law_found"] ["_law_rows_here","_law_knot","_law_key_here","_law_is_put"] (zaj zea):=by walk_at "sc"
def qa0:zar ["_law_shelf","_law_knot","_law_caught","_law_found","e"] ["_law_shelf","_law_knot"] (zaj zgn):=by walk_at "sc"
def qdw:zar ["_law_shelf","_law_tree_here","_law_rows_here","_law_fulls_here"] ["_law_shelf","_law_tree_here","_law_rows_here","_law_fulls_here"] (zaj zd8):=by walk_at "sc"
def qax:zar ["_law_script","_law_state","_law_tree_here","_law_many","_law_rows_here","_law_shelf","_law_k","_law_knot","_law_found","_law_ahead","_law_key_here","_law_is_put","_law_fulls_here","_law_due"] ["_law_script"] (zaj zo8):=by walk_at "sc"
def qbr:zar ["self","stand"] ["self","stand"] (zaj zbF):=by walk_at "sc"
def qbM:zar ["self","knot","key"] ["self","knot","key"] (zaj zbN):=by walk_at "sc"
def qak:zar ["self","knot","gone","come","told","before","after"] ["self","knot","gone","come"] (zaj zbE):=by walk_at "sc"
def qa1:zar ["self","knot","key","row","at"] ["self","knot","key"] (zaj zdf):=by walk_at "sc"
def qa2:zar ["self","knot","key","row","at"] ["self","knot","key"] (zaj zdg):=by walk_at "sc"
def qaK:zar ["self","parent","tree"] ["self","parent"] (zaj zce):=by walk_at "sc"
def qcF:zar ["self"] ["self"] (zaj zco):=by walk_at "sc"
def qcV:zar ["self","knot"] ["self","knot"] (zaj zcT):=by walk_at "sc"
abbrev zb5:List Str:=["thing"]
abbrev zdK:List Str:=["thing"]
abbrev zdj:List Str:=["thing"]
abbrev zit:List Str:=["entry"]
abbrev zbq:List Str:=["length","is_below"]
abbrev ze1:List Str:=["row","key"]
abbrev zcf:List Str:=["lists"]
abbrev zbG:List Str:=["one","other"]
abbrev zeZ:List Str:=["numbers"]
abbrev ze2:List Str:=["entries"]
abbrev zbO:List Str:=["things","at"]
abbrev zcp:List Str:=["taken"]
abbrev zek:List Str:=["numbers"]
abbrev zgt:List Str:=["entries"]
abbrev zdL:List Str:=["entries"]
abbrev zaH:List Str:=["many","thing"]
abbrev zef:List Str:=["parents"]
abbrev zaY:List Str:=["tree","thing"]
abbrev zdo:List Str:=["tree","knot"]
abbrev zel:List Str:=["tree","knot"]
abbrev ze0:List Str:=["things"]
abbrev zbh:List Str:=["lists"]
abbrev zdi:List Str:=["tree","rows"]
abbrev zcE:List Str:=["stand","knot","row"]
abbrev zb9:List Str:=["stand","knot"]
abbrev za5:List Str:=["stand","knot"]
abbrev zcW:List Str:=["stand"]
abbrev zee:List Str:=["entries","others"]
abbrev zej:List Str:=["_law_script"]
abbrev zeg:List Str:=["_law_cell","_law_k"]
abbrev zbP:List Str:=["_law_state","_law_most"]
abbrev ze6:List Str:=["_law_state"]
abbrev ze3:List Str:=["_law_state","_law_most"]
abbrev zgu:List Str:=["_law_state","_law_most"]
abbrev ze5:List Str:=["_law_state","_law_many","_law_most"]
abbrev ze8:List Str:=["_law_entry"]
abbrev zdk:List Str:=["_law_numbers"]
abbrev zcV:List Str:=["_law_numbers"]
abbrev zeh:List Str:=["_law_entries"]
abbrev zei:List Str:=["_law_tree_here","_law_rows_here"]
abbrev zdm:List Str:=["_law_before","_law_behind_here"]
abbrev zcq:List Str:=["_law_tree_here","_law_ahead","_law_fulls_here","_law_knot"]
abbrev ze4:List Str:=["_law_state","_law_tree_here","_law_rows_here"]
abbrev zdn:List Str:=["_law_rows_here","_law_knot","_law_key_here","_law_is_put"]
abbrev ze7:List Str:=["_law_shelf","_law_knot"]
abbrev zdl:List Str:=["_law_shelf","_law_tree_here","_law_rows_here","_law_fulls_here"]
abbrev zle:List Str:=["_law_script"]
abbrev zbs:List Str:=["self","stand"]
abbrev zbi:List Str:=["self","knot","key"]
abbrev za7:List Str:=["self","knot","gone","come"]
abbrev zcX:List Str:=["self","knot","key"]
abbrev zcY:List Str:=["self","knot","key"]
abbrev zbr:List Str:=["self","parent"]
abbrev zca:List Str:=["self"]
abbrev zcr:List Str:=["self","knot"]
structure Txt (K:Frag)(mg:Str->Option Value):Prop where
 qdf:mg "ValueError" = none
 qeW:mg "abs" = none
 qeV:mg "bool" = none
 qdx:mg "enumerate" = none
 qeX:mg "int" = none
 qah:mg "isinstance" = none
 qas:mg "len" = none
 qbK:mg "list" = none
 qeY:mg "max" = none
 qfl:mg "min" = none
 qat:mg "range" = none
 qdR:mg "reversed" = none
 qfm:mg "set" = none
 qbc:mg "sorted" = none
 qfn:mg "sum" = none
 qaE:mg "tuple" = none
 qfh:mg "zip" = none
 qcG:∃ t,mg "KNOT_NUMBERS" = some (.int 64 t)
 qeZ:∃ t,mg "TURNS" = some (.int 5 t)
 qa3:∃ t,mg "MOST_KNOTS" = some (.int 40 t)
 qca:∃ t,mg "MOST_KEYS" = some (.int 300 t)
structure OwnC (K:Frag)(mg:Str->Option Value)(C:Addr):Prop where
 cl:L2.Cls K C
 mgC:mg "Shelf" = some (.ref C)
 n_kept:zf5 K C "kept"
 n_fulls:zf5 K C "fulls"
structure Cls (K:Frag)(mg:Str->Option Value)(qac qai qao qae qap qaf qab qaa qaq qag qar qaj qaw:Addr):Prop where
 qcW:mg "BridgeError" = some (.ref qac)
 qez:mg "NoTree" = some (.ref qai)
 qe0:mg "NoWay" = some (.ref qao)
 qeh:mg "NoStand" = some (.ref qae)
 qe1:mg "Twice" = some (.ref qap)
 qei:mg "Missing" = some (.ref qaf)
 qdM:mg "NoRoom" = some .(v)
 qeA:mg "NoKnot" = some .(w)
 qe2:mg "NoKey" = some (.ref qaq)
 qej:mg "NoOrder" = some (.ref qag)
 qe3:mg "NoRow" = some (.ref qar)
 qeB:mg "NoText" = some (.ref qaj)
 qfo:mg "Shelf" = some (.ref qaw)
 qeC:Exc K mg "NoKnot" qaa
 qeD:ExcC K qaa
 qeE:zhf K qaa qac
 qeF:kitOne K .(w) (.type "ValueError")=some true
 qdq:kitOne K .(w) (.ref qac)=some true
 qcb:kitOne K .(w) (.ref qai)=some false
 qcH:kitOne K .(w) (.ref qao)=some false
 qbN:kitOne K .(w) (.ref qae)=some false
 qcI:kitOne K .(w) (.ref qap)=some false
 qbO:kitOne K .(w) (.ref qaf)=some false
 qcc:kitOne K .(w) .(v)=some false
 qcd:kitOne K .(w) .(w)=some true
 qcJ:kitOne K .(w) (.ref qaq)=some false
 qbP:kitOne K .(w) (.ref qag)=some false
 qcK:kitOne K .(w) (.ref qar)=some false
 qce:kitOne K .(w) (.ref qaj)=some false
 qew:kitOne K .(w) (.ref qaw)=some false
 qeG:Exc K mg "NoRoom" qab
 qeH:ExcC K qab
 qeI:zhf K qab qac
 qeJ:kitOne K .(v) (.type "ValueError")=some true
 qdr:kitOne K .(v) (.ref qac)=some true
 qcf:kitOne K .(v) (.ref qai)=some false
 qcL:kitOne K .(v) (.ref qao)=some false
 qbQ:kitOne K .(v) (.ref qae)=some false
 qcM:kitOne K .(v) (.ref qap)=some false
 qbR:kitOne K .(v) (.ref qaf)=some false
 qcg:kitOne K .(v) .(v)=some true
 qch:kitOne K .(v) .(w)=some false
 qcN:kitOne K .(v) (.ref qaq)=some false
 qbS:kitOne K .(v) (.ref qag)=some false
 qcO:kitOne K .(v) (.ref qar)=some false
 qci:kitOne K .(v) (.ref qaj)=some false
 qex:kitOne K .(v) (.ref qaw)=some false
def zkp (m n i j:Nat)(hi:i<2)(hj:j<2):(2*m+i) &&& (2*n+j)=2*(m &&& n)+(i &&& j):=by
 apply Nat.eq_of_testBit_eq;intro k;cases k with
 | zero=>
  have h1:i=0\/i=1:=by lia
  have h2:j=0\/j=1:=by lia
  rcases h1 with rfl|rfl<;>rcases h2 with rfl|rfl<;>simp[Nat.testBit_zero]<;>lia
 | succ k=>
  have h1:i=0\/i=1:=by lia
  have h2:j=0\/j=1:=by lia
  have e1:(2*m+i)/2=m:=by lia
  have e2:(2*n+j)/2=n:=by lia
  have e3:(2*(m &&& n)+(i &&& j))/2=m &&& n:=by
   rcases h1 with rfl|rfl<;>rcases h2 with rfl|rfl<;>simp<;>lia
  rw[Nat.testBit_and,ycg,ycg,ycg,e1,e2,e3,Nat.testBit_and]
def ztz (m n i j:Nat)(hi:i<2)(hj:j<2):(2*m+i) ||| (2*n+j)=2*(m ||| n)+(i ||| j):=by
 apply Nat.eq_of_testBit_eq;intro k;cases k with
 | zero=>
  have h1:i=0\/i=1:=by lia
  have h2:j=0\/j=1:=by lia
  rcases h1 with rfl|rfl<;>rcases h2 with rfl|rfl<;>simp[Nat.testBit_zero]<;>lia
 | succ k=>
  have h1:i=0\/i=1:=by lia
  have h2:j=0\/j=1:=by lia
  have e1:(2*m+i)/2=m:=by lia
  have e2:(2*n+j)/2=n:=by lia
  have e3:(2*(m ||| n)+(i ||| j))/2=m ||| n:=by
   rcases h1 with rfl|rfl<;>rcases h2 with rfl|rfl<;>simp<;>lia
  rw[Nat.testBit_or,ycg,ycg,ycg,e1,e2,e3,Nat.testBit_or]
def lu (a b:Nat):Nat:=if a=b then 0 else if a%2=b%2 then lu (a/2) (b/2)+1 else 0
termination_by a+b
decreasing_by lia
def ziG {a b:Nat}(hab:a≠b)(h:a%2=b%2):lu a b=lu (a/2) (b/2)+1:=by
 rw[lu,if_neg hab,if_pos h]
def zlr {a b:Nat}(h:a%2≠b%2):lu a b=0:=by
 rw[lu];split
 .rfl
 .rfl
def xr (a b:Nat):Nat:=(a ||| b)-(a &&& b)
def zf0 (n:Nat):Nat:=n-(n &&& (n-1))
def zjU (a b:Nat):a &&& b<=a ||| b:=yad Nat.and_le_left Nat.left_le_or
def zue (m n i j:Nat)(hi:i<2)(hj:j<2):xr (2*m+i) (2*n+j)=2*xr m n+(if i=j then 0 else 1):=by
 unfold xr;rw[ztz m n i j hi hj,zkp m n i j hi hj];have q:=zjU m n;have h1:i=0\/i=1:=by lia
 have h2:j=0\/j=1:=by lia
 rcases h1 with rfl|rfl<;>rcases h2 with rfl|rfl<;>simp<;>lia
def zmu (a b:Nat):xr a b=2*xr (a/2) (b/2)+(if a%2=b%2 then 0 else 1):=by
 have e1:2*(a/2)+a%2=a:=by lia
 have e2:2*(b/2)+b%2=b:=by lia
 have q:=zue (a/2) (b/2) (a%2) (b%2) .(a) .(a);rw[e1,e2]at q;exact q
def zqo:∀(n a b:Nat),a+b<=n->a≠b->0<xr a b:=by
 intro n
 induction n with
 | zero=>intro a b h1 h2;lia
 | succ n ih=>
  intro a b h1 h2;rw[zmu];by_cases h:a%2=b%2
  .have:=ih (a/2) (b/2) .(a) .(a);lia
  .rw[if_neg h];lia
def zrX (m:Nat):zf0 (2*m+1)=1:=by
 unfold zf0;have q:=zkp m m 1 0 .(a) .(a);have e:2*m+1-1=2*m+0:=by lia
 rw[e,q];simp
def zpO (m:Nat)(h:0<m):zf0 (2*m)=2*zf0 m:=by
 unfold zf0;have q:=zkp m (m-1) 0 1 .(a) .(a);have e:2*m-1=2*(m-1)+1:=by lia
 have e':2*m=2*m+0:=by lia
 rw[e];have:(2*m &&& 2*(m-1)+1)=2*(m &&& m-1)+(0 &&& 1):=q;rw[this];have z:m &&& (m-1)<=m:=Nat.and_le_left;simp;lia
def ztx:∀(n a b:Nat),a+b<=n->a≠b->zf0 (xr a b)=2^lu a b:=by
 intro n
 induction n with
 | zero=>intro a b h1 h2;lia
 | succ n ih=>
  intro a b h1 h2;rw[zmu];by_cases h:a%2=b%2
  .rw[if_pos h,ziG h2 h,ybL,zpO _ (zqo n _ _ .(a) .(a)),ih _ _ .(a) .(a),ych];lia
  .rw[if_neg h,zlr h,zrX,Nat.pow_zero]
def zrV:∀(n a b:Nat),a+b<=n->a≠b->a%2^lu a b=b%2^lu a b/\a%2^(lu a b+1)≠b%2^(lu a b+1):=by
 intro n
 induction n with
 | zero=>intro a b h1 h2;lia
 | succ n ih=>
  intro a b h1 h2;by_cases h:a%2=b%2
  .rw[ziG h2 h];obtain ⟨q1,q2⟩:=ih (a/2) (b/2) .(a) .(a);have s:∀ x k:Nat,x%2^(k+1)=2*(x/2%2^k)+x%2:=by
    intro x k;rw[ych,Nat.mul_comm,Nat.mod_mul];lia
   rw[s a,s b,s a,s b];constructor
   .omega
   .omega
  .rw[zlr h];simp[Nat.mod_one];lia
def zus:∀(k a b:Nat),a≠b->a<2^k->b<2^k->lu a b<k:=by
 intro k
 induction k with
 | zero=>intro a b h1 h2 h3;simp at h2 h3;lia
 | succ k ih=>
  intro a b h1 h2 h3;by_cases h:a%2=b%2
  .rw[ziG h1 h];have:=ih (a/2) (b/2) .(a) (by rw[ych]at h2;lia) (by rw[ych]at h3;lia);lia
  .rw[zlr h];lia
def fig (a b:Nat):Nat:=2*lu a b+b/2^lu a b%2
def ziP (a b:Nat):fig a b/2=lu a b:=by
 unfold fig;have:=Nat.mod_lt (b/2^lu a b) (by decide:0<2);lia
def zkA (a b:Nat):fig a b%2=b/2^lu a b%2:=by
 unfold fig;have:=Nat.mod_lt (b/2^lu a b) (by decide:0<2);lia
def zfX (x k:Nat):x%2^(k+1)=x%2^k+2^k*(x/2^k%2):=by
 rw[ych,Nat.mod_mul]
def zqF {a b:Nat}(h:a≠b):a/2^lu a b%2≠b/2^lu a b%2:=by
 obtain ⟨h1,h2⟩:=zrV _ a b (yaa _) h;intro e;apply h2;rw[zfX,zfX,h1,e]
def ztS {b c:Nat}(h2:b≠c):fig a b≠fig b c:=by
 intro e;have e1:lu a b=lu b c:=by rw[<-ziP,e,ziP]
 have e2:b/2^lu a b%2=c/2^lu b c%2:=by rw[<-zkA,e,zkA]
 rw[e1]at e2;exact zqF h2 e2
def zsk {a b:Nat}(h:a≠b):a%2≠fig a b:=by
 intro e;have l:a%2<2:=Nat.mod_lt _ .(k);have e1:lu a b=0:=by
  have:=ziP a b;lia
 have e2:=zkA a b;have e3:=zqF h;rw[e1]at e2 e3;simp at e2 e3;lia
def ztT {a b k:Nat}(h:a≠b)(ha:a<2^k)(hb:b<2^k):fig a b<2*k:=by
 have:=zus k a b h ha hb;have:=Nat.mod_lt (b/2^lu a b) (by decide:0<2);unfold fig;lia
def zc4 (xs:List Nat)(i:Nat):Nat:=if i=0 then xs.getD 0 0%2 else fig (xs.getD (i-1) 0) (xs.getD i 0)
def zcA (xs:List Nat):List Nat:=(List.range xs.length).map (zc4 xs)
def za9 (xs:List Nat):(zcA xs).length=xs.length:=by unfold zcA;rw[yab,ybr]
def zi2 {xs:List Nat}{i:Nat}(h:i<xs.length):(zcA xs)[i]?=some (zc4 xs i):=by
 unfold zcA;rw[yax,ycY h];rfl
def zfv {xs:List Nat}{i:Nat}(h:i<xs.length):(zcA xs).getD i 0=zc4 xs i:=by
 rw[yaf,zi2 h];rfl
def zhp {xs:List Nat}{i:Nat}(h:i<xs.length):(zcA xs).take (i+1)=(zcA xs).take i++[zc4 xs i]:=by
 have h':i<(zcA xs).length:=by rw[za9];exact h
 rw[yaZ h'];have:=zi2 h;rw[yac h']at this;rw[yae this]
def Unl (xs:List Nat):Prop:=∀ i,i+1<xs.length->xs.getD i 0≠xs.getD (i+1) 0
def zmH (h:Unl xs):Unl (zcA xs):=by
 intro i hi;rw[za9]at hi;rw[zfv .(a),zfv hi];unfold zc4;rw[if_neg (by lia:¬ i+1=0),Nat.add_sub_cancel];by_cases h0:i=0
 .subst h0;rw[if_pos rfl];exact zsk (h 0 hi)
 .rw[if_neg h0];exact ztS (h i hi)
def zd1 (m:Nat)(xs:List Nat):Prop:=∀ i,i<xs.length->xs.getD i 0<m
def zcz {k:Nat}(hk:1<=k)(h:Unl xs)(hb:zd1 (2^k) xs):zd1 (2*k) (zcA xs):=by
 intro i hi;rw[za9]at hi;rw[zfv hi];unfold zc4;split
 .have:xs.getD 0 0%2<2:=Nat.mod_lt _ .(k);lia
 .have:=h (i-1) .(a);rw[show i-1+1=i by lia]at this;exact ztT this (hb _ .(a)) (hb _ hi)
def zqZ (a b:Nat):Builtin.bitXor (a:Int) (b:Int)=((xr a b:Nat):Int):=by
 have h1:Builtin.bitAnd (a:Int) (b:Int)=((a &&& b:Nat):Int):=by
  unfold Builtin.bitAnd;rw[yah (ybO a),yah (ybO b)];rfl
 have n1:¬ (0:Int)<=Builtin.bitNot (a:Int):=by unfold Builtin.bitNot;lia
 have n2:¬ (0:Int)<=Builtin.bitNot (b:Int):=by unfold Builtin.bitNot;lia
 have h2:Builtin.bitOr (a:Int) (b:Int)=((a ||| b:Nat):Int):=by
  unfold Builtin.bitOr Builtin.bitAnd;rw[yai n1,yai n2];have e:∀ x:Int,Builtin.bitNot (Builtin.bitNot x)=x:=λx=>by unfold Builtin.bitNot;lia
  show Builtin.bitNot (Builtin.bitNot _)=_;rw[e,e,e];rfl
 unfold Builtin.bitXor xr;rw[h1,h2];have:=zjU a b;lia
def zsx (n:Nat)(h:0<n):Builtin.bitAnd (n:Int) (-(n:Int))=((zf0 n:Nat):Int):=by
 have n2:¬ (0:Int)<=-(n:Int):=by lia
 have e:(Builtin.bitNot (-(n:Int))).toNat=n-1:=by unfold Builtin.bitNot;lia
 unfold Builtin.bitAnd zf0;rw[yah (ybO n),yai n2];show (n:Int)-(((n:Int).toNat &&& (Builtin.bitNot (-(n:Int))).toNat:Nat):Int)=_;rw[e,ybe];have:n &&& (n-1)<=n:=Nat.and_le_left;lia
def zty (a b:Nat)(h:a≠b):((Builtin.Int.intBits (Builtin.bitAnd (Builtin.bitXor (a:Int) (b:Int)) (-(Builtin.bitXor (a:Int) (b:Int)))):Nat):Int)-1=((lu a b:Nat):Int):=by
 rw[zqZ,zsx _ (zqo _ a b (yaa _) h),ztx _ a b (yaa _) h];unfold Builtin.Int.intBits;have p:0 < 2 ^ lu a b:=Nat.two_pow_pos _;rw[if_neg (by
  intro z;have z':=eq_of_beq z;lia),Int.natAbs_natCast,Nat.log2_two_pow]
 lia
def atZ {α:Type}(l:List α)(i:Int):Option α:=if 0<=i then l[i.toNat]? else none
def zdY {α:Type}(l:List α)(i:Nat):atZ l (i:Int)=l[i]?:=by
 unfold atZ;rw[if_pos (ybO i),ybe]
def zkL {α:Type}{l:List α}{i:Int}(h:i<0):atZ l i=none:=by
 unfold atZ;rw[if_neg .(a)]
def zlK {α:Type}{l:List α}{x:α}(h:atZ l i=some x):0<=i/\i<l.length:=by
 unfold atZ at h;split at h
 .have:=(yap.mp h).1;lia
 .cases h
def zmc {α β:Type}(f:Option α->α->Option α->β):Option α->List α->List β
 | _,[]=>[]
 | p,x::l=>f p x l.head? :: zmc f (some x) l
def mapW {α β:Type}(f:Option α->α->Option α->β)(l:List α):List β:=zmc f none l
def zdP {α β:Type}(f:Option α->α->Option α->β):∀(l:List α) (p:Option α) (k:Nat),(zmc f p l)[k]?=l[k]?.map λx=>f (if k=0 then p else l[k-1]?) x l[k+1]?
 | [],_,_=>rfl
 | x::l,p,0=>by
  show some (f p x l.head?)=some (f p x l[0]?);rw[List.head?_eq_getElem?]
 | x::l,p,k+1=>by
  show (zmc f (some x) l)[k]?=l[k]?.map λy=>f (x::l)[k]? y l[k+1]?;rw[zdP f l (some x) k];cases k with
  | zero=>rfl
  | succ k=>rfl
def zfZ {α β:Type}(f:Option α->α->Option α->β):∀(l:List α) (p:Option α),(zmc f p l).length=l.length
 | [],_=>rfl
 | x::l,p=>by
  show (zmc f (some x) l).length+1=l.length+1;rw[zfZ f l]
def zcH {α β:Type}(f:Option α->α->Option α->β)(l:List α):(mapW f l).length=l.length:=zfZ f l none
def zrU {α β:Type}(f:Option α->α->Option α->β)(l:List α)(i:Int):atZ (mapW f l) i=(atZ l i).map λx=>f (atZ l (i-1)) x (atZ l (i+1)):=by
 by_cases h:0<=i
 .obtain ⟨k,rfl⟩:∃ k:Nat,i=(k:Int):=#[i.toNat,by lia];rw[zdY,zdY,mapW,zdP,show ((k:Int)+1)=((k+1:Nat):Int) by lia,zdY];have e:atZ l ((k:Int)-1)=if k=0 then none else l[k-1]?:=by
   split
   .rw[zkL .(a)]
   .rw[show ((k:Int)-1)=((k-1:Nat):Int) by lia,zdY]
  rw[e]
 .rw[zkL (l:=mapW f l) .(a),zkL (l:=l) (i:=i) .(a)];rfl
def UnlZ (xs:List Nat):Prop:=∀(i:Int) (x y:Nat),atZ xs i=some x->atZ xs (i+1)=some y->x≠y
def unlZ (h:Unl xs):UnlZ xs:=by
 intro i x y hx hy;obtain ⟨a,b⟩:=zlK hx;obtain ⟨_,c⟩:=zlK hy;obtain ⟨k,rfl⟩:∃ k:Nat,i=(k:Int):=#[i.toNat,by lia];rw[zdY]at hx;rw[show ((k:Int)+1)=((k+1:Nat):Int) by lia,zdY]at hy;have:=h k .(a);rw[yaf,yaf,hx,hy]at this;exact this
def zmE (h:UnlZ xs):Unl xs:=by
 intro k hk;have:=h k xs[k] xs[k+1] (by rw[zdY];exact yac .(a)) (by rw[show ((k:Int)+1)=((k+1:Nat):Int) by lia,zdY];exact yac hk);rw[yaf,yaf,yac (show k<xs.length by lia),yac hk];exact this
def zf7 (p n:Option Nat):Nat:=if p≠some 0/\n≠some 0 then 0 else if p≠some 1/\n≠some 1 then 1 else 2
def zp2 (p n:Option Nat):zf7 p n<=2:=by
 unfold zf7;split
 .omega
 .split<;>lia
def zfJ {p:Option Nat}{x:Nat}(h:p=some x):zf7 p n≠x:=by
 subst h;unfold zf7;split
 .rename_i c;intro z;exact c.1 (by rw[<-z])
 .split
  .rename_i c;intro z;exact c.1 (by rw[<-z])
  .rename_i c d;intro z;subst z;have c1:n=some 0:=Decidable.byContradiction λq=>c #[by decide,q];have d1:n=some 1:=Decidable.byContradiction λq=>d #[by decide,q];rw[c1]at d1;cases d1
def zmk (p n:Option Nat):zf7 p n=zf7 n p:=by
 unfold zf7;simp only[And.comm]
def zhJ {n:Option Nat}{x:Nat}(h:n=some x):zf7 p n≠x:=by
 rw[zmk];exact zfJ h
def recF (v:Nat)(p:Option Nat)(x:Nat)(n:Option Nat):Nat:=if x=v then zf7 p n else x
def recL (v:Nat)(xs:List Nat):List Nat:=mapW (recF v) xs
def zbc (v:Nat)(xs:List Nat):(recL v xs).length=xs.length:=zcH _ _
def zgr (h:UnlZ xs):UnlZ (recL v xs):=by
 intro i x y hx hy;unfold recL at hx hy;rw[zrU]at hx hy;cases ex:atZ xs i with
 | none=>rw[ex]at hx;cases hx
 | some x0=>
  cases ey:atZ xs (i+1) with
  | none=>rw[ey]at hy;cases hy
  | some y0=>
   rw[ex]at hx;rw[ey]at hy;have hx:x=recF v (atZ xs (i-1)) x0 (atZ xs (i+1)):=(yae hx).symm;have hy:y=recF v (atZ xs (i+1-1)) y0 (atZ xs (i+1+1)):=(yae hy).symm;have n0:=h i x0 y0 ex ey;have e1:i+1-1=i:=by lia
   unfold recF at hx hy;rw[e1,ex]at hy;rw[ey]at hx;split at hx
   .rename_i c;split at hy
    .rename_i c';lia
    .rw[hx,hy];exact zhJ rfl
   .split at hy
    .rw[hx,hy];exact (zfJ rfl).symm
    .omega
def colL (xs:List Nat):List Nat:=recL 5 (recL 4 (recL 3 xs))
def zeF (xs:List Nat):(colL xs).length=xs.length:=by
 unfold colL;rw[zbc,zbc,zbc]
def zlG (h:UnlZ xs):UnlZ (colL xs):=zgr (zgr (zgr h))
def ztv (sh:Nat)(p:Option (Nat×Bool))(x:Nat×Bool)(n:Option (Nat×Bool)):Nat×Bool:=
 (x.1,x.2||(decide (x.1=sh)&&p.isSome && !(p.map (·.2)).getD false && !(n.map (·.2)).getD false))
def zgO (sh:Nat)(l:List (Nat×Bool)):List (Nat×Bool):=mapW (ztv sh) l
def zdb (c:List Nat):List (Nat×Bool):=c.map λx=>(x,false)
def marked (c:List Nat):List (Nat×Bool):=zgO 0 (zgO 1 (zgO 2 (zdb c)))
def zhE (c:List Nat):List Bool:=(marked c).map (·.2)
def ziF (c:List Nat):(marked c).length=c.length:=by
 unfold marked zgO zdb;rw[zcH,zcH,zcH,yab]
def ziE (c:List Nat):(zhE c).length=c.length:=by
 unfold zhE;rw[yab,ziF]
structure zsC (ms:List Bool):Prop where
 fst:ms.getD 0 false=false
 ind:∀ i,ms.getD i false=true->ms.getD (i+1) false=true->False
 dom:∀ i,1<=i->i<ms.length->ms.getD (i-1) false=true\/ms.getD i false=true\/ms.getD (i+1) false=true
def zky {y:Nat}(h:y<zf7 p n):p=some y\/n=some y:=by
 unfold zf7 at h;split at h
 .omega
 .rename_i c;have c0:p=some 0\/n=some 0:=Decidable.byContradiction λq=>c #[λz=>q (.inl z),λz=>q (.inr z)];split at h
  .have:y=0:=by lia
   subst this;exact c0
  .rename_i d;have d0:p=some 1\/n=some 1:=Decidable.byContradiction λq=>d #[λz=>q (.inl z),λz=>q (.inr z)];have:y=0\/y=1:=by lia
   rcases this with rfl|rfl
   .exact c0
   .exact d0
def zaM (xs:List Nat)(k:Nat):List Nat:=(if k=0 then none else xs[k-1]?).toList++xs[k+1]?.toList
def zg9 {k y:Nat}:y∈zaM xs k↔(if k=0 then none else xs[k-1]?)=some y\/xs[k+1]?=some y:=by
 unfold zaM;rw[yal,Option.mem_toList,Option.mem_toList]
def zcJ (xs:List Nat)(k:Nat):Nat:=zf7 (if k=0 then none else xs[k-1]?) xs[k+1]?
def zhI {k:Nat}:zcJ xs k∉zaM xs k:=λh=>by
 rcases zg9.mp h with q|q
 .exact zfJ q rfl
 .exact zhJ q rfl
def zf3 {k y:Nat}(h:y<zcJ xs k):y∈zaM xs k:=zg9.mpr (zky h)
def zjB (xs:List Nat)(k:Nat):zcJ xs k<=2:=zp2 _ _
def zjC {k:Nat}:((List.range 3).filter λc=>!decide (c∈zaM xs k)).head?=some (zcJ xs k):=by
 have h1:=zhI (xs:=xs) (k:=k);have h2:=λy=>zf3 (xs:=xs) (k:=k) (y:=y);have h3:=zjB xs k;rw[show List.range 3=[0,1,2] from rfl];generalize zcJ xs k=f at h1 h2 h3 ⊢;have z:f=0\/f=1\/f=2:=by lia
 rcases z with rfl|rfl|rfl
 .simp[List.filter,h1]
 .simp[List.filter,h1,h2 0 .(a)]
 .simp[List.filter,h1,h2 0 .(a),h2 1 .(a)]
def ziq {xs:List Nat}{k:Nat}(h:k<xs.length):(recL v xs)[k]?=some (if xs.getD k 0=v then zcJ xs k else xs.getD k 0):=by
 unfold recL mapW;rw[zdP,yaf,yac h];rfl
def mixL (v:Nat)(xs:List Nat)(k:Nat):List Nat:=(recL v xs).take k++xs.drop k
def zlo {xs:List Nat}{k:Nat}(h:xs.length<=k):mixL v xs k=recL v xs:=by
 unfold mixL;rw[yat (by rw[zbc];exact h),yba h,yaw]
def zeD (v:Nat)(xs:List Nat)(k:Nat):(mixL v xs k).length=xs.length:=by
 unfold mixL;rw[yan,yar,ya0,zbc];lia
def zem (v:Nat)(xs:List Nat)(k j:Nat):(mixL v xs k)[j]?=if j<k then (recL v xs)[j]? else xs[j]?:=by
 unfold mixL;by_cases hk:k<=xs.length
 .rw[List.getElem?_append,yar,zbc,ybc hk];split
  .rw[ycw];rw[if_pos (by assumption)]
  .rw[ycU];congr 1;lia
 .rw[yba .(a),yaw,yat (by rw[zbc];lia)];split
  .rfl
  .rw[yaY (by rw[zbc];lia),yaY .(a)]
def znR {k j:Nat}(h:k<=j):(mixL v xs k)[j]?=xs[j]?:=by
 rw[zem,if_neg .(a)]
def zjr {v:Nat}{xs:List Nat}{k:Nat}(h:k<xs.length)(hv:xs.getD k 0≠v):mixL v xs (k+1)=mixL v xs k:=by
 apply ybo;intro j;rw[zem,zem];by_cases c:j<k
 .rw[if_pos c,if_pos .(a)]
 .rw[if_neg c];split
  .have:j=k:=by lia
   subst this;rw[ziq h,if_neg hv,yaf,yac h];rfl
  .rfl
def zhC {v:Nat}{xs:List Nat}{k m:Nat}(hkm:k<=m)(hm:m<=xs.length)(hv:∀ j,k<=j->j<m->xs.getD j 0≠v):mixL v xs m=mixL v xs k:=by
 induction m with
 | zero=>
  have:k=0:=by lia
  rw[this]
 | succ m ih=>
  by_cases c:k=m+1
  .rw[c]
  .rw[zjr .(a) (hv m .(a) .(a)),ih .(a) .(a) (λj a b=>hv j a .(a))]
def znQ {v:Nat}{k:Nat}(hu:Unl xs)(h:k<xs.length)(hv:xs.getD k 0=v):(if k=0 then none else (mixL v xs k)[k-1]?)=if k=0 then none else xs[k-1]?:=by
 cases k with
 | zero=>rfl
 | succ k=>
  show (mixL v xs (k+1))[k]?=xs[k]?;rw[zem,if_pos .(a),ziq .(a)];have:=hu k h;rw[hv]at this;rw[if_neg this,yaf,yac (show k<xs.length by lia)];rfl
def zgN {v:Nat}{k:Nat}(hu:Unl xs)(h:k<xs.length)(hv:xs.getD k 0=v):zaM (mixL v xs k) k=zaM xs k:=by
 unfold zaM;rw[znQ hu h hv,znR (j:=k+1) .(a)]
def zln {v:Nat}{xs:List Nat}{k:Nat}(h:k<xs.length)(hv:xs.getD k 0=v):mixL v xs (k+1)=(mixL v xs k).set k (zcJ xs k):=by
 apply ybo;intro j;rw[ybE,zeD,zem,zem];by_cases c:k=j
 .subst c;rw[if_pos rfl,if_pos h,if_pos .(a),ziq h,if_pos hv]
 .rw[if_neg c];by_cases c2:j<k
  .rw[if_pos c2,if_pos .(a)]
  .rw[if_neg c2,if_neg .(a)]
def zcj (sh:Nat)(cs:List Nat)(ms:List Bool):List Bool:=(zgO sh (cs.zip ms)).map (·.2)
def za1 {cs:List Nat}{ms:List Bool}(h:cs.length=ms.length):(zcj sh cs ms).length=ms.length:=by
 unfold zcj zgO;rw[yab,zcH,yc0];lia
def zjY {cs:List Nat}:∀{ms:List Bool},cs.length=ms.length->(cs.zip ms).map (·.1)=cs:=by
 induction cs with
 | nil=>intro ms _;rfl
 | cons c cs ih=>
  intro ms h;cases ms with
  | nil=>cases h
  | cons m ms=>
   show c::(cs.zip ms).map (·.1)=c::cs;rw[ih (Nat.succ.inj h)]
def zkO:∀(l:List (Nat×Bool)),(l.map (·.1)).zip (l.map (·.2))=l
 | []=>rfl
 | x::l=>by
  show x::(l.map (·.1)).zip (l.map (·.2))=x::l;rw[zkO l]
def znS (sh:Nat)(l:List (Nat×Bool)):(zgO sh l).map (·.1)=l.map (·.1):=by
 apply ybo;intro k;unfold zgO mapW;rw[yax,yax,zdP];cases l[k]?<;>rfl
def zjt {cs:List Nat}{ms:List Bool}(h:cs.length=ms.length):zgO sh (cs.zip ms)=cs.zip (zcj sh cs ms):=by
 have e:=zkO (zgO sh (cs.zip ms));rw[znS,zjY h]at e;exact e.symm
def zmR (cs:List Nat):zdb cs=cs.zip (cs.map λ_=>false):=by
 unfold zdb
 induction cs with
 | nil=>rfl
 | cons c cs ih=>
  show (c,false)::cs.map (λx=>(x,false))=(c,false)::cs.zip (cs.map λ_=>false);rw[ih]
def zjs (cs:List Nat):zhE cs=zcj 0 cs (zcj 1 cs (zcj 2 cs (cs.map λ_=>false))):=by
 have l1:cs.length=(cs.map λ_=>false).length:=by rw[yab]
 have l2:cs.length=(zcj 2 cs (cs.map λ_=>false)).length:=by rw[za1 l1,<-l1]
 unfold zhE marked;rw[zmR,zjt l1,zjt l2];rfl
def zcw {cs:List Nat}{ms:List Bool}(hl:cs.length=ms.length){k:Nat}(h:k<cs.length):(zcj sh cs ms)[k]?=some (ms.getD k false||(decide (cs.getD k 0=sh)&&decide (1<=k) && !ms.getD (k-1) false && !ms.getD (k+1) false)):=by
 unfold zcj zgO mapW;have gz:∀ j,(cs.zip ms)[j]?=if h:j<cs.length then some (cs[j],ms[j]' .(a)) else none:=λj=>by
  split
  .rename_i q;rw[yac (by rw[yc0];lia),List.getElem_zip]
  .exact yaY (by rw[yc0];lia)
 have gm:∀ j,ms.getD j false=(((cs.zip ms)[j]?).map (·.2)).getD false:=λj=>by
  rw[gz];split
  .rw[yaf,yac .(a)];rfl
  .rw[yaf,yaY .(a)];rfl
 rw[yax,zdP,gm k,gm (k+1),gm (k-1),yaf,yac h];have e:=gz k;rw[dif_pos h]at e;rw[e];show some _=some _;unfold ztv;cases k with
 | zero=>simp
 | succ k=>
  have e2:=gz k;rw[dif_pos .(a)]at e2;simp[e2]
def mixM (sh:Nat)(cs:List Nat)(ms:List Bool)(k:Nat):List Bool:=(zcj sh cs ms).take k++ms.drop k
def zlm {cs:List Nat}{ms:List Bool}(hl:cs.length=ms.length){k:Nat}(h:cs.length<=k):mixM sh cs ms k=zcj sh cs ms:=by
 unfold mixM;rw[yat (by rw[za1 hl];lia),yba .(a),yaw]
def zdr {cs:List Nat}{ms:List Bool}(hl:cs.length=ms.length)(k:Nat): .(q).length=cs.length:=by
 unfold mixM;rw[yan,yar,ya0,za1 hl];lia
def zbH {cs:List Nat}{ms:List Bool}(hl:cs.length=ms.length)(k j:Nat): .(q)[j]?=if j<k then (zcj sh cs ms)[j]? else ms[j]?:=by
 unfold mixM;by_cases hk:k<=ms.length
 .rw[List.getElem?_append,yar,za1 hl,ybc hk];split
  .rw[ycw];rw[if_pos (by assumption)]
  .rw[ycU];congr 1;lia
 .rw[yba .(a),yaw,yat (by rw[za1 hl];lia)];split
  .rfl
  .rw[yaY (by rw[za1 hl];lia),yaY .(a)]
def zdV (ms:List Bool)(k:Nat):Bool:=!ms.getD (k-1) false && !ms.getD k false && !ms.getD (k+1) false
def zl9 {sh:Nat}{ms:List Bool}(hu:Unl cs)(hl:cs.length=ms.length){k:Nat}(h:k<cs.length)(h1:1<=k)(hs:cs.getD k 0=sh):zdV .(q) k=zdV ms k:=by
 unfold zdV;have e:∀ j,k<=j-> .(q).getD j false=ms.getD j false:=λj hj=>by
  rw[yaf,yaf,zbH hl,if_neg .(a)]
 rw[e k .(a),e (k+1) .(a)];have e2: .(q).getD (k-1) false=ms.getD (k-1) false:=by
  rw[yaf,zbH hl,if_pos .(a),zcw hl .(a)];have:=hu (k-1) .(a);rw[show k-1+1=k by lia,hs]at this;rw[yai this];simp
 rw[e2]
def zgM {sh:Nat}{cs:List Nat}{ms:List Bool}(hl:cs.length=ms.length){k:Nat}(h:k<cs.length)(hn:¬ (1<=k/\cs.getD k 0=sh/\zdV ms k=true)):mixM sh cs ms (k+1)=mixM sh cs ms k:=by
 apply ybo;intro j;rw[zbH hl,zbH hl];by_cases c:j<k
 .rw[if_pos c,if_pos .(a)]
 .rw[if_neg c];split
  .have:j=k:=by lia
   subst this;rw[zcw hl h];unfold zdV at hn;rw[yac .(a)];have e:ms.getD j false=ms[j]' .(a):=by
    rw[yaf,yac .(a)];rfl
   rw[e]at hn ⊢;congr 1;generalize ms[j]=a at hn ⊢;generalize ms.getD (j-1) false=b at hn ⊢;generalize ms.getD (j+1) false=d at hn ⊢;cases a<;>cases b<;>cases d<;>simp at hn ⊢
   intro q;lia
  .rfl
def zpM {sh:Nat}{cs:List Nat}{ms:List Bool}(hl:cs.length=ms.length){k:Nat}(h:k<cs.length)(hp:1<=k/\cs.getD k 0=sh/\zdV ms k=true):mixM sh cs ms (k+1)= .(q).set k true:=by
 apply ybo;intro j;rw[ybE,zdr hl,zbH hl,zbH hl];by_cases c:k=j
 .subst c;rw[if_pos rfl,if_pos h,if_pos .(a),zcw hl h];obtain ⟨p1,p2,p3⟩:=hp;unfold zdV at p3;simp only[ybz,ybW]at p3;rw[p2,p3.1.1,p3.1.2,p3.2,yah p1];simp
 .rw[if_neg c];by_cases c2:j<k
  .rw[if_pos c2,if_pos .(a)]
  .rw[if_neg c2,if_neg .(a)]
structure zqm (ms:List Bool)(sp:List Nat):Prop where
 up:sp.Pairwise .(O)
 iff:∀ j,j∈sp↔ms.getD j false=true
def zqm.lt (S:zqm ms sp){j:Nat}(h:j∈sp):j<ms.length:=by
 have h:=(S.iff j).mp h;rw[yaf]at h;cases e:ms[j]? with
 | none=>rw[e]at h;cases h
 | some x=>exact (yap.mp e).1
def zqm.step (S:zqm ms sp)(M:zsC ms){t:Nat}(h:t+1<sp.length):sp[t]+2<=sp[t+1]/\sp[t+1]<=sp[t]+3:=by
 have up:=ya9.mp S.up;have lt:=up t (t+1) .(a) h .(a);have m0:=(S.iff _).mp (yaR (show t<sp.length by lia));have m1:=(S.iff _).mp (yaR h);have l1:=S.lt (yaR h);have no:∀ j,sp[t]<j->j<sp[t+1]->ms.getD j false=false:=λj a b=>by
  cases e:ms.getD j false with
  | false=>rfl
  | true=>
   obtain ⟨u,hu,q⟩:=yaW ((S.iff j).mpr e);have c1:¬ u<=t:=λz=>by
    by_cases z':u=t
    .subst z';lia
    .have:=up u t hu .(a) .(a);lia
   have c2:¬ t+1<=u:=λz=>by
    by_cases z':u=t+1
    .subst z';lia
    .have:=up (t+1) u h hu .(a);lia
   lia
 refine #[?_,?_]
 .by_cases c:sp[t+1]=sp[t]+1
  .rw[c]at m1;exact (M.ind _ m0 m1).elim
  .omega
 .refine yaN λc=>?_;rcases M.dom (sp[t]+2) .(a) .(a) with q|q|q
  .rw[no (sp[t]+2-1) .(a) .(a)]at q;cases q
  .rw[no (sp[t]+2) .(a) .(a)]at q;cases q
  .rw[no (sp[t]+2+1) .(a) .(a)]at q;cases q
def zci {α:Type}(es:List α)(ms:List Bool):List α:=((es.zip ms).filter (·.2)).map (·.1)
structure Ats (P:Nat->Bool)(n:Nat)(l:List Nat):Prop where
 up:l.Pairwise .(O)
 iff:∀ j,j∈l↔j<n/\P j=true
def zt0 (P:Nat->Bool)(n:Nat):Ats P n ((List.range n).filter P):=#[List.Pairwise.filter _ ydd,λj=>by rw[ybj,ybk]]
def Ats.get {l:List Nat}(A:Ats P n l){j:Nat}(h:j<l.length):l[j]<n/\P l[j]=true:=(A.iff _).mp (yaR h)
def Ats.first {l:List Nat}(A:Ats P n l){i:Nat}(h:i<l.getD 0 n)(hn:i<n):P i=false:=by
 cases e:P i with
 | false=>rfl
 | true=>
  obtain ⟨u,hu,q⟩:=yaW ((A.iff i).mpr #[hn,e]);have h0:l.getD 0 n=l[0]' .(a):=by
   rw[yaf,yac .(a)];rfl
  rw[h0]at h;by_cases c:u=0
  .subst c;lia
  .have:=ya9.mp A.up 0 u .(a) hu .(a);lia
def Ats.next {l:List Nat}(A:Ats P n l){j:Nat}(hj:j<l.length){i:Nat}(h1:l[j]<i)(h:i<l.getD (j+1) n)(hn:i<n):P i=false:=by
 cases e:P i with
 | false=>rfl
 | true=>
  obtain ⟨u,hu,q⟩:=yaW ((A.iff i).mpr #[hn,e]);have up:=ya9.mp A.up;have c1:j<u:=by
   refine ybx λz=>?_;by_cases c:u=j
   .subst c;lia
   .have:=up u j hu hj .(a);lia
  have h0:l.getD (j+1) n=l[j+1]' .(a):=by
   rw[yaf,yac .(a)];rfl
  rw[h0]at h;by_cases c:u=j+1
  .subst c;lia
  .have:=up (j+1) u .(a) hu .(a);lia
def Ats.le {l:List Nat}(A:Ats P n l)(j:Nat):l.getD j n<=n:=by
 rw[yaf];by_cases h:j<l.length
 .rw[yac h];exact yaj (A.get h).1
 .rw[yaY .(a)];exact yaa _
def Ats.step_le {l:List Nat}(A:Ats P n l){j:Nat}(hj:j<l.length):l[j]+1<=l.getD (j+1) n:=by
 rw[yaf];by_cases h:j+1<l.length
 .rw[yac h];exact ya9.mp A.up j (j+1) hj h .(a)
 .rw[yaY .(a)];exact (A.get hj).1
def atsL (v:Nat)(xs:List Nat):List Nat:=(List.range xs.length).filter λk=>decide (xs.getD k 0=v)
def zha (v:Nat)(xs:List Nat):Ats (λk=>decide (xs.getD k 0=v)) xs.length (atsL v xs):=zt0 _ _
def znO :mixL v xs ((atsL v xs).getD 0 xs.length)=xs:=by
 rw[zhC (k:=0) (yaF _) ((zha v xs).le 0) (λj _ h=>ycB ((zha v xs).first h (yak h ((zha v xs).le 0))))];rfl
def zpK {j:Nat}(hj:j<(atsL v xs).length):mixL v xs ((atsL v xs).getD (j+1) xs.length)=(mixL v xs (atsL v xs)[j]).set (atsL v xs)[j] (zcJ xs (atsL v xs)[j]):=by
 have A:=zha v xs;have g:=A.get hj;rw[zhC (k:=(atsL v xs)[j]+1) (A.step_le hj) (A.le _) (λi a b=>ycB (A.next hj .(a) b (yak b (A.le _)))),zln g.1 (yaH g.2)]
def zpL :mixL v xs ((atsL v xs).getD (atsL v xs).length xs.length)=recL v xs:=by
 rw[yaf,yaY (yaa _)];exact zlo (yaa _)
def colN (xs:List Nat):Nat->List Nat
 | 0=>xs
 | i+1=>recL (3+i) (colN xs i)
def zg3 (xs:List Nat)(i:Nat):(colN xs i).length=xs.length:=by
 induction i with
 | zero=>rfl
 | succ i ih=>rw[colN,zbc,ih]
def zlF (h:Unl xs)(i:Nat):Unl (colN xs i):=by
 induction i with
 | zero=>exact h
 | succ i ih=>exact zmE (zgr (unlZ ih))
def mkN (cs:List Nat):Nat->List Bool
 | 0=>cs.map λ_=>false
 | i+1=>zcj (2-i) cs (mkN cs i)
def zjq (cs:List Nat):mkN cs 3=zhE cs:=(zjs cs).symm
def zhA (cs:List Nat)(i:Nat):cs.length=(mkN cs i).length:=by
 induction i with
 | zero=>rw[mkN,yab]
 | succ i ih=>rw[mkN,za1 ih,ih]
def zll {cs:List Nat}{ms:List Bool}(hl:cs.length=ms.length):mixM sh cs ms 1=ms:=by
 by_cases h:0<cs.length
 .rw[zgM hl h (λz=>by lia)];rfl
 .have:ms=[]:=ydc .(a);subst this;unfold mixM;rw[ydc (show (zcj sh cs []).length=0 by rw[za1 hl];rfl)];rfl
def zax (ps:List Nat):Prop:=∀ i (h:i<ps.length),ps[i]<=i
def par (ps:List Nat):Nat->Option Nat
 | 0=>none
 | k+1=>ps[k]?
def zaN (T:zax ps){k p:Nat}(h:par ps k=some p):p<k/\k<ps.length+1:=by
 cases k with
 | zero=>cases h
 | succ k=>
  obtain ⟨h1,rfl⟩:=yap.mp (show ps[k]?=some p from h);have:=T k h1;lia
def zgv {ps:List Nat}{k:Nat}(h1:1<=k)(h2:k<ps.length+1):∃ p,par ps k=some p:=by
 cases k with
 | zero=>lia
 | succ k=>exact #[_,yac (show k<ps.length by lia)]
def zpm {ps:List Nat}{k:Nat}(h2:k<ps.length+1)(h:par ps k=none):k=0:=by
 cases k with
 | zero=>rfl
 | succ k=>
  have:=List.getElem?_eq_none_iff.mp (show ps[k]?=none from h);lia
def wayF (ps:List Nat)(one:Nat):Nat->Nat->Option (List Nat)
 | 0,_=>none
 | f+1,o=>if o=one then some [o] else match par ps o with
  | none=>none
  | some p=>(wayF ps one f p).map (· ++ [o])
def ziY (T:zax ps){one:Nat}:∀ f g o,o<f->o<g->wayF ps one f o=wayF ps one g o
 | 0,_,_,h,_=>absurd h (ybI _)
 | _,0,_,_,h=>absurd h (ybI _)
 | f+1,g+1,o,hf,hg=>by
  unfold wayF;split
  .rfl
  .cases e:par ps o with
   | none=>rfl
   | some p=>
    have:=(zaN T e).1;show (wayF ps one f p).map _=(wayF ps one g p).map _;rw[ziY T f g p .(a) .(a)]
def wayL (ps:List Nat)(one o:Nat):Option (List Nat):=wayF ps one (o+1) o
def zmy :wayL ps o o=some [o]:=by
 unfold wayL wayF;rw[if_pos rfl]
def zeJ (T:zax ps){one o:Nat}(h:o≠one):wayL ps one o=match par ps o with
  | none=>none
  | some p=>(wayL ps one p).map (· ++ [o]):=by
 unfold wayL;rw[wayF,if_neg h];cases e:par ps o with
 | none=>rfl
 | some p=>
  show (wayF ps one o p).map _=(wayF ps one (p+1) p).map _;rw[ziY T o (p+1) p (zaN T e).1 .(a)]
def zmz (T:zax ps){one:Nat}:∀ n o,o<=n->o<one->wayL ps one o=none
 | n,o,hn,h=>by
  rw[zeJ T .(a)];cases e:par ps o with
  | none=>rfl
  | some p=>
   have hp:=(zaN T e).1;show (wayL ps one p).map _=none;cases n with
   | zero=>lia
   | succ n=>rw[zmz T n p .(a) .(a)];rfl
def isB (ps:List Nat)(k j:Nat):Bool:=(wayL ps k j).isSome
def benL (ps:List Nat)(k n:Nat):List Nat:=(List.range n).filter (isB ps k)
def zcs {k:Nat}:isB ps k k=true:=by
 unfold isB;rw[zmy];rfl
def zdR (T:zax ps){k j:Nat}(h:j<k):isB ps k j=false:=by
 unfold isB;rw[zmz T j j (yaa _) h];rfl
def zcc (T:zax ps){k j p:Nat}(h:j≠k)(e:par ps j=some p):isB ps k j=isB ps k p:=by
 unfold isB;rw[zeJ T h,e];show ((wayL ps k p).map _).isSome=_;cases wayL ps k p<;>rfl
def zqh (T:zax ps)(k:Nat):benL ps k (k+1)=[k]:=by
 unfold benL;rw[ycC,yby];have e1:(List.range k).filter (isB ps k)=[]:=by
  rw[yci];intro j hj z;rw[zdR T (ybk.mp hj)]at z;cases z
 rw[e1,List.nil_append,ybp zcs];rfl
def zcu {k:Nat}:j∈benL ps k n↔j<n/\isB ps k j=true:=by
 unfold benL;rw[ybj,ybk]
def zjS {k:Nat}:benL ps k (n+1)=benL ps k n++(if isB ps k n=true then [n] else []):=by
 unfold benL;rw[ycC,yby];congr 1;by_cases h:isB ps k n=true
 .rw[if_pos h,ybp h];rfl
 .rw[if_neg h,ybD h];rfl
def zlJ (ps:List Nat)(k n:Nat):(benL ps k n).length<=n:=by
 have:=ybs (isB ps k) (List.range n);rw[ybr]at this;exact this
def zkI (ps:List Nat)(k n:Nat):(benL ps k n).Pairwise .(O):=List.Pairwise.filter _ ydd
def zlx (T:zax ps):∀ n j,j<=n->j<ps.length+1->isB ps 0 j=true
 | n,j,hn,h=>by
  by_cases c:j=0
  .rw[c];exact zcs
  .obtain ⟨p,e⟩:=zgv .(a) h;have:=(zaN T e).1;rw[zcc T c e];cases n with
   | zero=>lia
   | succ n=>exact zlx T n p .(a) .(a)
def zoH (T:zax ps):benL ps 0 (ps.length+1)=List.range (ps.length+1):=by
 unfold benL;rw[List.filter_eq_self];exact λj hj=>zlx T j j (yaa _) (ybk.mp hj)
def zbB (ps:List Nat)(k n:Nat):List Nat:=(List.range n).filter λj=>decide (par ps j=some k)
def zaF {k j:Nat}:j∈zbB ps k n↔j<n/\par ps j=some k:=by
 unfold zbB;rw[ybj,ybk,decide_eq_true_eq]
def zeG {k:Nat}:zbB ps k (n+1)=zbB ps k n++(if par ps n=some k then [n] else []):=by
 unfold zbB;rw[ycC,yby];congr 1;by_cases h:par ps n=some k
 .rw[if_pos h,ybp (by exact yah h)];rfl
 .rw[if_neg h,ybD (by rw[yai h];decide)];rfl
def zhO (ps:List Nat)(k n:Nat):(zbB ps k n).length<=n:=by
 have:=ybs (λj=>decide (par ps j=some k)) (List.range n);rw[ybr]at this;exact this
def zjL (ps:List Nat)(k n:Nat):(zbB ps k n).Pairwise .(O):=List.Pairwise.filter _ ydd
def zcg (T:zax ps){k:Nat}:∀ n j,j<=n->j<ps.length+1->(isB ps k j=true↔j=k\/∃ c,par ps c=some k/\isB ps c j=true)
 | n,j,hn,h=>by
  by_cases c:j=k
  .constructor
   .exact λ_=>.inl c
   .intro _;rw[c];exact zcs
  .cases e:par ps j with
   | none=>
    have j0:=zpm h e;have no:∀ m,j≠m->isB ps m j=false:=λm hm=>by
     unfold isB;rw[zeJ T hm,e];rfl
    constructor
    .intro z;rw[no k c]at z;cases z
    .rintro (z|⟨d,hd,z⟩)
     .exact absurd z c
     .by_cases y:j=d
      .rw[<-y,e]at hd;cases hd
      .rw[no d y]at z;cases z
   | some p=>
    have hp:=(zaN T e).1;cases n with
    | zero=>lia
    | succ n=>
     have ih:=zcg T (k:=k) n p .(a) .(a);rw[zcc T c e,ih];constructor
     .rintro (z|⟨d,hd,z⟩)
      .refine .inr #[j,?_,zcs];rw[e,z]
      .by_cases y:j=d
       .rw[<-y]at z;rw[zdR T hp]at z;cases z
       .exact .inr #[d,hd,by rw[zcc T y e];exact z]
     .rintro (z|⟨d,hd,z⟩)
      .exact absurd z c
      .by_cases y:j=d
       .subst y;rw[e]at hd;exact .inl (yae hd)
       .rw[zcc T y e]at z;exact .inr #[d,hd,z]
def zc9 (T:zax ps){k c d:Nat}(hc:par ps c=some k)(hd:par ps d=some k)(hcd:c≠d):∀ n j,j<=n->isB ps c j=true->isB ps d j=true->False
 | n,j,hn,h1,h2=>by
  by_cases e1:j=c
  .subst e1;rw[zcc T hcd hc,zdR T (zaN T hd).1]at h2;cases h2
  .by_cases e2:j=d
   .subst e2;rw[zcc T e1 hd,zdR T (zaN T hc).1]at h1;cases h1
   .cases e:par ps j with
    | none=>
     unfold isB at h1;rw[zeJ T e1,e]at h1;cases h1
    | some p=>
     have hp:=(zaN T e).1;rw[zcc T e1 e]at h1;rw[zcc T e2 e]at h2;cases n with
     | zero=>lia
     | succ n=>exact zc9 T hc hd hcd n p .(a) h1 h2
def zl0 (T:zax ps){k:Nat}(hk:k<ps.length+1):(k::((zbB ps k (ps.length+1)).map λc=>benL ps c (ps.length+1)).flatten).Perm (benL ps k (ps.length+1)):=by
 have lt:∀{l:List Nat},l.Pairwise .(O)->l.Nodup:=λh=>List.Pairwise.imp (λ{a b} (q:a<b)=>yau q) h;refine (yde ?_ (lt (zkI ps k _))).mpr λj=>?_
 .rw[ya4];refine #[λh=>?_,?_]
  .obtain ⟨l,hl,hj⟩:=yc1.mp h;obtain ⟨c,hc,rfl⟩:=yaE.mp hl;have h1:=(zaF.mp hc).2;have h2:=(zcu.mp hj).2;rw[zdR T (zaN T h1).1]at h2;cases h2
  .show List.Pairwise _ _;rw[List.pairwise_flatten];refine #[λl hl=>?_,?_]
   .obtain ⟨c,hc,rfl⟩:=yaE.mp hl;exact lt (zkI ps c _)
   .rw[ycf];refine List.Pairwise.imp_of_mem (λ{c d} hc hd hcd=>?_) (zjL ps k _);intro x hx y hy z;subst z;exact zc9 T (zaF.mp hc).2 (zaF.mp hd).2 (yau hcd) x x (yaa _) (zcu.mp hx).2 (zcu.mp hy).2
 .rw[yaq,yc1,zcu];constructor
  .rintro (rfl|⟨l,hl,hj⟩)
   .exact #[hk,zcs]
   .obtain ⟨c,hc,rfl⟩:=yaE.mp hl;obtain ⟨h1,h2⟩:=zcu.mp hj;exact #[h1,(zcg T j j (yaa _) h1).mpr (.inr #[c,(zaF.mp hc).2,h2])]
  .rintro ⟨h1,h2⟩;rcases (zcg T j j (yaa _) h1).mp h2 with q|⟨c,hc,q⟩
   .exact .inl q
   .exact .inr #[_,yaE.mpr #[c,zaF.mpr #[(zaN T hc).2,hc],rfl],zcu.mpr #[h1,q]]
def zui (t u:TS):TS:=λD U H=>∀ N:L2.St->Hp->Prop,(∀ U' H',u D U' H'->N U' H')->t { D with nx:=N } U H
def zaz {st:Stmt}{rest:List Stmt}{t:TS}(h1:PS X st t)(h2:PSs X rest u):PSs X (st::rest) (zui t u):=λpins s U H D I h=>zah h1 h2 pins s U H D I (h (u D) λ_ _ z=>z)
inductive zsL (t u:TS)(D:Ends)(U:L2.St)(H:Hp):Prop
 | c:∀(M:L2.St->Hp->Prop),(∀ N:L2.St->Hp->Prop,(∀ U' H',M U' H'->N U' H')->t { D with nx:=N } U H)->(∀ U' H',M U' H'->u D U' H')->zsL t u D U H
def zcD {st:Stmt}{rest:List Stmt}{t:TS}(h1:PS X st t)(h2:PSs X rest u):PSs X (st::rest) (zsL t u):=λpins s U H D I h=>by
 obtain ⟨M,h3,h4⟩:=h;exact zaB h1 h2 pins s U H D I #[M,h3 M λ_ _ z=>z,h4]
def ztM {tb:TS}{D:Ends}{Pn:L2.St->Hp->Prop}{i:Nat}{x:V}{U:L2.St}{H:Hp}(h:∀(N B:L2.St->Hp->Prop) (R:VK),(∀ U H,Pn U H->N U H)->(∀ U H,D.nx U H->B U H)->(∀ v H,D.rt v H->R v H)->tb { nx:=N,rt:=R,bk:=B,ct:=N } (U.set i (some x)) H):zkx i x U H λU2 H2=>tb { D with nx:=Pn,ct:=Pn,bk:=D.nx } U2 H2:=h Pn D.nx D.rt (λ_ _ z=>z) (λ_ _ z=>z) (λ_ _ z=>z)
def ztL {tb:TS}{D:Ends}{Pn:L2.St->Hp->Prop}{U:L2.St}{H:Hp}(h:∀(N B:L2.St->Hp->Prop) (R:VK),(∀ U H,Pn U H->N U H)->(∀ U H,D.nx U H->B U H)->(∀ v H,D.rt v H->R v H)->tb { nx:=N,rt:=R,bk:=B,ct:=N } U H):tb { D with nx:=Pn,ct:=Pn,bk:=D.nx } U H:=h Pn D.nx D.rt (λ_ _ z=>z) (λ_ _ z=>z) (λ_ _ z=>z)
seal PSs PS PE PT PW PA PI PG PO PX
section
variable {P:Program}{w:World}{K:Frag}{mg:Str->Option Value}{base:Heap}
def zpv (T:Txt K mg)(qcj:DF K mg "_law_mixed" zeR zeg):FC P w K mg base 1 "_law_mixed" zeg zj7:=by
 refine qcj.ok qbq .(c) .(b)
 .obtain ⟨c,k,rfl,_⟩:=h;rfl
 obtain ⟨c,k,rfl,q⟩:=h;refine #[_,(zah (zas (i:=2) qbq.nd rfl (Or.inl rfl) (zav zc7 (zav zb0 (zav za8 (zav za8 (zav zc7 (pv 0) zaf) (zav zb0 zaf (pv 1))) zaf) zaf) zaf))
   (zah (zas (i:=3) qbq.nd rfl (Or.inl rfl) (zav zc7 (zav za8 (zav za8 (zav zb0 (pv 2) (pv 2)) (zav zb0 zaf (pv 2))) (pv 1)) zaf))
   (zae (zaw (zav zgL (zav zc7 (zav za8 (zav za8 (zav zb0 (pv 3) (pv 3)) (zav zb0 zaf (pv 3))) (zav zb0 zaf (pv 1))) zaf) zaf))))),?_]
 walk_at "rd"
 exact q _
def zpI (T:Txt K mg)(qck:DF K mg "_law_begin" zeU zej):FC P w K mg base 1 "_law_begin" zej (zkc K):=by
 refine qck.ok qdQ .(c) .(b)
 .obtain ⟨L,ns,rfl,_⟩:=h;rfl
 obtain ⟨L,ns,rfl,hS,q⟩:=h;refine #[_,(zae (zaw (zrF (ziu zbQ (pv 0) (ziu zbQ zaf (ziu zbQ zaf zrA))) rfl rfl .(h) .(k)))),?_];intro p hp;refine #[_,rfl,zab,[(.inr "script",.ref L),(.inr "at",.int 0),(.inr "left",.int 0)],rfl,(by show 3<=15;decide),?_];have e:upd (upd H p (.dK [])) p (.dK (zfY [] [(.inr "script",.ref L),(.inr "at",.int 0),(.inr "left",.int 0)]))=upd H p (zdt L 0 0):=by
  rw[zq7];have:zfY [] [((.inr "script" : Key),V.ref L),(.inr "at",.int 0),(.inr "left",.int 0)]=[(.inr "script",.ref L),(.inr "at",.int 0),(.inr "left",.int 0)]:=by
   have a1:putK [] (.inr "script" : Key) (V.ref L)=[(.inr "script",.ref L)]:=zeY (kvs:=[]) _ rfl;have a2:putK [((.inr "script" : Key),V.ref L)] (.inr "at") (.int 0)=[(.inr "script",.ref L),(.inr "at",.int 0)]:=by
    rw[zeY _ (by rw[zbC (zey (show ("script" : Str) ≠ "at" by decide +kernel))];rfl)];rfl
   have a3:putK [((.inr "script" : Key),V.ref L),(.inr "at",.int 0)] (.inr "left") (.int 0)=[(.inr "script",.ref L),(.inr "at",.int 0),(.inr "left",.int 0)]:=by
    rw[zeY _ (by rw[zbC (zey (show ("script" : Str) ≠ "left" by decide +kernel)),zbC (zey (show ("at" : Str) ≠ "left" by decide +kernel))];rfl)];rfl
   unfold zfY;simp only[List.foldl_cons,List.foldl_nil];rw[a1,a2,a3]
  rw[this];rfl
 rw[e];exact q p _ hp (zai hp _) #[ns,0,0,zab,(zai hp _).seq hS]
def zrI (T:Txt K mg)(qcX:DF K mg "_law_take" zgk zbP)(qek:FC P w K mg base 1 "_law_mixed" zeg zj7):FC P w K mg base 2 "_law_take" zbP (zfV K):=by
 refine qcX.ok qaS .(c) .(b)
 .obtain ⟨d,L,m,rfl,_⟩:=h;rfl
 obtain ⟨d,L,m,rfl,⟨hm,hm'⟩,⟨ns,a,l,hd,hS⟩,q⟩:=h;refine #[_,(zah (zas (i:=2) qaS.nd rfl (Or.inl rfl) (zeB (zfh hr) (pv 0) zbQ (λ_ _=>rfl)))
   (zah (zas (i:=3) qaS.nd rfl (Or.inl rfl) (zeB (zfh hr) (pv 0) zbQ (λ_ _=>rfl)))
   (zaB (zaW (zat zdO (zeB (zfh hr) (pv 0) zbQ (λ_ _=>rfl)) zaf (zaE _)) (zah (zfE (zfh hr) (pv 0) zbQ (zav za8 (pv 2) zaf) rfl)
   (zah (zas (i:=4) qaS.nd rfl (Or.inl rfl) zaf)
   (zaB (zaW (zat znu (zam (zak (K:=K)) rfl T.qas boot_len (zaa (pv 3) zac)) zaf (zaE _)) (zae (zas (i:=4) qaS.nd rfl (Or.inl rfl) (zaL (zaC (K:=K)) (pv 3) (zav zc7 (pv 2) (zam (zak (K:=K)) rfl T.qas boot_len (zaa (pv 3) zac))) (λ_ _=>rfl)))) zay)
   (zaB (zaW (PW.pt (znf (zat znv (pv 2) (zam (zak (K:=K)) rfl T.qas boot_len (zaa (pv 3) zac)) (zaE _)) (zla (zat zhi (zam ziT rfl T.qeW boot_abs (zaa (pv 4) zac)) (zav zhx zaf zaf) (zaE _))))) (zae (zaw (zav zc7 (zaA qek hr (zaa (pv 4) (zaa (pv 2) zac))) (pv 1)))) zay)
   (zae (zfE (zfh hr) (pv 0) zbQ (zam ziT rfl T.qeW boot_abs (zaa (pv 4) zac)) rfl)))))) zay)
   (zah (zas (i:=5) qaS.nd rfl (Or.inl rfl) (zav zc7 (zeB (zfh hr) (pv 0) zbQ (λ_ _=>rfl)) (pv 1)))
   (zah (zfE (zfh hr) (pv 0) zbQ (zav zgL (zeB (zfh hr) (pv 0) zbQ (λ_ _=>rfl)) (pv 1)) rfl)
   (zae (zaw (pv 5)))))))),?_]
 refine #[_,rfl,_,_,rfl,ztP hd,_,rfl,_,_,rfl,zmi hd,?_];refine #[λU' H'=>∃(x2 x3 x4 x5:Option V) (a' l':Int),U'=[some (.ref d),some (.int m),x2,x3,x4,x5]/\H' d=some (zdt L a' l')/\Keep d H H',?_,?_]
 .refine #[_,rfl,_,_,rfl,ziN hd,rfl,_,rfl,?_];refine ite2 (λ_=>?_) (λ_=>?_)
  .refine #[_,rfl,_,_,rfl,rfl,_,rfl,_,_,rfl,zs0 hd,?_];have hd1:upd H d (zdt L (a+1) l) d=some (zdt L (a+1) l):=zab;obtain ⟨-,k1⟩:=LS.set (a':=a+1) (l':=l) hd hS;have hS1:=zgf hd k1 hS;generalize upd H d (zdt L (a+1) l)=H1 at hd1 k1 hS1 ⊢;refine #[λU' H'=>∃ c:Int,U'=[some (.ref d),some (.int m),some (.int a),some (.ref L),some (.int c),none]/\H1=H',?_,?_]
   .refine #[_,rfl,_,_,rfl,.inl hS1,_,_,rfl,rfl,_,rfl,?_];refine ite2 .(u) .(u)
    .have c':(0:Int)<((.(E).length:Nat):Int):=yaH c;obtain ⟨v,hv⟩:=zt2 (ns:=ns) (k:=a) (by rw[yab]at c';lia);refine #[_,rfl,_,rfl,_,rfl,_,_,rfl,.inl hS1,_,_,rfl,rfl,c',_,_,_,_,rfl,rfl,hS1,hv,?_];exact #[v,rfl,rfl]
    .exact #[0,rfl,rfl]
   rintro U' H' ⟨c,rfl,rfl⟩;refine #[λU' H'=>U'=[some (.ref d),some (.int m),some (.int a),some (.ref L),some (.int c),none]/\H1=H',?_,?_]
   .refine #[_,rfl,_,rfl,_,_,rfl,.inl hS1,_,_,rfl,rfl,_,rfl,?_];refine ite2 (λ_=>?_) (λ_=>?_)
    .refine iteT ?_;refine #[_,rfl,_,rfl,c,a,rfl,λv=>#[_,rfl,_,_,rfl,rfl,hm,?_]];exact q _ _ (ycx _ .(a)) (ycy _ hm) k1 #[ns,a+1,l,hd1,hS1]
    .refine #[_,rfl,_,rfl,_,_,rfl,rfl,#[by decide,by decide,by decide],_,_,rfl,rfl,_,rfl,?_];refine ite2 (λ_=>?_) (λ_=>?_)
     .refine #[_,rfl,_,rfl,c,a,rfl,λv=>#[_,rfl,_,_,rfl,rfl,hm,?_]];exact q _ _ (ycx _ .(a)) (ycy _ hm) k1 #[ns,a+1,l,hd1,hS1]
     .exact .(L)
   rintro U' H' ⟨rfl,rfl⟩;refine #[_,rfl,_,rfl,_,rfl,_,_,rfl,zlb hd1,?_];obtain ⟨-,k2⟩:=LS.set (a':=a+1) (l':=if c<0 then -c else c) hd1 hS1
   exact #[_,_,_,_,_,_,rfl,zab,k1.trans k2]
  .exact #[_,_,_,_,a,l,rfl,hd,Keep.refl _ _]
 rintro U' H' ⟨x2,x3,x4,x5,a',l',rfl,hd',k'⟩;have hS':=zgf hd k' hS;refine #[_,rfl,_,_,rfl,ziN hd',_,rfl,_,_,rfl,rfl,hm,?_];refine #[_,rfl,_,_,rfl,ziN hd',_,rfl,_,_,rfl,rfl,#[hm,hm'],_,rfl,_,_,rfl,zlb hd',?_];obtain ⟨s1,k1⟩:=LS.set (a':=a') (l':=l'/m) hd' hS';refine .(z);exact q _ _ (ycx _ .(a)) (ycy _ hm) (k'.trans k1) s1
inductive zrm (vs:List V)(H:Hp)(Q:VK)(w_1:XK):Prop
 | c:∀(a b:Nat),vs=[.int a,.int b]->a≠b->Q (.int (lu a b:Nat)) H->zrm vs H Q w_1
def ztm (T:Txt K mg)(qaM:DF K mg "lowest_unlike" zbL zbG):FC P w K mg base 1 "lowest_unlike" zbG zrm:=by
 refine qaM.ok qaX .(c) .(b)
 .obtain ⟨a,b,rfl,_⟩:=h;rfl
 obtain ⟨a,b,rfl,hab,q⟩:=h;refine #[_,(zah (zas (i:=2) qaX.nd rfl (Or.inl rfl) (zav ztf (pv 0) (pv 1)))
   (zae (zaw (zav zbV (ztd F.plainAttrs_int F.slot_int_bit_length F.type_int_bit_length ziD (zav zqD (pv 2) (znl zi0 (pv 2)))) zaf)))),?_]
 refine #[_,rfl,_,rfl,_,_,rfl,rfl,_,rfl,_,rfl,_,rfl,_,_,rfl,rfl,rfl,_,rfl,rfl,_,_,rfl,rfl,?_];rw[<-zty a b hab]at q;exact q
inductive zo4 (K:Frag)(vs:List V)(H:Hp)(Q:VK)(w_1:XK):Prop
 | c:∀(d L:Addr),vs=[.ref d]->LS K L d H->(∀(v:Int) (H':Hp),-(10^60)<v->v<10^60->Keep d H H'->LS K L d H'->Q (.int v) H')->zo4 K vs H Q w_1
def zpQ {x m:Int}(h1:-999<=x)(h2:x<=999)(h3:0<m)(h4:m<=10^57):-(10^60)<x*m/\x*m<10^60:=by
 have a:=Int.mul_le_mul_of_nonneg_right h2 (Int.le_of_lt h3);have b:=Int.mul_le_mul_of_nonneg_right h1 (Int.le_of_lt h3);lia
def zto (T:Txt K mg)(qdy:DF K mg "_law_key" zim ze6)(qad:FC P w K mg base 2 "_law_take" zbP (zfV K)):FC P w K mg base 3 "_law_key" ze6 (zo4 K):=by
 refine qdy.ok qdL .(c) .(b)
 .obtain ⟨d,L,rfl,_⟩:=h;rfl
 obtain ⟨d,L,rfl,hs,q⟩:=h;refine #[_,(zah (zas (i:=1) qdL.nd rfl (Or.inl rfl) (zaA qad hr (zaa (pv 0) (zaa zaf zac))))
   (zaB (zaW (zat zhi (pv 1) zaf (zaE _)) (zae (zaw (zaA qad hr (zaa (pv 0) (zaa zaf zac))))) zay)
   (zaB (zaW (zat zhi (pv 1) zaf (zaE _)) (zae (zaw (zav zbV (zaA qad hr (zaa (pv 0) (zaa zaf zac))) zaf))) zay)
   (zaB (zaW (zat zdO (pv 1) zaf (zaE _)) (zae (zaw (zav zb0 (zav zbV (zaA qad hr (zaa (pv 0) (zaa zaf zac))) zaf) (zaL (zaC (K:=K)) (zbS (zaa zaf (zaa (zav zhx zaf zaf) (zaa (zav zhx zaf zaf) (zaa (zav zhx zaf zaf) zac))))) (zaA qad hr (zaa (pv 0) (zaa zaf zac))) (λ_ _=>rfl))))) zay)
   (zae (zaw (zav zb0 (zaL (zaC (K:=K)) (zbS (zaa zaf (zaa (znl zi0 zaf) zac))) (zaA qad hr (zaa (pv 0) (zaa zaf zac))) (λ_ _=>rfl)) (zav zbV (zav zbV (zav zhx zaf zaf) zaf) (zaA qad hr (zaa (pv 0) (zaa zaf zac))))))))))),?_]
 refine #[_,rfl,d,L,8,rfl,by decide,hs,λw1 H1 w0 w8 k1 s1=>?_];have nd:∀{H':Hp} {p:Addr},LS K L d H'->H' p=none->p≠d:=λs hp z=>by
  obtain ⟨_,_,_,e,_⟩:=s.ex;rw[<-z,hp]at e;cases e
 refine #[λU' H'=>U'=[some (.ref d),some (.int w1)]/\H1=H',?_,?_]
 .refine #[_,rfl,_,_,rfl,rfl,_,rfl,?_];refine ite2 .(u) .(u)
  .refine #[_,rfl,d,L,10,rfl,by decide,s1,λu H2 u0 u1 k2 s2=>?_];exact q u H2 .(a) .(a) (k1.trans k2) s2
  .exact .(L)
 rintro U' H' ⟨rfl,rfl⟩;refine #[λU' H'=>U'=[some (.ref d),some (.int w1)]/\H1=H',?_,?_]
 .refine #[_,rfl,_,_,rfl,rfl,_,rfl,?_];refine ite2 .(u) .(u)
  .refine #[_,rfl,d,L,60,rfl,by decide,s1,λu H2 u0 u1 k2 s2=>#[_,_,rfl,rfl,?_]];exact q (u-30) H2 .(a) .(a) (k1.trans k2) s2
  .exact .(L)
 rintro U' H' ⟨rfl,rfl⟩;refine #[λU' H'=>U'=[some (.ref d),some (.int w1)]/\H1=H',?_,?_]
 .refine #[_,rfl,rfl,_,rfl,?_];refine ite2 .(u) .(u)
  .refine #[_,rfl,d,L,1999,rfl,by decide,s1,λu H2 u0 u1 k2 s2=>#[_,_,rfl,rfl,?_]];refine #[_,_,rfl,rfl,#[by decide,by decide,by decide],_,_,rfl,rfl,#[by decide,by decide,by decide],_,_,rfl,rfl,#[by decide,by decide,by decide],(by show 4<=sizeLine;decide),λp hp=>?_];refine #[_,rfl,d,L,4,rfl,by decide,s2.of_new hp _,λb H3 b0 b1 k3 s3=>?_];obtain ⟨m,hat,m0,m1⟩:∃ m:Int,atI [V.int 1,V.int (10^(19:Int).toNat),V.int (10^(38:Int).toNat),V.int (10^(57:Int).toNat)] b=some (.int m)/\0<m/\m<=10^57:=by
    have z:b=0\/b=1\/b=2\/b=3:=by lia
    rcases z with rfl|rfl|rfl|rfl
    .exact #[_,rfl,by decide +kernel,by decide +kernel]
    .exact #[_,rfl,by decide +kernel,by decide +kernel]
    .exact #[_,rfl,by decide +kernel,by decide +kernel]
    .exact #[_,rfl,by decide +kernel,by decide +kernel]
   refine #[_,_,_,_,rfl,rfl,SqL.of (k3 p _ (nd s2 hp) zab),hat,_,_,rfl,rfl,.inl #[by lia,by lia],?_];obtain ⟨f1,f2⟩:=zpQ (x:=u-999) (m:=m) .(a) .(a) m0 m1;exact q _ H3 f1 f2 ((k1.trans k2).trans ((zai hp _).keep.trans k3)) s3
  .exact .(L)
 rintro U' H' ⟨rfl,rfl⟩;refine #[_,rfl,.(m),λp hp=>?_];refine #[_,rfl,d,L,2,rfl,by decide,s1.of_new hp _,λb H2 b0 b1 k2 s2=>?_];obtain ⟨m,hat,hm⟩:∃ m:Int,atI [V.int 1,V.int (-1)] b=some (.int m)/\(m=1\/m = -1):=by
  have z:b=0\/b=1:=by lia
  rcases z with rfl|rfl
  .exact #[_,rfl,.inl rfl]
  .exact #[_,rfl,.inr rfl]
 refine #[_,_,_,_,rfl,rfl,SqL.of (k2 p _ (nd s1 hp) zab),hat,_,_,rfl,rfl,#[by decide,by decide,by decide],_,_,rfl,rfl,_,rfl,d,L,3,rfl,by decide,s2,λu H3 u0 u1 k3 s3=>#[_,_,rfl,rfl,_,_,rfl,rfl,.inl #[by lia,by lia],?_]];have e60:(10:Int)^(60:Int).toNat=10^60:=rfl;rw[e60];have kk:=k1.trans ((zai hp _).keep.trans (k2.trans k3));rcases hm with rfl|rfl
 .exact q _ H3 .(a) .(a) kk s3
 .exact q _ H3 .(a) .(a) kk s3
def Rise (es:List (Int×Int)):Prop:=es.Pairwise λa b=>pLt a b=true
def zf9 (k:Int)(e:Int×Int):Prop:=-(10^60)<e.1/\e.1<10^60/\0<=e.2/\e.2<k
def zni {κ:Type}[DecidableEq κ](kvs:List (κ×V))(k:κ)(v:V):(putK kvs k v).map (·.1)=if (kvs.any λkv=>decide (kv.1=k))=true then kvs.map (·.1) else kvs.map (·.1)++[k]:=by
 unfold putK;split
 .rw[ybM];apply ycD;intro a ha;show (if a.1=k then (a.1,v) else a).1=a.1
  split<;>rfl
 .rw[yas];rfl
def zhk (e:Int×Int):Int:=64*(if 0<=e.1 then 2*e.1 else -2*e.1-1)+e.2
def zhj (e:Int×Int):Nat:=(zhk e).toNat
def zfo {e:Int×Int}(h:zf9 64 e):((zhj e:Nat):Int)=zhk e:=by
 obtain ⟨h1,h2,h3,h4⟩:=h;unfold zhj zhk;split<;>lia
def zqc {e:Int×Int}(h:zf9 64 e):zhj e<2^207:=by
 have z:=zfo h;obtain ⟨h1,h2,h3,h4⟩:=h;unfold zhk at z;split at z<;>lia
def zoz {e f:Int×Int}(h:zf9 64 e)(g:zf9 64 f)(z:zhj e=zhj f):e=f:=by
 have z1:=zfo h;have z2:=zfo g;obtain ⟨h1,h2,h3,h4⟩:=h;obtain ⟨g1,g2,g3,g4⟩:=g;obtain ⟨a,b⟩:=e;obtain ⟨c,d⟩:=f;rw[z,z2]at z1;unfold zhk at z1;dsimp only at *;have:a=c/\b=d:=by
  split at z1<;>split at z1<;>lia
 rw[this.1,this.2]
inductive zjc (K:Frag)(vs:List V)(H:Hp)(Q:VK)(w_1:XK):Prop
 | c:∀(v:V) (e:Int×Int),vs=[v]->Rep.has K H e v->Q (.int (zhk e)) H->zjc K vs H Q w_1
def zrP (T:Txt K mg)(qel:DF K mg "code" zk6 zit):FC P w K mg base 1 "code" zit (zjc K):=by
 refine qel.ok qdu .(c) .(b)
 .obtain ⟨v,e,rfl,_⟩:=h;rfl
 obtain ⟨v,e,rfl,he,q⟩:=h;obtain ⟨p,x1,x2,rfl,hT,e1,e2⟩:=(show hasP K H e v from he);have hT:=SqT.of (K:=K) hT;have e1:x1=.int e.1:=e1;have e2:x2=.int e.2:=e2;subst e1 e2;refine #[_,(zah (zas (i:=1) qdu.nd rfl (Or.inl rfl) (zaL (zaG (K:=K)) (pv 0) zaf (λ_ _=>rfl)))
   (zah (zas (i:=2) qdu.nd rfl (Or.inl rfl) (zpi (zat znv (pv 1) zaf (zaE _)) (zav zb0 zaf (pv 1)) (zav zbV (zav zb0 (znl zi0 zaf) (pv 1)) zaf)))
   (zae (zaw (zav za8 (zav zb0 (zdp rfl T.qcG) (pv 2)) (zaL (zaG (K:=K)) (pv 0) zaf (λ_ _=>rfl))))))),?_]
 refine #[_,rfl,_,_,_,_,rfl,rfl,hT,rfl,?_];refine #[_,rfl,_,_,rfl,rfl,_,rfl,?_];refine ite2 .(u) .(u)
 .have c':0<=e.1:=yaH c;refine #[_,rfl,_,_,rfl,rfl,.inl #[by decide,by decide],?_];refine #[_,rfl,_,_,rfl,rfl,.inl #[by decide,by decide],_,rfl,_,_,_,_,rfl,rfl,hT,rfl,_,_,rfl,rfl,?_];unfold zhk at q;rw[if_pos c']at q;exact q
 .have c':¬ 0<=e.1:=ycB (ycA.mpr c);refine #[_,rfl,_,rfl,_,_,rfl,rfl,.inl #[by decide,by decide],_,_,rfl,rfl,?_];refine #[_,rfl,_,_,rfl,rfl,.inl #[by decide,by decide],_,rfl,_,_,_,_,rfl,rfl,hT,rfl,_,_,rfl,rfl,?_];unfold zhk at q;rw[if_neg c']at q;exact q
abbrev nV (n:Nat):V:=.int (n:Int)
def ztu {v:Int}(h:0<=v):∃ n:Nat,v=(n:Int):=#[v.toNat,by lia]
def zhb {xs:List Nat}{i:Nat}(h:i<xs.length):atI .(H) (i:Int)=some (nV (xs.getD i 0)):=
 zeI (by rw[yax,yac h,yaf,yac h];rfl)
def zoJ {xs:List Nat}{i:Nat}(h0:i≠0)(h:i<xs.length):atI .(H) ((i:Int)-1)=some (nV (xs.getD (i-1) 0)):=by
 have e:(i:Int)-1=((i-1:Nat):Int):=by lia
 rw[e];exact zhb .(a)
def zlD {xs:List Nat}{i:Nat}{x:V}(h: .(H)[i]?=some x):i<xs.length/\x=nV (xs.getD i 0):=by
 rw[yax]at h;cases e:xs[i]? with
 | none=>rw[e]at h;cases h
 | some y=>
  rw[e]at h;refine #[(yap.mp e).1,?_];rw[yaf,e];exact (yae h).symm
def zsw (n:Nat):Builtin.bitAnd (n:Int) 1=((n%2:Nat):Int):=by
 unfold Builtin.bitAnd;rw[yah (ybO n),yah (by decide:(0:Int)<=1)];show ((n &&& 1:Nat):Int)=_;rw[Nat.and_one_is_mod]
def ztU (a b:Nat):2*((lu a b:Nat):Int)+Builtin.bitAnd ((b:Int)/2^((lu a b:Nat):Int).toNat) 1=((fig a b:Nat):Int):=by
 have e:(b:Int)/2^((lu a b:Nat):Int).toNat=((b/2^lu a b:Nat):Int):=by
  rw[ybe,Int.natCast_ediv,Int.natCast_pow];rfl
 rw[e,zsw];unfold fig;lia
def But (p:Addr)(H H':Hp):Prop:=∀ b o,b≠p->H b=some o->H' b=some o
def But.sq {K:Frag}{a:Addr}(k:But p H H')(h:SqL K H a xs)(n:H p=none):SqL K H' a xs:=by
 rcases h with (h|⟨o,h⟩)|h
 .exact .inl (.inl (k _ _ (zad h n) h))
 .exact .inl (.inr #[o,k _ _ (zad h n) h])
 .exact .inr h
def zkz (xs:List Nat): .(H).all zfl=true:=by
 rw[ybq];intro x hx;obtain ⟨n,_,rfl⟩:=yaE.mp hx;rfl
def zn7 (n:Nat)(xs:List Nat):inV (.int (n:Int)) .(H)=decide (n∈xs):=by
 unfold inV
 induction xs with
 | nil=>rfl
 | cons x xs ih=>
  rw[yav,ybv,ih];show ((x:Int)==(n:Int)||decide (n∈xs))=decide (n∈x::xs);by_cases h:x=n
  .subst h;simp
  .have:((x:Int)==(n:Int))=false:=by
    rw[beq_eq_false_iff_ne];lia
   rw[this,Bool.false_or];have e:(n∈x::xs)=(n∈xs):=propext (by simp[Ne.symm h]);simp[Ne.symm h]
inductive zeM (K:Frag)(vs:List V)(H:Hp)(Q:VK)(w_1:XK):Prop
 | c:∀(a:Addr) (xs:List Nat),vs=[.ref a]->SqL K H a (xs.map nV)->Unl xs->xs.length<=1000->(∀(p:Addr) (H':Hp),H p=none->Same H H'->H' p=some (.lst ((zcA xs).map nV))->Q (.ref p) H')->zeM K vs H Q w_1
def znx (T:Txt K mg)(qcY:DF K mg "turned" zgg zeZ)(qcl:FC P w K mg base 1 "lowest_unlike" zbG zrm):FC P w K mg base 2 "turned" zeZ (zeM K):=by
 refine qcY.ok qaZ .(c) .(b)
 .obtain ⟨a,xs,rfl,_⟩:=h;rfl
 obtain ⟨a,xs,rfl,hS,hu,hz,q⟩:=h;refine #[_,(zah (zas (i:=1) qaZ.nd rfl (Or.inl rfl) (zbS zac))
   (zah (zbn PassesOwn.never rfl (zjj rfl T.qdx (zaa (pv 0) zac)) (zhw rfl (zbt (zau (i:=2) qaZ.nd rfl (Or.inl rfl)) (zbt (zau (i:=3) qaZ.nd rfl (Or.inl rfl)) zfG))) (zae (zaW (zat zdO (pv 2) zaf (zaE _)) (zae (zbd (zfa F.plainAttrs_list F.slot_list_append F.type_list_append za0 (pv 1) (zaa (zav zc7 (pv 3) zaf) zac)))) (zah (zas (i:=4) qaZ.nd rfl (Or.inl rfl) (zaA qcl hr (zaa (zaL (zaC (K:=K)) (pv 0) (zav zbV (pv 2) zaf) (λ_ _=>rfl)) (zaa (pv 3) zac))))
   (zae (zbd (zfa F.plainAttrs_list F.slot_list_append F.type_list_append za0 (pv 1) (zaa (zav za8 (zav zb0 zaf (pv 4)) (zav zqD (zav ztg (pv 3) (pv 4)) zaf)) zac))))))))
   (zae (zaw (pv 1))))),?_]
 refine #[.(F),λp hp=>?_];have k0:But p H (upd H p .(M)):=λb o n e=>by rw[zag n];exact e
 refine #[_,rfl,a,rfl,#[_,k0.sq hS hp],?_];refine zp4 (xs:=xs.map nV) (λi U H2=>∃ x2 x3 x4:Option V,U=[some (.ref a),some (.ref p),x2,x3,x4]/\H2 p=some (.lst (((zcA xs).take i).map nV))/\But p H H2) ?_ ?_ ?_ ?_
 .exact #[_,_,_,rfl,zab,k0]
 .rintro i U H2 _ ⟨x2,x3,x4,rfl,_,k2⟩;exact k2.sq hS hp
 .rintro i x U H2 r hx ⟨x2,x3,x4,rfl,h2,k2⟩ hr;obtain ⟨hi,rfl⟩:=zlD hx;have hS2:=k2.sq hS hp;have np:p≠r:=zad h2 hr;have h3:upd H2 r (.tup [.int i,nV (xs.getD i 0)]) p=some (.lst (((zcA xs).take i).map nV)):=by rw[zag np];exact h2
  have k3:But p H (upd H2 r (.tup [.int i,nV (xs.getD i 0)])):=λb o n e=>(zai hr _) b o (k2 b o n e);have hS3:=k3.sq hS hp;have hlen:(((zcA xs).take i).map nV).length<sizeLine:=zap (by rw[yab,yar,za9];lia);refine #[r,_,rfl,SqT.of zab,rfl,_,_,rfl,_,_,rfl,rfl,?_];generalize upd H2 r (.tup [.int i,nV (xs.getD i 0)])=H3 at h3 k3 hS3 ⊢;have fin:∀ v:V,v=nV (zc4 xs i)->∃ y2 y3 y4:Option V,[some (V.ref a),some (V.ref p),y2,y3,y4]=[some (V.ref a),some (V.ref p),y2,y3,y4]/\upd H3 p (.lst (((zcA xs).take i).map nV++[v])) p=some (.lst (((zcA xs).take (i+1)).map nV))/\But p H (upd H3 p (.lst (((zcA xs).take i).map nV++[v]))):=by
   rintro v rfl;refine #[none,none,none,rfl,?_,λb o n e=>by rw[zag n];exact k3 b o n e];rw[zab,zhp hi,yas];rfl
  refine #[_,rfl,rfl,_,rfl,?_];refine ite2 .(u) .(u)
  .have c':i=0:=by
    have:=V.int.inj (yaH c);lia
   refine #[_,rfl,.inl #[rfl,_,SqL.of h3],_,rfl,_,_,rfl,rfl,(by show (0:Int) < 2;decide),_,_,_,rfl,rfl,h3,hlen,?_];obtain ⟨_,_,_,_,g2,g3⟩:=fin (.int (((xs.getD i 0:Nat):Int) % 2)) (by
    unfold zc4;rw[if_pos c',c'];show V.int _=V.int _;rw[Int.natCast_emod];rfl)
   exact #[_,_,_,rfl,g2,g3]
  .have c':i≠0:=λz=>c (by subst z;decide);have hne:xs.getD (i-1) 0≠xs.getD i 0:=by
    have:=hu (i-1) .(a);rw[show i-1+1=i by lia]at this;exact this
   refine #[_,rfl,_,rfl,_,_,rfl,rfl,_,_,_,_,rfl,rfl,hS3,zoJ c' hi,_,rfl,_,_,rfl,hne,?_];refine #[_,rfl,.inl #[rfl,_,SqL.of h3],_,rfl,_,_,rfl,rfl,.inl #[by decide,by decide],_,rfl,_,rfl,_,_,rfl,rfl,ybO _,_,_,rfl,rfl,_,_,rfl,rfl,_,_,_,rfl,rfl,h3,hlen,?_];obtain ⟨_,_,_,_,g2,g3⟩:=fin (.int (2 * ((lu (xs.getD (i - 1) 0) (xs.getD i 0):Nat):Int)+Builtin.bitAnd (((xs.getD i 0:Nat):Int) / 2 ^ ((lu (xs.getD (i - 1) 0) (xs.getD i 0):Nat):Int).toNat) 1)) (by
    unfold zc4;rw[if_neg c',ztU])
   exact #[_,_,_,rfl,g2,g3]
 .rintro U H2 ⟨x2,x3,x4,rfl,h2,k2⟩;refine .(z);refine q p H2 hp (λb o e=>k2 b o (zad e hp) e) ?_;rw[h2,yat (by rw[za9,yab];exact yaa _)]
def zcy:Nat->List Nat->List Nat
 | 0,xs=>xs
 | n+1,xs=>zcA (zcy n xs)
def zbp (n:Nat)(xs:List Nat):(zcy n xs).length=xs.length:=by
 induction n with
 | zero=>rfl
 | succ n ih=>rw[zcy,za9,ih]
def zcx (h:Unl xs)(n:Nat):Unl (zcy n xs):=by
 induction n with
 | zero=>exact h
 | succ n ih=>exact zmH ih
def zev {k:Nat}(h:zd1 m xs)(hk:m<=k):zd1 k xs:=λi hi=>yak (h i hi) hk
def zrc (h:Unl xs)(hb:zd1 (2^207) xs):zd1 414 (zcy 1 xs):=zcz (k:=207) .(k) h hb
def zrb (h:Unl xs)(hb:zd1 (2^207) xs):zd1 18 (zcy 2 xs):=zcz (k:=9) .(k) (zcx h 1) (zev (zrc h hb) .(k))
def zra (h:Unl xs)(hb:zd1 (2^207) xs):zd1 10 (zcy 3 xs):=zcz (k:=5) .(k) (zcx h 2) (zev (zrb h hb) .(k))
def zq9 (h:Unl xs)(hb:zd1 (2^207) xs):zd1 8 (zcy 4 xs):=zcz (k:=4) .(k) (zcx h 3) (zev (zra h hb) .(k))
def zq8 (h:Unl xs)(hb:zd1 (2^207) xs):zd1 6 (zcy 5 xs):=zcz (k:=3) .(k) (zcx h 4) (zev (zq9 h hb) .(k))
def zb8 (es:List (Int×Int)):List Nat:=es.map zhj
def zaI (es:List (Int×Int)):(zb8 es).length=es.length:=yab _
def zfO {es:List (Int×Int)}{i:Nat}(h:i<es.length):(zb8 es).getD i 0=zhj es[i]:=by
 unfold zb8;rw[yaf,yax,yac h];rfl
def zkF {es:List (Int×Int)}(h:∀ e∈es,zf9 64 e):zd1 (2^207) (zb8 es):=λi hi=>by
 rw[zaI]at hi;rw[zfO hi];exact zqc (h _ (yaR hi))
def zfn {es:List (Int×Int)}(h:∀ e∈es,zf9 64 e)(hr:Rise es):Unl (zb8 es):=λi hi=>by
 rw[zaI]at hi;rw[zfO .(a),zfO hi];intro z;have e:=zoz (h _ (yaR .(a))) (h _ (yaR hi)) z;have:=ya9.mp hr i (i+1) .(a) hi .(a);rw[e]at this;have q:=zc2.mp this;lia
def zhM {es:List (Int×Int)}{i:Nat}(h:i<es.length):(zb8 es).take (i+1)=(zb8 es).take i++[zhj es[i]]:=by
 have h':i<(zb8 es).length:=by rw[zaI];exact h
 have z:(zb8 es)[i]'h'=zhj es[i]:=List.getElem_map zhj;rw[yaZ h',z]
inductive zh9 (K:Frag)(vs:List V)(H:Hp)(Q:VK)(w_1:XK):Prop
 | c:∀(a:Addr) (ws:List V) (es:List (Int×Int)),vs=[.ref a]->SqL K H a ws->zan K H es ws->es.length<=1000->(∀ e∈es,zf9 64 e)->Rise es->(∀(p:Addr) (H':Hp),H p=none->Same H H'->H' p=some (.lst ((zcy 5 (zb8 es)).map nV))->Q (.ref p) H')->zh9 K vs H Q w_1
def zhN {K:Frag}{H0:Hp}{D:Addr}{es:List (Int×Int)}{ws:List V}{i:Nat}{x:V}(hD:H0 D=none)(hw:zan K H0 es ws)(hx:ws[i]?=some x)(k:But D H0 H2):∃ h:i<es.length,Rep.has K H2 es[i] x:=by
 obtain ⟨e,h1,h2⟩:=hw.get hx;have hi:=(yap.mp h1).1;refine #[hi,?_];have z:es[i]=e:=(yap.mp h1).2;rw[z];obtain ⟨a,x1,x2,rfl,q,e1,e2⟩:=(show hasP K H0 e x from h2);exact #[a,x1,x2,rfl,k _ _ (zad q hD) q,e1,e2]
def znD (T:Txt K mg)(qcZ:DF K mg "labels" zgi ze2)(qfi:FC P w K mg base 1 "code" zit (zjc K))(qeK:FC P w K mg base 2 "turned" zeZ (zeM K)):FC P w K mg base 3 "labels" ze2 (zh9 K):=by
 refine qcZ.ok qbk .(c) .(b)
 .obtain ⟨a,ws,es,rfl,_⟩:=h;rfl
 obtain ⟨a,ws,es,rfl,hS,hw,hz,he,hri,q⟩:=h;have hlen:=hw.length;refine #[_,(zah (zeA (i:=1) (N:=["entry"]) (own:=1) (cap:=[]) qbk.nd rfl rfl rfl (zcF (pv 0)) #[rfl,rfl,rfl,rfl,rfl,rfl] (λ_ _ _ _ _=>(zau (i:=0) (show List.Nodup (["entry"]:List Str) by decide +kernel) rfl (Or.inl rfl))) (λ_ _ _ _ _=>zb4) (λ_ _ _ _ _=>(zaA qfi hr (zaa (pv 0) zac))))
   (zah (zbn PassesOwn.never rfl (zaZ rfl T.qat (zaa (zdp rfl T.qeZ) zac)) (zau (i:=2) qbk.nd rfl (Or.inl rfl)) (zae (zas (i:=1) qbk.nd rfl (Or.inl rfl) (zaA qeK hr (zaa (pv 1) zac)))))
   (zae (zaw (pv 1))))),?_]
 refine #[_,rfl,a,rfl,#[_,hS],λD hD=>?_];have k0:But D H (upd H D .(M)):=λb o n e=>by rw[zag n];exact e
 refine zch (xs:=ws) (λi U H2=>∃ x0:Option V,U=[x0]/\H2 D=some (.lst (((zb8 es).take i).map nV))/\But D H H2) ?_ ?_ ?_ ?_
 .exact #[_,rfl,zab,k0]
 .rintro i U H2 _ ⟨x0,rfl,_,k2⟩;exact k2.sq hS hD
 .rintro i m x U H2 hx hm ⟨x0,rfl,h2,k2⟩;obtain ⟨hi,hhas⟩:=zhN hD hw hx k2;refine zc0 ?_;refine #[_,rfl,x,es[i],rfl,hhas,?_];refine #[_,h2,zap (by rw[yab,yar,zaI];lia),m-1,by lia,by lia,_,rfl,?_,λb o n e=>by rw[zag n];exact k2 b o n e];rw[zab,zhM hi,yas,<-zfo (he _ (yaR hi))];rfl
 .rintro U H2 ⟨x0,rfl,h2,k2⟩;have e0:H2 D=some (.lst ((zb8 es).map nV)):=by
   rw[h2,yat (by rw[zaI];lia)]
  have same0:Same H H2:=λb o e=>k2 b o (zad e hD) e;refine #[5,rfl,by decide,by decide,?_];refine zbj (n:=5) (λi U H3=>∃(p:Addr) (x2 x3:Option V),U=[some (.ref a),some (.ref p),x2]/\H p=none/\Same H H3/\H3 p=some (.lst ((zcy i (zb8 es)).map nV))) ?_ ?_ ?_
  .exact #[D,_,none,rfl,hD,same0,e0]
  .rintro i U H3 hi ⟨p,x2,x3,rfl,hp,s3,h3⟩;refine #[_,rfl,p,_,rfl,SqL.of h3,zcx (zfn he hri) i,by rw[zbp,zaI];exact hz,λp4 H4 hp4 s4 h4=>?_];exact #[p4,_,none,rfl,s3.free hp4,s3.trans s4,h4]
  .rintro U H3 ⟨p,x2,x3,rfl,hp,s3,h3⟩;refine .(z);exact q p H3 hp s3 h3
def zpz (T:Txt K mg)(qc0:DF K mg "_law_code" zgo ze8):FC P w K mg base 1 "_law_code" ze8 (zjc K):=by
 refine qc0.ok qb7 .(c) .(b)
 .obtain ⟨v,e,rfl,_⟩:=h;rfl
 obtain ⟨v,e,rfl,he,q⟩:=h;obtain ⟨p,x1,x2,rfl,hT,e1,e2⟩:=(show hasP K H e v from he);have hT:=SqT.of (K:=K) hT;have e1:x1=.int e.1:=e1;have e2:x2=.int e.2:=e2;subst e1 e2;refine #[_,(zah (zdz (pv 0) (zhw rfl (zbt (zau (i:=1) qb7.nd rfl (Or.inl rfl)) (zbt (zau (i:=2) qb7.nd rfl (Or.inl rfl)) zfG))))
   (zaB (zaW (zat zhi (pv 1) zaf (zaE _)) (zae (zaw (zav za8 (zav zb0 zaf (zav zbV (zav zb0 (znl zi0 zaf) (pv 1)) zaf)) (pv 2)))) zay)
   (zae (zaw (zav za8 (zav zb0 zaf (pv 1)) (pv 2)))))),?_]
 refine #[_,rfl,p,_,rfl,hT,rfl,_,_,rfl,_,_,rfl,rfl,?_];refine #[λU' H'=>U'=[some (.ref p),some (.int e.1),some (.int e.2)]/\H=H'/\0<=e.1,?_,?_]
 .refine #[_,rfl,_,_,rfl,rfl,_,rfl,?_];refine ite2 .(u) .(u)
  .have c':e.1<0:=yaH c;refine #[_,rfl,_,rfl,_,_,rfl,rfl,.inl #[by decide,by decide],_,_,rfl,rfl,_,_,rfl,rfl,.inl #[by decide,by decide],_,rfl,_,_,rfl,rfl,?_];unfold zhk at q;rw[if_neg .(a)]at q;exact q
  .exact #[rfl,rfl,by have:=ycB (ycA.mpr c);lia]
 rintro U' H' ⟨rfl,rfl,c⟩;refine #[_,rfl,_,_,rfl,rfl,.inl #[by decide,by decide],_,rfl,_,_,rfl,rfl,?_];unfold zhk at q;rw[if_pos c]at q;have z:64*(2*e.1)+e.2=128*e.1+e.2:=by lia
 rw[z]at q;exact q
def wMes:L2.St->Hp->Nat:=λU _=>match U with
 | [_,_,_,some (.int x),some (.int y),_]=>x.toNat+y.toNat
 | _=>0
def zl5 (T:Txt K mg)(qbs:DF K mg "_law_turned" zd7 zdk):FC P w K mg base 1 "_law_turned" zdk (zeM K):=by
 refine qbs.ok qav .(c) .(b)
 .obtain ⟨a,xs,rfl,_⟩:=h;rfl
 obtain ⟨a,xs,rfl,hS,hu,hz,q⟩:=h;refine #[_,(zah (zas (i:=1) qav.nd rfl (Or.inl rfl) (zbS zac))
   (zah (zbn PassesOwn.never rfl (zaZ rfl T.qat (zaa (zam (zak (K:=K)) rfl T.qas boot_len (zaa (pv 0) zac)) zac)) (zau (i:=2) qav.nd rfl (Or.inl rfl)) (zae (zaW (zat zdO (pv 2) zaf (zaE _)) (zae (zbd (zfa F.plainAttrs_list F.slot_list_append F.type_list_append za0 (pv 1) (zaa (zav zc7 (zaL (zaC (K:=K)) (pv 0) zaf (λ_ _=>rfl)) zaf) zac)))) (zah (zas (i:=3) qav.nd rfl (Or.inl rfl) (zaL (zaC (K:=K)) (pv 0) (pv 2) (λ_ _=>rfl)))
   (zah (zas (i:=4) qav.nd rfl (Or.inl rfl) (zaL (zaC (K:=K)) (pv 0) (zav zbV (pv 2) zaf) (λ_ _=>rfl)))
   (zah (zas (i:=5) qav.nd rfl (Or.inl rfl) zaf)
   (zah (zgs PassesOwn.never (zat zdO (zav zc7 (pv 3) zaf) (zav zc7 (pv 4) zaf) (zaE _)) (zah (zas (i:=3) qav.nd rfl (Or.inl rfl) (zav zgL (pv 3) zaf))
   (zah (zas (i:=4) qav.nd rfl (Or.inl rfl) (zav zgL (pv 4) zaf))
   (zae (zas (i:=5) qav.nd rfl (Or.inl rfl) (zav za8 (pv 5) zaf))))))
   (zae (zbd (zfa F.plainAttrs_list F.slot_list_append F.type_list_append za0 (pv 1) (zaa (zav za8 (zav zb0 zaf (pv 5)) (zav zc7 (pv 3) zaf)) zac)))))))))))
   (zae (zaw (pv 1))))),?_]
 refine #[.(F),λp hp=>?_];have k0:But p H (upd H p .(M)):=λb o n e=>by rw[zag n];exact e
 refine #[_,rfl,_,_,rfl,.inl (k0.sq hS hp),_,rfl,by rw[yab];lia,by rw[yab];lia,?_];have el:(((.(H).length:Nat):Int)).toNat=xs.length:=by rw[yab,ybe]
 rw[el];refine zbj (n:=xs.length) (λi U H2=>∃ x2 x3 x4 x5:Option V,U=[some (.ref a),some (.ref p),x2,x3,x4,x5]/\H2 p=some (.lst (((zcA xs).take i).map nV))/\But p H H2) ?_ ?_ ?_
 .exact #[_,_,_,_,rfl,zab,k0]
 .rintro i U H2 hi ⟨x2,x3,x4,x5,rfl,h2,k2⟩;have hS2:=k2.sq hS hp;have hlen:(((zcA xs).take i).map nV).length<sizeLine:=zap (by rw[yab,yar,za9];lia);have fin:∀ v:V,v=nV (zc4 xs i)->upd H2 p (.lst (((zcA xs).take i).map nV++[v])) p=some (.lst (((zcA xs).take (i+1)).map nV))/\But p H (upd H2 p (.lst (((zcA xs).take i).map nV++[v]))):=by
   rintro v rfl;refine #[?_,λb o n e=>by rw[zag n];exact k2 b o n e];rw[zab,zhp hi,yas];rfl
  refine #[_,rfl,rfl,_,rfl,?_];refine ite2 .(u) .(u)
  .have c':i=0:=by
    have:=V.int.inj (yaH c);lia
   have hat:atI (xs.map nV) 0=some (nV (xs.getD 0 0)):=zhb (i:=0) (by lia);refine #[_,rfl,.inl #[rfl,_,SqL.of h2],_,rfl,_,_,_,_,rfl,rfl,hS2,hat,_,_,rfl,rfl,(by show (0:Int) < 2;decide),_,_,_,rfl,rfl,h2,hlen,?_];obtain ⟨g2,g3⟩:=fin (.int (((xs.getD 0 0:Nat):Int) % 2)) (by
    unfold zc4;rw[if_pos c'];show V.int _=V.int _;rw[Int.natCast_emod];rfl)
   exact #[_,_,_,_,rfl,g2,g3]
  .have c':i≠0:=λz=>c (by subst z;decide);have hne:xs.getD (i-1) 0≠xs.getD i 0:=by
    have:=hu (i-1) .(a);rw[show i-1+1=i by lia]at this;exact this
   have hat:atI .(H) (0+(i:Int))=some (nV (xs.getD i 0)):=by rw[ybi];exact zhb hi
   have hatp:atI .(H) (0+(i:Int)-1)=some (nV (xs.getD (i-1) 0)):=by rw[ybi];exact zoJ c' hi
   refine #[_,rfl,_,rfl,_,_,_,_,rfl,rfl,hS2,hat,?_];refine #[_,rfl,_,rfl,_,_,rfl,rfl,_,_,_,_,rfl,rfl,hS2,hatp,?_];have et:zc4 xs i=fig (xs.getD (i-1) 0) (xs.getD i 0):=by unfold zc4;rw[if_neg c']
   rw[et]at fin;generalize xs.getD (i-1) 0=Y at *;generalize xs.getD i 0=X at *;refine zkR (λU H'=>∃ x y j:Nat,U=[some (.ref a),some (.ref p),some (.int (0+i)),some (.int x),some (.int y),some (.int j)]/\H'=H2/\x≠y/\lu Y X=j+lu y x/\x=X/2^j) wMes ?_ ?_ ?_
   .exact #[X,Y,0,rfl,rfl,Ne.symm hne,by lia,by rw[Nat.pow_zero,Nat.div_one]]
   .rintro U H' ⟨x,y,j,rfl,rfl,hxy,hl,hx⟩;refine #[_,rfl,_,_,rfl,rfl,(by show (0:Int)<2;decide),_,rfl,_,_,rfl,rfl,(by show (0:Int)<2;decide),rfl,_,rfl,?_];refine ite2 (λe=>?_) (λe=>?_)
    .have e':x%2=y%2:=by
      have:=V.int.inj (yaH e);lia
     refine #[_,rfl,_,_,rfl,rfl,#[by decide,by decide],_,rfl,_,_,rfl,rfl,#[by decide,by decide],_,rfl,_,_,rfl,rfl,?_];refine #[#[x/2,y/2,j+1,?_,rfl,by lia,?_,?_],?_]
     .rw[Int.natCast_ediv,Int.natCast_ediv,yc2];rfl
     .rw[hl,ziG (Ne.symm hxy) e'.symm];lia
     .rw[hx,ych,Nat.div_div_eq_div_mul]
     .show ((x:Int)/2).toNat+((y:Int)/2).toNat<(x:Int).toNat+(y:Int).toNat;lia
    ·have e':x % 2≠y % 2:=λz=>e (by
      apply yah;show V.int _=V.int _;have z':(x:Int)%2=(y:Int)%2:=by lia
      rw[z'])
     rw[zlr (Ne.symm e')]at hl;refine #[_,rfl,.inl #[rfl,_,SqL.of h2],_,rfl,_,_,rfl,rfl,.inl #[by decide,by decide],_,rfl,_,_,rfl,rfl,(by show (0:Int) < 2;decide),_,_,rfl,rfl,_,_,_,rfl,rfl,h2,hlen,?_];obtain ⟨g2,g3⟩:=fin (.int (2 * (j:Int)+(x:Int) % 2)) (by
      show V.int _=V.int _;unfold fig;rw[hl,ybL,<-hx,yc2,Int.natCast_mul,Int.natCast_emod];rfl)
     exact #[_,_,_,_,rfl,g2,g3]
   .intro U H Q Q' m h;obtain ⟨x1,e1,i1,j1,f1,g1,c1,x2,e2,i2,j2,f2,g2,c2,r1,b,e,q⟩:=h;exact #[x1,e1,i1,j1,f1,g1,c1,x2,e2,i2,j2,f2,g2,c2,r1,b,e,m _ _ q]
 .rintro U H2 ⟨x2,x3,x4,x5,rfl,h2,k2⟩;refine .(z);refine q p H2 hp (λb o e=>k2 b o (zad e hp) e) ?_;rw[h2,yat (by rw[za9];exact yaa _)]
def zc1 {n d i:Nat}:HT.sIx n d (some (i:Int))=min i n:=by
 unfold HT.sIx;simp
 try lia
def ziR (xs:List V)(a b:Nat):cutV xs (some (a:Int)) (some (b:Int))=(xs.drop a).take (b-a):=by
 unfold cutV;rw[zc1,zc1];by_cases h:a<=xs.length
 .rw[ybc h];by_cases h2:b<=xs.length
  .rw[ybc h2]
  .rw[ybU .(a),yat (by rw[ya0];exact yaa _),yat (by rw[ya0];lia)]
 .rw[ybU (show xs.length<=a by lia),yba (yaa _),yba (show xs.length<=a by lia)];simp
def zhq {α:Type}(xs:List α)(k:Nat):(xs.drop k).take 1=xs[k]?.toList:=by
 by_cases h:k<xs.length
 .rw[ycq h,yac h];rfl
 .rw[yba .(a),yaY .(a)];rfl
def zjJ {k:Nat}{i j:Int}(hi:i=if (k:Int)-1>0 then (k:Int)-1 else 0)(hj:j=(k:Int)):cutV xs (some i) (some j)=(if k=0 then none else xs[k-1]?).toList:=by
 subst hj;have e:i=((k-1:Nat):Int):=by
  rw[hi];split<;>lia
 subst e;rw[ziR];split
 .rename_i h;subst h;simp
 .rw[show k-(k-1)=1 by lia,zhq]
def zhL {k:Nat}{i j:Int}(hi:i=(k:Int)+1)(hj:j=(k:Int)+2):cutV xs (some i) (some j)=xs[k+1]?.toList:=by
 subst hi hj;rw[show (k:Int)+1=((k+1:Nat):Int) by lia,show (k:Int)+2=((k+2:Nat):Int) by lia,ziR,show k+2-(k+1)=1 by lia,zhq]
def zg8 (xs:List Nat)(k:Nat):(if k=0 then none else .(H)[k-1]?).toList++ .(H)[k+1]?.toList=(zaM xs k).map nV:=by
 unfold zaM;rw[yas,yax,yax];congr 1
 .split
  .rfl
  .cases xs[k-1]?<;>rfl
 .cases xs[k+1]?<;>rfl
def zhl (xs:List Nat)(k:Nat):(zaM xs k).length<=2:=by
 have e:∀ o:Option Nat,o.toList.length<=1:=λo=>by cases o<;>simp
 unfold zaM;rw[yan];have:=e (if k=0 then none else xs[k-1]?)
 have:=e xs[k+1]?;lia
def But.new {b:Addr}(k:But p H H2)(hb:H2 b=none)(o:HO):But p H (upd H2 b o):=λx o' n e=>(zai hb o) x o' (k x o' n e)
def zrg {K:Frag}{i j:Nat}{U:L2.St}{H2:Hp}{Q:VK}{a:Addr}{xs:List Nat}{k:Nat}{z:Int}(ez:z=(k:Int))(e1:U[i]?=some (some (.ref a)))(e2:U[j]?=some (some (.int z)))(h2a:H2 a=some (.lst .(H)))
  (q:∀ g H5,H2 g=none->Same H2 H5->H5 g=some (.lst ((zaM xs k).map nV))->Q (.ref g) H5) :
  tOp rCat (tSl (rSlL K) (tVar i) (zmO (tCB (λxs H Q=>∃ i j,xs=[V.int i,V.int j]/\Q (V.int (if j>i then j else i)) H) (zre (tC (V.int 0)) (zre (tOp (rI0 λi j=>V.int (i-j)) (tVar j) (tC (V.int 1))) tNil)))) (zmO (tVar j)))
   (tSl (rSlL K) (tVar i) (zmO (tOp (rI0 λi j=>V.int (i+j)) (tVar j) (tC (V.int 1)))) (zmO (tOp (rI0 λi j=>V.int (i+j)) (tVar j) (tC (V.int 2))))) U H2 Q:=by
 subst ez;refine #[_,e1,_,e2,_,_,rfl,rfl,_,_,rfl,_,rfl,_,e2,_,rfl,_,_,rfl,SqL.of h2a,λb hb=>?_];have kb:=zai hb (.lst (cutV .(H) (some (if (k:Int)-1>0 then (k:Int)-1 else 0)) (some (k:Int))))
 have hbb:upd H2 b (.lst (cutV .(H) (some (if (k:Int)-1>0 then (k:Int)-1 else 0)) (some (k:Int)))) b=some (.lst (if k=0 then none else .(H)[k-1]?).toList):=by
  rw[zab,zjJ (k:=k) rfl rfl]
 generalize upd H2 b (.lst (cutV .(H) (some (if (k:Int)-1>0 then (k:Int)-1 else 0)) (some (k:Int))))=H3 at kb hbb ⊢
 refine #[_,e1,_,e2,_,_,rfl,rfl,_,rfl,_,e2,_,_,rfl,rfl,_,rfl,_,_,rfl,SqL.of (kb _ _ h2a),λc hc=>?_];have kc:=zai hc (.lst (cutV .(H) (some ((k:Int)+1)) (some ((k:Int)+2))));have hcb:=kc _ _ hbb;have hcc:upd H3 c (.lst (cutV .(H) (some ((k:Int)+1)) (some ((k:Int)+2)))) c=some (.lst .(H)[k+1]?.toList):=by
  rw[zab,zhL (k:=k) rfl rfl]
 generalize upd H3 c (.lst (cutV .(H) (some ((k:Int)+1)) (some ((k:Int)+2))))=H4 at kc hcb hcc ⊢;refine #[b,c,_,_,rfl,rfl,hcb,hcc,?_,λg hg=>?_]
 .rw[<-yan,zg8,yab];exact yad (zhl _ _) .(k)
 rw[zg8];exact q g _ (kb.free (kc.free hg)) (kb.trans (kc.trans (zai hg _))) zab
inductive zdH (K:Frag)(vs:List V)(H:Hp)(Q:VK)(w_1:XK):Prop
 | c:∀(a:Addr) (xs:List Nat),vs=[.ref a]->SqL K H a (xs.map nV)->Unl xs->zd1 6 xs->xs.length<=1000->(∀(p:Addr) (H':Hp),H p=none->Same H H'->H' p=some (.lst ((colL xs).map nV))->Q (.ref p) H')->zdH K vs H Q w_1
def zbJ (es:List (Int×Int)):List Bool:=zhE (colL (zcy 5 (zb8 es)))
def zfc (es:List (Int×Int)):(zbJ es).length=es.length:=by
 unfold zbJ;rw[ziE,zeF,zbp,zaI]
def ziI {es:List (Int×Int)}(he:∀ e∈es,zf9 64 e)(hri:Rise es):Unl (zcy 5 (zb8 es)):=zcx (zfn he hri) 5
def zjv {es:List (Int×Int)}(he:∀ e∈es,zf9 64 e)(hri:Rise es):zd1 6 (zcy 5 (zb8 es)):=zq8 (zfn he hri) (zkF he)
inductive zgF (K:Frag)(vs:List V)(H:Hp)(Q:VK)(w_1:XK):Prop
 | c:∀(a:Addr) (ws:List V) (es:List (Int×Int)),vs=[.ref a]->H a=some (.lst ws)->zan K H es ws->es.length<=1000->(∀ e∈es,zf9 64 e)->Rise es->(∀(p:Addr) (H':Hp),H p=none->Same H H'->H' p=some (.lst ((zbJ es).map V.bl))->Q (.ref p) H')->zgF K vs H Q w_1
inductive zge (K:Frag)(vs:List V)(H:Hp)(Q:VK)(w_1:XK):Prop
 | c:∀(a:Addr) (ws:List V) (es:List (Int×Int)),vs=[.ref a]->H a=some (.lst ws)->zan K H es ws->es.length<=1000->(∀ e∈es,zf9 64 e)->Rise es->(∀(p:Addr) (H':Hp),H p=none->Same H H'->H' p=some (.lst (zci ws (zbJ es)))->Q (.ref p) H')->zge K vs H Q w_1
def zfy {α:Type}(xs:List α)(m j:Nat):(xs.drop m).take (j+1)=xs[m]?.toList++(xs.drop (m+1)).take j:=by
 by_cases h:m<xs.length
 .rw[ycq h,yac h];rfl
 .rw[yba .(a),yaY .(a),yba .(a)];simp
def zc5 (o:Option Bool):o.toList.any id=o.getD false:=by
 cases o with
 | none=>rfl
 | some b=>cases b<;>rfl
def any3 (ms:List Bool){k:Nat}(h:1<=k):((ms.drop (k-1)).take 3).any id=!zdV ms k:=by
 rw[zfy,zfy,zfy,yc3,yc3,yc3,zc5,zc5,zc5,show k-1+1=k by lia,ycu];unfold zdV;rw[yaf,yaf,yaf];generalize ms[k-1]?.getD false=x;generalize ms[k]?.getD false=y;generalize ms[k+1]?.getD false=z;cases x<;>cases y<;>cases z<;>rfl
def zly (ms:List Bool):inV (.bl true) (ms.map V.bl)=ms.any id:=by
 unfold inV
 induction ms with
 | nil=>rfl
 | cons m ms ih=>
  rw[yav,ybv,ih,ybv];cases m<;>rfl
def zom (ms:List Bool):(ms.map V.bl).all zfl=true:=by
 rw[ybq];intro x hx;obtain ⟨n,_,rfl⟩:=yaE.mp hx;rfl
def zsq {ms:List Bool}{k:Nat}{i j:Int}(h:1<=k)(hi:i=(k:Int)-1)(hj:j=(k:Int)+2):cutV (ms.map V.bl) (some i) (some j)=((ms.drop (k-1)).take 3).map V.bl:=by
 subst hi hj;rw[show (k:Int)-1=((k-1:Nat):Int) by lia,show (k:Int)+2=((k+2:Nat):Int) by lia,ziR,show k+2-(k-1)=3 by lia,ybZ,List.map_drop]
def zjy {α:Type}{as:List α}{bs:List Bool}{a:α}{b:Bool}(h:as.length=bs.length):zci (as++[a]) (bs++[b])=zci as bs++(if b=true then [a] else []):=by
 unfold zci;rw[List.zip_append h,yby,yas];congr 1;cases b<;>rfl
def zgW {α:Type}(as:List α)(bs:List Bool):(zci as bs).length<=as.length:=by
 unfold zci;rw[yab];refine yad (ybs _ _) ?_;rw[yc0];lia
def zgy {α:Type}[Rep α]{K:Frag}:∀{es:List α} {ws:List V} {ms:List Bool},zan K H es ws->zan K H (zci es ms) (zci ws ms)
 | _,_,_,.nil=>by
  unfold zci;exact .nil
 | e::es,w::ws,[],.cons h t=>by
  unfold zci;exact .nil
 | e::es,w::ws,m::ms,.cons h t=>by
  have:=zgy (ms:=ms) t;unfold zci at this ⊢;cases m with
  | false=>exact this
  | true=>exact .cons h this
def zcd (bs:List Nat)(c:Nat):((List.range (c+1)).filter λc=>!decide (c∈bs))=((List.range c).filter λc=>!decide (c∈bs))++(if c∈bs then [] else [c]):=by
 rw[ycC,yby];congr 1;by_cases h:c∈bs
 .rw[if_pos h];simp[List.filter,h]
 .rw[if_neg h];simp[List.filter,h]
def zcb {H:Hp}{p t:Addr}{xs ys:List V}(h1:H p=some (.lst xs))(h2:H t=some (.tup ys)):p≠t:=λz=>by
 rw[z,h2]at h1;cases h1
def zdv {n k:Nat}(h:k<n):ixN n (k:Int)=some k:=by
 unfold ixN;simp;lia
def besV (xs:List V)(k:Nat):List V:=(if k=0 then none else xs[k-1]?).toList++xs[k+1]?.toList
def zkG (xs:List V)(k:Nat):(besV xs k).length<=2:=by
 have e:∀ o:Option V,o.toList.length<=1:=λo=>by cases o<;>simp
 unfold besV;rw[yan];have:=e (if k=0 then none else xs[k-1]?)
 have:=e xs[k+1]?;lia
inductive spNb (K:Frag)(vs:List V)(H:Hp)(Q:VK)(w_1:XK):Prop
 | c:∀(a:Addr) (xs:List V) (k:Nat),vs=[.ref a,.int k]->H a=some (.lst xs)->(∀(g:Addr) (H':Hp),H g=none->Same H H'->H' g=some (.lst (besV xs k))->Q (.ref g) H')->spNb K vs H Q w_1
def ziz (T:Txt K mg)(qa4:DF K mg "neighbours" zcQ zbO):FC P w K mg base 1 "neighbours" zbO (spNb K):=by
 refine qa4.ok qcS .(c) .(b)
 .obtain ⟨a,xs,k,rfl,_⟩:=h;rfl
 obtain ⟨a,xs,k,rfl,ha,q⟩:=h;refine #[_,(zae (zaw (zav zqC (zbR (zeO (K:=K)) (pv 0) (zbx (zam (zg7 rfl) rfl T.qeY boot_max (zaa (zav zbV (pv 1) zaf) (zaa zaf zac)))) (zbx (pv 1))) (zbR (zeO (K:=K)) (pv 0) (zbx (zav za8 (pv 1) zaf)) (zbx (zav za8 (pv 1) zaf)))))),?_];refine #[_,rfl,_,rfl,_,_,rfl,rfl,_,_,rfl,_,rfl,_,rfl,_,rfl,_,_,rfl,SqL.of ha,λb hb=>?_];have kb:=zai hb (.lst (cutV xs (some (if 0>(k:Int)-1 then 0 else (k:Int)-1)) (some (k:Int))))
 have hbb:upd H b (.lst (cutV xs (some (if 0>(k:Int)-1 then 0 else (k:Int)-1)) (some (k:Int)))) b=some (.lst (if k=0 then none else xs[k-1]?).toList):=by
  rw[zab,zjJ (k:=k) (by split<;>split<;>lia) rfl]
 generalize upd H b (.lst (cutV xs (some (if 0>(k:Int)-1 then 0 else (k:Int)-1)) (some (k:Int))))=H3 at kb hbb ⊢
 refine #[_,rfl,_,rfl,_,_,rfl,rfl,_,rfl,_,rfl,_,_,rfl,rfl,_,rfl,_,_,rfl,SqL.of (kb _ _ ha),λc hc=>?_];have kc:=zai hc (.lst (cutV xs (some ((k:Int)+1)) (some ((k:Int)+2))));have hcb:=kc _ _ hbb;have hcc:upd H3 c (.lst (cutV xs (some ((k:Int)+1)) (some ((k:Int)+2)))) c=some (.lst xs[k+1]?.toList):=by
  rw[zab,zhL (k:=k) rfl rfl]
 generalize upd H3 c (.lst (cutV xs (some ((k:Int)+1)) (some ((k:Int)+2))))=H4 at kc hcb hcc ⊢;refine #[b,c,_,_,rfl,rfl,hcb,hcc,?_,λg hg=>?_]
 .rw[<-yan];exact yad (zkG xs k) .(k)
 exact q g _ (kb.free (kc.free hg)) (kb.trans (kc.trans (zai hg _))) zab
inductive zm0 (K:Frag)(vs:List V)(H:Hp)(Q:VK)(w_1:XK):Prop
 | c:∀(a:Addr) (xs:List Nat) (k:Nat),vs=[.ref a]->H a=some (.lst ((zaM xs k).map nV))->(∀ H':Hp,Same H H'->Q (.int (zcJ xs k:Nat)) H')->zm0 K vs H Q w_1
def ziA (T:Txt K mg)(qa5:DF K mg "least_free" zcR zcp):FC P w K mg base 1 "least_free" zcp (zm0 K):=by
 refine qa5.ok qcT .(c) .(b)
 .obtain ⟨a,xs,k,rfl,_⟩:=h;rfl
 obtain ⟨a,xs,k,rfl,ha,q⟩:=h;refine #[_,(zae (zaw (zam (zoE rfl) rfl T.qfl boot_min (zaa (zbU (N:=["colour","taken"]) (own:=1) (cap:=[0]) rfl (zex (zaT (zaa zaf (zaa zaf (zaa zaf zac))))) #[rfl,rfl,rfl,rfl,rfl,rfl] (λ_ _ _ _ _=>(zau (i:=0) (show List.Nodup (["colour","taken"]:List Str) by decide +kernel) rfl (Or.inl rfl))) (λ_ _ _ _ _=>(zdh (zat (zbf (K:=K)) (pv 0) (pv 1) (by with_unfolding_all rfl)))) (λ_ _ _ _ _=>(pv 0))) zac)))),?_]
 refine #[(by show 3<=sizeLine;decide),λt ht=>?_];have st:=zai ht (.tup [V.int 0,V.int 1,V.int 2]);have ht1:upd H t (.tup [V.int 0,V.int 1,V.int 2]) t=some (.tup [V.int 0,V.int 1,V.int 2]):=zab;generalize upd H t (.tup [V.int 0,V.int 1,V.int 2])=H1 at st ht1 ⊢;have h1a:=st _ _ ha;refine #[t,rfl,#[_,SqT.of ht1],λD hD=>?_];refine zer (xs:=[V.int 0,V.int 1,V.int 2]) (λc U H6=>∃ x0:Option V,U=[x0,some (.ref a)]/\H6 D=some (.lst (((List.range c).filter λc=>!decide (c∈zaM xs k)).map nV))/\But D H1 H6) ?_ ?_ ?_ ?_
 .exact .(D)
 .rintro i U H6 _ ⟨x0,rfl,_,k6⟩;exact SqT.of (k6 _ _ (zad ht1 hD) ht1)
 .rintro c m x U H6 hx hm ⟨x0,rfl,h6,k6⟩;obtain ⟨hi,rfl⟩:c<3/\x=V.int (c:Int):=by
   rcases c with _|_|_|c
   .exact .(p)
   .exact .(p)
   .exact .(p)
   .cases hx
  have h6g:=k6 _ _ (zad h1a hD) h1a;have hlen:=ybs (λc=>!decide (c∈zaM xs k)) (List.range c);rw[ybr]at hlen;refine #[_,rfl,_,rfl,_,_,rfl,.inl (SqL.of h6g),rfl,zkz _,_,rfl,?_];show if (!inV (.int (c:Int)) ((zaM xs k).map nV))=true then _ else _
  rw[zn7];have hm3:c+m=3:=hm;refine ite2 (λe=>?_) (λe=>?_)
  .have e':c∉zaM xs k:=λz=>by
    rw[yah z]at e;cases e
   refine #[_,rfl,_,h6,zap .(G),m-1,by lia,(by show c+1+(m-1)=3;lia),_,rfl,?_,λb o n e=>by rw[zag n];exact k6 b o n e];rw[zab,zcd,if_neg e',yas];rfl
  .have e':c∈zaM xs k:=Decidable.byContradiction λz=>e (by rw[yai z];rfl);refine #[m-1,by lia,(by show c+1+(m-1)=3;lia),_,rfl,?_,k6];rw[h6,zcd,if_pos e',yaw]
 .rintro U H6 ⟨x0,rfl,h6,k6⟩;have h6:H6 D=some (.lst (((List.range 3).filter λc=>!decide (c∈zaM xs k)).map nV)):=h6;have s6:Same H1 H6:=λb o e=>k6 b o (zad e hD) e;have mem:∀ c,c∈((List.range 3).filter λc=>!decide (c∈zaM xs k))↔c<3/\c∉zaM xs k:=λc=>by
   rw[ybj,ybk];constructor
   .rintro ⟨h1,h2⟩;refine #[h1,λz=>?_];rw[yah z]at h2;cases h2
   .rintro ⟨h1,h2⟩;exact #[h1,by rw[yai h2];rfl]
  have hf:zcJ xs k∈((List.range 3).filter λc=>!decide (c∈zaM xs k)):=(mem _).mpr #[Nat.lt_succ_of_le (zjB xs k),zhI];refine #[D,((List.range 3).filter λc=>!decide (c∈zaM xs k)).map λn:Nat=>(n:Int),rfl,?_,?_,λM hM hL=>?_]
  .rw[ybM];exact SqL.of h6
  .rw[yab];exact List.length_pos_of_mem hf
  have eM:M=(zcJ xs k:Int):=by
   have h1:=hL _ (yaE.mpr #[_,hf,rfl]);obtain ⟨c,hc,rfl⟩:=yaE.mp hM;have h2:¬ c<zcJ xs k:=λz=>((mem c).mp hc).2 (zf3 z);lia
  rw[eM];exact q _ (st.trans s6)
def zss (xs:List Nat)(k:Nat):besV .(H) k=(zaM xs k).map nV:=zg8 xs k
def zl6 (T:Txt K mg)(qcm:DF K mg "colours" zeV zek)(qa6:FC P w K mg base 1 "neighbours" zbO (spNb K))(qdg:FC P w K mg base 1 "least_free" zcp (zm0 K)):FC P w K mg base 3 "colours" zek (zdH K):=by
 refine qcm.ok qbb .(c) .(b)
 .obtain ⟨a,xs,rfl,_⟩:=h;rfl
 obtain ⟨a,xs,rfl,hS,hu,hb,hz,q⟩:=h;refine #[_,(zah (zas (i:=1) qbb.nd rfl (Or.inl rfl) (zaU (zct (K:=K)) rfl T.qbK boot_list (zaa (pv 0) zac)))
   (zah (zbn PassesOwn.never rfl (zex (zaT (zaa zaf (zaa zaf (zaa zaf zac))))) (zau (i:=2) qbb.nd rfl (Or.inl rfl)) (zae (zbn PassesOwn.never rfl (zaZ rfl T.qat (zaa (zam (zak (K:=K)) rfl T.qas boot_len (zaa (pv 0) zac)) zac)) (zau (i:=3) qbb.nd rfl (Or.inl rfl)) (zae (zaW (zat zdO (zaL (zaC (K:=K)) (pv 1) (pv 3) (λ_ _=>rfl)) (pv 2) (zaE _)) (zae (zdz (zaA qdg hr (zaa (zaA qa6 hr (zaa (pv 1) (zaa (pv 3) zac))) zac)) (ze9 (pv 1) (pv 3) zcm))) zay)))))
   (zae (zaw (pv 1))))),?_]
 refine #[_,rfl,a,_,rfl,.inl hS,λp hp=>?_];have k0:But p H (upd H p (.lst .(H))):=λb o n e=>by rw[zag n];exact e
 refine #[(by show 3<=sizeLine;decide),λt ht=>?_];have npt:p≠t:=zad zab ht;refine #[t,rfl,#[_,SqT.of zab],?_];refine zgZ (xs:=[V.int 3,V.int 4,V.int 5]) (λi U H2=>∃ x2 x3:Option V,U=[some (.ref a),some (.ref p),x2,x3]/\H2 p=some (.lst ((colN xs i).map nV))/\H2 t=some (.tup [V.int 3,V.int 4,V.int 5])/\But p H H2) ?_ ?_ ?_ ?_
 .exact #[_,_,rfl,by rw[zag npt];exact zab,zab,k0.new ht _]
 .rintro i U H2 _ ⟨x2,x3,rfl,_,h2t,_⟩;exact SqT.of h2t
 .rintro i x U H2 hx ⟨x2,x3,rfl,h2,h2t,k2⟩;obtain ⟨hi,rfl⟩:i<3/\x=V.int ((3+i:Nat):Int):=by
   rcases i with _|_|_|i
   .exact .(p)
   .exact .(p)
   .exact .(p)
   .cases hx
  have hyl:=zg3 xs i;have hyu:=zlF hu i;have hnx:colN xs (i+1)=recL (3+i) (colN xs i):=rfl;rw[hnx];generalize colN xs i=ys at h2 hyl hyu ⊢;generalize 3+i=v;have hSa:SqL K H2 a .(H):=k2.sq hS hp;refine #[_,rfl,_,_,rfl,.inl hSa,_,rfl,by rw[yab];lia,by rw[yab];lia,?_];have el:(((.(H).length:Nat):Int)).toNat=ys.length:=by rw[yab,ybe,hyl]
  rw[el];refine zbj (n:=ys.length) (λk U H3=>∃ x3:Option V,U=[some (.ref a),some (.ref p),some (.int v),x3]/\H3 p=some (.lst ((mixL v ys k).map nV))/\H3 t=some (.tup [V.int 3,V.int 4,V.int 5])/\But p H H3) ?_ ?_ ?_
  .exact #[_,rfl,h2,h2t,k2]
  .rintro k U H3 hk ⟨x3,rfl,h3,h3t,k3⟩;rw[ybi];have ml:=zeD v ys k;have eg:(mixL v ys k).getD k 0=ys.getD k 0:=by
    rw[yaf,znR (yaa k),<-yaf]
   have hat:atI ((mixL v ys k).map nV) (k:Int)=some (nV (ys.getD k 0)):=by
    rw[<-eg];exact zhb .(a)
   refine #[_,rfl,_,rfl,_,_,_,_,rfl,rfl,SqL.of h3,hat,_,rfl,rfl,_,rfl,?_];refine ite2 .(u) .(u)
   .have c':ys.getD k 0=v:=by
     have:=V.int.inj (yaH c);lia
    refine #[_,rfl,_,rfl,p,_,k,rfl,h3,λg H4 hg s4 h4=>?_];rw[zss,zgN hyu hk c']at h4;refine #[g,ys,k,rfl,h4,λH5 s5=>?_];have s35:=s4.trans s5;have same:∀ b o,b≠p->H3 b=some o->upd H5 p (.lst (((mixL v ys k).map nV).set k (nV (zcJ ys k)))) b=some o:=λb o n e=>by
     rw[zag n];exact s35 _ _ e
    refine #[_,rfl,_,rfl,_,_,_,k,rfl,rfl,s35 _ _ h3,zdv (by rw[yab,ml];exact hk),?_];refine #[_,rfl,?_,same _ _ (Ne.symm (zcb h3 h3t)) h3t,λb o n e=>same _ _ n (k3 b o n e)];rw[zab,zln hk c',yb0]
   .have c':ys.getD k 0≠v:=λz=>c (by rw[z];exact yah rfl);exact #[_,rfl,by rw[zjr hk c'];exact h3,h3t,k3]
  .rintro U H3 ⟨x3,rfl,h3,h3t,k3⟩;rw[zlo (yaa _)]at h3;exact #[_,_,rfl,h3,h3t,k3]
 .rintro U H2 ⟨x2,x3,rfl,h2,_,k2⟩;refine .(z);exact q p H2 hp (λb o e=>k2 b o (zad e hp) e) h2
def zdW (ms:List Bool)(k:Nat):Bool:=!ms.getD (k-1) false && !ms.getD (k+1) false
def besB (ms:List Bool)(k:Nat):List Bool:=(if k=0 then none else ms[k-1]?).toList++ms[k+1]?.toList
def zst (ms:List Bool)(k:Nat):besV (ms.map V.bl) k=(besB ms k).map V.bl:=by
 unfold besV besB;rw[yas,yax,yax];congr 1
 .split
  .rfl
  .cases ms[k-1]?<;>rfl
 .cases ms[k+1]?<;>rfl
def zqg {k:Nat}(h:1<=k):(besB ms k).any id=!zdW ms k:=by
 unfold besB zdW;rw[if_neg .(a),yc3,zc5,zc5,yaf,yaf];generalize ms[k-1]?.getD false=x;generalize ms[k+1]?.getD false=z;cases x<;>cases z<;>rfl
def zkl {sh:Nat}{ms:List Bool}(hu:Unl cs)(hl:cs.length=ms.length){k:Nat}(h:k<cs.length)(h1:1<=k)(hs:cs.getD k 0=sh):zdW .(q) k=zdW ms k:=by
 unfold zdW;have e:∀ j,k<=j-> .(q).getD j false=ms.getD j false:=λj hj=>by
  rw[yaf,yaf,zbH hl,if_neg .(a)]
 rw[e (k+1) .(a)];have e2: .(q).getD (k-1) false=ms.getD (k-1) false:=by
  rw[yaf,zbH hl,if_pos .(a),zcw hl .(a)];have:=hu (k-1) .(a);rw[show k-1+1=k by lia,hs]at this;rw[yai this];simp
 rw[e2]
def zhB {sh:Nat}{cs:List Nat}{ms:List Bool}(hl:cs.length=ms.length){k:Nat}(h:k<cs.length)(hn:¬ (cs.getD k 0=sh/\zdW ms k=true)):mixM sh cs ms (k+1)=mixM sh cs ms k:=by
 apply ybo;intro j;rw[zbH hl,zbH hl];by_cases c:j<k
 .rw[if_pos c,if_pos .(a)]
 .rw[if_neg c];split
  .have:j=k:=by lia
   subst this;rw[zcw hl h];unfold zdW at hn;rw[yac .(a)];have e:ms.getD j false=ms[j]' .(a):=by
    rw[yaf,yac .(a)];rfl
   rw[e];congr 1;generalize ms[j]=a;generalize ms.getD (j-1) false=b at hn ⊢;generalize ms.getD (j+1) false=d at hn ⊢;by_cases z:cs.getD j 0=sh
   .have hn':¬ ((!b && !d)=true):=λy=>hn #[z,y];cases b with
    | true=>simp
    | false=>
     cases d with
     | true=>simp
     | false=>exact absurd rfl hn'
   .rw[yai z];simp
  .rfl
def znP {sh:Nat}{cs:List Nat}{ms:List Bool}(hl:cs.length=ms.length){k:Nat}(h:k<cs.length)(hp:1<=k/\cs.getD k 0=sh/\zdW ms k=true):mixM sh cs ms (k+1)= .(q).set k true:=by
 apply ybo;intro j;rw[ybE,zdr hl,zbH hl,zbH hl];by_cases c:k=j
 .subst c;rw[if_pos rfl,if_pos h,if_pos .(a),zcw hl h];obtain ⟨p1,p2,p3⟩:=hp;unfold zdW at p3;simp only[ybz,ybW]at p3;rw[p2,p3.1,p3.2,yah p1];simp
 .rw[if_neg c];by_cases c2:j<k
  .rw[if_pos c2,if_pos .(a)]
  .rw[if_neg c2,if_neg .(a)]
def zpw (T:Txt K mg)(qdz:DF K mg "marks" zik zgt)(qeL:FC P w K mg base 3 "labels" ze2 (zh9 K))(qem:FC P w K mg base 3 "colours" zek (zdH K))(qa6:FC P w K mg base 1 "neighbours" zbO (spNb K)):FC P w K mg base 5 "marks" zgt (zgF K):=by
 refine qdz.ok qbl .(c) .(b)
 .obtain ⟨a,ws,es,rfl,_⟩:=h;rfl
 obtain ⟨a,ws,es,rfl,ha,hw,hz,he,hri,q⟩:=h;refine #[_,(zah (zas (i:=1) qbl.nd rfl (Or.inl rfl) (zaA qem hr (zaa (zaA qeL hr (zaa (pv 0) zac)) zac)))
   (zah (zeA (i:=2) (N:=["tint"]) (own:=1) (cap:=[]) qbl.nd rfl rfl rfl (zcF (pv 1)) #[rfl,rfl,rfl,rfl,rfl,rfl] (λ_ _ _ _ _=>(zau (i:=0) (show List.Nodup (["tint"]:List Str) by decide +kernel) rfl (Or.inl rfl))) (λ_ _ _ _ _=>zb4) (λ_ _ _ _ _=>zew))
   (zah (zbn PassesOwn.never rfl (zex (zaT (zaa zaf (zaa zaf (zaa zaf zac))))) (zau (i:=3) qbl.nd rfl (Or.inl rfl)) (zae (zbn PassesOwn.never rfl (zdM rfl T.qat (zaa zaf (zaa (zam (zak (K:=K)) rfl T.qas boot_len (zaa (pv 1) zac)) zac))) (zau (i:=4) qbl.nd rfl (Or.inl rfl)) (zae (zaW (PW.pt (zfW (zat zdO (zaL (zaC (K:=K)) (pv 1) (pv 4) (λ_ _=>rfl)) (pv 3) (zaE _)) (zdJ (zat (zbf (K:=K)) zew (zaA qa6 hr (zaa (pv 2) (zaa (pv 4) zac))) (by with_unfolding_all rfl))))) (zae (zdz zew (ze9 (pv 2) (pv 4) zcm))) zay)))))
   (zae (zaw (pv 2)))))),?_]
 refine #[_,rfl,a,ws,es,rfl,SqL.of ha,hw,hz,he,hri,λp H3 hp s3 h3=>?_];refine #[p,_,rfl,SqL.of h3,ziI he hri,zjv he hri,by rw[zbp,zaI];exact hz,λc H4 hc s4 h4=>?_];have cu:Unl (colL (zcy 5 (zb8 es))):=zmE (zlG (unlZ (ziI he hri)));have cl:(colL (zcy 5 (zb8 es))).length=es.length:=by rw[zeF,zbp,zaI]
 have fin:zbJ es=mkN (colL (zcy 5 (zb8 es))) 3:=(zjq _).symm;generalize colL (zcy 5 (zb8 es))=cs at h4 cu cl fin;have s04:=s3.trans s4;refine #[_,rfl,c,rfl,#[_,SqL.of h4],λF hF=>?_];refine zch (xs:=cs.map nV) (λi U H5=>∃ x0:Option V,U=[x0]/\H5 F=some (.lst ((List.replicate i false).map V.bl))/\But F H4 H5) ?_ ?_ ?_ ?_
 .exact .(D)
 .rintro i U H5 _ ⟨x0,rfl,_,k5⟩;exact k5.sq (SqL.of h4) hF
 .rintro i m x U H5 hx hm ⟨x0,rfl,h5,k5⟩;have hi:=(yap.mp hx).1;rw[yab]at hi hm;refine zc0 ?_;refine #[_,h5,zap (by rw[yab,ybP];lia),m-1,by lia,by rw[yab];lia,_,rfl,?_,λb o n e=>by rw[zag n];exact k5 b o n e];rw[zab,List.replicate_succ',yas];rfl
 rintro U H5 ⟨x0,rfl,h5,k5⟩;have s45:Same H4 H5:=λb o e=>k5 b o (zad e hF) e;have h5c:=s45 _ _ h4;have nFc:c≠F:=zad h4 hF;have hF0:H F=none:=s04.free hF;have k05:But F H H5:=λb o _ e=>s45 _ _ (s04 _ _ e);have e5:H5 F=some (.lst ((mkN cs 0).map V.bl)):=by
  rw[h5,mkN,yab,show List.replicate cs.length false=cs.map (λ_=>false) from by rw[List.map_const']]
 refine #[(by show 3<=sizeLine;decide),λt ht=>?_];have st:=zai ht (.tup [V.int 2,V.int 1,V.int 0]);refine #[t,rfl,#[_,SqT.of zab],?_];refine zgZ (xs:=[V.int 2,V.int 1,V.int 0]) (λi U H6=>∃(x3 x4:Option V),U=[some (.ref a),some (.ref c),some (.ref F),x3,x4]/\H6 F=some (.lst ((mkN cs i).map V.bl))/\H6 c=some (.lst (cs.map nV))/\H6 t=some (.tup [V.int 2,V.int 1,V.int 0])/\But F H H6) ?_ ?_ ?_ ?_
 .exact #[_,_,rfl,st _ _ e5,st _ _ h5c,zab,k05.new ht _]
 .rintro i U H6 _ ⟨x3,x4,rfl,_,_,h6t,_⟩;exact SqT.of h6t
 .rintro i x U H6 hx ⟨x3,x4,rfl,h6,h6c,h6t,k6⟩;obtain ⟨hi,rfl⟩:i<3/\x=V.int ((2-i:Nat):Int):=by
   rcases i with _|_|_|i
   .exact .(p)
   .exact .(p)
   .exact .(p)
   .cases hx
  have hml:=zhA cs i;have hnx:mkN cs (i+1)=zcj (2-i) cs (mkN cs i):=rfl;rw[hnx];generalize mkN cs i=ms at h6 hml ⊢;generalize 2-i=sh;refine #[_,rfl,_,_,rfl,.inl (SqL.of h6c),1,_,rfl,#[by lia,by lia,by rw[yab];lia,by rw[yab];lia],?_];have en:((((cs.map nV).length:Nat):Int)-1).toNat=cs.length-1:=by rw[yab];lia
  rw[en];have km:∀ k,.(q).length=cs.length:=zdr hml;refine zbj (n:=cs.length-1) (λj U H7=>∃(x4:Option V),U=[some (.ref a),some (.ref c),some (.ref F),some (.int sh),x4]/\H7 F=some (.lst ((mixM sh cs ms (1+j)).map V.bl))/\H7 c=some (.lst (cs.map nV))/\H7 t=some (.tup [V.int 2,V.int 1,V.int 0])/\But F H H7) ?_ ?_ ?_
  .exact #[_,rfl,by rw[zll hml];exact h6,h6c,h6t,k6]
  .rintro j U H7 hj ⟨x4,rfl,h7,h7c,h7t,k7⟩;have ek:(1:Int)+(j:Int)=((1+j:Nat):Int):=by lia
   have hk1:1<=1+j:=by lia
   have hkl:1+j<cs.length:=by lia
   rw[ek];have es1:1+(j+1)=1+j+1:=by lia
   rw[es1];generalize 1+j=k at h7 hk1 hkl ⊢;have hat:=zhb (xs:=cs) hkl;have mc:cs.getD k 0=sh->zdW .(q) k=zdW ms k:=λz=>zkl cu hml hkl hk1 z;refine #[_,rfl,_,rfl,_,_,_,_,rfl,rfl,SqL.of h7c,hat,_,rfl,rfl,_,rfl,?_];refine ite2 (λe=>?_) (λe=>?_)
   .have e':cs.getD k 0=sh:=by
     have:=V.int.inj (yaH e);lia
    refine #[_,rfl,_,rfl,F,_,k,rfl,h7,λb H8 hb sb hbb=>?_];rw[zst]at hbb;have kb:But F H H8:=λx o n e=>sb _ _ (k7 x o n e);refine #[_,_,rfl,.inl (SqL.of hbb),rfl,zom _,_,rfl,?_];show if (!inV (.bl true) ((besB .(q) k).map V.bl))=true then _ else _
    rw[zly,zqg hk1,mc e',Bool.not_not];refine ite2 (λy=>?_) (λy=>?_)
    .refine #[_,rfl,_,rfl,_,_,_,k,rfl,rfl,sb _ _ h7,zdv (by rw[yab,km];exact hkl),?_];have same:∀ b o,b≠F->H8 b=some o->upd H8 F (.lst ((.(q).map V.bl).set k (.bl true))) b=some o:=λb o n e=>by
      rw[zag n];exact e
     refine #[_,rfl,?_,same _ _ (λz=>?_) (sb _ _ h7c),same _ _ (Ne.symm (zcb (sb _ _ h7) (sb _ _ h7t))) (sb _ _ h7t),λb o n e=>same _ _ n (kb b o n e)]
     .rw[zab,znP hml hkl #[hk1,e',y],yb0]
     .exact nFc z
    .exact #[_,rfl,by rw[zhB hml hkl (λz=>y z.2)];exact sb _ _ h7,sb _ _ h7c,sb _ _ h7t,kb]
   .have e':cs.getD k 0≠sh:=λz=>e (by rw[z];exact yah rfl);refine iteF ?_;exact #[_,rfl,by rw[zhB hml hkl (λz=>e' z.1)];exact h7,h7c,h7t,k7]
  .rintro U H7 ⟨x4,rfl,h7,h7c,h7t,k7⟩;rw[zlm hml .(a)]at h7;exact #[_,_,rfl,h7,h7c,h7t,k7]
 .rintro U H6 ⟨x3,x4,rfl,h6,_,_,k6⟩;refine .(z);refine q F H6 hF0 (λb o e=>k6 b o (zad e hF0) e) ?_;rw[fin];exact h6
def zpZ {α:Type}:zci ([]:List α) []=[]:=rfl
def ztO {ms:List Bool}{i:Nat}{x:V}(h:(ms.map V.bl)[i]?=some x):∃ hi:i<ms.length,x=.bl ms[i]:=by
 rw[yax]at h;cases e:ms[i]? with
 | none=>rw[e]at h;cases h
 | some y=>
  rw[e]at h;obtain ⟨hi,rfl⟩:=yap.mp e;exact #[hi,(yae h).symm]
def zi8 {α:Type}{l:List α}{i:Nat}(h:i<l.length):l.take (i+1)=l.take i++[l[i]]:=yaZ h
def znF (T:Txt K mg)(qc1:DF K mg "handed" zgq zdL)(qe4:FC P w K mg base 5 "marks" zgt (zgF K)):FC P w K mg base 6 "handed" zdL (zge K):=by
 refine qc1.ok qeg .(c) .(b)
 .obtain ⟨a,ws,es,rfl,_⟩:=h;rfl
 obtain ⟨a,ws,es,rfl,ha,hw,hz,he,hri,q⟩:=h;have hwl:=hw.length;have hml:=zfc es;refine #[_,(zae (zaw (zbU (N:=["entry","mark"]) (own:=2) (cap:=[]) rfl (zqB rfl T.qfh (zaa (pv 0) (zaa (zaA qe4 hr (zaa (pv 0) zac)) zac))) #[rfl,rfl,rfl,rfl,rfl,rfl] (λ_ _ _ _ _=>(zrC (K:=K) (n:=2) rfl (zbt (zau (i:=0) (show List.Nodup (["entry","mark"]:List Str) by decide +kernel) rfl (Or.inl rfl)) (zbt (zau (i:=1) (show List.Nodup (["entry","mark"]:List Str) by decide +kernel) rfl (Or.inl rfl)) zfG)))) (λ_ _ _ _ _=>(zdh (zbI (pv 1)))) (λ_ _ _ _ _=>(pv 0))))),?_];refine #[_,rfl,_,rfl,a,ws,es,rfl,ha,hw,hz,he,hri,λu H6 hu g6 h6u=>?_];have h6p:=g6 _ _ ha;generalize zbJ es=ms at hml h6u q;refine #[a,u,rfl,#[_,SqL.of h6p],#[_,SqL.of h6u],λD hD=>?_];refine zqb (xs:=ws) (ys:=ms.map V.bl) (by rw[yab,hml];exact hwl.symm) (λj U H7=>∃ x0 x1:Option V,U=[x0,x1]/\H7 D=some (.lst (zci (ws.take j) (ms.take j)))/\But D H6 H7) ?_ ?_ ?_ ?_
 .exact #[_,_,rfl,by rw[ycu,ycu,zpZ];exact zab,λb o n e=>by rw[zag n];exact e]
 .rintro j U H7 _ ⟨x0,x1,rfl,_,k7⟩;exact #[k7.sq (SqL.of h6p) hD,k7.sq (SqL.of h6u) hD]
 .rintro j m' x y U H7 r' hx hy hm' ⟨x0,x1,rfl,h7,k7⟩ hr';obtain ⟨hj,rfl⟩:=ztO hy;obtain ⟨hjw,rfl⟩:=yap.mp hx;have hsn:=zjy (a:=ws[j]) (b:=ms[j]) (show (ws.take j).length=(ms.take j).length by rw[yar,yar];lia);rw[<-zi8 hjw,<-zi8 hj]at hsn;refine #[r',_,rfl,SqT.of zab,rfl,_,_,rfl,_,_,rfl,rfl,?_];have s7:=zai hr' (.tup [ws[j],.bl ms[j]]);have h8:=s7 _ _ h7;have k8:=k7.new hr' (.tup [ws[j],.bl ms[j]]);generalize upd H7 r' (.tup [ws[j],.bl ms[j]])=H8 at h8 k8 ⊢;refine #[_,rfl,_,rfl,?_];have hl8:=zgW (ws.take j) (ms.take j);rw[yar]at hl8;refine ite2 (λe=>?_) (λe=>?_)
  .refine #[_,rfl,_,h8,zap .(a),m'-1,by lia,by lia,_,_,rfl,?_,λb o n e=>by rw[zag n];exact k8 b o n e];rw[zab,hsn,if_pos e]
  .refine #[m'-1,by lia,by lia,_,_,rfl,?_,k8];rw[h8,hsn,if_neg e,yaw]
 .rintro U H7 ⟨x0,x1,rfl,h7,k7⟩;rw[yat (yaa _),yat .(a)]at h7;have s7:Same H6 H7:=λb o e=>k7 b o (zad e hD) e;exact q D H7 (g6.free hD) (g6.trans s7) h7
def zjT {v:Nat}{xs:List Nat}{k:Nat}:((List.range (k+1)).filter λk=>decide (xs.getD k 0=v))=((List.range k).filter λk=>decide (xs.getD k 0=v))++(if xs.getD k 0=v then [k] else []):=by
 rw[ycC,yby];congr 1;by_cases h:xs.getD k 0=v
 .rw[if_pos h,ybp (by exact yah h)];rfl
 .rw[if_neg h,ybD (by rw[yai h];decide)];rfl
def zkj (T:Txt K mg)(qbd:DF K mg "_law_colours" zdc zcV):FC P w K mg base 1 "_law_colours" zcV (zdH K):=by
 refine qbd.ok qaA .(c) .(b)
 .obtain ⟨a,xs,rfl,_⟩:=h;rfl
 obtain ⟨a,xs,rfl,hS,hu,hb,hz,q⟩:=h;refine #[_,(zah (zas (i:=1) qaA.nd rfl (Or.inr rfl) (zaU (zct (K:=K)) rfl T.qbK boot_list (zaa (pv 0) zac)))
   (zah (zbn PassesOwn.never rfl (zex (zaT (zaa zaf (zaa zaf (zaa zaf zac))))) (zau (i:=2) qaA.nd rfl (Or.inr rfl)) (zah (zeA (i:=3) (N:=["_law_k","_law_found","_law_high"]) (own:=1) (cap:=[1,2]) qaA.nd rfl rfl rfl (zaZ rfl T.qat (zaa (zam (zak (K:=K)) rfl T.qas boot_len (zaa (pv 1) zac)) zac)) #[rfl,rfl,rfl,rfl,rfl,rfl] (λ_ _ _ _ _=>(zau (i:=0) (show List.Nodup (["_law_k","_law_found","_law_high"]:List Str) by decide +kernel) rfl (Or.inl rfl))) (λ_ _ _ _ _=>(zdh (zat zdO (zaL (zaC (K:=K)) (pv 1) (pv 0) (λ_ _=>rfl)) (pv 2) (zaE _)))) (λ_ _ _ _ _=>(pv 0)))
   (zae (zbn PassesOwn.never rfl (zcF (pv 3)) (zau (i:=4) qaA.nd rfl (Or.inl rfl)) (zah (zas (i:=5) qaA.nd rfl (Or.inr rfl) (zav zqC (zbR (zeO (K:=K)) (pv 1) (zbx (zam (zg7 rfl) rfl T.qeY boot_max (zaa zaf (zaa (zav zbV (pv 4) zaf) zac)))) (zbx (pv 4))) (zbR (zeO (K:=K)) (pv 1) (zbx (zav za8 (pv 4) zaf)) (zbx (zav za8 (pv 4) zaf)))))
   (zae (zdz (zaL (zaC (K:=K)) (zbU (N:=["_law_colour","_law_beside"]) (own:=1) (cap:=[5]) rfl (zaZ rfl T.qat (zaa zaf zac)) #[rfl,rfl,rfl,rfl,rfl,rfl] (λ_ _ _ _ _=>(zau (i:=0) (show List.Nodup (["_law_colour","_law_beside"]:List Str) by decide +kernel) rfl (Or.inl rfl))) (λ_ _ _ _ _=>(zdh (zat (zbf (K:=K)) (pv 0) (pv 1) (by with_unfolding_all rfl)))) (λ_ _ _ _ _=>(pv 0))) zaf (λ_ _=>rfl)) (ze9 (pv 1) (pv 4) zcm))))))))
   (zae (zaw (pv 1))))),?_]
 refine #[_,rfl,a,_,rfl,.inl hS,λp hp=>?_];have k0:But p H (upd H p (.lst .(H))):=λb o n e=>by rw[zag n];exact e
 refine #[(by show 3<=sizeLine;decide),λt ht=>?_];have npt:p≠t:=zad zab ht;refine #[t,rfl,#[_,SqT.of zab],?_];refine zgZ (xs:=[V.int 3,V.int 4,V.int 5]) (λi U H2=>∃ x2 x3 x4 x5:Option V,U=[some (.ref a),some (.ref p),x2,x3,x4,x5]/\H2 p=some (.lst ((colN xs i).map nV))/\H2 t=some (.tup [V.int 3,V.int 4,V.int 5])/\But p H H2) ?_ ?_ ?_ ?_
 .exact #[_,_,_,_,rfl,by rw[zag npt];exact zab,zab,k0.new ht _]
 .rintro i U H2 _ ⟨x2,x3,x4,x5,rfl,_,h2t,_⟩;exact SqT.of h2t
 .rintro i x U H2 hx ⟨x2,x3,x4,x5,rfl,h2,h2t,k2⟩;obtain ⟨hi,rfl⟩:i<3/\x=V.int ((3+i:Nat):Int):=by
   rcases i with _|_|_|i
   .exact .(p)
   .exact .(p)
   .exact .(p)
   .cases hx
  have hyl:=zg3 xs i;have hyu:=zlF hu i;have hnx:colN xs (i+1)=recL (3+i) (colN xs i):=rfl;rw[hnx];generalize colN xs i=ys at h2 hyl hyu ⊢;generalize 3+i=v;refine #[_,rfl,_,_,rfl,.inl (SqL.of h2),_,rfl,by rw[yab];lia,by rw[yab];lia,λD hD=>?_];have el:((((ys.map nV).length:Nat):Int)).toNat=ys.length:=by rw[yab,ybe]
  rw[el];refine zb7 (n:=ys.length) (λk U H3=>∃ x0:Option V,U=[x0,some (.ref p),some (.int v)]/\H3 D=some (.lst (((List.range k).filter λk=>decide (ys.getD k 0=v)).map nV))/\But D H2 H3) ?_ ?_ ?_
  .exact .(D)
  .rintro k m U H3 hm hk ⟨x0,rfl,h3,k3⟩;have h3p:H3 p=some (.lst (ys.map nV)):=k3 _ _ (zad h2 hD) h2;have hat:atI (ys.map nV) (0+(k:Int))=some (nV (ys.getD k 0)):=by
    rw[ybi];exact zhb hk
   have hlen:=ybs (λk=>decide (ys.getD k 0=v)) (List.range k);rw[ybr]at hlen;refine #[_,rfl,_,rfl,_,_,_,_,rfl,rfl,SqL.of h3p,hat,_,rfl,rfl,_,rfl,?_];refine ite2 .(u) .(u)
   .have c':ys.getD k 0=v:=by
     have:=V.int.inj (yaH c);lia
    refine #[_,rfl,_,h3,zap .(G),m-1,by lia,by lia,_,rfl,?_,λb o n e=>by rw[zag n];exact k3 b o n e];rw[zab,zjT,if_pos c',yas,ybi];rfl
   .have c':ys.getD k 0≠v:=λz=>c (by rw[z];exact yah rfl);refine #[m-1,by lia,by lia,_,rfl,?_,k3];rw[h3,zjT,if_neg c',yaw]
  .rintro U H3 ⟨x0,rfl,h3,k3⟩;have h3:H3 D=some (.lst ((atsL v ys).map nV)):=h3;have h3p:H3 p=some (.lst (ys.map nV)):=k3 _ _ (zad h2 hD) h2;have h3t:=k3 _ _ (zad h2t hD) h2t;have kk3:But p H H3:=λb o n e=>k3 b o (zad (k2 b o n e) hD) (k2 b o n e);have npD:p≠D:=zad h2 hD;have A:=zha v ys;refine #[_,rfl,D,rfl,#[_,SqL.of h3],?_];refine ziO (xs:=(atsL v ys).map nV) (λj U H4=>∃ x4 x5:Option V,U=[some (.ref a),some (.ref p),some (.int v),some (.ref D),x4,x5]/\H4 p=some (.lst ((mixL v ys ((atsL v ys).getD j ys.length)).map nV))/\H4 D=some (.lst ((atsL v ys).map nV))/\H4 t=some (.tup [V.int 3,V.int 4,V.int 5])/\But p H H4) ?_ ?_ ?_ ?_
   .exact #[_,_,rfl,by rw[znO];exact h3p,h3,h3t,kk3]
   .rintro j U H4 _ ⟨x4,x5,rfl,_,h4D,_⟩;exact SqL.of h4D
   .rintro j x U H4 hx ⟨x4,x5,rfl,h4,h4D,h4t,k4⟩;obtain ⟨hj,rfl⟩:=zlD hx;have eg:(atsL v ys).getD j 0=(atsL v ys)[j]:=by
     rw[yaf,yac hj];rfl
    have eg2:(atsL v ys).getD j ys.length=(atsL v ys)[j]:=by
     rw[yaf,yac hj];rfl
    obtain ⟨g1,g2⟩:=A.get hj;have nx:=zpK hj;rw[eg2]at h4;rw[eg];generalize (atsL v ys)[j]=k at h4 g1 g2 nx ⊢;have g2:ys.getD k 0=v:=yaH g2;have hb2:=zgN hyu g1 g2;have ml:=zeD v ys k;refine zrg (k:=k) rfl rfl rfl h4 λg H5 hg s5 h5=>?_;rw[hb2]at h5;have h5p:=s5 _ _ h4;have npg:p≠g:=zad h4 hg;refine #[3,rfl,by decide,by decide,λD2 hD2=>?_];refine zb7 (n:=3) (λc U H6=>∃ x0:Option V,U=[x0,some (.ref g)]/\H6 D2=some (.lst (((List.range c).filter λc=>!decide (c∈zaM ys k)).map nV))/\But D2 H5 H6) ?_ ?_ ?_
    .exact .(D)
    .rintro c m U H6 hm hc ⟨x0,rfl,h6,k6⟩;have h6g:=k6 _ _ (zad h5 hD2) h5;have hlen:=ybs (λc=>!decide (c∈zaM ys k)) (List.range c);rw[ybr]at hlen;refine #[_,rfl,_,rfl,_,_,rfl,.inl (SqL.of h6g),rfl,zkz _,_,rfl,?_];show if (!inV (.int (0+(c:Int))) ((zaM ys k).map nV))=true then _ else _
     rw[ybi,zn7];refine ite2 (λe=>?_) (λe=>?_)
     .have e':c∉zaM ys k:=λz=>by
       rw[yah z]at e;cases e
      refine #[_,rfl,_,h6,zap .(G),m-1,by lia,by lia,_,rfl,?_,λb o n e=>by rw[zag n];exact k6 b o n e];rw[zab,zcd,if_neg e',yas];rfl
     .have e':c∈zaM ys k:=Decidable.byContradiction λz=>e (by rw[yai z];rfl);refine #[m-1,by lia,by lia,_,rfl,?_,k6];rw[h6,zcd,if_pos e',yaw]
    .rintro U H6 ⟨x0,rfl,h6,k6⟩;have h6p:=k6 _ _ (zad h5p hD2) h5p;have hff:=zjC (xs:=ys) (k:=k);have hat0:atI (((List.range 3).filter λc=>!decide (c∈zaM ys k)).map nV) 0=some (nV (zcJ ys k)):=by
      rw[show (0:Int)=((0:Nat):Int) from rfl];refine zeI ?_;rw[yax,<-List.head?_eq_getElem?,hff];rfl
     refine #[_,_,_,_,rfl,rfl,SqL.of h6,hat0,?_];refine #[_,rfl,_,rfl,_,_,_,k,rfl,rfl,h6p,zdv (by rw[yab,ml];exact g1),?_];have same:∀ b o,b≠p->H4 b=some o->upd H6 p (.lst (((mixL v ys k).map nV).set k (nV (zcJ ys k)))) b=some o:=λb o n e=>by
      rw[zag n];exact k6 _ _ (zad (s5 _ _ e) hD2) (s5 _ _ e)
     refine #[_,_,rfl,?_,same _ _ (Ne.symm npD) h4D,same _ _ (Ne.symm (zcb h4 h4t)) h4t,λb o n e=>same _ _ n (k4 b o n e)];rw[zab,nx,yb0]
   .rintro U H4 ⟨x4,x5,rfl,h4,h4D,h4t,k4⟩;rw[yab,zpL]at h4;exact #[_,_,_,_,rfl,h4,h4t,k4]
 .rintro U H2 ⟨x2,x3,x4,x5,rfl,h2,_,k2⟩;refine .(z);exact q p H2 hp (λb o e=>k2 b o (zad e hp) e) h2
def znB (T:Txt K mg)(qcn:DF K mg "_law_marks" zeS zeh)(qeM:FC P w K mg base 1 "_law_code" ze8 (zjc K))(qdS:FC P w K mg base 1 "_law_turned" zdk (zeM K))(qdA:FC P w K mg base 1 "_law_colours" zcV (zdH K)):FC P w K mg base 2 "_law_marks" zeh (zgF K):=by
 refine qcn.ok qaB .(c) .(b)
 .obtain ⟨a,ws,es,rfl,_⟩:=h;rfl
 obtain ⟨a,ws,es,rfl,ha,hw,hz,he,hri,q⟩:=h;have hlen:=hw.length;refine #[_,(zah (zeA (i:=1) (N:=["_law_entry"]) (own:=1) (cap:=[]) qaB.nd rfl rfl rfl (zcF (pv 0)) #[rfl,rfl,rfl,rfl,rfl,rfl] (λ_ _ _ _ _=>(zau (i:=0) (show List.Nodup (["_law_entry"]:List Str) by decide +kernel) rfl (Or.inl rfl))) (λ_ _ _ _ _=>zb4) (λ_ _ _ _ _=>(zaA qeM hr (zaa (pv 0) zac))))
   (zah (zbn PassesOwn.never rfl (zaZ rfl T.qat (zaa zaf zac)) (zau (i:=2) qaB.nd rfl (Or.inl rfl)) (zae (zas (i:=1) qaB.nd rfl (Or.inl rfl) (zaA qdS hr (zaa (pv 1) zac)))))
   (zah (zas (i:=3) qaB.nd rfl (Or.inl rfl) (zaA qdA hr (zaa (pv 1) zac)))
   (zah (zeA (i:=4) (N:=["_law_entry"]) (own:=1) (cap:=[]) qaB.nd rfl rfl rfl (zcF (pv 0)) #[rfl,rfl,rfl,rfl,rfl,rfl] (λ_ _ _ _ _=>(zau (i:=0) (show List.Nodup (["_law_entry"]:List Str) by decide +kernel) rfl (Or.inl rfl))) (λ_ _ _ _ _=>zb4) (λ_ _ _ _ _=>zew))
   (zah (zbn PassesOwn.never rfl (zex (zaT (zaa zaf (zaa zaf (zaa zaf zac))))) (zau (i:=5) qaB.nd rfl (Or.inl rfl)) (zae (zbn PassesOwn.never rfl (zdM rfl T.qat (zaa zaf (zaa (zam (zak (K:=K)) rfl T.qas boot_len (zaa (pv 0) zac)) zac))) (zau (i:=2) qaB.nd rfl (Or.inl rfl)) (zae (zaW (PW.pt (zfW (zat zdO (zaL (zaC (K:=K)) (pv 3) (pv 2) (λ_ _=>rfl)) (pv 5) (zaE _)) (zdJ (zat (zbf (K:=K)) zew (zbR (zeO (K:=K)) (pv 4) (zbx (zav zbV (pv 2) zaf)) (zbx (zav za8 (pv 2) zaf))) (by with_unfolding_all rfl))))) (zae (zdz zew (ze9 (pv 4) (pv 2) zcm))) zay)))))
   (zae (zaw (pv 4)))))))),?_]
 refine #[_,rfl,a,rfl,#[_,SqL.of ha],λD hD=>?_];have k0:But D H (upd H D .(M)):=λb o n e=>by rw[zag n];exact e
 refine zch (xs:=ws) (λi U H2=>∃ x0:Option V,U=[x0]/\H2 D=some (.lst (((zb8 es).take i).map nV))/\But D H H2) ?_ ?_ ?_ ?_
 .exact #[_,rfl,zab,k0]
 .rintro i U H2 _ ⟨x0,rfl,_,k2⟩;exact k2.sq (SqL.of ha) hD
 .rintro i m x U H2 hx hm ⟨x0,rfl,h2,k2⟩;obtain ⟨hi,hhas⟩:=zhN hD hw hx k2;refine zc0 ?_;refine #[_,rfl,x,es[i],rfl,hhas,?_];refine #[_,h2,zap (by rw[yab,yar,zaI];lia),m-1,by lia,by lia,_,rfl,?_,λb o n e=>by rw[zag n];exact k2 b o n e];rw[zab,zhM hi,yas,<-zfo (he _ (yaR hi))];rfl
 rintro U H2 ⟨x0,rfl,h2,k2⟩;have e0:H2 D=some (.lst ((zb8 es).map nV)):=by
  rw[h2,yat (by rw[zaI];lia)]
 have same0:Same H H2:=λb o e=>k2 b o (zad e hD) e;refine #[5,rfl,by decide,by decide,?_];refine zbj (n:=5) (λi U H3=>∃(p:Addr) (x2:Option V),U=[some (.ref a),some (.ref p),x2,none,none,none]/\Same H H3/\H3 p=some (.lst ((zcy i (zb8 es)).map nV))) ?_ ?_ ?_
 .exact #[D,_,rfl,same0,e0]
 .rintro i U H3 hi ⟨p,x2,rfl,s3,h3⟩;refine #[_,rfl,p,_,rfl,SqL.of h3,zcx (zfn he hri) i,by rw[zbp,zaI];exact hz,λp4 H4 hp4 s4 h4=>?_];exact #[p4,_,rfl,s3.trans s4,h4]
 rintro U H3 ⟨p,x2,rfl,s3,h3⟩;refine #[_,rfl,p,_,rfl,SqL.of h3,ziI he hri,zjv he hri,by rw[zbp,zaI];exact hz,λc H4 hc s4 h4=>?_];have cu:Unl (colL (zcy 5 (zb8 es))):=zmE (zlG (unlZ (ziI he hri)));have cl:(colL (zcy 5 (zb8 es))).length=es.length:=by rw[zeF,zbp,zaI]
 have fin:zbJ es=mkN (colL (zcy 5 (zb8 es))) 3:=(zjq _).symm;generalize colL (zcy 5 (zb8 es))=cs at h4 cu cl fin;have s04:=s3.trans s4;have h4a:=s04 _ _ ha;refine #[_,rfl,a,rfl,#[_,SqL.of h4a],λF hF=>?_];refine zch (xs:=ws) (λi U H5=>∃ x0:Option V,U=[x0]/\H5 F=some (.lst ((List.replicate i false).map V.bl))/\But F H4 H5) ?_ ?_ ?_ ?_
 .exact .(D)
 .rintro i U H5 _ ⟨x0,rfl,_,k5⟩;exact k5.sq (SqL.of h4a) hF
 .rintro i m x U H5 hx hm ⟨x0,rfl,h5,k5⟩;have hi:=(yap.mp hx).1;refine zc0 ?_;refine #[_,h5,zap (by rw[yab,ybP];lia),m-1,by lia,by lia,_,rfl,?_,λb o n e=>by rw[zag n];exact k5 b o n e];rw[zab,List.replicate_succ',yas];rfl
 rintro U H5 ⟨x0,rfl,h5,k5⟩;have s45:Same H4 H5:=λb o e=>k5 b o (zad e hF) e;have h5c:=s45 _ _ h4;have h5a:=s45 _ _ h4a;have nFc:c≠F:=zad h4 hF;have hF0:H F=none:=s04.free hF;have k05:But F H H5:=λb o _ e=>s45 _ _ (s04 _ _ e);have e5:H5 F=some (.lst ((mkN cs 0).map V.bl)):=by
  rw[h5,mkN,show List.replicate ws.length false=cs.map (λ_=>false) from by rw[List.map_const',cl,hlen]]
 refine #[(by show 3<=sizeLine;decide),λt ht=>?_];have st:=zai ht (.tup [V.int 2,V.int 1,V.int 0]);refine #[t,rfl,#[_,SqT.of zab],?_];refine zgZ (xs:=[V.int 2,V.int 1,V.int 0]) (λi U H6=>∃(x1 x2 x5:Option V),U=[some (.ref a),x1,x2,some (.ref c),some (.ref F),x5]/\H6 F=some (.lst ((mkN cs i).map V.bl))/\H6 c=some (.lst (cs.map nV))/\H6 t=some (.tup [V.int 2,V.int 1,V.int 0])/\But F H H6) ?_ ?_ ?_ ?_
 .exact #[_,_,_,rfl,st _ _ e5,st _ _ h5c,zab,k05.new ht _]
 .rintro i U H6 _ ⟨x1,x2,x5,rfl,_,_,h6t,_⟩;exact SqT.of h6t
 .rintro i x U H6 hx ⟨x1,x2,x5,rfl,h6,h6c,h6t,k6⟩;obtain ⟨hi,rfl⟩:i<3/\x=V.int ((2-i:Nat):Int):=by
   rcases i with _|_|_|i
   .exact .(p)
   .exact .(p)
   .exact .(p)
   .cases hx
  have hml:=zhA cs i;have hnx:mkN cs (i+1)=zcj (2-i) cs (mkN cs i):=rfl;rw[hnx];generalize mkN cs i=ms at h6 hml ⊢;generalize 2-i=sh;have h6a:=k6 _ _ (zad ha hF0) ha;refine #[_,rfl,_,_,rfl,.inl (SqL.of h6a),1,_,rfl,#[by lia,by lia,by lia,by lia],?_];have en:(((ws.length:Nat):Int)-1).toNat=cs.length-1:=by lia
  rw[en];have km:∀ k,.(q).length=cs.length:=zdr hml;refine zbj (n:=cs.length-1) (λj U H7=>∃(x2:Option V),U=[some (.ref a),x1,x2,some (.ref c),some (.ref F),some (.int sh)]/\H7 F=some (.lst ((mixM sh cs ms (1+j)).map V.bl))/\H7 c=some (.lst (cs.map nV))/\H7 t=some (.tup [V.int 2,V.int 1,V.int 0])/\But F H H7) ?_ ?_ ?_
  .exact #[_,rfl,by rw[zll hml];exact h6,h6c,h6t,k6]
  .rintro j U H7 hj ⟨x2,rfl,h7,h7c,h7t,k7⟩;have ek:(1:Int)+(j:Int)=((1+j:Nat):Int):=by lia
   have hk1:1<=1+j:=by lia
   have hkl:1+j<cs.length:=by lia
   rw[ek];have es1:1+(j+1)=1+j+1:=by lia
   rw[es1];generalize 1+j=k at h7 hk1 hkl ⊢;have hat:=zhb (xs:=cs) hkl;have mc:cs.getD k 0=sh->zdV .(q) k=zdV ms k:=λz=>zl9 cu hml hkl hk1 z;refine #[_,rfl,_,rfl,_,_,_,_,rfl,rfl,SqL.of h7c,hat,_,rfl,rfl,_,rfl,?_];refine ite2 (λe=>?_) (λe=>?_)
   .have e':cs.getD k 0=sh:=by
     have:=V.int.inj (yaH e);lia
    refine #[_,rfl,_,rfl,_,_,rfl,rfl,_,rfl,_,rfl,_,_,rfl,rfl,_,rfl,_,_,rfl,SqL.of h7,λb hb=>?_];have sb:=zai hb (.lst (cutV (.(q).map V.bl) (some ((k:Int)-1)) (some ((k:Int)+2))));have hbb:upd H7 b (.lst (cutV (.(q).map V.bl) (some ((k:Int)-1)) (some ((k:Int)+2)))) b=some (.lst (((.(q).drop (k-1)).take 3).map V.bl)):=by
     rw[zab,zsq hk1 rfl rfl]
    have kb:=k7.new hb (.lst (cutV (.(q).map V.bl) (some ((k:Int)-1)) (some ((k:Int)+2))));generalize upd H7 b (.lst (cutV (.(q).map V.bl) (some ((k:Int)-1)) (some ((k:Int)+2))))=H8 at sb hbb kb ⊢;refine #[_,_,rfl,.inl (SqL.of hbb),rfl,zom _,_,rfl,?_];show if (!inV (.bl true) (((.(q).drop (k-1)).take 3).map V.bl))=true then _ else _
    rw[zly,any3 _ hk1,mc e',Bool.not_not];refine ite2 (λy=>?_) (λy=>?_)
    .refine #[_,rfl,_,rfl,_,_,_,k,rfl,rfl,sb _ _ h7,zdv (by rw[yab,km];exact hkl),?_];have same:∀ b o,b≠F->H8 b=some o->upd H8 F (.lst ((.(q).map V.bl).set k (.bl true))) b=some o:=λb o n e=>by
      rw[zag n];exact e
     refine #[_,rfl,?_,same _ _ (λz=>?_) (sb _ _ h7c),same _ _ (Ne.symm (zcb (sb _ _ h7) (sb _ _ h7t))) (sb _ _ h7t),λb o n e=>same _ _ n (kb b o n e)]
     .rw[zab,zpM hml hkl #[hk1,e',y],yb0]
     .exact nFc z
    .exact #[_,rfl,by rw[zgM hml hkl (λz=>y z.2.2)];exact sb _ _ h7,sb _ _ h7c,sb _ _ h7t,kb]
   .have e':cs.getD k 0≠sh:=λz=>e (by rw[z];exact yah rfl);refine iteF ?_;exact #[_,rfl,by rw[zgM hml hkl (λz=>e' z.2.1)];exact h7,h7c,h7t,k7]
  .rintro U H7 ⟨x2,rfl,h7,h7c,h7t,k7⟩;rw[zlm hml .(a)]at h7;exact #[_,_,_,rfl,h7,h7c,h7t,k7]
 .rintro U H6 ⟨x1,x2,x5,rfl,h6,_,_,k6⟩;refine .(z);refine q F H6 hF0 (λb o e=>k6 b o (zad e hF0) e) ?_;rw[fin];exact h6
set_option maxHeartbeats 1000000 in
def zaR {K:Frag}{H:Hp}{q:Addr}{zs:List V}(hq:H q=some (.lst zs)){es:List (Int×Int)}{ws:List V}(h:zan K H es ws):zan K (upd H q o) es ws:=pImp (λ_ _ h=>by
  obtain ⟨a,x1,x2,rfl,hT,e1,e2⟩:=(show hasP K H _ _ from h);exact #[a,x1,x2,rfl,by rw[zag (ztt hT hq (by intro z;cases z))];exact hT,e1,e2]) h
def Own (K:Frag)(H:Hp):List Addr->List (List (Int×Int))->Prop:=Paired λq l=>∃ ws,H q=some (.lst ws)/\zan K H l ws
section
variable {K:Frag}{H H':Hp}
def Own.length {qs:List Addr}{ls:List (List (Int×Int))}(h:Own K H qs ls):qs.length=ls.length:=Paired.length h
def Own.ext (e:Ext H H'){qs:List Addr}{ls:List (List (Int×Int))}(h:Own K H qs ls):Own K H' qs ls:=pImp (λ_ _ h=>by
 obtain ⟨ws,h1,h2⟩:=h;exact #[ws,e _ _ h1 nofun,zan.mono e h2]) h
def Own.get:∀{qs:List Addr} {ls:List (List (Int×Int))} {i:Nat} {x:V},Own K H qs ls->(qs.map V.ref)[i]?=some x->∃ q l ws,qs[i]?=some q/\x=.ref q/\ls[i]?=some l/\H q=some (.lst ws)/\zan K H l ws
 | _,_,_,_,.nil,e=>by simp at e
 | _,_,0,_,.cons ⟨ws,h1,h2⟩ _,e=>by
  simp at e;exact #[_,_,ws,rfl,e.symm,rfl,h1,h2]
 | _,_,i+1,x,.cons _ t,e=>by
  obtain ⟨q,l,ws,h1,h2,h3,h4,h5⟩:=Own.get (i:=i) (x:=x) t (by simpa using e);exact #[q,l,ws,by simpa using h1,h2,by simpa using h3,h4,h5]
def Own.append {qs qs':List Addr}{ls ls':List (List (Int×Int))}(h:Own K H qs ls)(g:Own K H qs' ls'):Own K H (qs++qs') (ls++ls'):=pApp h g
def Own.other {q:Addr}{o:HO}{zs:List V}(hq:H q=some (.lst zs)){qs:List Addr}{ls:List (List (Int×Int))}(h:Own K H qs ls)(hn:q∉qs):Own K (upd H q o) qs ls:=by
 unfold Own at h
 induction h with
 | nil=>exact .nil
 | cons h _ ih=>
  obtain ⟨ws,h1,h2⟩:=h;rw[yaq,not_or]at hn;exact .cons #[ws,by rw[zag (Ne.symm hn.1)];exact h1,zaR hq h2] (ih hn.2)
end
def zjD {ls:List (List (Int×Int))}{i:Nat}{l:List (Int×Int)}(h:ls[i]?=some l):(ls.take (i+1)).flatten=(ls.take i).flatten++l:=by
 have hi:=(yap.mp h).1;rw[yaZ hi,yb1,(yap.mp h).2];simp
def zsj {ls:List (List (Int×Int))}(i:Nat):(ls.take i).flatten.length<=ls.flatten.length:=by
 have e:ls.flatten=(ls.take i).flatten++(ls.drop i).flatten:=by rw[<-yb1,ya2]
 rw[e,yan];lia
inductive zk2 (K:Frag)(vs:List V)(H:Hp)(Q:VK)(w_1:XK):Prop
 | c:∀(a:Addr) (qs:List Addr) (ls:List (List (Int×Int))),vs=[.ref a]->H a=some (.lst (qs.map V.ref))->Own K H qs ls->ls.flatten.length<=1000->(∀(p:Addr) (ws:List V) (H':Hp),H p=none->Same H H'->H' p=some (.lst ws)->zan K H' (zcB ls.flatten) ws->Q (.ref p) H')->zk2 K vs H Q w_1
def znE (T:Txt K mg)(qbe:DF K mg "joined_up" zdd zcf):FC P w K mg base 1 "joined_up" zcf (zk2 K):=by
 refine qbe.ok qaY .(c) .(b)
 .obtain ⟨a,qs,ls,rfl,_⟩:=h;rfl
 obtain ⟨a,qs,ls,rfl,ha,ho,hz,q⟩:=h;have hll:=ho.length;refine #[_,(zah (zas (i:=1) qaY.nd rfl (Or.inl rfl) (zbS zac))
   (zah (zbn PassesOwn.never rfl (zcF (pv 0)) (zau (i:=2) qaY.nd rfl (Or.inl rfl)) (zae (zbd (zfa F.plainAttrs_list F.slot_list_extend F.type_list_extend znL (pv 1) (zaa (pv 2) zac)))))
   (zae (zaw (zam (zeu (Int×Int)) rfl T.qbc boot_sorted (zaa (pv 1) zac)))))),?_]
 refine #[.(F),λt ht=>?_];have k0:But t H (upd H t .(M)):=λb o n e=>by rw[zag n];exact e
 refine #[_,rfl,a,rfl,#[_,SqL.of (k0 _ _ (zad ha ht) ha)],?_];refine ziO (xs:=qs.map V.ref) (λi U H2=>∃(zs:List V) (x2:Option V),U=[some (.ref a),some (.ref t),x2]/\H2 t=some (.lst zs)/\zan K H2 (ls.take i).flatten zs/\But t H H2/\Own K H2 qs ls) ?_ ?_ ?_ ?_
 .exact #[[],_,rfl,zab,.nil,k0,ho.ext (zai ht _).ext]
 .rintro i U H2 _ ⟨zs,x2,rfl,h2,_,k2,_⟩;exact SqL.of (k2 _ _ (zad ha ht) ha)
 .rintro i x U H2 hx ⟨zs,x2,rfl,h2,hw,k2,o2⟩;obtain ⟨g,l,ws,e1,rfl,e3,e4,e5⟩:=o2.get hx;have hlen:zs.length+ws.length<=1000:=by
   have z1:=hw.length;have z2:=e5.length;have z3:=zsj (ls:=ls) (i+1);rw[zjD e3,yan]at z3;lia
  have hgo:∀ b∈qs,b≠t:=λb hb z=>by
   obtain ⟨j,hj,rfl⟩:=yaW hb;obtain ⟨_,_,ws0,f1,f2,_,f4,_⟩:=ho.get (i:=j) (x:=.ref qs[j]) (by rw[yax,yac hj];rfl);cases f2
   rw[z,ht]at f4;cases f4
  refine #[_,rfl,.inl #[rfl,_,SqL.of h2],_,rfl,t,g,zs,ws,rfl,rfl,h2,e4,yaj (zap hlen),?_];refine #[_,_,rfl,zab,?_,λb o n e=>by rw[zag n];exact k2 b o n e,o2.other h2 (λz=>hgo t z rfl)];rw[zjD e3];exact (zaR h2 hw).append (zaR h2 e5)
 .rintro U H2 ⟨zs,x2,rfl,h2,hw,k2,o2⟩;rw[yat .(G)]at hw;refine #[_,rfl,t,zs,_,rfl,SqL.of h2,hw,λl ws hl hs=>?_];have e2:=zai hl (.lst ws);have s2:Same H H2:=λb o e=>k2 b o (zad e ht) e;exact q l ws _ (s2.free hl) (s2.trans e2) zab (zan.mono e2.ext hs)
def zba (ps:List Nat):List V:=.non::ps.map nV
def parV (ps:List Nat)(k:Nat):V:=match par ps k with
 | none=>.non
 | some p=>nV p
def zao (ps:List Nat):(zba ps).length=ps.length+1:=by
 unfold zba;rw[yaQ,yab]
def zeH {ps:List Nat}{k:Nat}(h:k<ps.length+1):atI (zba ps) (k:Int)=some (parV ps k):=by
 refine zeI ?_;unfold zba parV;cases k with
 | zero=>rfl
 | succ k=>
  show (ps.map nV)[k]?=some (match ps[k]? with|none=>_|some p=>nV p)
  rw[yax,yac (show k<ps.length by lia)];rfl
def zdN {k p:Nat}(h:par ps k=some p):parV ps k=nV p:=by
 unfold parV;rw[h]
def zgK {k:Nat}(h:par ps k=none):parV ps k=.non:=by
 unfold parV;rw[h]
def znn {k m:Nat}:parV ps k=.int (m:Int)↔par ps k=some m:=by
 cases e:par ps k with
 | none=>
  rw[zgK e];exact #[nofun,nofun]
 | some p=>
  rw[zdN e];constructor
  .intro z;have:=Int.ofNat.inj (V.int.inj z);rw[this]
  .intro z;rw[yae z]
def zna (ps:List Nat)(k:Nat)(i:Int):scal (parV ps k) (.int i)=true:=by
 cases e:par ps k with
 | none=>rw[zgK e];rfl
 | some p=>rw[zdN e];rfl
def But.new' {b:Addr}(k:But p H H2)(hb:H2 b=none)(o:HO):But p H (upd H2 b o):=λx o' n e=>(zai hb o) x o' (k x o' n e)
inductive zmV (K:Frag)(vs:List V)(H:Hp)(Q:VK)(w_1:XK):Prop
 | c:∀(d L:Addr) (m:Int),vs=[.ref d,.int m]->(0<m/\m<=40)->LS K L d H->(∀(t:Addr) (ps:List Nat) (H':Hp),H t=none->zax ps->(ps.length:Int)<m->H' t=some (.tup (zba ps))->Keep d H H'->LS K L d H'->Q (.ref t) H')->zmV K vs H Q w_1
def zi4 {u:Nat}(T:zax ps)(h:u<=ps.length):zax (ps++[u]):=by
 intro i hi;rw[yan,yaU]at hi;by_cases c:i<ps.length
 .rw[List.getElem_append_left c];exact T i c
 .have:i=ps.length:=by lia
  subst this;rw[List.getElem_append_right (yaa _)];simp;exact h
def zpx (T:Txt K mg)(qc2:DF K mg "_law_tree" zgj ze3)(qad:FC P w K mg base 2 "_law_take" zbP (zfV K)):FC P w K mg base 3 "_law_tree" ze3 (zmV K):=by
 refine qc2.ok qbm .(c) .(b)
 .obtain ⟨d,L,m,rfl,_⟩:=h;rfl
 obtain ⟨d,L,m,rfl,⟨hm0,hm1⟩,hs,q⟩:=h;refine #[_,(zah (zas (i:=2) qbm.nd rfl (Or.inl rfl) (zaA qad hr (zaa (pv 0) (zaa zaf zac))))
   (zah (zas (i:=3) qbm.nd rfl (Or.inl rfl) (zbS (zaa zgI zac)))
   (zah (zbn PassesOwn.never rfl (zdM rfl T.qat (zaa zaf (zaa (zav za8 zaf (zaA qad hr (zaa (pv 0) (zaa (pv 1) zac)))) zac))) (zau (i:=4) qbm.nd rfl (Or.inl rfl)) (zae (zbd (zfa F.plainAttrs_list F.slot_list_append F.type_list_append za0 (pv 3) (zaa (zaL (zaC (K:=K)) (zbS (zaa (zav zbV (pv 4) zaf) (zaa zaf (zaa (zaA qad hr (zaa (pv 0) (zaa (pv 4) zac))) (zaa (zam (zg7 rfl) rfl T.qeY boot_max (zaa zaf (zaa (zav zbV (zav zbV (pv 4) zaf) (zaA qad hr (zaa (pv 0) (zaa zaf zac)))) zac))) zac))))) (pv 2) (λ_ _=>rfl)) zac)))))
   (zae (zaw (zaU (zaP (K:=K)) rfl T.qaE boot_tuple (zaa (pv 3) zac))))))),?_]
 refine #[_,rfl,d,L,4,rfl,by decide,hs,λw1 H1 w0 w4 k1 s1=>?_];refine #[.(x),λp hp=>?_];have g0:=zai hp (.lst [V.non]);have hpd:p≠d:=by
  obtain ⟨ns,a,l,e,_⟩:=s1.ex;exact Ne.symm (zad e hp)
 have hp0:H p=none:=by
  cases e:H p with
  | none=>rfl
  | some o=>
   have:=k1 p o hpd e;rw[hp]at this;cases this
 refine #[_,rfl,_,rfl,d,L,m,rfl,#[hm0,by lia],s1.same g0,λn H2 n0 n1 k2 s2=>#[_,_,rfl,rfl,1,_,rfl,#[by lia,by lia,by lia,by lia],?_]];have en:((1:Int)+n-1).toNat=n.toNat:=by lia
 rw[en];refine zbj (n:=n.toNat) (λi U H3=>∃(ps:List Nat) (x4:Option V),U=[some (.ref d),some (.int m),some (.int w1),some (.ref p),x4]/\H3 p=some (.lst (zba ps))/\ps.length=i/\zax ps/\(∀ b o,b≠d->b≠p->H b=some o->H3 b=some o)/\LS K L d H3) ?_ ?_ ?_
 .exact #[[],_,rfl,k2 p _ hpd zab,rfl,λi hi=>absurd hi .(h),λb o n1 n2 e=>k2 b o n1 (g0 b o (k1 b o n1 e)),s2]
 .rintro i U H3 hi ⟨ps,x4,rfl,h3,rfl,hT,k3,s3⟩;have ek:(1:Int)+((ps.length:Nat):Int)=((ps.length+1:Nat):Int):=by lia
  rw[ek];refine #[_,rfl,.inl #[rfl,_,SqL.of h3],?_];refine #[_,rfl,_,_,rfl,rfl,_,rfl,_,rfl,d,L,_,rfl,#[by lia,by lia],s3,λv1 H4 v10 v11 k4 s4=>?_];refine #[_,rfl,_,_,rfl,rfl,_,rfl,d,L,2,rfl,by decide,s4,λv2 H5 v20 v21 k5 s5=>#[_,_,rfl,rfl,_,_,rfl,(by show 4<=sizeLine;decide),λl hl=>?_]];have h4:=k4 p _ hpd h3;have h5:=k5 p _ hpd h4;obtain ⟨u,hat,hu⟩:∃ u:Nat,atI [V.int (((ps.length+1:Nat):Int)-1),V.int 0,V.int v1,V.int (if ((ps.length+1:Nat):Int)-1-v2>0 then ((ps.length+1:Nat):Int)-1-v2 else 0)] w1=some (nV u)/\u<=ps.length:=by
   have z:w1=0\/w1=1\/w1=2\/w1=3:=by lia
   rcases z with rfl|rfl|rfl|rfl
   .refine #[ps.length,?_,yaa _];rw[show ((ps.length+1:Nat):Int)-1=((ps.length:Nat):Int) by lia];rfl
   .exact #[0,rfl,yaF _]
   .obtain ⟨u,rfl⟩:=ztu v10;exact #[u,rfl,by lia]
   .refine #[(if ((ps.length+1:Nat):Int)-1-v2>0 then ((ps.length+1:Nat):Int)-1-v2 else 0).toNat,?_,?_]
    .show some (V.int _)=some (V.int _);rw[Int.toNat_of_nonneg (by split<;>lia)]
    .split<;>lia
  refine #[_,rfl,_,_,_,_,rfl,rfl,SqL.of zab,hat,_,_,_,rfl,rfl,by rw[zag (zad h5 hl)];exact h5,zap (by rw[zao];lia),?_];refine #[ps++[u],_,rfl,?_,by rw[yan,yaU],zi4 hT hu,λb o n1 n2 e=>?_,?_]
  .rw[zab];unfold zba;rw[yas];rfl
  .rw[zag n2];have e5:=k5 b o n1 (k4 b o n1 (k3 b o n1 n2 e));exact (zai hl _) _ _ e5
  .exact LS.put hs hp0 (λb o n1 n2 e=>(zai hl _) _ _ (k5 b o n1 (k4 b o n1 (k3 b o n1 n2 e)))) (s5.of_new hl _)
 .rintro U H3 ⟨ps,x4,rfl,h3,hl,hT,k3,s3⟩;refine #[_,rfl,p,_,rfl,.inl #[SqL.of h3,λt ht=>?_]];have sn:=zai ht (.tup (zba ps));have htp:t≠p:=Ne.symm (zad h3 ht);have ht0:H t=none:=by
   cases e:H t with
   | none=>rfl
   | some o=>
    have htd:t≠d:=by
     obtain ⟨ns,a,l,e,_⟩:=s3.ex;exact Ne.symm (zad e ht)
    have:=k3 t o htd htp e;rw[ht]at this;cases this
  exact q t ps _ ht0 hT .(a) zab (λb o n e=>sn _ _ (k3 b o n (zad e hp0) e)) (s3.of_new ht _)
inductive zfA (K:Frag)(vs:List V)(H:Hp)(Q:VK)(w_1:XK):Prop
 | c:∀(t:Addr) (ps:List Nat) (k:Nat),vs=[.ref t,.int k]->H t=some (.tup (zba ps))->ps.length<=900->(∀(p:Addr) (H':Hp),H p=none->Same H H'->H' p=some (.lst ((zbB ps k (ps.length+1)).map nV))->Q (.ref p) H')->zfA K vs H Q w_1
def zkk (T:Txt K mg)(qbt:DF K mg "children" zec zdo):FC P w K mg base 1 "children" zdo (zfA K):=by
 refine qbt.ok qdv .(c) .(b)
 .obtain ⟨t,ps,k,rfl,_⟩:=h;rfl
 obtain ⟨t,ps,k,rfl,ht,hz,q⟩:=h;refine #[_,(zae (zaw (zbU (N:=["other","tree","knot"]) (own:=1) (cap:=[0,1]) rfl (zaZ rfl T.qat (zaa (zam (zak (K:=K)) rfl T.qas boot_len (zaa (pv 0) zac)) zac)) #[rfl,rfl,rfl,rfl,rfl,rfl] (λ_ _ _ _ _=>(zau (i:=0) (show List.Nodup (["other","tree","knot"]:List Str) by decide +kernel) rfl (Or.inl rfl))) (λ_ _ _ _ _=>(zdh (zat zdO (zaL (zaG (K:=K)) (pv 1) (pv 0) (λ_ _=>rfl)) (pv 2) (zaE _)))) (λ_ _ _ _ _=>(pv 0))))),?_];refine #[_,rfl,_,_,rfl,.inr (SqT.of ht),_,rfl,by lia,by rw[zao];lia,λD hD=>?_];have el:((((zba ps).length:Nat):Int)).toNat=ps.length+1:=by rw[zao,ybe]
 rw[el];refine zb7 (n:=ps.length+1) (λj U H3=>∃ x0:Option V,U=[x0,some (.ref t),some (.int k)]/\H3 D=some (.lst ((zbB ps k j).map nV))/\But D H H3) ?_ ?_ ?_
 .exact .(D)
 .rintro j m U H3 hm hj ⟨x0,rfl,h3,k3⟩;rw[ybi];have h3t:=k3 _ _ (zad ht hD) ht;have hlen:=zhO ps k j;refine #[_,rfl,_,rfl,_,_,_,_,rfl,rfl,SqT.of h3t,zeH hj,_,rfl,zna _ _ _,_,rfl,?_];refine ite2 .(u) .(u)
  .have c':par ps j=some k:=znn.mp (yaH c);refine #[_,rfl,_,h3,zap .(G),m-1,by lia,by lia,_,rfl,?_,λb o n e=>by rw[zag n];exact k3 b o n e];rw[zab,zeG,if_pos c',yas];rfl
  .have c':¬ par ps j=some k:=λz=>c (yah (znn.mpr z));refine #[m-1,by lia,by lia,_,rfl,?_,k3];rw[h3,zeG,if_neg c',yaw]
 .rintro U H3 ⟨x0,rfl,h3,k3⟩;exact q D H3 hD (λb o e=>k3 b o (zad e hD) e) h3
inductive zgG (K:Frag)(vs:List V)(H:Hp)(Q:VK)(w_1:XK):Prop
 | c:∀(t:Addr) (ps:List Nat) (k:Nat),vs=[.ref t,.int k]->H t=some (.tup (zba ps))->zax ps->k<ps.length+1->ps.length<=900->(∀(p:Addr) (H':Hp),H p=none->Same H H'->H' p=some (.lst ((benL ps k (ps.length+1)).map nV))->Q (.ref p) H')->zgG K vs H Q w_1
def zl7 (T:Txt K mg)(qco:DF K mg "beneath" zeW zel):FC P w K mg base 1 "beneath" zel (zgG K):=by
 refine qco.ok qbo .(c) .(b)
 .obtain ⟨t,ps,k,rfl,_⟩:=h;rfl
 obtain ⟨t,ps,k,rfl,ht,hT,hk,hz,q⟩:=h;refine #[_,(zah (zas (i:=2) qbo.nd rfl (Or.inl rfl) (zbS (zaa (pv 1) zac)))
   (zah (zbn PassesOwn.never rfl (zdM rfl T.qat (zaa (zav za8 (pv 1) zaf) (zaa (zam (zak (K:=K)) rfl T.qas boot_len (zaa (pv 0) zac)) zac))) (zau (i:=3) qbo.nd rfl (Or.inl rfl)) (zae (zaW (zat (zhz (K:=K)) (zaL (zaG (K:=K)) (pv 0) (pv 3) (λ_ _=>rfl)) (pv 2) (by with_unfolding_all rfl)) (zae (zbd (zfa F.plainAttrs_list F.slot_list_append F.type_list_append za0 (pv 2) (zaa (pv 3) zac)))) zay)))
   (zae (zaw (pv 2))))),?_]
 refine #[_,rfl,.(x),λp hp=>?_];have k0:But p H (upd H p (.lst [.int (k:Int)])):=λb o n e=>by rw[zag n];exact e
 have ntp:t≠p:=zad ht hp;refine #[_,rfl,_,_,rfl,rfl,_,rfl,_,_,rfl,.inr (SqT.of (k0 _ _ ntp ht)),_,_,rfl,#[by lia,by lia,by lia,by rw[zao];lia],?_];have en:((((zba ps).length:Nat):Int)-((k:Int)+1)).toNat=ps.length-k:=by rw[zao];lia
 rw[en];refine zbj (n:=ps.length-k) (λi U H3=>∃ x3:Option V,U=[some (.ref t),some (.int k),some (.ref p),x3]/\H3 p=some (.lst ((benL ps k (k+1+i)).map nV))/\But p H H3) ?_ ?_ ?_
 .refine #[_,rfl,?_,k0];rw[zab,ybL,zqh hT];rfl
 .rintro i U H3 hi ⟨x3,rfl,h3,k3⟩;have ek:(k:Int)+1+(i:Int)=((k+1+i:Nat):Int):=by lia
  rw[ek];have hj:k+1+i<ps.length+1:=by lia
  have hj1:1<=k+1+i:=by lia
  have hjk:k+1+i≠k:=by lia
  have ei:k+1+(i+1)=k+1+i+1:=by lia
  rw[ei];generalize k+1+i=j at h3 hj hj1 hjk ⊢;obtain ⟨u,hu⟩:=zgv hj1 hj;have h3t:=k3 _ _ ntp ht;have hat:=zeH hj;rw[zdN hu]at hat;have hlen:=zlJ ps k j;refine #[_,rfl,_,rfl,_,_,_,_,rfl,rfl,SqT.of h3t,hat,_,rfl,_,_,rfl,.inl (SqL.of h3),rfl,zkz _,_,rfl,?_];show if inV (.int (u:Int)) ((benL ps k j).map nV)=true then _ else _
  rw[zn7];have hB:isB ps k j=isB ps k u:=zcc hT hjk hu;have hult:=(zaN hT hu).1;refine ite2 .(u) .(u)
  .have c':isB ps k u=true:=(zcu.mp (yaH c)).2;refine #[_,rfl,.inl #[rfl,_,SqL.of h3],_,rfl,_,_,_,rfl,rfl,h3,zap .(G),?_];refine #[_,rfl,?_,λb o n e=>by rw[zag n];exact k3 b o n e];rw[zab,zjS,hB,if_pos c',yas];rfl
  .have c':¬ isB ps k u=true:=λz=>c (yah (zcu.mpr #[hult,z]));refine #[_,rfl,?_,k3];rw[h3,zjS,hB,if_neg c',yaw]
 .rintro U H3 ⟨x3,rfl,h3,k3⟩;refine .(z);rw[show k+1+(ps.length-k)=ps.length+1 by lia]at h3;exact q p H3 hp (λb o e=>k3 b o (zad e hp) e) h3
def zbZ (es:List (Int×Int)):List (Int×Int):=zci es (zbJ es)
def zaq (rows:List .(j))(k:Nat):List Int:=rows.getD k []
def ownE (rows:List .(j))(k:Nat):List (Int×Int):=(zaq rows k).map λx=>(x,(k:Int))
def zmj (ps:List Nat)(rows:List .(j)):Nat->Nat->List (Int×Int)
 | 0,_=>[]
 | f+1,k=>zcB (((zbB ps k (ps.length+1)).map λc=>zbZ (zmj ps rows f c)).flatten++ownE rows k)
def zhH (T:zax ps):∀ f g k,k<ps.length+1->ps.length+1-k<=f->ps.length+1-k<=g->zmj ps rows f k=zmj ps rows g k
 | 0,_,k,hk,h,_=>by lia
 | _,0,k,hk,_,h=>by lia
 | f+1,g+1,k,hk,hf,hg=>by
  unfold zmj;congr 3;refine ycD λc hc=>?_;have h:=zaF.mp hc;have:=zaN T h.2;show zbZ _=zbZ _;rw[zhH T f g c h.1 .(a) .(a)]
def zal (ps:List Nat)(rows:List .(j))(k:Nat):List (Int×Int):=zmj ps rows (ps.length+1-k) k
def zc6 (ps:List Nat)(rows:List .(j))(k:Nat):List (List (Int×Int)):=((zbB ps k (ps.length+1)).map λc=>zbZ (zal ps rows c))++[ownE rows k]
def zbv (T:zax ps){k:Nat}(hk:k<ps.length+1):zal ps rows k=zcB (zc6 ps rows k).flatten:=by
 unfold zal zc6;obtain ⟨f,hf⟩:∃ f,ps.length+1-k=f+1:=#[ps.length-k,by lia];rw[hf,zmj,yb1,yc4];congr 3;refine ycD λc hc=>?_;have h:=zaF.mp hc;have:=zaN T h.2;show zbZ _=zbZ _;rw[zhH T f (ps.length+1-c) c h.1 .(a) .(a)];rfl
structure zaD (rows:List .(j)):Prop where
 up:∀ row∈rows,row.Pairwise .(O)
 key:∀ row∈rows,∀ x∈row,-(10^60)<x/\x<10^60
def zaD.at_up {rows:List .(j)}(R:zaD rows)(k:Nat):(zaq rows k).Pairwise .(O):=by
 unfold zaq;rw[yaf];cases e:rows[k]? with
 | none=>exact .nil
 | some row=>exact R.up row (yaM e)
def zaD.at_key {rows:List .(j)}(R:zaD rows)(k:Nat):∀ x∈zaq rows k,-(10^60)<x/\x<10^60:=by
 unfold zaq;rw[yaf];cases e:rows[k]? with
 | none=>exact λx hx=>nomatch hx
 | some row=>exact R.key row (yaM e)
def zjz {α:Type}:∀(es:List α) (ms:List Bool),(zci es ms).Sublist es
 | [],_=>by
  unfold zci;exact List.Sublist.refl _
 | e::es,[]=>by
  unfold zci;exact List.nil_sublist _
 | e::es,m::ms=>by
  have ih:=zjz es ms;unfold zci at ih ⊢;cases m with
  | false=>exact List.Sublist.cons e ih
  | true=>exact List.Sublist.cons₂ e ih
def zaS (es:List (Int×Int)):(zbZ es).Sublist es:=zjz _ _
def Of (ps:List Nat)(rows:List .(j))(k:Nat)(e:Int×Int):Prop:=∃ j,j<ps.length+1/\isB ps k j=true/\e.2=(j:Int)/\e.1∈zaq rows j
def zjl {ps:List Nat}{k:Nat}(hk:k<ps.length+1){e:Int×Int}(h:e∈ownE rows k):Of ps rows k e/\e.2=(k:Int):=by
 obtain ⟨x,hx,rfl⟩:=yaE.mp h;exact #[#[k,hk,zcs,rfl,hx],rfl]
def zjm (R:zaD rows)(k:Nat):(ownE rows k).Nodup:=by
 unfold ownE;rw[List.nodup_iff_pairwise_ne,ycf];exact List.Pairwise.imp (λ{a b} (h:a < b) z=>by
  have:=congrArg Prod.fst z;have:a=b:=this;lia) (R.at_up k)
def zgA (T:zax ps)(R:zaD rows):∀(m k:Nat),ps.length+1-k<=m->k<ps.length+1->(∀ e∈zal ps rows k,Of ps rows k e)/\(zc6 ps rows k).flatten.Nodup
 | 0,k,hm,hk=>by lia
 | m+1,k,hm,hk=>by
  have ih:∀ c,par ps c=some k->(∀ e∈zal ps rows c,Of ps rows c e)/\(zal ps rows c).Nodup:=λc hc=>by
   have:=zaN T hc;have q:=zgA T R m c .(a) this.2;refine #[q.1,?_];rw[zbv T this.2];exact (zb3 _).nodup_iff.mpr q.2
  have up:∀{c:Nat} {e:Int×Int},par ps c=some k->Of ps rows c e->Of ps rows k e:=λ{c e} hc h=>by
   obtain ⟨j,h1,h2,h3,h4⟩:=h;exact #[j,h1,(zcg T j j (yaa _) h1).mpr (.inr #[c,hc,h2]),h3,h4]
  refine #[λe he=>?_,?_]
  .rw[zbv T hk,zdI]at he;obtain ⟨l,hl,he⟩:=yc1.mp he;rcases yal.mp hl with q|q
   .obtain ⟨c,hc,rfl⟩:=yaE.mp q;have hp:=(zaF.mp hc).2;exact up hp ((ih c hp).1 e ((zaS _).mem he))
   .rw[yao.mp q]at he;exact (zjl hk he).1
  .show List.Pairwise _ _;unfold zc6;rw[List.pairwise_flatten];refine #[λl hl=>?_,?_]
   .rcases yal.mp hl with q|q
    .obtain ⟨c,hc,rfl⟩:=yaE.mp q;exact (ih c (zaF.mp hc).2).2.sublist (zaS _)
    .rw[yao.mp q];exact zjm R k
   .rw[yaO];refine #[?_,ydf _ _,?_]
    .rw[ycf];refine List.Pairwise.imp_of_mem (λ{c d} hc hd hcd=>?_) (zjL ps k _);intro x hx y hy z;subst z;have pc:=(zaF.mp hc).2;have pd:=(zaF.mp hd).2;obtain ⟨j,_,h2,h3,_⟩:=(ih c pc).1 x ((zaS _).mem hx);obtain ⟨i,_,g2,g3,_⟩:=(ih d pd).1 x ((zaS _).mem hy);have:j=i:=by lia
     subst this;exact zc9 T pc pd (yau hcd) j j (yaa _) h2 g2
    .intro l hl l' hl' x hx y hy z;subst z;obtain ⟨c,hc,rfl⟩:=yaE.mp hl;rw[yao.mp hl']at hy;have pc:=(zaF.mp hc).2;obtain ⟨j,_,h2,h3,_⟩:=(ih c pc).1 x ((zaS _).mem hx);have h4:=(zjl hk hy).2;have:j=k:=by lia
     subst this;rw[zdR T (zaN T pc).1]at h2;cases h2
def zep (T:zax ps)(R:zaD rows){k:Nat}(hk:k<ps.length+1):∀ e∈zal ps rows k,Of ps rows k e:=(zgA T R _ k (yaa _) hk).1
def zdw (T:zax ps)(R:zaD rows){k:Nat}(hk:k<ps.length+1): .(n).Nodup:=by
 rw[zbv T hk];exact (zb3 _).nodup_iff.mpr (zgA T R _ k (yaa _) hk).2
def zaJ (T:zax ps)(R:zaD rows){k:Nat}(hk:k<ps.length+1):Rise .(n):=by
 rw[zbv T hk];exact zd2 (zgA T R _ k (yaa _) hk).2
def zfj (T:zax ps)(R:zaD rows)(hz:ps.length<=40){k:Nat}(hk:k<ps.length+1):∀ e∈zal ps rows k,zf9 64 e:=λe he=>by
 obtain ⟨j,h1,h2,h3,h4⟩:=zep T R hk e he;have:=R.at_key j _ h4;exact #[this.1,this.2,by lia,by lia]
def wtR (ps:List Nat)(rows:List .(j))(k:Nat):Nat:=((benL ps k (ps.length+1)).map λj=>(zaq rows j).length).sum
def zo1 {l m:List Nat}(h:l.Perm m):l.sum=m.sum:=by
 induction h with
 | nil=>rfl
 | cons x _ ih=>rw[yaP,yaP,ih]
 | swap x y l=>rw[yaP,yaP,yaP,yaP];lia
 | trans _ _ h1 h2=>rw[h1,h2]
def zkZ (f:Nat->Nat):∀(ls:List (List Nat)),(ls.flatten.map f).sum=(ls.map λl=>(l.map f).sum).sum
 | []=>rfl
 | l::ls=>by
  rw[ycj,yas,List.sum_append,zkZ f ls,yav,yaP]
def zmv (T:zax ps)(f:Nat->Nat){k:Nat}(hk:k<ps.length+1):((benL ps k (ps.length+1)).map f).sum=f k+((zbB ps k (ps.length+1)).map λc=>((benL ps c (ps.length+1)).map f).sum).sum:=by
 have h:=zo1 ((zl0 T hk).map f);rw[yav,yaP,zkZ,ybM]at h;exact h.symm
def zqu {f g:Nat->Nat}:∀{l:List Nat},(∀ x∈l,f x<=g x)->(l.map f).sum<=(l.map g).sum
 | [],_=>yaa _
 | x::l,h=>by
  rw[yav,yaP,yav,yaP];have h1:=h x yaB;have h2:=zqu (f:=f) (g:=g) (l:=l) λy hy=>h y (yaz _ hy);lia
def zlt {α:Type}:∀(ls:List (List α)),ls.flatten.length=(ls.map List.length).sum
 | []=>rfl
 | l::ls=>by
  rw[ycj,yan,zlt ls,yav,yaP]
def zol (T:zax ps){k:Nat}(hk:k<ps.length+1): .(n).length=(zaq rows k).length+((zbB ps k (ps.length+1)).map λc=>(zbZ (zal ps rows c)).length).sum:=by
 rw[zbv T hk,zcP];unfold zc6;rw[yb1,yan,yc4,zlt,ybM];unfold ownE;rw[yab,yca];rfl
def zhG (T:zax ps):∀(m k:Nat),ps.length+1-k<=m->k<ps.length+1-> .(n).length<=wtR ps rows k
 | 0,k,hm,hk=>by lia
 | m+1,k,hm,hk=>by
  unfold wtR;rw[zol T hk,zmv T _ hk];refine yaK (zqu λc hc=>?_) _;have h:=zaF.mp hc;have:=zaN T h.2;exact yad (zaS _).length_le (zhG T m c .(a) h.1)
def zhr (f:Nat->Nat)(P:Nat->Bool):∀(l:List Nat),((l.filter P).map f).sum<=(l.map f).sum
 | []=>yaa _
 | x::l=>by
  have ih:=zhr f P l;rw[yav,yaP];by_cases h:P x=true
  .rw[ybp h,yav,yaP];lia
  .rw[ybD h];lia
def zby (rows:List .(j)):Nat:=(rows.map List.length).sum
def zmQ (rows:List .(j)):((List.range rows.length).map λj=>(zaq rows j).length).sum=zby rows:=by
 unfold zby
 congr 1;apply ybo;intro i;rw[yax,yax];by_cases h:i<rows.length
 .rw[ycY h,yac h];show some (zaq rows i).length=some rows[i].length;unfold zaq;rw[yaf,yac h];rfl
 .rw[yaY (by rw[ybr];lia),yaY .(a)];rfl
def zqp {ps:List Nat}{rows:List .(j)}(hl:rows.length=ps.length+1)(k:Nat):wtR ps rows k<=zby rows:=by
 unfold wtR benL;refine yad (zhr _ _ _) ?_;rw[<-hl,zmQ];exact yaa _
def zdT (T:zax ps){rows:List .(j)}(hl:rows.length=ps.length+1){k:Nat}(hk:k<ps.length+1): .(n).length<=zby rows:=yad (zhG T _ k (yaa _) hk) (zqp hl k)
def zaQ (H:Hp)(as:List Addr)(rows:List .(j)):Prop:=Paired (λa row=>H a=some (.tup (row.map V.int))) as rows
def zaQ.ext {H H':Hp}(e:∀ b o,H b=some o->H' b=some o){rows:List .(j)}(h:zaQ H as rows):zaQ H' as rows:=pImp (λ_ _=>e _ _) h
def zaQ.keep {d p:Addr}{H H':Hp}(hd:∀ a row,H a=some (.tup row)->a≠d)(e:∀ b o,b≠d->H b=some o->H' b=some o){rows:List .(j)}(h:zaQ H as rows):zaQ H' as rows:=pImp (λ_ _ h=>e _ _ (hd _ _ h) h) h
def zaQ.length {rows:List .(j)}(h:zaQ H as rows):as.length=rows.length:=Paired.length h
def zaQ.get :∀{as:List Addr} {rows:List (List Int)} {k:Nat},zaQ H as rows->k<rows.length->∃ a,as[k]?=some a/\H a=some (.tup ((zaq rows k).map V.int))
 | _,_,_,.nil,hk=>by simp at hk
 | a::as,row::rows,0,.cons h t,_=>#[a,rfl,h]
 | a::as,row::rows,k+1,.cons h t,hk=>by
  obtain ⟨b,h1,h2⟩:=zaQ.get (k:=k) t (by simpa using hk);refine #[b,by rw[ycV];exact h1,?_];have:zaq (row::rows) (k+1)=zaq rows k:=by
   unfold zaq;rw[yaf,yaf,ycV]
  rw[this];exact h2
def zaQ.snoc {a:Addr}{row:List Int}{rows:List .(j)}(h:zaQ H as rows)(g:H a=some (.tup (row.map V.int))):zaQ H (as++[a]) (rows++[row]):=pApp h (.cons g .nil)
structure zbz (H:Hp)(st:Addr)(ps:List Nat)(rows:List .(j))(t rs:Addr)(as:List Addr):Prop where
 st:H st=some (.tup [.ref t,.ref rs])
 tr:H t=some (.tup (zba ps))
 rs:H rs=some (.tup .(C))
 at_:zaQ H as rows
 len:rows.length=ps.length+1
 T:zax ps
 R:zaD rows
 few:ps.length<=40
 keys:zby rows<=400
def zbz.same {st t rs:Addr}{rows:List .(j)}(S:zbz H st ps rows t rs as)(e:Same H H'):zbz H' st ps rows t rs as:=
 #[e _ _ S.st,e _ _ S.tr,e _ _ S.rs,S.at_.ext e,S.len,S.T,S.R,S.few,S.keys]
def zb1 {as:List Addr}{k:Nat}{a:Addr}(h:as[k]?=some a):atI .(C) (k:Int)=some (.ref a):=zeI (by rw[yax,h];rfl)
def zjp {α:Type}{l:List α}(h:l.Nodup):l.reverse.Nodup:=(List.reverse_perm l).nodup_iff.mpr h
def zhe (K:Frag)(H:Hp)(ps:List Nat)(rows:List .(j))(j:Nat)(q:Addr):Prop:=∃ ws,H q=some (.lst ws)/\zan K H .(l) ws
def zaK (K:Frag)(H:Hp)(ps:List Nat)(rows:List .(j)):List Nat->List Addr->Prop:=Paired (zhe K H ps rows)
def zhe.same {K:Frag}{rows:List .(j)}(h:zhe K H ps rows j q)(e:Same H H'):zhe K H' ps rows j q:=by
 obtain ⟨ws,h1,h2⟩:=h;exact #[ws,e _ _ h1,h2.mono e.ext]
def zaK.same {K:Frag}{rows:List .(j)}(e:Same H H'){js:List Nat}{qs:List Addr}(h:zaK K H ps rows js qs):zaK K H' ps rows js qs:=pImp (λ_ _ h=>zhe.same h e) h
def zaK.ext {K:Frag}{rows:List (List Int)}(e:Ext H H'){js:List Nat}{qs:List Addr}(h:zaK K H ps rows js qs):zaK K H' ps rows js qs:=pImp (λ_ _ h=>by
  obtain ⟨ws,a1,a2⟩:=h;exact #[ws,e _ _ a1 nofun,a2.mono e]) h
def zaK.length {K:Frag}{rows:List .(j)}{js:List Nat}{qs:List Addr}(h:zaK K H ps rows js qs):js.length=qs.length:=Paired.length h
def zaK.snoc {K:Frag}{rows:List .(j)}{js:List Nat}{qs:List Addr}(h:zaK K H ps rows js qs)(g:zhe K H ps rows j q):zaK K H ps rows (js++[j]) (qs++[q]):=pApp h (.cons g .nil)
def zaK.get {K:Frag}{rows:List .(j)}:∀{js:List Nat} {qs:List Addr} {i j:Nat},zaK K H ps rows js qs->js[i]?=some j->∃ q,qs[i]?=some q/\zhe K H ps rows j q
 | _,_,i,j,.nil,h=>by simp at h
 | _::_,q::_,0,j,.cons h t,e=>by
  have:=yae (show some _=some j from e);subst this;exact #[q,rfl,h]
 | _::_,_::_,i+1,j,.cons h t,e=>by
  obtain ⟨q,h1,h2⟩:=zaK.get (i:=i) t (by simpa using e);exact #[q,by simpa using h1,h2]
def zaK.rev {K:Frag}{rows:List .(j)}{js:List Nat}{qs:List Addr}(h:zaK K H ps rows js qs):zaK K H ps rows js.reverse qs.reverse:=by
 unfold zaK at h
 induction h with
 | nil=>exact .nil
 | cons h _ ih=>
  rw[ycZ,ycZ];exact zaK.snoc ih h
def zaK.alloc {K:Frag}{rows:List .(j)}:∀{js:List Nat} {qs:List Addr},zaK K H ps rows js qs->∀ q∈qs,∃ ws,H q=some (.lst ws)
 | _,_,.nil=>λq hq=>nomatch hq
 | _::_,_::_,.cons h t=>λq hq=>by
  rcases yaq.mp hq with e|e
  .obtain ⟨ws,h1,_⟩:=h;exact #[ws,e ▸ h1]
  .exact zaK.alloc t q e
abbrev kN (j:Nat):Key:=Sum.inl (j:Int)
def zdQ:List Nat->List Addr->List (Key×V)
 | j::js,q::qs=>(kN j,.ref q)::zdQ js qs
 | _,_=>[]
def zlv :∀{js:List Nat} {qs:List Addr},j∉js->valV (zdQ js qs) (kN j)=none
 | [],_,_=>rfl
 | _::_,[],_=>rfl
 | i::js,q::qs,h=>by
  have h1:¬ kN i=kN j:=λz=>h (by
   have:=Int.ofNat.inj (Sum.inl.inj z);rw[this];exact yaB)
  show valV ((kN i,V.ref q)::zdQ js qs) (kN j)=none;rw[zbC h1];exact zlv λz=>h (yaz _ z)
def zkq {q:Addr}:∀{js:List Nat} {qs:List Addr} {i:Nat},js.Nodup->js[i]?=some j->qs[i]?=some q->valV (zdQ js qs) (kN j)=some (.ref q)
 | [],_,_,_,h,_=>by simp at h
 | _::_,[],_,_,_,h=>by simp at h
 | a::js,b::qs,0,_,h1,h2=>by
  have:=yae (show some a=some j from h1);subst this;have:=yae (show some b=some q from h2);subst this;exact zcO (p:=(kN a,V.ref b)) rfl
 | a::js,b::qs,i+1,hn,h1,h2=>by
  have g1:js[i]?=some j:=by simpa using h1
  have hne:¬ kN a=kN j:=λz=>by
   have e:=Int.ofNat.inj (Sum.inl.inj z);exact (ya4.mp hn).1 (e ▸ yaM g1)
  show valV ((kN a,V.ref b)::zdQ js qs) (kN j)=_;rw[zbC hne];exact zkq (ya4.mp hn).2 g1 (by simpa using h2)
def zlu {q:Addr}:∀{js:List Nat} {qs:List Addr},js.length=qs.length->zdQ (js++[j]) (qs++[q])=zdQ js qs++[(kN j,.ref q)]
 | [],[],_=>rfl
 | [],_::_,h=>by cases h
 | _::_,[],h=>by cases h
 | a::js,b::qs,h=>by
  show (kN a,V.ref b)::zdQ (js++[j]) (qs++[q])=(kN a,V.ref b)::(zdQ js qs++[(kN j,V.ref q)]);rw[zlu (Nat.succ.inj h)]
def zr0 {j:Nat}{q:Addr}{js:List Nat}{qs:List Addr}(hl:js.length=qs.length)(h:j∉js):putK (zdQ js qs) (kN j) (.ref q)=zdQ (js++[j]) (qs++[q]):=by
 rw[zeY _ (zlv h),zlu hl]
def znY:∀{js:List Nat} {qs:List Addr},js.length=qs.length->(zdQ js qs).length=js.length
 | [],[],_=>rfl
 | [],_::_,h=>by cases h
 | _::_,[],h=>by cases h
 | a::js,b::qs,h=>by
  show (zdQ js qs).length+1=js.length+1;rw[znY (Nat.succ.inj h)]
def zql {l:List Nat}(h:l.Pairwise (· > ·)){i j c:Nat}(hj:l[i]?=some j)(hc:c∈l)(hcj:j<c):c∈l.take i:=by
 obtain ⟨u,hu,rfl⟩:=yaW hc;obtain ⟨hi,rfl⟩:=yap.mp hj;have:u<i:=by
  refine ybx λz=>?_;by_cases e:i=u
  .subst e;lia
  .have:=ya9.mp h i u hi hu .(a);lia
 rw[List.mem_iff_getElem?];exact #[u,by rw[ycw,if_pos this,yac hu]]
def zpT (T:zax ps){k c:Nat}(h:isB ps k j=true)(hc:par ps c=some j):isB ps k c=true:=by
 by_cases e:c=k
 .rw[e];exact zcs
 .rw[zcc T e hc];exact h
inductive zrl (K:Frag)(vs:List V)(H:Hp)(Q:VK)(w_1:XK):Prop
 | c:∀(st:Addr) (ps:List Nat) (rows:List (List Int)) (t rs:Addr) (as:List Addr) (j:Nat),vs=[.ref st,.int j]->zbz H st ps rows t rs as->j<ps.length+1->(∀(D:Addr) (us:List V) (H':Hp),H D=none->Same H H'->H' D=some (.lst us)->zan K H' (ownE rows j) us->Q (.ref D) H')->zrl K vs H Q w_1
def ztk (T:Txt K mg)(qaV:DF K mg "own_entries" zcn zb9):FC P w K mg base 1 "own_entries" zb9 (zrl K):=by
 refine qaV.ok qcE .(c) .(b)
 .obtain ⟨st,ps,rows,t,rs,as,k,rfl,_⟩:=h;rfl
 obtain ⟨st,ps,rows,t,rs,as,j,rfl,S4,hjn,q⟩:=h;refine #[_,(zae (zaw (zbU (N:=["key","knot"]) (own:=1) (cap:=[1]) rfl (zex (zaL (zaG (K:=K)) (zaL (zaG (K:=K)) (pv 0) zaf (λ_ _=>rfl)) (pv 1) (λ_ _=>rfl))) #[rfl,rfl,rfl,rfl,rfl,rfl] (λ_ _ _ _ _=>(zau (i:=0) (show List.Nodup (["key","knot"]:List Str) by decide +kernel) rfl (Or.inl rfl))) (λ_ _ _ _ _=>zb4) (λ_ _ _ _ _=>(zaT (zaa (pv 0) (zaa (pv 1) zac))))))),?_];obtain ⟨a,ha1,ha4⟩:=S4.at_.get (k:=j) (by rw[S4.len];exact hjn);have hkeys:=S4.keys;refine #[_,rfl,_,_,_,_,rfl,rfl,SqT.of S4.st,rfl,_,rfl,_,_,_,_,rfl,rfl,SqT.of S4.rs,zb1 ha1,a,rfl,#[_,SqT.of ha4],λD3 hD3=>?_];refine zer (xs:=(zaq rows j).map V.int) (λm U H5=>∃(us:List V) (x0:Option V),U=[x0,some (.int j)]/\H5 D3=some (.lst us)/\zan K H5 ((ownE rows j).take m) us/\But D3 H H5) ?_ ?_ ?_ ?_
 .exact #[[],_,rfl,zab,.nil,λb o n e=>by rw[zag n];exact e]
 .rintro m U H5 _ ⟨us,x0,rfl,_,_,k5⟩;exact SqT.of (k5 _ _ (zad ha4 hD3) ha4)
 .rintro m r x U H5 hx hm ⟨us,x0,rfl,h5,hw5,k5⟩;rw[yax]at hx;obtain ⟨y,hy,rfl⟩:=ybR.mp hx;have hlow:=(yap.mp hy).1;have htk3:(ownE rows j).take (m+1)=(ownE rows j).take m++[(y,(j:Int))]:=by
   unfold ownE;rw[<-ybZ,<-ybZ,yaZ hlow,yas];rw[(yap.mp hy).2];rfl
  have hul:=hw5.length;rw[yar]at hul;rw[yab]at hm;have hrl:(zaq rows j).length<=zby rows:=by
   have:=zqp S4.len (k:=j) (ps:=ps);have e2:wtR ps rows j=(zaq rows j).length+_:=zmv S4.T _ hjn;lia
  refine zc0 ?_;refine #[_,rfl,_,rfl,.(m),λu hu=>?_];have su:=zai hu (.tup [.int y,.int (j:Int)]);have h6:=su _ _ h5;have hut:upd H5 u (.tup [.int y,.int (j:Int)]) u=some (.tup [.int y,.int (j:Int)]):=zab;have k6:=k5.new' hu (.tup [.int y,.int (j:Int)]);have hw6:=hw5.mono su.ext;generalize upd H5 u (.tup [.int y,.int (j:Int)])=H6 at su h6 hut k6 hw6 ⊢;refine #[_,h6,zap .(a),r-1,by lia,by rw[yab];lia,us++[.ref u],_,rfl,zab,?_,λb o n e=>by rw[zag n];exact k6 b o n e];rw[htk3];exact (zaR h6 hw6).append (zaR h6 (.cons #[u,.int y,.int (j:Int),rfl,hut,rfl,rfl] .nil))
 .rintro U H5 ⟨us,x0,rfl,h5,hw5,k5⟩;rw[yab,yat (by unfold ownE;rw[yab];exact yaa _)]at hw5;exact q D3 us H5 hD3 (λx o e=>k5 x o (zad e hD3) e) h5 hw5
inductive zrq (K:Frag)(vs:List V)(H:Hp)(Q:VK)(w_1:XK):Prop
 | c:∀(st:Addr) (ps:List Nat) (rows:List (List Int)) (t rs:Addr) (as:List Addr) (k:Nat),vs=[.ref st,.int k]->zbz H st ps rows t rs as->k<ps.length+1->(∀(D:Addr) (qs:List Addr) (H':Hp),H D=none->Same H H'->H' D=some (.dK (zdQ (benL ps k (ps.length+1)).reverse qs))->qs.Nodup->(∀ q∈qs,H q=none)->zaK K H' ps rows (benL ps k (ps.length+1)).reverse qs->Q (.ref D) H')->zrq K vs H Q w_1
def ztq (T:Txt K mg)(qay:DF K mg "full_rows_beneath" zbb za5)(qen:FC P w K mg base 1 "beneath" zel (zgG K))(qdT:FC P w K mg base 1 "children" zdo (zfA K))(qb4:FC P w K mg base 6 "handed" zdL (zge K))(qc3:FC P w K mg base 1 "own_entries" zb9 (zrl K))(qbf:FC P w K mg base 1 "joined_up" zcf (zk2 K)):FC P w K mg base 7 "full_rows_beneath" za5 (zrq K):=by
 refine qay.ok qal .(c) .(b)
 .obtain ⟨st,ps,rows,t,rs,as,k,rfl,_⟩:=h;rfl
 obtain ⟨st,ps,rows,t,rs,as,k,rfl,S,hk,q⟩:=h;refine #[_,(zah (zas (i:=2) qal.nd rfl (Or.inl rfl) (zaL (zaG (K:=K)) (pv 0) zaf (λ_ _=>rfl)))
   (zah (zas (i:=3) qal.nd rfl (Or.inr rfl) zlg)
   (zah (zbn PassesOwn.never rfl (zke rfl T.qdR (zaa (zaA qen hr (zaa (pv 2) (zaa (pv 1) zac))) zac)) (zau (i:=4) qal.nd rfl (Or.inl rfl)) (zah (zeA (i:=5) (N:=["child","told"]) (own:=1) (cap:=[3]) qal.nd rfl rfl rfl (zcF (zaA qdT hr (zaa (pv 2) (zaa (pv 4) zac)))) #[rfl,rfl,rfl,rfl,rfl,rfl] (λ_ _ _ _ _=>(zau (i:=0) (show List.Nodup (["child","told"]:List Str) by decide +kernel) rfl (Or.inl rfl))) (λ_ _ _ _ _=>zb4) (λ_ _ _ _ _=>(zaA qb4 hr (zaa (zeB (zfh hr) (pv 1) (pv 0) (λ_ _=>rfl)) zac))))
   (zah (zbd (zfa F.plainAttrs_list F.slot_list_append F.type_list_append za0 (pv 5) (zaa (zaA qc3 hr (zaa (pv 0) (zaa (pv 4) zac))) zac)))
   (zae (zfE (zfh hr) (pv 3) (pv 4) (zaA qbf hr (zaa (pv 5) zac)) rfl)))))
   (zae (zaw (pv 3)))))),?_]
 refine #[_,rfl,_,_,_,_,rfl,rfl,SqT.of S.st,rfl,λD hD=>?_];have s0:=zai hD (.dK []);have hD0:upd H D (.dK []) D=some (.dK []):=zab;generalize upd H D (.dK [])=H0 at s0 hD0 ⊢;refine #[_,rfl,_,rfl,t,ps,k,rfl,s0 _ _ S.tr,S.T,hk,by have:=S.few;lia,λb H1 hb s1 h1=>?_];refine #[b,_,rfl,SqL.of h1,?_];have hup:=zkI ps k (ps.length+1);have hmem:=λj=>zcu (ps:=ps) (k:=k) (n:=ps.length+1) (j:=j);have hbl:=zlJ ps k (ps.length+1);generalize benL ps k (ps.length+1)=bs at h1 q hup hmem hbl ⊢;have hdn:bs.reverse.Pairwise (· > ·):=by
  rw[List.pairwise_reverse];exact hup
 have hnd:bs.reverse.Nodup:=List.Pairwise.imp (λ{a b} (q:a>b)=>ybG q) hdn;refine zsi (xs:=bs.map nV) (λi U H2=>∃(qs:List Addr) (x5 x6:Option V),U=[some (.ref st),some (.int k),some (.ref t),some (.ref D),x5,x6]/\H2 D=some (.dK (zdQ (bs.reverse.take i) qs))/\qs.Nodup/\(∀ q∈qs,H q=none)/\zaK K H2 ps rows (bs.reverse.take i) qs/\H2 b=some (.lst (bs.map nV))/\But D H H2) ?_ ?_ ?_ ?_
 .exact #[[],_,_,rfl,s1 _ _ hD0,ybw,(λq hq=>nomatch hq),.nil,h1,λx o _ e=>s1 _ _ (s0 _ _ e)]
 .rintro i U H2 _ ⟨qs,x5,x6,rfl,_,_,_,_,h2b,_⟩;exact SqL.of h2b
 .rintro i x U H2 hx ⟨qs,x5,x6,rfl,h2,hqn,hqf,hF,h2b,k2⟩;rw[<-List.map_reverse]at hx;obtain ⟨hi,hxe⟩:=zlD hx;have hji:bs.reverse[i]?=some (bs.reverse.getD i 0):=by
   rw[yaf,yac hi];rfl
  subst hxe;have htk:bs.reverse.take (i+1)=bs.reverse.take i++[bs.reverse.getD i 0]:=by
   rw[yaZ hi,yaf,yac hi];rfl
  rw[htk];generalize bs.reverse.getD i 0=j at hji htk ⊢;have hjm:j∈bs:=ycz.mp (yaM hji);obtain ⟨hjn,hjB⟩:=(hmem j).mp hjm;have hjnot:j∉bs.reverse.take i:=λz=>by
   have hnd':=hnd;rw[<-ya2 (i+1) bs.reverse,htk]at hnd';have:=(ybh.mp hnd').1;exact (ybh.mp this).2.2 j z j (yao.mpr rfl) rfl
  have noD:∀{p:Addr} {o:HO},H p=some o->p≠D:=λ{p o} e=>zad e hD;have S2:zbz H2 st ps rows t rs as:=#[k2 _ _ (noD S.st) S.st,k2 _ _ (noD S.tr) S.tr,k2 _ _ (noD S.rs) S.rs,zaQ.keep (p:=D) (d:=D) (λa row e=>noD e) k2 S.at_,S.len,S.T,S.R,S.few,S.keys];have hkeys:=S.keys;have hfew:=S.few;refine #[_,rfl,_,rfl,t,ps,j,rfl,S2.tr,by lia,λc H3 hc s3 h3=>?_];refine #[c,rfl,#[_,SqL.of h3],λD2 hD2=>?_];have hcmem:=λm=>zaF (ps:=ps) (k:=j) (n:=ps.length+1) (j:=m);have hcl:=zhO ps j (ps.length+1);have hparts:zc6 ps rows j=((zbB ps j (ps.length+1)).map λc=>zbZ (zal ps rows c))++[ownE rows j]:=rfl;generalize zbB ps j (ps.length+1)=cs at h3 hcmem hcl hparts ⊢;have h3D:=s3 _ _ h2;have nDD2:D≠D2:=zad h3D hD2;have F3:zaK K H3 ps rows (bs.reverse.take i) qs:=hF.same s3;refine zch (xs:=cs.map nV) (λm U H4=>∃(gs:List Addr) (x0:Option V),U=[x0,some (.ref D)]/\H4 D2=some (.lst (gs.map V.ref))/\Own K H4 gs ((cs.take m).map λc=>zbZ (zal ps rows c))/\D2∉gs/\But D2 H3 H4) ?_ ?_ ?_ ?_
  .exact #[[],_,rfl,zab,.nil,nofun,λb o n e=>by rw[zag n];exact e]
  .rintro m U H4 _ ⟨gs,x0,rfl,_,_,_,k4⟩;exact k4.sq (SqL.of h3) hD2
  .rintro m r x U H4 hx hm ⟨gs,x0,rfl,h4,hO,hg,k4⟩;obtain ⟨hmi,rfl⟩:=zlD hx;have hcm:cs[m]?=some (cs.getD m 0):=by
    rw[yaf,yac hmi];rfl
   have htk2:cs.take (m+1)=cs.take m++[cs.getD m 0]:=by
    rw[yaZ hmi,yaf,yac hmi];rfl
   rw[htk2];generalize cs.getD m 0=ch at hcm ⊢;obtain ⟨hchn,hchp⟩:=(hcmem ch).mp (yaM hcm);have hlt:=(zaN S.T hchp).1;have hin:ch∈bs.reverse.take i:=zql hdn hji (ycz.mpr ((hmem ch).mpr #[hchn,zpT S.T hjB hchp])) hlt;obtain ⟨u,hu,hue⟩:=yaW hin;have hu2:(bs.reverse.take i)[u]?=some ch:=by rw[yac hu,hue]
   obtain ⟨qq,hq1,ws,hq2,hq3⟩:=F3.get hu2;have hnd2:(bs.reverse.take i).Nodup:=hnd.sublist (List.take_sublist _ _);have hv:=zkq hnd2 hu2 hq1;have k4D:=k4 _ _ nDD2 h3D;have hq4:=k4 _ _ (zad hq2 hD2) hq2;have hq5:zan K H4 (zal ps rows ch) ws:=by
    have key:∀{es:List (Int×Int)} {vs:List V},zan K H3 es vs->zan K H4 es vs:=by
     intro es vs hh
     induction hh with
     | nil=>exact .nil
     | cons a _ ih=>
      obtain ⟨b,x1,x2,rfl,q,e1,e2⟩:=(show hasP K H3 _ _ from a);exact .cons #[b,x1,x2,rfl,k4 _ _ (zad q hD2) q,e1,e2] ih
    exact key hq3
   have hlen:=zdT S.T S.len (rows:=rows) hchn;refine zc0 ?_;have hdg:DGet H4 D (.int (ch:Int)) (some (.ref qq)):=by
    rw[<-hv];exact DGet.k (k:=kN ch) k4D
   refine #[_,rfl,_,rfl,D,_,rfl,hdg,?_];refine #[qq,ws,zal ps rows ch,rfl,hq4,hq5,by lia,zfj S.T S.R hfew hchn,zaJ S.T S.R hchn,λg H5 hg5 s5 h5=>?_];have hgl:=hO.length;rw[yab,yar]at hgl;have h5D2:=s5 _ _ h4;have ngD2:D2≠g:=zad h4 hg5;rw[yab]at hm;refine #[_,h5D2,zap .(G),r-1,by lia,by rw[yab];lia,gs++[g],_,rfl,?_,?_,?_,λx o n e=>by rw[zag n];exact s5 _ _ (k4 x o n e)]
   .rw[zab,yas];rfl
   .rw[yas];refine Own.other h5D2 (Own.append (hO.ext s5.ext) (.cons #[_,h5,?_] .nil)) ?_
    .exact zgy (hq5.mono s5.ext)
    .intro z;rcases yal.mp z with z|z
     .exact hg z
     .exact ngD2 (yao.mp z)
   .intro z;rcases yal.mp z with z|z
    .exact hg z
    .exact ngD2 (yao.mp z)
  .rintro U H4 ⟨gs,x0,rfl,h4,hO,hg,k4⟩;rw[yab,yat (yaa _)]at hO;have hgl:=hO.length;rw[yab]at hgl;have s34:Same H3 H4:=λx o e=>k4 x o (zad e hD2) e;have s24:Same H2 H4:=s3.trans s34;have S4:=S2.same s24;refine #[_,rfl,.inl #[rfl,_,SqL.of h4],_,rfl,_,rfl,st,ps,rows,t,rs,as,j,rfl,S4,hjn,λD3 us H5 hD3 s45 h5 hw5=>?_];have h5D2:=s45 _ _ h4;have n23:D2≠D3:=zad h4 hD3;refine #[_,_,_,rfl,rfl,h5D2,zap .(G),?_];have O5:Own K H5 (gs++[D3]) (zc6 ps rows j):=by
    rw[hparts];exact Own.append (hO.ext s45.ext) (.cons #[us,h5,hw5] .nil)
   have nin:D2∉gs++[D3]:=λz=>by
    rcases yal.mp z with z|z
    .exact hg z
    .exact n23 (yao.mp z)
   have O6:=O5.other (o:=.lst (gs.map V.ref++[.ref D3])) h5D2 nin;have h6:upd H5 D2 (.lst (gs.map V.ref++[.ref D3])) D2=some (.lst ((gs++[D3]).map V.ref)):=by
    rw[zab,yas];rfl
   have k26:∀ x o,H2 x=some o->upd H5 D2 (.lst (gs.map V.ref++[.ref D3])) x=some o:=λx o e=>by
    rw[zag (zad (s3 _ _ e) hD2)];exact s45 _ _ (s24 _ _ e)
   generalize upd H5 D2 (.lst (gs.map V.ref++[.ref D3]))=H6 at O6 h6 k26 ⊢;have hfl:(zc6 ps rows j).flatten.length<=1000:=by
    have:=zdT S.T S.len (rows:=rows) hjn;rw[zbv S.T hjn,zcP]at this;lia
   refine #[_,rfl,D2,gs++[D3],zc6 ps rows j,rfl,h6,O6,hfl,λp ws H7 hp s7 h7 hw7=>?_];rw[<-zbv S.T hjn]at hw7;have s27:Same H2 H7:=λx o e=>s7 _ _ (k26 x o e);have h7D:=s27 _ _ h2;have hql:=hF.length;have hpD:p≠D:=Ne.symm (zad (k26 _ _ h2) hp);refine #[_,rfl,_,rfl,D,_,rfl,DPut.k (k:=kN j) h7D (zap (by rw[znY hql,yar,ycE];lia)),?_];rw[zr0 hql hjnot];have e78:Ext H7 (upd H7 D (.dK (zdQ (bs.reverse.take i++[j]) (qs++[p])))):=λx o e n=>by
    rw[zag (λz=>by
     rw[z,h7D]at e;cases e
     exact n _ rfl)]
    exact e
   have F8:zaK K (upd H7 D (.dK (zdQ (bs.reverse.take i++[j]) (qs++[p])))) ps rows (bs.reverse.take i++[j]) (qs++[p]):=by
    exact zaK.ext e78 (zaK.snoc (hF.same s27) #[ws,h7,hw7])
   refine #[qs++[p],_,_,rfl,zab,?_,?_,F8,?_,λx o n e=>?_]
   .rw[ybh];refine #[hqn,ya4.mpr #[nofun,ybw],λa ha b hb z=>?_];rw[yao.mp hb]at z;subst z;obtain ⟨ws',hws⟩:=hF.alloc a ha;have:=k26 _ _ hws;rw[hp]at this;cases this
   .intro x hx;rcases yal.mp hx with z|z
    .exact hqf x z
    .rw[yao.mp z];cases e:H p with
     | none=>rfl
     | some o=>
      have:=k26 _ _ (k2 p o hpD e);rw[hp]at this;cases this
   .rw[zag (λz=>by rw[z,h2]at h2b;cases h2b)]
    exact s27 _ _ h2b
   .rw[zag n];exact s27 _ _ (k2 x o n e)
 .rintro U H2 ⟨qs,x5,x6,rfl,h2,hqn,hqf,hF,h2b,k2⟩;refine .(z);rw[yab,yat (by rw[ycE];exact yaa _)]at h2 hF;exact q D qs H2 hD (λx o e=>k2 x o (zad e hD) e) h2 hqn hqf hF
inductive zka (K:Frag)(vs:List V)(H:Hp)(Q:VK)(w_1:XK):Prop
 | c:∀(st:Addr) (ps:List Nat) (rows:List (List Int)) (t rs:Addr) (as:List Addr),vs=[.ref st]->zbz H st ps rows t rs as->(∀(p:Addr) (qs:List Addr) (H':Hp),H p=none->Same H H'->H' p=some (.lst (qs.map V.ref))->qs.Nodup->(∀ q∈qs,H q=none)->p∉qs->zaK K H' ps rows (List.range (ps.length+1)) qs->Q (.ref p) H')->zka K vs H Q w_1
def zir {n i:Nat}(h:i<n):(List.range n).reverse[n-1-i]?=some i:=by
 rw[ydb (by rw[ybr];lia),ybr,ycY .(a)];congr 1;lia
def zpE (T:Txt K mg)(qbg:DF K mg "full_rows" zde zcW)(qbh:FC P w K mg base 7 "full_rows_beneath" za5 (zrq K)):FC P w K mg base 8 "full_rows" zcW (zka K):=by
 refine qbg.ok qbJ .(c) .(b)
 .obtain ⟨st,ps,rows,t,rs,as,rfl,_⟩:=h;rfl
 obtain ⟨st,ps,rows,t,rs,as,rfl,S,q⟩:=h;refine #[_,(zah (zas (i:=1) qbJ.nd rfl (Or.inr rfl) (zaA qbh hr (zaa (pv 0) (zaa zaf zac))))
   (zae (zaw (zbU (N:=["knot","told"]) (own:=1) (cap:=[1]) rfl (zaZ rfl T.qat (zaa (zam (zak (K:=K)) rfl T.qas boot_len (zaa (zaL (zaG (K:=K)) (pv 0) zaf (λ_ _=>rfl)) zac)) zac)) #[rfl,rfl,rfl,rfl,rfl,rfl] (λ_ _ _ _ _=>(zau (i:=0) (show List.Nodup (["knot","told"]:List Str) by decide +kernel) rfl (Or.inl rfl))) (λ_ _ _ _ _=>zb4) (λ_ _ _ _ _=>(zeB (zfh hr) (pv 1) (pv 0) (λ_ _=>rfl))))))),?_]
 refine #[_,rfl,st,ps,rows,t,rs,as,0,rfl,S,by lia,λD qs H1 hD s1 h1 hqn hqf hF=>?_];rw[zoH S.T]at h1 hF;have S1:=S.same s1;have hfew:=S.few;have hql:=hF.length;rw[ycE,ybr]at hql;refine #[_,rfl,_,_,_,_,rfl,rfl,SqT.of S1.st,rfl,_,_,rfl,.inr (SqT.of S1.tr),_,rfl,by lia,by rw[zao];lia,λp hp=>?_];have el:((((zba ps).length:Nat):Int)).toNat=ps.length+1:=by rw[zao,ybe]
 rw[el];refine zb7 (n:=ps.length+1) (λi U H2=>∃ x0:Option V,U=[x0,some (.ref D)]/\H2 p=some (.lst ((qs.reverse.take i).map V.ref))/\But p H1 H2) ?_ ?_ ?_
 .exact .(D)
 .rintro i m U H2 hm hi ⟨x0,rfl,h2,k2⟩;rw[ybi];have hi2:i<qs.reverse.length:=by rw[ycE];lia
  have hq1:qs[ps.length+1-1-i]?=some qs.reverse[i]:=by
   have:=ydb (l:=qs) (i:=i) .(a);rw[yac hi2]at this;rw[this];congr 1;lia
  have hv:=zkq (zjp List.nodup_range) (zir hi) hq1;have h2D:=k2 _ _ (zad h1 hp) h1;have hdg:DGet H2 D (.int (i:Int)) (some (.ref qs.reverse[i])):=by
   rw[<-hv];exact DGet.k (k:=kN i) h2D
  refine zc0 ?_;refine #[_,rfl,_,rfl,D,_,rfl,hdg,?_];refine #[_,h2,zap (by rw[yab,yar];lia),m-1,by lia,by lia,_,rfl,?_,λb o n e=>by rw[zag n];exact k2 b o n e];rw[zab,yaZ hi2,yas];rfl
 .rintro U H2 ⟨x0,rfl,h2,k2⟩;rw[yat (by rw[ycE];lia)]at h2;have s2:Same H1 H2:=λb o e=>k2 b o (zad e hp) e;have F2:=(hF.same s2).rev;rw[yc8]at F2;refine q p qs.reverse H2 ?_ (s1.trans s2) h2 (zjp hqn) (λx hx=>hqf x (ycz.mp hx)) (λz=>?_) F2
  .cases e:H p with
   | none=>rfl
   | some o=>
    have:=s1 _ _ e;rw[hp]at this;cases this
  .obtain ⟨ws,hws⟩:=hF.alloc p (ycz.mp z);rw[hp]at hws;cases hws
abbrev En:=Int×Int
def zed (h:Rise l):l.Nodup:=List.Pairwise.imp (λ{a b} (q:pLt a b=true) z=>by
 subst z;have:=zc2.mp q;lia) h
def zfC (h1:Rise l)(h2:Rise m)(h:∀ e,e∈l↔e∈m):l=m:=by
 refine List.Perm.eq_of_pairwise (le:=λa b=>pLt a b=true) (λa b _ _ q1 q2=>?_) h1 h2 ((yde (zed h1) (zed h2)).mpr h);have:=zc2.mp q1;have:=zc2.mp q2;lia
def zbu (T:zax ps){k:Nat}(hk:k<ps.length+1){e:En}:e∈zal ps rows k↔e∈ownE rows k\/∃ c,par ps c=some k/\e∈zbZ (zal ps rows c):=by
 rw[zbv T hk,zdI,yc1];unfold zc6;constructor
 .rintro ⟨l,hl,he⟩;rcases yal.mp hl with q|q
  .obtain ⟨c,hc,rfl⟩:=yaE.mp q;exact .inr #[c,(zaF.mp hc).2,he]
  .rw[yao.mp q]at he;exact .inl he
 .rintro (h|⟨c,hc,h⟩)
  .exact #[_,yal.mpr (.inr (yao.mpr rfl)),h]
  .exact #[_,yal.mpr (.inl (yaE.mpr #[c,zaF.mpr #[(zaN T hc).2,hc],rfl])),h]
inductive zhd (K:Frag)(H:Hp):V->Bool->Prop where
 | int (i:Int):zhd K H (.int i) true
 | bl (b:Bool):zhd K H (.bl b) false
 | oth (x:V) (t:String) (ty:TyOf K H x (.type t)) (h2:kitO t "int" = some false):zhd K H x false
inductive zgD (K:Frag)(vs:List V)(H:Hp)(Q:VK)(w_1:XK):Prop
 | c:∀(x:V) (b:Bool),vs=[x]->zhd K H x b->Q (.bl b) H->zgD K vs H Q w_1
def zpq (T:Txt K mg)(qbu:DF K mg "is_whole" zeb zb5):FC P w K mg base 1 "is_whole" zb5 (zgD K):=by
 refine qbu.ok qds .(c) .(b)
 .obtain ⟨x,b,rfl,_⟩:=h;rfl
 obtain ⟨x,b,rfl,hk,q⟩:=h;refine #[_,(zae (zaw (zli (zam (zfp (K:=K)) rfl T.qah boot_isinstance (zaa (pv 0) (zaa (zcG (v:=.ty "int") rfl T.qeX boot_int rfl) zac))) (zlf (zta (zam (zfp (K:=K)) rfl T.qah boot_isinstance (zaa (pv 0) (zaa (zcG (v:=.ty "bool") rfl T.qeV boot_bool rfl) zac)))))))),?_];cases hk with
 | int i=>
  refine #[_,rfl,_,_,_,_,rfl,.int _,zqH,_,rfl,?_];refine iteT ?_;refine #[_,rfl,_,_,_,_,rfl,.int _,zqI,_,rfl,?_];exact q
 | bl c=>
  refine #[_,rfl,_,_,_,_,rfl,.bl _,(show kitO "bool" "int" = some true by decide +kernel),_,rfl,?_];refine iteT ?_;refine #[_,rfl,_,_,_,_,rfl,.bl _,ztC,_,rfl,?_];exact q
 | oth x t ty h2=>
  refine #[_,rfl,_,_,_,_,rfl,ty,h2,_,rfl,?_];refine iteF ?_;exact q
inductive zqn (K:Frag)(H:Hp):V->Bool->Prop where
 | int (i:Int) (b:Bool) (h:b=decide ((if i<0 then -i else i)<10^60)):zqn K H (.int i) b
 | bl (b:Bool):zqn K H (.bl b) false
 | oth (x:V) (t:String) (ty:TyOf K H x (.type t)) (h1:kitO t "bool" = some false) (h2:kitO t "int" = some false):zqn K H x false
inductive zib (K:Frag)(vs:List V)(H:Hp)(Q:VK)(w_1:XK):Prop
 | c:∀(x:V) (b:Bool),vs=[x]->zqn K H x b->Q (.bl b) H->zib K vs H Q w_1
def zpC (T:Txt K mg)(qc4:DF K mg "is_key" zgp zdK)(qaU:FC P w K mg base 1 "is_whole" zb5 (zgD K)):FC P w K mg base 2 "is_key" zdK (zib K):=by
 refine qc4.ok qef .(c) .(b)
 .obtain ⟨x,b,rfl,_⟩:=h;rfl
 obtain ⟨x,b,rfl,hk,q⟩:=h;refine #[_,(zae (zaw (zli (zaA qaU hr (zaa (pv 0) zac)) (zlf (zgJ zhi (zam ziT rfl T.qeW boot_abs (zaa (pv 0) zac)) (zav zhx zaf zaf) (zaE _)))))),?_];cases hk with
 | int i b hb=>
  refine #[_,rfl,_,true,rfl,.int i,_,rfl,?_];refine iteT ?_;refine #[_,rfl,_,rfl,_,_,rfl,rfl,#[by decide,by decide,by decide],_,_,rfl,rfl,?_];rw[hb]at q;exact q
 | bl c=>
  refine #[_,rfl,_,false,rfl,.bl c,_,rfl,?_];refine iteF ?_;exact q
 | oth x t ty h1 h2=>
  refine #[_,rfl,_,false,rfl,.oth x t ty h2,_,rfl,?_];refine iteF ?_;exact q
inductive zid (K:Frag)(vs:List V)(H:Hp)(Q:VK)(w_1:XK):Prop
 | c:∀(m x:Int),vs=[.int m,.int x]->0<=x->x<m->Q (.bl true) H->zid K vs H Q w_1
def zpG (T:Txt K mg)(qan:DF K mg "is_one_of_first" za6 zaH)(qaU:FC P w K mg base 1 "is_whole" zb5 (zgD K)):FC P w K mg base 2 "is_one_of_first" zaH (zid K):=by
 refine qan.ok qaR .(c) .(b)
 .obtain ⟨m,x,rfl,_⟩:=h;rfl
 obtain ⟨m,x,rfl,h0,h1,q⟩:=h;refine #[_,(zae (zaw (zli (zaA qaU hr (zaa (pv 1) zac)) (zlf (zlh zpp zhi zaf (pv 1) (pv 0)))))),?_];refine #[_,rfl,_,true,rfl,.int x,_,rfl,?_];refine iteT ?_;refine #[_,rfl,_,_,rfl,rfl,_,rfl,?_];refine zr5 h0 ?_;refine #[_,rfl,_,_,rfl,rfl,?_];show Q (.bl (decide (x<m))) H;rw[yah h1];exact q
def zhR (x:Key):Prop:=∃ a:Int,x=.inl a/\-(10^60)<a/\a<10^60
def toI:Key->Int
 | .inl a=>a
 | _=>0
def zry {kvs:List (Key×V)}{v:V}(h1:(kvs.map (·.1)).Nodup)(h2:∀ y∈kvs.map (·.1),zhR y)(hx:zhR x):((putK kvs x v).map (·.1)).Nodup/\∀ y∈(putK kvs x v).map (·.1),zhR y:=by
 rw[zni];split
 .exact #[h1,h2]
 .rename_i c;refine #[?_,λy hy=>?_]
  .rw[ybh];refine #[h1,ya4.mpr #[nofun,ybw],λa ha b hb z=>?_];rw[yao.mp hb]at z;subst z;obtain ⟨p,hp,e⟩:=yaE.mp ha;exact c (List.any_eq_true.mpr #[p,hp,yah e])
  .rcases yal.mp hy with z|z
   .exact h2 y z
   .rw[yao.mp z];exact hx
def zf2:∀{l:List Key},(∀ y∈l,zhR y)->l.map kV=(l.map toI).map V.int
 | [],_=>rfl
 | x::l,h=>by
  obtain ⟨a,rfl,_⟩:=h x yaB;show V.int a::l.map kV=V.int a::(l.map toI).map V.int;rw[zf2 λy hy=>h y (yaz _ hy)]
def zi7:∀{l:List Key},l.Nodup->(∀ y∈l,zhR y)->(l.map toI).Nodup
 | [],_,_=>ybw
 | x::l,hn,h=>by
  rw[yav,ya4];have hc:=ya4.mp hn;refine #[λz=>?_,zi7 hc.2 λy hy=>h y (yaz _ hy)];obtain ⟨y,hy,e⟩:=yaE.mp z;obtain ⟨a,rfl,_⟩:=h x yaB;obtain ⟨b,rfl,_⟩:=h y (yaz _ hy);have:b=a:=e;subst this;exact hc.1 hy
inductive zrk (K:Frag)(vs:List V)(H:Hp)(Q:VK)(w_1:XK):Prop
 | c:∀(d L:Addr) (m:Int),vs=[.ref d,.int m]->(0<=m/\m<=40)->LS K L d H->(∀(a:Addr) (row:List Int) (H':Hp),H a=none->row.Pairwise (· < ·)->(∀ x∈row,-(10^60)<x/\x<10^60)->(row.length:Int)<=m->H' a=some (.tup (row.map V.int))->Keep d H H'->LS K L d H'->Q (.ref a) H')->zrk K vs H Q w_1
def zrK (T:Txt K mg)(qdB:DF K mg "_law_row" zil zgu)(qad:FC P w K mg base 2 "_law_take" zbP (zfV K))(qdC:FC P w K mg base 3 "_law_key" ze6 (zo4 K)):FC P w K mg base 4 "_law_row" zgu (zrk K):=by
 refine qdB.ok qcU .(c) .(b)
 .obtain ⟨d,L,m,rfl,_⟩:=h;rfl
 obtain ⟨d,L,m,rfl,⟨hm0,hm1⟩,hs,q⟩:=h;refine #[_,(zah (zas (i:=2) qcU.nd rfl (Or.inl rfl) zlg)
   (zah (zbn PassesOwn.never rfl (zaZ rfl T.qat (zaa (zaA qad hr (zaa (pv 0) (zaa (zav za8 (pv 1) zaf) zac))) zac)) (zau (i:=3) qcU.nd rfl (Or.inl rfl)) (zae (zfE (zfh hr) (pv 2) (zaA qdC hr (zaa (pv 0) zac)) zew rfl)))
   (zae (zaw (zaU (zaP (K:=K)) rfl T.qaE boot_tuple (zaa (zam (zeu Int) rfl T.qbc boot_sorted (zaa (zaU (zmo rfl) rfl T.qbK boot_list (zaa (pv 2) zac)) zac)) zac)))))),?_]
 intro g hg;have ngd:g≠d:=λz=>by
  obtain ⟨_,_,_,e,_⟩:=hs.ex;rw[<-z,hg]at e;cases e
 refine #[_,rfl,_,rfl,_,_,rfl,rfl,d,L,m+1,rfl,#[by lia,by lia],hs.of_new hg _,λn H1 n0 n1 k1 s1=>#[_,rfl,by lia,by lia,?_]];refine zbj (n:=n.toNat) (λi U H2=>∃(kvs:List (Key×V)) (x3:Option V),U=[some (.ref d),some (.int m),some (.ref g),x3]/\H2 g=some (.dK kvs)/\kvs.length<=i/\(kvs.map (·.1)).Nodup/\(∀ y∈kvs.map (·.1),zhR y)/\(∀ b o,b≠d->b≠g->H b=some o->H2 b=some o)/\LS K L d H2) ?_ ?_ ?_
 .exact #[[],_,rfl,k1 g _ ngd zab,yaa _,ybw,λy hy=>(by simp at hy),λb o b1 b2 e=>k1 b o b1 (by rw[zag b2];exact e),s1]
 .rintro i U H2 hi ⟨kvs,x3,rfl,h2,hl,hn,hy,kk,s2⟩;refine #[_,rfl,_,rfl,d,L,rfl,s2,λv H3 v0 v1 k3 s3=>?_];have h3:H3 g=some (.dK kvs):=k3 g _ ngd h2;obtain ⟨p1,p2⟩:=zry (v:=.bl true) hn hy (x:=.inl v) #[v,rfl,v0,v1];refine #[g,_,rfl,DPut.k (k:=.inl v) (kvs:=kvs) h3 (zap .(a)),?_];refine #[putK kvs (.inl v) (.bl true),_,rfl,zab,?_,p1,p2,?_,?_]
  .have:=zds kvs (Sum.inl v:Key) (.bl true);lia
  .intro b o b1 b2 e;rw[zag b2];exact k3 b o b1 (kk b o b1 b2 e)
  .exact LS.put hs hg (λb o b1 b2 e=>k3 b o b1 (kk b o b1 b2 e)) s3
 .rintro U H2 ⟨kvs,x3,rfl,h2,hl,hn,hy,kk,s2⟩;refine #[_,rfl,g,kvs,rfl,h2,λl hl1=>?_];have ei:kvs.map (λkv=>kV kv.1)=((kvs.map (·.1)).map toI).map V.int:=by
   rw[<-zf2 hy,ybM];rfl
  rw[ei];have e1:=zai hl1 (.lst (((kvs.map (·.1)).map toI).map V.int));refine #[l,_,_,rfl,SqL.of zab,zan.ints,λl2 ws hl2 hw=>?_];rw[hw.toInts];have e2:=zai hl2 (.lst ((zcB ((kvs.map (·.1)).map toI)).map V.int));refine #[l2,_,rfl,.inl #[SqL.of zab,λa ha=>?_]];have e3:=zai ha (.tup ((zcB ((kvs.map (·.1)).map toI)).map V.int));have e13:=e1.trans (e2.trans e3);have free:H a=none:=by
   have z2:H2 a=none:=e1.free (e2.free ha);cases z:H a with
   | none=>rfl
   | some o=>
    by_cases c1:a=d
    .obtain ⟨_,_,_,e,_⟩:=s2.ex;rw[<-c1,z2]at e;cases e
    .by_cases c2:a=g
     .rw[c2,h2]at z2;cases z2
     .rw[kk a o c1 c2 z]at z2;cases z2
  refine q a _ _ free ?_ (λx hx=>?_) ?_ zab (λb o b1 e=>e13 _ _ (kk b o b1 (zad e hg) e)) (s2.same e13)
  .exact List.Pairwise.imp (λ{a b} (h:Srt.blt a b=true)=>yaH h) (zd2 (zi7 hn hy))
  .rw[zdI]at hx;obtain ⟨y,hy2,rfl⟩:=yaE.mp hx;obtain ⟨a,rfl,h1,h2⟩:=hy y hy2;exact #[h1,h2]
  .rw[zcP,yab,yab];lia
inductive zmX (K:Frag)(vs:List V)(H:Hp)(Q:VK)(w_1:XK):Prop
 | c:∀(d L:Addr) (n m:Nat),vs=[.ref d,.int n,.int m]->n<=40->m<=40->LS K L d H->(∀(r:Addr) (as:List Addr) (rows:List (List Int)) (H':Hp),H r=none->zaQ H' as rows->rows.length=n->zaD rows->(∀ row∈rows,row.length<=m)->H' r=some (.tup (as.map V.ref))->Keep d H H'->LS K L d H'->Q (.ref r) H')->zmX K vs H Q w_1
def zaD.snoc {rows:List .(j)}{row:List Int}(R:zaD rows)(h1:row.Pairwise .(O))(h2:∀ x∈row,-(10^60)<x/\x<10^60):zaD (rows++[row]):=by
 refine #[λr hr=>?_,λr hr=>?_]
 .rcases yal.mp hr with z|z
  .exact R.up r z
  .rw[yao.mp z];exact h1
 .rcases yal.mp hr with z|z
  .exact R.key r z
  .rw[yao.mp z];exact h2
def zpy (T:Txt K mg)(qc5:DF K mg "_law_rows" zgm ze5)(qad:FC P w K mg base 2 "_law_take" zbP (zfV K))(qe5:FC P w K mg base 4 "_law_row" zgu (zrk K)):FC P w K mg base 5 "_law_rows" ze5 (zmX K):=by
 refine qc5.ok qaT .(c) .(b)
 .obtain ⟨d,L,n,m,rfl,_⟩:=h;rfl
 obtain ⟨d,L,n,m,rfl,hn,hm,hs,q⟩:=h;refine #[_,(zah (zas (i:=3) qaT.nd rfl (Or.inl rfl) (zbS zac))
   (zah (zbn PassesOwn.never rfl (zaZ rfl T.qat (zaa (pv 1) zac)) (zau (i:=4) qaT.nd rfl (Or.inl rfl)) (zah (zas (i:=5) qaT.nd rfl (Or.inl rfl) (zaA qe5 hr (zaa (pv 0) (zaa (pv 2) zac))))
   (zaB (zaW (zat zdO (zaA qad hr (zaa (pv 0) (zaa zaf zac))) zaf (zaE _)) (zae (zas (i:=5) qaT.nd rfl (Or.inl rfl) (zaT zac))) zay)
   (zaB (zaW (PW.pt (zfW (zat znu (pv 4) zaf (zaE _)) (zdJ (zat zdO (zaA qad hr (zaa (pv 0) (zaa zaf zac))) zaf (zaE _))))) (zae (zas (i:=5) qaT.nd rfl (Or.inl rfl) (zaL (zaC (K:=K)) (pv 3) (zav zbV (pv 4) zaf) (λ_ _=>rfl)))) zay)
   (zae (zbd (zfa F.plainAttrs_list F.slot_list_append F.type_list_append za0 (pv 3) (zaa (pv 5) zac))))))))
   (zae (zaw (zaU (zaP (K:=K)) rfl T.qaE boot_tuple (zaa (pv 3) zac)))))),?_]
 refine #[.(F),λp hp=>?_];have g0:=zai hp .(M);have ndT:∀{H':Hp} {a:Addr} {o:List V},LS K L d H'->H' a=some (.tup o)->a≠d:=λ{H' a o} s e z=>by
  obtain ⟨_,_,_,e2,_⟩:=s.ex;rw[<-z,e]at e2;cases e2
 have nd:∀{H':Hp} {a:Addr},LS K L d H'->H' a=none->a≠d:=λ{H' a} s e z=>by
  obtain ⟨_,_,_,e2,_⟩:=s.ex;rw[<-z,e]at e2;cases e2
 have hpd:p≠d:=nd hs hp;refine #[_,rfl,_,rfl,by lia,by lia,?_];rw[ybe];refine zbj (n:=n) (λi U H2=>∃(as:List Addr) (rows:List (List Int)) (x4 x5:Option V),U=[some (.ref d),some (.int n),some (.int m),some (.ref p),x4,x5]/\H2 p=some (.lst .(C))/\zaQ H2 as rows/\rows.length=i/\zaD rows/\(∀ row∈rows,row.length<=m)/\(∀ b o,b≠d->b≠p->H b=some o->H2 b=some o)/\LS K L d H2) ?_ ?_ ?_
 .exact #[[],[],_,_,rfl,zab,.nil,rfl,#[(λr hr=>nomatch hr),(λr hr=>nomatch hr)],(λr hr=>nomatch hr),λb o _ n e=>g0 b o e,hs.same g0]
 .rintro i U H2 hi ⟨as,rows,x4,x5,rfl,h2,hA,hl,hR,hlen,k2,s2⟩;rw[ybi];have hal:=hA.length;have old:∀{H3:Hp} {b:Addr} {o:HO},(∀ b o,b≠d->H2 b=some o->H3 b=some o)->b≠d->b≠p->H b=some o->H3 b=some o:=λk n1 n2 e=>k _ _ n1 (k2 _ _ n1 n2 e);refine #[_,rfl,_,rfl,d,L,m,rfl,#[by lia,by lia],s2,λa row H3 ha hup hky hlr h3 k3 s3=>?_];refine #[λU' H'=>∃(a:Addr) (row:List Int),U'=[some (.ref d),some (.int n),some (.int m),some (.ref p),some (.int i),some (.ref a)]/\H' a=some (.tup (row.map V.int))/\row.Pairwise .(O)/\(∀ x∈row,-(10^60)<x/\x<10^60)/\row.length<=m/\(∀ b o,b≠d->H2 b=some o->H' b=some o)/\LS K L d H',?_,?_]
  .refine #[_,rfl,d,L,4,rfl,by decide,s3,λv H4 _ _ k4 s4=>#[rfl,_,rfl,?_]];have h4:=k4 _ _ (ndT s3 h3) h3;refine ite2 (λ_=>?_) (λ_=>?_)
   .refine #[.(F),λu hu=>?_];have su:=zai hu (.tup []);exact #[u,[],rfl,zab,.nil,(λx hx=>nomatch hx),yaF _,λb o n1 e=>su _ _ (k4 _ _ n1 (k3 _ _ n1 e)),s4.same su]
   .exact #[a,row,rfl,h4,hup,hky,by lia,λb o n1 e=>k4 _ _ n1 (k3 _ _ n1 e),s4]
  rintro U' H4 ⟨a,row,rfl,h4,hup,hky,hlr,k4,s4⟩;refine #[λU' H'=>∃(a:Addr) (row:List Int),U'=[some (.ref d),some (.int n),some (.int m),some (.ref p),some (.int i),some (.ref a)]/\H' a=some (.tup (row.map V.int))/\row.Pairwise .(O)/\(∀ x∈row,-(10^60)<x/\x<10^60)/\row.length<=m/\(∀ b o,b≠d->H2 b=some o->H' b=some o)/\LS K L d H',?_,?_]
  .refine #[_,rfl,_,_,rfl,rfl,_,rfl,?_];refine ite2 .(u) .(u)
   .have c':(0:Int)<(i:Int):=yaH c;refine #[_,rfl,d,L,4,rfl,by decide,s4,λv H5 _ _ k5 s5=>#[rfl,_,rfl,?_]];have h5:=k5 _ _ (ndT s4 h4) h4;refine ite2 (λ_=>?_) (λ_=>?_)
    .have h5p:H5 p=some (.lst .(C)):=k5 _ _ hpd (k4 _ _ hpd h2);obtain ⟨b,hb1,hb2⟩:=hA.get (k:=i-1) .(a);have hb5:=k5 _ _ (ndT s4 (k4 _ _ (ndT s2 hb2) hb2)) (k4 _ _ (ndT s2 hb2) hb2);have hat:atI .(C) ((i:Int)-1)=some (.ref b):=by
      rw[show (i:Int)-1=((i-1:Nat):Int) by lia];exact zb1 hb1
     refine #[_,rfl,_,rfl,_,_,rfl,rfl,_,_,_,_,rfl,rfl,SqL.of h5p,hat,?_];have hmem:zaq rows (i-1)∈rows:=by
      unfold zaq;rw[yaf,yac (show i-1<rows.length by lia)];exact yaR _
     exact #[b,zaq rows (i-1),rfl,hb5,hR.up _ hmem,hR.key _ hmem,hlen _ hmem,λb o n1 e=>k5 _ _ n1 (k4 _ _ n1 e),s5]
    .exact #[a,row,rfl,h5,hup,hky,hlr,λb o n1 e=>k5 _ _ n1 (k4 _ _ n1 e),s5]
   .refine iteF ?_;exact #[a,row,rfl,h4,hup,hky,hlr,k4,s4]
  rintro U' H5 ⟨a,row,rfl,h5,hup,hky,hlr,k5,s5⟩;have h5p:H5 p=some (.lst .(C)):=k5 _ _ hpd h2;have keep:∀ b o,b≠p->H5 b=some o->upd H5 p (.lst (as.map V.ref++[.ref a])) b=some o:=λb o n e=>by rw[zag n];exact e
  have ntp:∀{b:Addr} {o:List V},H5 b=some (.tup o)->b≠p:=λ{b o} e z=>by
   rw[z,h5p]at e;cases e
  refine #[_,rfl,.inl #[rfl,_,SqL.of h5p],_,rfl,_,_,_,rfl,rfl,h5p,zap .(G),?_];refine #[as++[a],rows++[row],_,_,rfl,?_,?_,by rw[yan,yaU,hl],hR.snoc hup hky,λr hr=>?_,λb o n1 n2 e=>keep _ _ n2 (k5 _ _ n1 (k2 _ _ n1 n2 e)),?_]
  .rw[zab,yas];rfl
  .refine zaQ.snoc ?_ (keep _ _ (ntp h5) h5);have hA5:zaQ H5 as rows:=zaQ.keep (p:=d) (λa row e=>ndT s2 e) k5 hA;exact zaQ.keep (p:=p) (d:=p) (λa row e=>ntp e) keep hA5
  .rcases yal.mp hr with z|z
   .exact hlen r z
   .rw[yao.mp z];exact hlr
  .exact LS.put hs hp (λb o n1 n2 e=>k5 _ _ n1 (k2 _ _ n1 n2 e)) s5
 .rintro U H2 ⟨as,rows,x4,x5,rfl,h2,hA,hl,hR,hlen,k2,s2⟩;refine #[_,rfl,p,_,rfl,.inl #[SqL.of h2,λt ht=>?_]];have sn:=zai ht (.tup .(C));have ht0:H t=none:=by
   cases e:H t with
   | none=>rfl
   | some o=>
    have:=k2 t o (nd s2 ht) (Ne.symm (zad h2 ht)) e;rw[ht]at this;cases this
  exact q t as rows _ ht0 (hA.ext sn) hl hR hlen zab (λb o n e=>sn _ _ (k2 b o n (zad e hp) e)) (s2.same sn)
def zqj :atI (zba ps) 0=some .non:=by
 have h:=zeH (ps:=ps) (k:=0) .(a);rw[zgK rfl]at h;exact h
inductive zh6 (K:Frag)(vs:List V)(H:Hp)(Q:VK)(w_1:XK):Prop
 | c:∀(t:Addr) (ps:List Nat),vs=[.ref t]->H t=some (.tup (zba ps))->zax ps->ps.length<=39->(∀ H',Same H H'->Q (.ref t) H')->zh6 K vs H Q w_1
def zny (T:Txt K mg)(qcp:DF K mg "tree_of" zeQ zef)(qau:FC P w K mg base 2 "is_one_of_first" zaH (zid K)):FC P w K mg base 3 "tree_of" zef (zh6 K):=by
 refine qcp.ok qcQ .(c) .(b)
 .obtain ⟨t,ps,rfl,_⟩:=h;rfl
 obtain ⟨t,ps,rfl,ht,hT,hz,q⟩:=h;refine #[_,(zaB (zaW (zcU (zbI (zam zfP rfl T.qah boot_isinstance (zaa (pv 0) (zaa (zaT (zaa (zcG (v:=.ty "list") rfl T.qbK boot_list rfl) (zaa (zcG (v:=.ty "tuple") rfl T.qaE boot_tuple rfl) zac))) zac))))) (zae za4) zay)
   (zaB (zaW (zcU (zpe zpp zpp zaf (zam (zak (K:=K)) rfl T.qas boot_len (zaa (pv 0) zac)) (zdp rfl T.qa3))) (zae za4) zay)
   (zaB (zaW (zat zki (zaL (zaG (K:=K)) (pv 0) zaf (λ_ _=>rfl)) zgI (zaE _)) (zae za4) zay)
   (zah (zbn PassesOwn.never rfl (zdM rfl T.qat (zaa zaf (zaa (zam (zak (K:=K)) rfl T.qas boot_len (zaa (pv 0) zac)) zac))) (zau (i:=1) qcQ.nd rfl (Or.inl rfl)) (zae (zaW (zcU (zbI (zaA qau hr (zaa (pv 1) (zaa (zaL (zaG (K:=K)) (pv 0) (pv 1) (λ_ _=>rfl)) zac))))) (zae za4) zay)))
   (zae (zaw (zaU (zaP (K:=K)) rfl T.qaE boot_tuple (zaa (pv 0) zac)))))))),?_]
 refine #[λU' H'=>U'=[some (.ref t),none]/\Same H H',?_,?_]
 .refine #[_,rfl,.(m),λp hp=>?_];have sp:=zai hp (.tup [.ty "list",.ty "tuple"]);refine #[t,p,rfl,zab,.inr #[_,sp _ _ ht],_,rfl,?_];refine iteF ?_;exact #[rfl,sp]
 rintro U' H1 ⟨rfl,s1⟩;have h1:=s1 _ _ ht;refine #[λU' H'=>U'=[some (.ref t),none]/\H1=H',?_,?_]
 .refine #[_,rfl,_,_,rfl,.inr (SqT.of h1),_,_,rfl,rfl,_,rfl,?_];refine zr5 (by rw[zao];lia) ?_;refine #[_,_,rfl,rfl,_,rfl,?_];rw[yah (by rw[zao];lia)];refine iteF ?_;exact .(L)
 rintro U' H' ⟨rfl,rfl⟩;refine #[λU' H'=>U'=[some (.ref t),none]/\H1=H',?_,?_]
 .refine #[_,rfl,_,_,_,_,rfl,rfl,SqT.of h1,zqj,rfl,_,rfl,?_];refine iteF ?_;exact .(L)
 rintro U' H' ⟨rfl,rfl⟩;refine #[_,rfl,_,_,rfl,.inr (SqT.of h1),1,_,rfl,#[by lia,by lia,by rw[zao];lia,by rw[zao];lia],?_];have en:((((zba ps).length:Nat):Int)-1).toNat=ps.length:=by rw[zao];lia
 rw[en];refine zbj (n:=ps.length) (λi U H2=>∃ x1:Option V,U=[some (.ref t),x1]/\H2=H1) ?_ ?_ ?_
 .exact #[_,rfl,rfl]
 .rintro i U H2 hi ⟨x1,rfl,rfl⟩;have ek:(1:Int)+(i:Int)=((i+1:Nat):Int):=by lia
  rw[ek];obtain ⟨u,hu⟩:=zgv (ps:=ps) (k:=i+1) .(a) .(a);have hlt:=(zaN hT hu).1;have hat:=zeH (ps:=ps) (k:=i+1) .(a);rw[zdN hu]at hat;refine #[_,rfl,_,rfl,_,rfl,_,_,_,_,rfl,rfl,SqT.of h1,hat,_,_,rfl,by lia,by lia,_,rfl,?_];refine iteF ?_;exact #[_,rfl,rfl]
 .rintro U H2 ⟨x1,rfl,rfl⟩;refine #[_,rfl,t,_,rfl,.inr #[SqT.of h1,?_]];exact q H2 s1
inductive zj5 (K:Frag)(vs:List V)(H:Hp)(Q:VK)(w_1:XK):Prop
 | c:∀(a:Addr) (row:List Int),vs=[.ref a]->H a=some (.tup (row.map V.int))->row.Pairwise (· < ·)->(∀ x∈row,-(10^60)<x/\x<10^60)->row.length<=900->(∀(b:Addr) (H':Hp),H b=none->Same H H'->H' b=some (.tup (row.map V.int))->Q (.ref b) H')->zj5 K vs H Q w_1
def zps (T:Txt K mg)(qc6:DF K mg "row_of" zgh ze0)(qc7:FC P w K mg base 2 "is_key" zdK (zib K)):FC P w K mg base 3 "row_of" ze0 (zj5 K):=by
 refine qc6.ok qde .(c) .(b)
 .obtain ⟨a,row,rfl,_⟩:=h;rfl
 obtain ⟨a,row,rfl,ha,hup,hky,hz,q⟩:=h;refine #[_,(zaB (zaW (zcU (zbI (zam zfP rfl T.qah boot_isinstance (zaa (pv 0) (zaa (zaT (zaa (zcG (v:=.ty "list") rfl T.qbK boot_list rfl) (zaa (zcG (v:=.ty "tuple") rfl T.qaE boot_tuple rfl) zac))) zac))))) (zae za4) zay)
   (zah (zbn PassesOwn.never rfl (zex (pv 0)) (zau (i:=1) qde.nd rfl (Or.inl rfl)) (zae (zaW (zcU (zbI (zaA qc7 hr (zaa (pv 1) zac)))) (zae za4) zay)))
   (zaB (zaW (zat zhi (zam zmp rfl T.qas boot_len (zaa (zaU (zoD rfl) rfl T.qfm boot_set (zaa (pv 0) zac)) zac)) (zam (zak (K:=K)) rfl T.qas boot_len (zaa (pv 0) zac)) (zaE _)) (zae za4) zay)
   (zae (zaw (zaU (zaP (K:=K)) rfl T.qaE boot_tuple (zaa (zam (zhQ Int) rfl T.qbc boot_sorted (zaa (pv 0) zac)) zac))))))),?_]
 refine #[λU' H'=>U'=[some (.ref a),none]/\Same H H',?_,?_]
 .refine #[_,rfl,.(m),λp hp=>?_];have sp:=zai hp (.tup [.ty "list",.ty "tuple"]);refine #[a,p,rfl,zab,.inr #[_,sp _ _ ha],_,rfl,?_];refine iteF ?_;exact #[rfl,sp]
 rintro U' H1 ⟨rfl,s1⟩;have h1:=s1 _ _ ha;refine #[_,rfl,a,rfl,#[_,SqT.of h1],?_];refine zgZ (xs:=row.map V.int) (λi U H2=>∃ x1:Option V,U=[some (.ref a),x1]/\H2=H1) ?_ ?_ ?_ ?_
 .exact #[_,rfl,rfl]
 .rintro i U H2 _ ⟨x1,rfl,rfl⟩;exact SqT.of h1
 .rintro i x U H2 hx ⟨x1,rfl,rfl⟩;rw[yax]at hx;obtain ⟨y,hy,rfl⟩:=ybR.mp hx;have hb:=hky y (yaM hy);refine #[_,rfl,_,true,rfl,.int y true ?_,_,rfl,?_]
  .rw[yah (by split<;>lia)]
  refine iteF ?_;exact #[_,rfl,rfl]
 .rintro U H2 ⟨x1,rfl,rfl⟩;have hnd:row.Nodup:=List.Pairwise.imp (λ{a b} (q:a<b)=>by lia) hup;refine #[λU' H'=>U'=[some (.ref a),x1]/\Same H2 H',?_,?_]
  .refine #[_,rfl,a,row,rfl,SqT.of h1,by lia,λl hl=>?_];have sl:=zai hl (.set (λk=>(metI row).any (· == k)) (metI row).length);refine #[l,_,_,rfl,zab,by rw[zhD hnd];lia,_,rfl,_,_,rfl,.inr (SqT.of (sl _ _ h1)),_,_,rfl,rfl,_,rfl,?_];refine zpS (by rw[zhD hnd,yab];lia) ?_;exact #[rfl,sl]
  rintro U' H3 ⟨rfl,s3⟩;have h3:=s3 _ _ h1;refine #[_,rfl,a,_,row,rfl,SqT.of h3,zan.ints,λl ws hl hw=>?_];rw[hw.toInts,zjd (List.Pairwise.imp (λ{a b} (h:a<b)=>yai .(a)) hup)];have sl:=zai hl (.lst (row.map V.int));refine #[l,_,rfl,.inl #[SqL.of zab,λb hb=>?_]];have sb:=zai hb (.tup (row.map V.int));have s03:Same H H3:=s1.trans s3;exact q b _ (s03.free (sl.free hb)) (s03.trans (sl.trans sb)) zab
def zms (H:Hp)(q:Addr)(n:Nat):Prop:=∃ xs,(H q=some (.lst xs)\/H q=some (.tup xs))/\xs.length=n
def zo2 (l:List Nat):(l.map λn:Nat=>(n:Int)).sum=((l.sum:Nat):Int):=by
 induction l with
 | nil=>rfl
 | cons a l ih=>
  rw[yav,yaP,ih,yaP,yc2]
inductive zk1 (K:Frag)(vs:List V)(H:Hp)(Q:VK)(w_1:XK):Prop
 | c:∀(a:Addr) (qs:List Addr) (ls:List Nat),vs=[.ref a]->(H a=some (.lst (qs.map V.ref))\/H a=some (.tup (qs.map V.ref)))->Paired (zms H) qs ls->ls.length<=900->(∀ H',Same H H'->Q (.int ((ls.sum:Nat):Int)) H')->zk1 K vs H Q w_1
def zrL (T:Txt K mg)(qaN:DF K mg "long_together" zbM zbh):FC P w K mg base 1 "long_together" zbh (zk1 K):=by
 refine qaN.ok qbL .(c) .(b)
 .obtain ⟨a,qs,ls,rfl,_⟩:=h;rfl
 obtain ⟨a,qs,ls,rfl,ha,hP,hz,q⟩:=h;have hl:=Paired.length hP;refine #[_,(zae (zaw (zam (zoC rfl) rfl T.qfn boot_sum (zaa (zbU (N:=["each"]) (own:=1) (cap:=[]) rfl (zs8 (pv 0)) #[rfl,rfl,rfl,rfl,rfl,rfl] (λ_ _ _ _ _=>(zau (i:=0) (show List.Nodup (["each"]:List Str) by decide +kernel) rfl (Or.inl rfl))) (λ_ _ _ _ _=>zb4) (λ_ _ _ _ _=>(zam (zak (K:=K)) rfl T.qas boot_len (zaa (pv 0) zac)))) zac)))),?_];have step:∀{D:Addr} (hD:H D=none) {i m:Nat} {x:V} {U:L2.St} {H2:Hp} {fin:Nat->L2.St->Hp->Prop},(qs.map V.ref)[i]?=some x->i+m=(qs.map V.ref).length->(∀ b o,b≠D->H b=some o->H2 b=some o)->H2 D=some (.lst ((ls.take i).map nV))->∃ xs,(SqL K H2 (match x with|.ref q=>q|_=>0) xs\/SqT K H2 (match x with|.ref q=>q|_=>0) xs)/\(∃ q,x=.ref q)/\ls.take (i+1)=ls.take i++[xs.length]/\i<ls.length:=by
  intro D hD i m x U H2 fin hx hm k2 h2;rw[yax]at hx;obtain ⟨qq,hq,rfl⟩:=ybR.mp hx;obtain ⟨n,hn,hL⟩:∃ n,ls[i]?=some n/\zms H qq n:=by
   have:∀{qs:List Addr} {ls:List Nat} {i:Nat},Paired (zms H) qs ls->qs[i]?=some qq->∃ n,ls[i]?=some n/\zms H qq n:=by
    intro qs ls i r
    induction r generalizing i with
    | nil=>intro h;simp at h
    | cons a _ ih=>
     intro h;cases i with
     | zero=>
      have e:=yae (show some _=some qq from h);subst e;exact #[_,rfl,a]
     | succ i=>
      obtain ⟨n,h1,h2⟩:=ih (i:=i) (by simpa using h);exact #[n,by simpa using h1,h2]
   exact this hP hq
  have hi:=(yap.mp hn).1;obtain ⟨xs,hxs,hxl⟩:=hL;refine #[xs,?_,#[qq,rfl],?_,hi]
  .rcases hxs with hxs|hxs
   .exact .inl (SqL.of (k2 _ _ (zad hxs hD) hxs))
   .exact .inr (SqT.of (k2 _ _ (zad hxs hD) hxs))
  .rw[yaZ hi,(yap.mp hn).2,hxl]
 have end_:∀{D:Addr} {H2:Hp},H D=none->H2 D=some (.lst (ls.map nV))->But D H H2->(λxs H Q=>∃(p:Addr) (ns:List Int),xs=[V.ref p]/\SqL K H p .(E)/\Q (.int ns.sum) H) [V.ref D] H2 Q:=λ{D H2} hD h2 k2=>by
  refine #[D,ls.map λn:Nat=>(n:Int),rfl,?_,?_]
  .rw[ybM];exact SqL.of h2
  .rw[zo2];exact q H2 (λb o e=>k2 b o (zad e hD) e)
 rcases ha with ha|ha
 .refine #[_,rfl,a,rfl,.inl #[#[_,SqL.of ha],λD hD=>?_]];refine zch (xs:=qs.map V.ref) (λi U H2=>∃ x0:Option V,U=[x0]/\H2 D=some (.lst ((ls.take i).map nV))/\But D H H2) ?_ ?_ ?_ ?_
  .exact .(D)
  .rintro i U H2 _ ⟨x0,rfl,_,k2⟩;exact k2.sq (SqL.of ha) hD
  .rintro i m x U H2 hx hm ⟨x0,rfl,h2,k2⟩;obtain ⟨xs,hS,⟨qq,rfl⟩,htk,hi⟩:=step hD (U:=[x0]) (fin:=λ_ _ _=>True) hx hm k2 h2;rw[yab]at hm;refine zc0 ?_;refine #[_,rfl,qq,xs,rfl,hS,_,h2,zap (by rw[yab,yar];lia),m-1,by lia,by rw[yab];lia,_,rfl,?_,λb o n e=>by rw[zag n];exact k2 b o n e];rw[zab,htk,yas];rfl
  .rintro U H2 ⟨x0,rfl,h2,k2⟩;rw[yab,yat .(a)]at h2;exact end_ hD h2 k2
 .refine #[_,rfl,a,rfl,.inr #[#[_,SqT.of ha],λD hD=>?_]];refine zer (xs:=qs.map V.ref) (λi U H2=>∃ x0:Option V,U=[x0]/\H2 D=some (.lst ((ls.take i).map nV))/\But D H H2) ?_ ?_ ?_ ?_
  .exact .(D)
  .rintro i U H2 _ ⟨x0,rfl,_,k2⟩;exact SqT.of (k2 _ _ (zad ha hD) ha)
  .rintro i m x U H2 hx hm ⟨x0,rfl,h2,k2⟩;obtain ⟨xs,hS,⟨qq,rfl⟩,htk,hi⟩:=step hD (U:=[x0]) (fin:=λ_ _ _=>True) hx hm k2 h2;rw[yab]at hm;refine zc0 ?_;refine #[_,rfl,qq,xs,rfl,hS,_,h2,zap (by rw[yab,yar];lia),m-1,by lia,by rw[yab];lia,_,rfl,?_,λb o n e=>by rw[zag n];exact k2 b o n e];rw[zab,htk,yas];rfl
  .rintro U H2 ⟨x0,rfl,h2,k2⟩;rw[yab,yat .(a)]at h2;exact end_ hD h2 k2
inductive zgE (K:Frag)(vs:List V)(H:Hp)(Q:VK)(w_1:XK):Prop
 | c:∀(t r:Addr) (ps:List Nat) (rows:List (List Int)) (as:List Addr),vs=[.ref t,.ref r]->H t=some (.tup (zba ps))->H r=some (.tup (as.map V.ref))->zaQ H as rows->rows.length=ps.length+1->zax ps->zaD rows->ps.length<=40->zby rows<=300->(∀(st rs:Addr) (bs:List Addr) (H':Hp),H st=none->Same H H'->zbz H' st ps rows t rs bs->Q (.ref st) H')->zgE K vs H Q w_1
def zaQ.lens :∀{as:List Addr} {rows:List (List Int)},zaQ H as rows->Paired (zms H) as (rows.map List.length)
 | _,_,.nil=>.nil
 | _,_,.cons h t=>.cons #[_,.inr h,by rw[yab]] (zaQ.lens t)
def zfg {rows:List .(j)}{row:List Int}(h:row∈rows):row.length<=zby rows:=by
 unfold zby
 induction rows with
 | nil=>cases h
 | cons r rows ih=>
  rw[yav,yaP];rcases yaq.mp h with e|e
  .rw[e];lia
  .have:=ih e;lia
def zl4 (T:Txt K mg)(qbv:DF K mg "stand_of" zd5 zdi)(qeN:FC P w K mg base 3 "row_of" ze0 (zj5 K))(qaO:FC P w K mg base 1 "long_together" zbh (zk1 K)):FC P w K mg base 4 "stand_of" zdi (zgE K):=by
 refine qbv.ok qb5 .(c) .(b)
 .obtain ⟨t,r,ps,rows,as,rfl,_⟩:=h;rfl
 obtain ⟨t,r,ps,rows,as,rfl,ht,hr0,hA,hlen,hT,hR,hfew,hkeys,q⟩:=h;have hal:=hA.length;refine #[_,(zaB (zaW (zcU (zbI (zam zfP rfl T.qah boot_isinstance (zaa (pv 1) (zaa (zaT (zaa (zcG (v:=.ty "list") rfl T.qbK boot_list rfl) (zaa (zcG (v:=.ty "tuple") rfl T.qaE boot_tuple rfl) zac))) zac))))) (zae za4) zay)
   (zaB (zaW (zat zns (zam (zak (K:=K)) rfl T.qas boot_len (zaa (pv 1) zac)) (zam (zak (K:=K)) rfl T.qas boot_len (zaa (pv 0) zac)) (zaE _)) (zae za4) zay)
   (zah (zas (i:=2) qb5.nd rfl (Or.inl rfl) (zaU (zaP (K:=K)) rfl T.qaE boot_tuple (zaa (zbU (N:=["row"]) (own:=1) (cap:=[]) rfl (zex (pv 1)) #[rfl,rfl,rfl,rfl,rfl,rfl] (λ_ _ _ _ _=>(zau (i:=0) (show List.Nodup (["row"]:List Str) by decide +kernel) rfl (Or.inl rfl))) (λ_ _ _ _ _=>zb4) (λ_ _ _ _ _=>(zaA qeN hr (zaa (pv 0) zac)))) zac)))
   (zaB (zaW (zat znu (zaA qaO hr (zaa (pv 2) zac)) (zdp rfl T.qca) (zaE _)) (zae za4) zay)
   (zae (zaw (zaT (zaa (pv 0) (zaa (pv 2) zac))))))))),?_]
 refine #[λU' H'=>U'=[some (.ref t),some (.ref r),none]/\Same H H',?_,?_]
 .refine #[_,rfl,.(m),λp hp=>?_];have sp:=zai hp (.tup [.ty "list",.ty "tuple"]);refine #[r,p,rfl,zab,.inr #[_,sp _ _ hr0],_,rfl,?_];refine iteF ?_;exact #[rfl,sp]
 rintro U' H1 ⟨rfl,s1⟩;have h1t:=s1 _ _ ht;have h1r:=s1 _ _ hr0;have A1:=hA.ext s1;refine #[λU' H'=>U'=[some (.ref t),some (.ref r),none]/\H1=H',?_,?_]
 .refine #[_,rfl,_,_,rfl,.inr (SqT.of h1r),_,rfl,_,_,rfl,.inr (SqT.of h1t),rfl,_,rfl,?_];refine zkv (by rw[yab,zao,hal,hlen]) ?_;exact .(L)
 rintro U' H' ⟨rfl,rfl⟩;refine #[_,rfl,r,rfl,#[_,SqT.of h1r],λD hD=>?_];refine zer (xs:=as.map V.ref) (λi U H2=>∃(bs:List Addr) (x0:Option V),U=[x0]/\H2 D=some (.lst (bs.map V.ref))/\zaQ H2 bs (rows.take i)/\But D H1 H2) ?_ ?_ ?_ ?_
 .exact #[[],_,rfl,zab,.nil,λb o n e=>by rw[zag n];exact e]
 .rintro i U H2 _ ⟨bs,x0,rfl,_,_,k2⟩;exact SqT.of (k2 _ _ (zad h1r hD) h1r)
 .rintro i m x U H2 hx hm ⟨bs,x0,rfl,h2,hB,k2⟩;have hbl:=hB.length;rw[yar]at hbl;rw[yab]at hm;have hi:i<rows.length:=by
   have:=(yap.mp hx).1;rw[yab]at this;lia
  obtain ⟨b,hb1,hb2⟩:=A1.get hi;rw[yax,hb1]at hx;have:=yae hx;subst this;have hmem:zaq rows i∈rows:=by
   unfold zaq;rw[yaf,yac hi];exact yaR hi
  have hrl:=zfg hmem;have htk:rows.take (i+1)=rows.take i++[zaq rows i]:=by
   rw[yaZ hi];unfold zaq;rw[yaf,yac hi];rfl
  have h2b:=k2 _ _ (zad hb2 hD) hb2;refine zc0 ?_;refine #[_,rfl,b,zaq rows i,rfl,h2b,hR.at_up i,hR.at_key i,by lia,λc H3 hc s3 h3=>?_];have h3D:=s3 _ _ h2;have ncD:∀{x:Addr} {o:List V},H3 x=some (.tup o)->x≠D:=λ{x o} e z=>by
   rw[z,h3D]at e;cases e
  have kD:∀ b o,b≠D->H3 b=some o->upd H3 D (.lst (bs.map V.ref++[.ref c])) b=some o:=λb o n e=>by rw[zag n];exact e
  refine #[_,h3D,zap .(G),m-1,by lia,by rw[yab];lia,bs++[c],_,rfl,?_,?_,λb o n e=>kD _ _ n (s3 _ _ (k2 b o n e))]
  .rw[zab,yas];rfl
  .rw[htk];exact zaQ.snoc (zaQ.keep (p:=D) (d:=D) (λa row e=>ncD e) kD (hB.ext s3)) (kD _ _ (ncD h3) h3)
 rintro U H2 ⟨bs,x0,rfl,h2,hB,k2⟩;rw[yab,yat .(a)]at hB;have s2:Same H1 H2:=λb o e=>k2 b o (zad e hD) e;refine #[D,_,rfl,.inl #[SqL.of h2,λrs hrs=>?_]];have s3:=zai hrs (.tup (bs.map V.ref));have h3:upd H2 rs (.tup (bs.map V.ref)) rs=some (.tup (bs.map V.ref)):=zab;have s13:=s2.trans s3;have B3:=hB.ext s3;generalize upd H2 rs (.tup (bs.map V.ref))=H3 at s3 h3 s13 B3 ⊢;refine #[λU' H'=>U'=[some (.ref t),some (.ref r),some (.ref rs)]/\Same H3 H',?_,?_]
 .refine #[_,rfl,rs,bs,rows.map List.length,rfl,.inr h3,B3.lens,by rw[yab];lia,λH4 s4=>?_];have hk:(rows.map List.length).sum=zby rows:=rfl;rw[hk];refine #[_,_,rfl,rfl,_,rfl,?_];refine zpS .(a) ?_;exact #[rfl,s4]
 rintro U' H4 ⟨rfl,s4⟩;have s04:=s1.trans (s13.trans s4);refine #[_,rfl,_,rfl,.(m),λst hst=>?_];have ss:=zai hst (.tup [.ref t,.ref rs]);exact q st rs bs _ (s04.free hst) (s04.trans ss) #[zab,ss _ _ (s04 _ _ ht),ss _ _ (s4 _ _ h3),(B3.ext s4).ext ss,hlen,hT,hR,hfew,by lia]
def accL (ps:List Nat)(rows:List .(j)):Nat->Nat->List En
 | 0,j=>ownE rows j
 | i+1,j=>accL ps rows i j++(if par ps (ps.length-i)=some j then zbZ (zal ps rows (ps.length-i)) else [])
def zkM (T:zax ps){e:En}:∀ i,i<=ps.length->(e∈accL ps rows i j↔e∈ownE rows j\/∃ c,ps.length-i<c/\par ps c=some j/\e∈zbZ (zal ps rows c))
 | 0,_=>by
  unfold accL;constructor
  .exact .inl
  .rintro (h|⟨c,h1,h2,_⟩)
   .exact h
   .have:=(zaN T h2).2;lia
 | i+1,hi=>by
  unfold accL;rw[yal,zkM T i .(a)];constructor
  .rintro ((h|⟨c,h1,h2,h3⟩)|h)
   .exact .inl h
   .exact .inr #[c,by lia,h2,h3]
   .by_cases z:par ps (ps.length-i)=some j
    .rw[if_pos z]at h;exact .inr #[_,by lia,z,h]
    .rw[if_neg z]at h;cases h
  .rintro (h|⟨c,h1,h2,h3⟩)
   .exact .inl (.inl h)
   .by_cases z:c=ps.length-i
    .subst z;rw[if_pos h2];exact .inr h3
    .exact .inl (.inr #[c,by lia,h2,h3])
def zjV (T:zax ps)(R:zaD rows){j:Nat}(hj:j<ps.length+1):∀ i,i<=ps.length->(accL ps rows i j).Nodup
 | 0,_=>zjm R j
 | i+1,hi=>by
  unfold accL;have ih:=zjV T R hj i .(a);by_cases z:par ps (ps.length-i)=some j
  .rw[if_pos z,ybh];have hc:=(zaN T z).2;refine #[ih,(zdw T R hc).sublist (zaS _),λa ha b hb hab=>?_];subst hab;obtain ⟨u,_,g2,g3,_⟩:=zep T R hc a ((zaS _).mem hb);rcases (zkM T i .(a)).mp ha with h|⟨c,h1,h2,h3⟩
   .have:=(zjl hj h).2;have:u=j:=by lia
    subst this;rw[zdR T (zaN T z).1]at g2;cases g2
   .obtain ⟨v,_,f2,f3,_⟩:=zep T R (zaN T h2).2 a ((zaS _).mem h3);have:u=v:=by lia
    subst this;exact zc9 T h2 z .(a) u u (yaa _) f2 g2
  .rw[if_neg z,yaw];exact ih
def ziV (T:zax ps)(R:zaD rows){k:Nat}(hk:k<ps.length+1):zcB (accL ps rows (ps.length-k) k)=zal ps rows k:=by
 refine zfC (zd2 (zjV T R hk _ .(a))) (zaJ T R hk) λe=>?_;rw[zdI,zkM T _ .(a),zbu T hk];constructor
 .rintro (h|⟨c,_,h2,h3⟩)
  .exact .inl h
  .exact .inr #[c,h2,h3]
 .rintro (h|⟨c,h2,h3⟩)
  .exact .inl h
  .exact .inr #[c,by have:=(zaN T h2).1;lia,h2,h3]
def zqM {j:Nat}(i:Nat):∀ d,(accL ps rows i j).length<=(accL ps rows (i+d) j).length
 | 0=>yaa _
 | d+1=>by
  refine yad (zqM i d) ?_;show _<=(accL ps rows (i+d) j++_).length;rw[yan];lia
def zsz (T:zax ps)(R:zaD rows)(hl:rows.length=ps.length+1){i j:Nat}(hj:j<ps.length+1)(hi:i<=ps.length-j):(accL ps rows i j).length<=zby rows:=by
 obtain ⟨d,hd⟩:∃ d,ps.length-j=i+d:=#[ps.length-j-i,by lia];have h:=ziV T R hj;rw[hd]at h;have h2:=congrArg List.length h;rw[zcP]at h2;exact yad (zqM i d) (by rw[h2];exact zdT T hl hj)
def valL (ps:List Nat)(rows:List .(j))(i j:Nat):List En:=if ps.length-i<j then zal ps rows j else accL ps rows i j
structure FA (K:Frag)(H:Hp)(p:Addr)(qs:List Addr)(n:Nat)(f:Nat->List En):Prop where
 at_:H p=some (.lst (qs.map V.ref))
 len:qs.length=n
 nd:qs.Nodup
 np:p∉qs
 get:∀(j:Nat) (q:Addr),qs[j]?=some q->∃ ws,H q=some (.lst ws)/\zan K H (f j) ws
section
variable {K:Frag}{H H':Hp}{p:Addr}{qs:List Addr}{n:Nat}{f g:Nat->List En}
def FA.ext (h:FA K H p qs n f)(e:Ext H H'):FA K H' p qs n f:=
 #[e _ _ h.at_ (λ_ z=>nomatch z),h.len,h.nd,h.np,λj q hq=>by
  obtain ⟨ws,h1,h2⟩:=h.get j q hq;exact #[ws,e _ _ h1 nofun,h2.mono e]]
def FA.congr (h:FA K H p qs n f)(e:∀ j,j<n->f j=g j):FA K H p qs n g:=
 #[h.at_,h.len,h.nd,h.np,λj q hq=>by
  rw[<-e j (by have:=(yap.mp hq).1;have:=h.len;lia)];exact h.get j q hq]
def FA.set (h:FA K H p qs n f){k:Nat}{q':Addr}{l:List En}{ws:List V}(hq:H q'=some (.lst ws))(hw:zan K H l ws)(hn:q'∉qs)(hp:q'≠p):FA K (upd H p (.lst ((qs.map V.ref).set k (.ref q')))) p (qs.set k q') n (λj=>if j=k then l else f j):=by
 refine #[?_,by rw[ycm];exact h.len,?_,λz=>?_,λj q hj=>?_]
 .rw[zab,yb0]
 .show List.Pairwise _ _;rw[ya9];intro i j hi hj hij;rw[ycm]at hi hj;rw[List.getElem_set,List.getElem_set];have old:=ya9.mp h.nd i j hi hj hij;split
  .rw[if_neg .(a)];exact λz=>hn (z ▸ yaR hj)
  .split
   .exact λz=>hn (z ▸ yaR hi)
   .exact old
 .rcases ybN z with y|y
  .exact h.np y
  .exact hp y.symm
 .rw[ybE]at hj;show ∃ ws,_/\zan K _ (if j=k then l else f j) ws
  by_cases c:k=j
  .rw[if_pos c]at hj;by_cases c2:k<qs.length
   .rw[if_pos c2]at hj;have:=yae hj;subst this;rw[if_pos c.symm];exact #[ws,by rw[zag hp];exact hq,zaR h.at_ hw]
   .rw[if_neg c2]at hj;cases hj
  .rw[if_neg c]at hj;rw[if_neg (λz=>c z.symm)];obtain ⟨us,h1,h2⟩:=h.get j q hj;have hqp:q≠p:=λz=>h.np (by rw[<-z];exact yaM hj);exact #[us,by rw[zag hqp];exact h1,zaR h.at_ h2]
def FA.put (h:FA K H p qs n f){k:Nat}{q:Addr}{ws:List V}{e:En}{x:V}(hk:qs[k]?=some q)(hq:H q=some (.lst ws))(hx:Rep.has K H e x):FA K (upd H q (.lst (ws++[x]))) p qs n (λj=>if j=k then f j++[e] else f j):=by
 have hqp:p≠q:=λz=>h.np (z ▸ yaM hk);refine #[by rw[zag hqp];exact h.at_,h.len,h.nd,h.np,λj q2 hj=>?_];obtain ⟨us,h1,h2⟩:=h.get j q2 hj;show ∃ ws,_/\zan K _ (if j=k then f j++[e] else f j) ws
 by_cases c:j=k
 .subst c;rw[hk]at hj;have:=yae hj;subst this;rw[hq]at h1;cases h1
  rw[if_pos rfl];exact #[_,zab,(zaR hq h2).append (zaR hq (.one hx))]
 .rw[if_neg c];have hne:q2≠q:=λz=>by
   subst z;obtain ⟨i1,e1⟩:=yap.mp hj;obtain ⟨i2,e2⟩:=yap.mp hk;have old:=ya9.mp h.nd;rcases Nat.lt_or_gt_of_ne c with z|z
   .exact old j k i1 i2 z (e1.trans e2.symm)
   .exact old k j i2 i1 z (e2.trans e1.symm)
  exact #[us,by rw[zag hne];exact h1,zaR hq h2]
def FA.at (h:FA K H p qs n f){k:Nat}(hk:k<n):∃ q ws,qs[k]?=some q/\H q=some (.lst ws)/\zan K H (f k) ws:=by
 have e:qs[k]?=some (qs[k]'(by have:=h.len;lia)):=yac _;obtain ⟨ws,h1,h2⟩:=h.get k _ e;exact #[_,ws,e,h1,h2]
def FA.has (h:FA K H p qs n f):zan K H ((List.range n).map f) (qs.map V.ref):=by
 obtain ⟨h1,h2,h3,h4,h5⟩:=h;clear h1 h3 h4
 induction qs generalizing n f with
 | nil=>
  have:n=0:=h2.symm;subst this;exact .nil
 | cons q qs ih=>
  obtain ⟨m,rfl⟩:∃ m,n=m+1:=#[qs.length,h2.symm];rw[List.range_succ_eq_map,yav,yav,ybM];obtain ⟨ws,w1,w2⟩:=h5 0 q rfl;exact .cons #[q,ws,rfl,SqL.of w1,w2] (ih (n:=m) (f:=f ∘ Nat.succ) (Nat.succ.inj h2) λj q' hj=>h5 (j+1) q' (by rw[ycV];exact hj))
end
inductive zia (K:Frag)(vs:List V)(H:Hp)(Q:VK)(w_1:XK):Prop
 | c:∀(t r:Addr) (ps:List Nat) (rows:List (List Int)) (as:List Addr),vs=[.ref t,.ref r]->H t=some (.tup (zba ps))->H r=some (.tup (as.map V.ref))->zaQ H as rows->rows.length=ps.length+1->zax ps->zaD rows->ps.length<=40->zby rows<=400->(∀(p:Addr) (qs:List Addr) (H':Hp),H p=none->Same H H'->FA K H' p qs (ps.length+1) (zal ps rows)->(∀ q∈qs,H q=none)->Q (.ref p) H')->zia K vs H Q w_1
def znC (T:Txt K mg)(qcq:DF K mg "_law_fulls" zeT zei)(qeo:FC P w K mg base 2 "_law_marks" zeh (zgF K)):FC P w K mg base 3 "_law_fulls" zei (zia K):=by
 refine qcq.ok qaL .(c) .(b)
 .obtain ⟨t,r,ps,rows,as,rfl,_⟩:=h;rfl
 obtain ⟨t,r,ps,rows,as,rfl,ht,hr0,hA,hlen,hT,hR,hfew,hkeys,q⟩:=h;refine #[_,(zaz (zpf "_law_k" (i:=2) (N:=["_law_k","_law_rows_here"]) (own:=1) (cap:=[1]) qaL.nd rfl rfl rfl (zaZ rfl T.qat (zaa (zam (zak (K:=K)) rfl T.qas boot_len (zaa (pv 0) zac)) zac)) #[rfl,rfl,rfl,rfl,rfl,rfl] (λ_ _ _ _ _=>(zau (i:=0) (show List.Nodup (["_law_k","_law_rows_here"]:List Str) by decide +kernel) rfl (Or.inr rfl))) (λ_ _ _ _ _=>zb4) (λ_ _ _ _ _=>(zbU (N:=["_law_key_here","_law_k"]) (own:=1) (cap:=[0]) rfl (zrB (K:=K) (zaL (zaG (K:=K)) (pv 1) (pv 0) (λ_ _=>rfl))) #[rfl,rfl,rfl,rfl,rfl,rfl] (λ_ _ _ _ _=>(zau (i:=0) (show List.Nodup (["_law_key_here","_law_k"]:List Str) by decide +kernel) rfl (Or.inl rfl))) (λ_ _ _ _ _=>zb4) (λ_ _ _ _ _=>(zaT (zaa (pv 0) (zaa (pv 1) zac)))))))
   (zaz (zbn PassesOwn.never rfl (znk rfl T.qat (zaa (zav zbV (zam (zak (K:=K)) rfl T.qas boot_len (zaa (pv 0) zac)) zaf) (zaa zaf (zaa (znl zi0 zaf) zac)))) (zau (i:=3) qaL.nd rfl (Or.inl rfl)) (zaz (zdz (zam (zeu (Int×Int)) rfl T.qbc boot_sorted (zaa (zaL (zaC (K:=K)) (pv 2) (pv 3) (λ_ _=>rfl)) zac)) (ze9 (pv 2) (pv 3) zcm))
   (zaz (zas (i:=4) qaL.nd rfl (Or.inl rfl) (zaL (zaG (K:=K)) (pv 0) (pv 3) (λ_ _=>rfl)))
   (zae (zbn PassesOwn.never rfl (zqB rfl T.qfh (zaa (zaL (zaC (K:=K)) (pv 2) (pv 3) (λ_ _=>rfl)) (zaa (zaA qeo hr (zaa (zaL (zaC (K:=K)) (pv 2) (pv 3) (λ_ _=>rfl)) zac)) zac))) (zhw rfl (zbt (zau (i:=5) qaL.nd rfl (Or.inl rfl)) (zbt (zau (i:=6) qaL.nd rfl (Or.inl rfl)) zfG))) (zae (zaW (zbI (pv 6)) (zae (zbd (zfa F.plainAttrs_list F.slot_list_append F.type_list_append za0 (zaL (zaC (K:=K)) (pv 2) (pv 4) (λ_ _=>rfl)) (zaa (pv 5) zac)))) zay)))))))
   (zaz (zdz (zam (zeu (Int×Int)) rfl T.qbc boot_sorted (zaa (zaL (zaC (K:=K)) (pv 2) zaf (λ_ _=>rfl)) zac)) (ze9 (pv 2) zaf zcm))
   (zae (zaw (pv 2)))))),?_]
 intro N0 n0;have el:((((zba ps).length:Nat):Int)).toNat=ps.length+1:=by rw[zao,ybe]
 refine #[_,rfl,_,_,rfl,.inr (SqT.of ht),_,rfl,by lia,by rw[zao];lia,λD hD=>?_];rw[el];refine zb7 (n:=ps.length+1) (λi U H2=>∃(qs:List Addr) (x0:Option V),U=[x0,some (.ref r)]/\FA K H2 D qs i (ownE rows)/\(∀ q∈qs,H q=none)/\But D H H2) ?_ ?_ ?_
 .exact #[[],_,rfl,#[zab,rfl,ybw,nofun,λj q e=>by simp at e],(λq z=>nomatch z),λb o n e=>by rw[zag n];exact e]
 .rintro i m U H2 hm hi ⟨qs,x0,rfl,h2,hqs,k2⟩;rw[ybi];have s2:Same H H2:=λb o e=>k2 b o (zad e hD) e;obtain ⟨b,hb1,hb2⟩:=(hA.ext s2).get (k:=i) (by rw[hlen];exact hi);refine zc0 ?_;refine #[_,rfl,_,rfl,_,_,_,_,rfl,rfl,SqT.of (s2 _ _ hr0),zb1 hb1,b,rfl,#[_,SqT.of hb2],λD3 hD3=>?_];refine zer (xs:=(zaq rows i).map V.int) (λm U H5=>∃(us:List V) (x0:Option V),U=[x0,some (.int i)]/\H5 D3=some (.lst us)/\zan K H5 ((ownE rows i).take m) us/\But D3 H2 H5) ?_ ?_ ?_ ?_
  .exact #[[],_,rfl,zab,.nil,λb o n e=>by rw[zag n];exact e]
  .rintro m U H5 _ ⟨us,x0,rfl,_,_,k5⟩;exact SqT.of (k5 _ _ (zad hb2 hD3) hb2)
  .rintro j m' x U H5 hx hm' ⟨us,x0,rfl,h5,hw5,k5⟩;rw[yax]at hx;obtain ⟨y,hy,rfl⟩:=ybR.mp hx;have hlow:=(yap.mp hy).1;have htk3:(ownE rows i).take (j+1)=(ownE rows i).take j++[(y,(i:Int))]:=by
    unfold ownE;rw[<-ybZ,<-ybZ,yaZ hlow,yas];rw[(yap.mp hy).2];rfl
   have hul:=hw5.length;rw[yar]at hul;rw[yab]at hm';have hrl:(zaq rows i).length<=zby rows:=by
    refine zfg ?_;unfold zaq;rw[yaf,yac (show i<rows.length by lia)];exact yaR _
   refine zc0 ?_;refine #[_,rfl,_,rfl,.(m),λu hu=>?_];have su:=zai hu (.tup [.int y,.int (i:Int)]);have h6:=su _ _ h5;have hut:upd H5 u (.tup [.int y,.int (i:Int)]) u=some (.tup [.int y,.int (i:Int)]):=zab;have k6:=k5.new' hu (.tup [.int y,.int (i:Int)]);have hw6:=hw5.mono su.ext;generalize upd H5 u (.tup [.int y,.int (i:Int)])=H6 at su h6 hut k6 hw6 ⊢;refine #[_,h6,zap .(a),m'-1,by lia,by rw[yab];lia,us++[.ref u],_,rfl,zab,?_,λb o n e=>by rw[zag n];exact k6 b o n e];rw[htk3];exact (zaR h6 hw6).append (zaR h6 (.cons #[u,.int y,.int (i:Int),rfl,hut,rfl,rfl] .nil))
  rintro U H5 ⟨us,x0,rfl,h5,hw5,k5⟩;rw[yab,yat (by unfold ownE;rw[yab];exact yaa _)]at hw5;have s5:Same H2 H5:=λx o e=>k5 x o (zad e hD3) e;have F5:=h2.ext s5.ext;have hqn:D3∉qs:=λz=>by
   obtain ⟨j,hj,e⟩:=yaW z;obtain ⟨ws,w1,_⟩:=h2.get j D3 (by rw[yac hj,e]);rw[hD3]at w1;cases w1
  have hDD:D3≠D:=λz=>by
   have:=h2.at_;rw[<-z,hD3]at this;cases this
  have hql:=h2.len;refine #[_,F5.at_,zap .(G),m-1,by lia,by lia,qs++[D3],_,rfl,#[?_,by rw[yan,yaU,hql],?_,?_,?_],?_,?_]
  .rw[zab,yas];rfl
  .rw[ybh];refine #[h2.nd,ya4.mpr #[nofun,ybw],λa ha b hb e=>?_];rw[yao.mp hb]at e;exact hqn (e ▸ ha)
  .intro z;rcases yal.mp z with y|y
   .exact h2.np y
   .exact hDD (yao.mp y).symm
  .intro j q0 hj;by_cases c:j<qs.length
   .rw[ybu c]at hj;obtain ⟨ws,w1,w2⟩:=F5.get j q0 hj;have hne:q0≠D:=λz=>h2.np (by rw[<-z];exact yaM hj);exact #[ws,by rw[zag hne];exact w1,zaR F5.at_ w2]
   .rw[ybt .(a)]at hj;have hj0:j-qs.length=0:=by
     have:=(yap.mp hj).1;rw[yaU]at this;lia
    rw[hj0]at hj;have:=yae (show some D3=some q0 from hj);subst this;have:j=i:=by lia
    subst this;exact #[us,by rw[zag hDD];exact h5,zaR F5.at_ hw5]
  .intro q0 hq0;rcases yal.mp hq0 with y|y
   .exact hqs q0 y
   .rw[yao.mp y];exact s2.free hD3
  .exact λb o n e=>by
    rw[zag n];exact s5 _ _ (k2 b o n e)
 rintro U H2 ⟨qs,x0,rfl,F2,hqs2,k2⟩;refine n0 _ _ ?_;intro N1 n1;have s2:Same H H2:=λb o e=>k2 b o (zad e hD) e;have hD0:=hD;clear k2;have F0:FA K H2 D qs (ps.length+1) (valL ps rows 0):=F2.congr λj hj=>by
  unfold valL accL;rw[if_neg .(a)]
 clear F2;have h2t:=s2 _ _ ht;refine #[_,rfl,_,_,rfl,.inr (SqT.of h2t),_,_,rfl,rfl,?_];refine #[_,rfl,_,_,rfl,#[by rw[zao];lia,by rw[zao];lia,by lia,by lia],?_];have en:((((zba ps).length:Nat):Int)-1-0).toNat=ps.length:=by rw[zao];lia
 rw[en];refine zp3 (n:=ps.length) (λi U H3=>∃(qs:List Addr) (x3 x4 x5 x6:Option V),U=[some (.ref t),some (.ref r),some (.ref D),x3,x4,x5,x6]/\FA K H3 D qs (ps.length+1) (valL ps rows i)/\(∀ q∈qs,H q=none)/\Same H H3) ?_ ?_ ?_
 .exact #[qs,_,_,_,_,rfl,F0,hqs2,s2]
 .rintro i U H3 hi ⟨qs,x3,x4,x5,x6,rfl,F3,hqs,s3⟩;have ek:(((zba ps).length:Nat):Int)-1-(i:Int)=((ps.length-i:Nat):Int):=by rw[zao];lia
  rw[ek];have eI:i=ps.length-(ps.length-i):=by lia
  obtain ⟨k,hk⟩:∃ k,k=ps.length-i:=#[_,rfl];rw[<-hk]at eI ⊢;refine ztM λN B R hN hB hR'=>?_;intro N2 n2;have hkn:k<ps.length+1:=by lia
  have hk1:1<=k:=by lia
  obtain ⟨q0,ws,hq0,hq1,hq2⟩:=F3.at hkn;have ev:valL ps rows i k=accL ps rows i k:=by
   unfold valL;rw[if_neg .(a)]
  rw[ev]at hq2;have hfl:=yad (zdT hT hlen hkn (rows:=rows)) hkeys;refine #[_,rfl,_,rfl,_,_,_,_,rfl,rfl,SqL.of F3.at_,zb1 hq0,q0,ws,_,rfl,SqL.of hq1,hq2,λl us hl hus=>?_];have hsort:zcB (accL ps rows i k)=zal ps rows k:=by
   rw[eI];exact ziV hT hR hkn
  rw[hsort]at hus;have sl:=zai hl (.lst us);have F4:=F3.ext sl.ext;have hl4:upd H3 l (.lst us) l=some (.lst us):=zab;have hus4:=hus.mono sl.ext;have s4:=s3.trans sl;have hlq:l∉qs:=λz=>by
   obtain ⟨j,hj,e⟩:=yaW z;obtain ⟨ws,w1,_⟩:=F3.get j l (by rw[yac hj,e]);rw[hl]at w1;cases w1
  have hlD:l≠D:=λz=>by
   have:=F3.at_;rw[<-z,hl]at this;cases this
  have hl0:H l=none:=s3.free hl;clear sl;generalize upd H3 l (.lst us)=H4 at F4 hl4 hus4 s4 ⊢;refine #[_,rfl,_,rfl,_,_,_,k,rfl,rfl,F4.at_,zdv (by rw[yab,F4.len];exact hkn),n2 _ _ ?_];intro N3 n3;have F5:=F4.set (k:=k) hl4 hus4 hlq hlD;have hl5:upd H4 D (.lst ((qs.map V.ref).set k (.ref l))) l=some (.lst us):=by rw[zag hlD];exact hl4
  have hus5:zan K (upd H4 D (.lst ((qs.map V.ref).set k (.ref l)))) .(n) us:=zaR F4.at_ hus4;have s5:Same H (upd H4 D (.lst ((qs.map V.ref).set k (.ref l)))):=λb o e=>by
   rw[zag (zad e hD)];exact s4 _ _ e
  have hqs5:∀ q∈qs.set k l,H q=none:=λq hq=>by
   rcases ybN hq with y|y
   .exact hqs q y
   .rw[y];exact hl0
  have hqk:(qs.set k l)[k]?=some l:=by
   rw[ybE,if_pos rfl,if_pos (by rw[F4.len];exact hkn)]
  generalize upd H4 D (.lst ((qs.map V.ref).set k (.ref l)))=H5 at F5 hl5 hus5 s5 ⊢;generalize qs.set k l=qs' at F5 hqs5 hqk ⊢;obtain ⟨u,hu⟩:=zgv (ps:=ps) (k:=k) .(a) hkn;have hlt:=(zaN hT hu).1;refine #[_,rfl,_,rfl,_,_,_,_,rfl,rfl,SqT.of (s5 _ _ ht),zeH hkn,?_];rw[zdN hu];refine n3 _ _ ?_;refine #[_,rfl,_,rfl,_,_,_,_,rfl,rfl,SqL.of F5.at_,zb1 hqk,?_];refine #[_,rfl,_,rfl,_,_,_,_,rfl,rfl,SqL.of F5.at_,zb1 hqk,?_];refine #[l,us,zal ps rows k,rfl,hl5,hus5,by lia,zfj hT hR .(a) hkn,zaJ hT hR hkn,λpm H6 hpm s6 h6=>?_];refine #[l,pm,rfl,#[_,SqL.of (s6 _ _ hl5)],#[_,SqL.of h6],?_];have hul:=hus5.length;have hml:=zfc .(n);have F6:=F5.ext s6.ext;have s06:=s5.trans s6;have hl6:=s6 _ _ hl5;have hus6:=hus5.mono s6.ext;have hpmq:pm∉qs':=λz=>by
   obtain ⟨j,hj,e⟩:=yaW z;obtain ⟨ws,w1,_⟩:=F5.get j pm (by rw[yac hj,e]);rw[hpm]at w1;cases w1
  have F6':FA K H6 D qs' (ps.length+1) (λj=>if j=u then accL ps rows i u++zci (.(n).take 0) ((zbJ .(n)).take 0) else if j=k then zal ps rows k else valL ps rows i j):=F6.congr λj hj=>by
   show (if j=k then _ else _)=_
   by_cases c:j=u
   .subst c;rw[if_pos rfl,if_neg .(a)];unfold valL;rw[if_neg .(a)];show _=_++[];rw[yaw]
   .rw[if_neg c]
  clear F5 F6;refine zsh (xs:=us) (ys:=(zbJ .(n)).map V.bl) (by rw[yab,hml];exact hul.symm) (λm U H7=>∃ x5 x6:Option V,U=[some (.ref t),some (.ref r),some (.ref D),some (.int k),some (.int u),x5,x6]/\FA K H7 D qs' (ps.length+1) (λj=>if j=u then accL ps rows i u++zci (.(n).take m) ((zbJ .(n)).take m) else if j=k then zal ps rows k else valL ps rows i j)/\H7 l=some (.lst us)/\zan K H7 .(n) us/\H7 pm=some (.lst ((zbJ .(n)).map V.bl))/\Same H H7) ?_ ?_ ?_ ?_
  .exact #[_,_,rfl,F6',hl6,hus6,h6,s06]
  .rintro m U H7 _ ⟨x5,x6,rfl,F7,hl7,hus7,hm7,s7⟩;exact #[SqL.of hl7,SqL.of hm7]
  .rintro m x y U H7 rr hx hy ⟨x5,x6,rfl,F7,hl7,hus7,hm7,s7⟩ hrr;obtain ⟨e,he,hex⟩:=hus7.get hx;rw[yax]at hy;obtain ⟨b,hb,rfl⟩:=ybR.mp hy;have hme:=(yap.mp he).1;have hmb:=(yap.mp hb).1;have tke: .(n).take (m+1)= .(n).take m++[e]:=by rw[yaZ hme,(yap.mp he).2]
   have tkb:(zbJ .(n)).take (m+1)=(zbJ .(n)).take m++[b]:=by rw[yaZ hmb,(yap.mp hb).2]
   have hhs:zci (.(n).take (m+1)) ((zbJ .(n)).take (m+1))=zci (.(n).take m) ((zbJ .(n)).take m)++(if b=true then [e] else []):=by
    rw[tke,tkb];exact zjy (by rw[yar,yar];lia)
   rw[hhs];have sr:=zai hrr (.tup [x,.bl b]);refine #[rr,_,rfl,SqT.of zab,rfl,_,_,rfl,_,_,rfl,rfl,?_];refine ztL λN4 B4 R4 hN4 hB4 hR4=>?_;have F8:=F7.ext sr.ext;have hl8:=sr _ _ hl7;have hus8:=hus7.mono sr.ext;have hm8:=sr _ _ hm7;have s8:=s7.trans sr;have hex8:=Rep.mono sr.ext hex;clear sr F7 hl7 hus7 hm7 s7 hex;generalize upd H7 rr (.tup [x,.bl b])=H8 at F8 hl8 hus8 hm8 s8 hex8 ⊢;refine #[_,rfl,b,rfl,?_];cases b with
   | false=>
    refine iteF ?_;refine hN4 _ _ #[_,_,rfl,?_,hl8,hus8,hm8,s8];rw[if_neg yaC,yaw];exact F8
   | true=>
    refine iteT ?_;obtain ⟨qu,wu,hqu,hqu1,hqu2⟩:=F8.at (k:=u) .(a);have hqu2:zan K H8 (accL ps rows i u++zci (.(n).take m) ((zbJ .(n)).take m)) wu:=by
     have z:=hqu2;rw[if_pos rfl]at z;exact z
    have hwl:=hqu2.length;have hal:=yad (zsz hT hR hlen (i:=i) (j:=u) .(a) .(a)) hkeys;have hhl:=zgW (.(n).take m) ((zbJ .(n)).take m);rw[yar]at hhl;rw[yan]at hwl;have hlu:l≠qu:=λz=>by
     subst z;obtain ⟨i1,e1⟩:=yap.mp hqk;obtain ⟨i2,e2⟩:=yap.mp hqu;exact ya9.mp F8.nd u k i2 i1 hlt (e2.trans e1.symm)
    have hpu:pm≠qu:=λz=>hpmq (by rw[z];exact yaM hqu);have hu0:=hqs5 qu (yaM hqu);have F9:=F8.put hqu hqu1 hex8;refine #[_,rfl,_,rfl,_,_,_,_,rfl,rfl,SqL.of F8.at_,zb1 hqu,.inl #[rfl,_,SqL.of hqu1],_,rfl,_,_,_,rfl,rfl,hqu1,zap .(a),?_];refine hN4 _ _ #[_,_,rfl,F9.congr λj hj=>?_,by rw[zag hlu];exact hl8,zaR hqu1 hus8,by rw[zag hpu];exact hm8,λb o e=>by rw[zag (zad e hu0)];exact s8 _ _ e];show (if j=u then (if j=u then _ else _)++[e] else (if j=u then _ else _))=_
    by_cases c:j=u
    .rw[if_pos c,if_pos c,if_pos c,if_pos rfl,yaV]
    .rw[if_neg c,if_neg c,if_neg c]
  rintro U H7 ⟨x5,x6,rfl,F7,hl7,hus7,hm7,s7⟩;refine hN _ _ #[qs',_,_,_,_,rfl,F7.congr λj hj=>?_,hqs5,s7];rw[<-hul,yat (yaa _),yat (by rw[hml];exact yaa _)];unfold valL;have e1:ps.length-(i+1)=k-1:=by lia
  have e2:ps.length-i=k:=by lia
  have eacc:accL ps rows (i+1) j=accL ps rows i j++(if par ps k=some j then zbZ .(n) else []):=by
   rw[accL,e2]
  rw[e1,e2,eacc,hu];by_cases c:j=u
  .subst c;rw[if_pos rfl,if_neg .(a),if_pos rfl];rfl
  .rw[if_neg c];by_cases c2:j=k
   .rw[if_pos c2,if_pos .(a),c2]
   .rw[if_neg c2];by_cases c3:k<j
    .rw[if_pos c3,if_pos .(a)]
    .rw[if_neg c3,if_neg .(a),if_neg (λz=>c (yae z).symm),yaw]
 rintro U H3 ⟨qs,x3,x4,x5,x6,rfl,F3,hqs,s3⟩;refine n1 _ _ ?_;intro N5 n5;obtain ⟨q0,ws,hq0,hq1,hq2⟩:=F3.at (k:=0) .(a);have ev:valL ps rows ps.length 0=accL ps rows ps.length 0:=by
  unfold valL;rw[if_neg .(a)]
 rw[ev]at hq2;refine #[_,rfl,_,_,_,_,rfl,rfl,SqL.of F3.at_,zb1 hq0,q0,ws,_,rfl,SqL.of hq1,hq2,λl us hl hus=>?_];have hsort:zcB (accL ps rows ps.length 0)=zal ps rows 0:=ziV hT hR (k:=0) .(a);rw[hsort]at hus;have sl:=zai hl (.lst us);have F4:=F3.ext sl.ext;have hl4:upd H3 l (.lst us) l=some (.lst us):=zab;have hus4:=hus.mono sl.ext;have s4:=s3.trans sl;have hlq:l∉qs:=λz=>by
  obtain ⟨j,hj,e⟩:=yaW z;obtain ⟨ws,w1,_⟩:=F3.get j l (by rw[yac hj,e]);rw[hl]at w1;cases w1
 have hlD:l≠D:=λz=>by
  have:=F3.at_;rw[<-z,hl]at this;cases this
 have hl0:H l=none:=s3.free hl;clear sl;generalize upd H3 l (.lst us)=H4 at F4 hl4 hus4 s4 ⊢;refine #[_,rfl,_,_,_,0,rfl,rfl,F4.at_,zdv (k:=0) (by rw[yab,F4.len];exact ybS _),n5 _ _ ?_];refine .(z);refine q D (qs.set 0 l) _ hD0 (λb o e=>by rw[zag (zad e hD)];exact s4 _ _ e) ((F4.set (k:=0) hl4 hus4 hlq hlD).congr λj hj=>?_) λq hq=>?_
 .show (if j=0 then _ else _)=_
  by_cases c:j=0
  .rw[if_pos c,c]
  .rw[if_neg c];unfold valL;rw[if_pos .(a)]
 .rcases ybN hq with y|y
  .exact hqs q y
  .rw[y];exact hl0
def zaO (a b:List En):List En:=a.filter λe=>decide (e∉b)
def zbo {e:En}:e∈zaO a b↔e∈a/\e∉b:=by
 unfold zaO;rw[ybj,decide_eq_true_iff]
def zjF (a:List En):zaO a a=[]:=yci.mpr λe h=>by
 rw[yai (λz=>z h)];decide
def zhK {a:List En}(h:a.Nodup):(zaO a b).Nodup:=h.filter _
structure Led (f f' g c:List En):Prop where
 eq:f'=zcB (zaO f g++c)
 gone:g=zaO f f'
 come:c=zaO f' f
def znW (h1:Rise f)(h2:Rise f')(hg:Rise g)(hc:Rise c)(mg:∀ e,e∈g↔e∈f/\e∉f')(mc:∀ e,e∈c↔e∈f'/\e∉f):Led f f' g c:=by
 have nd:(zaO f g++c).Nodup:=by
  refine ybh.mpr #[zhK (zed h1),zed hc,λa ha b hb z=>?_];subst z;exact ((mc a).mp hb).2 (zbo.mp ha).1
 refine #[zfC h2 (zd2 nd) λe=>?_,zfC hg (h1.filter _) λe=>?_,zfC hc (h2.filter _) λe=>?_]
 .rw[zdI,yal,zbo,mg,mc];constructor
  .intro h;by_cases hf:e∈f
   .exact .inl #[hf,λz=>z.2 h]
   .exact .inr #[h,hf]
  .rintro (⟨h,n⟩|h)
   .exact Classical.byContradiction λz=>n #[h,z]
   .exact h.1
 .exact (mg e).trans zbo.symm
 .exact (mc e).trans zbo.symm
def zrZ (h1:Rise f)(h2:Rise f'):Led f f' (zaO f f') (zaO f' f):=znW h1 h2 (h1.filter _) (h2.filter _) (λ_=>zbo) (λ_=>zbo)
def ziH (h1:Rise f)(h2:Rise f')(hg:zaO f f'=[])(hc:zaO f' f=[]):f'=f:=zfC h2 h1 λe=>by
 constructor
 .intro h;exact Classical.byContradiction λz=>absurd (zbo.mpr #[h,z]) (by rw[hc];exact ybC)
 .intro h;exact Classical.byContradiction λz=>absurd (zbo.mpr #[h,z]) (by rw[hg];exact ybC)
section
variable {ps:List Nat}{rows rows':List .(j)}
def zf6 (k:Nat)(rows rows':List .(j)):Prop:=∀ j,j≠k->zaq rows' j=zaq rows j
def znp {k j:Nat}(h:zf6 k rows rows')(n:j≠k):ownE rows' j=ownE rows j:=by
 unfold ownE;rw[h j n]
def zgz (T:zax ps){k:Nat}(hk:k<ps.length+1)(h:zf6 k rows rows'):∀(m j:Nat),ps.length+1-j<=m->j<ps.length+1->isB ps j k=false->zal ps rows' j=zal ps rows j
 | 0,j,hm,hj,_=>by lia
 | m+1,j,hm,hj,hb=>by
  rw[zbv T hj,zbv T hj];unfold zc6;have njk:j≠k:=λz=>by
   rw[z,zcs]at hb;cases hb
  rw[znp h njk];congr 3;refine ycD λc hc=>?_;obtain ⟨hcn,hcp⟩:=zaF.mp hc;have hlt:=(zaN T hcp).1;rw[zgz T hk h m c .(a) hcn ?_];cases e:isB ps c k with
  | false=>rfl
  | true=>
   rw[(zcg T _ k (yaa _) hk).mpr (.inr #[c,hcp,e])]at hb;cases hb
def zok (T:zax ps)(R:zaD rows)(R':zaD rows'){k p:Nat}(hk:k<ps.length+1)(h:zf6 k rows rows')(hb:isB ps j k=true)(hp:par ps j=some p) :
  Led (zal ps rows p) (zal ps rows' p) (zaO (zbZ .(l)) (zbZ .(o))) (zaO (zbZ .(o)) (zbZ .(l))):=by
 have hlt:=zaN T hp;have hpn:p<ps.length+1:=by lia
 have npk:p≠k:=λz=>by
  have:=zdR T (show k<j by lia);rw[hb]at this;cases this
 have oth:∀ c,par ps c=some p->c≠j->zal ps rows' c=zal ps rows c:=λc hc n=>by
  refine zgz T hk h _ c (yaa _) (zaN T hc).2 ?_;cases e:isB ps c k with
  | false=>rfl
  | true=>exact (zc9 T hc hp n _ k (yaa _) e hb).elim
 have hr:=λ{r:List (List Int)} (R:zaD r)=>(zaJ T R hlt.2).sublist (zaS _);have dis:∀{r r':List (List Int)},zaD r->zaD r'->(∀ c,par ps c=some p->c≠j->zal ps r' c=zal ps r c)->ownE r' p=ownE r p->∀ e,e∈zbZ (zal ps r j)->e∉zbZ (zal ps r' j)->e∉zal ps r' p:=λ{r r'} Q Q' ho hw e he hn hf=>by
  obtain ⟨i,hi,hbi,ei,_⟩:=zep T Q hlt.2 e ((zaS _).subset he);rcases (zbu T hpn).mp hf with z|⟨c,hc,z⟩
  .have:=(zjl hpn z).2;have eij:i=p:=by lia
   have:=zdR T hlt.1;rw[<-eij,hbi]at this;cases this
  .by_cases cj:c=j
   .subst cj;exact hn z
   .obtain ⟨i2,hi2,hb2,e2,_⟩:=zep T Q' (zaN T hc).2 e ((zaS _).subset z);have eii:i2=i:=by lia
    subst eii;exact zc9 T hc hp cj _ i2 (yaa _) hb2 hbi
 have up:∀{r r':List (List Int)},(∀ c,par ps c=some p->c≠j->zal ps r' c=zal ps r c)->ownE r' p=ownE r p->∀ e,e∈zal ps r p->e∉zal ps r' p->e∈zbZ (zal ps r j)/\e∉zbZ (zal ps r' j):=λ{r r'} ho hw e he hn=>by
  refine #[?_,λz=>hn ((zbu T hpn).mpr (.inr #[j,hp,z]))];rcases (zbu T hpn).mp he with z|⟨c,hc,z⟩
  .exact absurd ((zbu T hpn).mpr (.inl (by rw[hw];exact z))) hn
  .by_cases cj:c=j
   .subst cj;exact z
   .exact absurd ((zbu T hpn).mpr (.inr #[c,hc,by rw[ho c hc cj];exact z])) hn
 have ow:=znp h npk;refine znW (zaJ T R hpn) (zaJ T R' hpn) ((hr R).filter _) ((hr R').filter _) (λe=>zbo.trans #[λzq0=>(by obtain ⟨a,b⟩:=zq0;exact #[(zbu T hpn).mpr (.inr #[j,hp,a]),dis R R' oth ow e a b]),λzq1=>(by obtain ⟨a,b⟩:=zq1;exact up oth ow e a b)]) (λe=>zbo.trans #[λzq2=>(by obtain ⟨a,b⟩:=zq2;exact #[(zbu T hpn).mpr (.inr #[j,hp,a]),dis R' R (λc hc n=>(oth c hc n).symm) ow.symm e a b]),λzq3=>(by obtain ⟨a,b⟩:=zq3;exact up (λc hc n=>(oth c hc n).symm) ow.symm e a b)])
def zjA (T:zax ps)(R:zaD rows)(R':zaD rows'){k:Nat}(hk:k<ps.length+1)(h:zf6 k rows rows'):Led .(n) (zal ps rows' k) (zaO (ownE rows k) (ownE rows' k)) (zaO (ownE rows' k) (ownE rows k)):=by
 have oth:∀ c,par ps c=some k->zal ps rows' c=zal ps rows c:=λc hc=>zgz T hk h _ c (yaa _) (zaN T hc).2 (zdR T (zaN T hc).1);have half:∀{r r':List (List Int)},zaD r'->(∀ c,par ps c=some k->zal ps r' c=zal ps r c)->∀ e,(e∈ownE r k/\e∉ownE r' k)↔e∈zal ps r k/\e∉zal ps r' k:=λ{r r'} Q' ho e=>by
  constructor
  .rintro ⟨a,b⟩;refine #[(zbu T hk).mpr (.inl a),λz=>?_];rcases (zbu T hk).mp z with z|⟨c,hc,z⟩
   .exact b z
   .obtain ⟨i,hi,hbi,ei,_⟩:=zep T Q' (zaN T hc).2 e ((zaS _).subset z);have:=(zjl hk a).2;have eik:i=k:=by lia
    have:=zdR T (zaN T hc).1;rw[<-eik,hbi]at this;cases this
  .rintro ⟨a,b⟩;refine #[?_,λz=>b ((zbu T hk).mpr (.inl z))];rcases (zbu T hk).mp a with z|⟨c,hc,z⟩
   .exact z
   .exact absurd ((zbu T hk).mpr (.inr #[c,hc,by rw[ho c hc];exact z])) b
 have ori:∀{r:List (List Int)},zaD r->Rise (ownE r k):=λ{r} Q=>by
  unfold ownE;exact List.Pairwise.map _ (R:=λa b:Int=>a<b) (λa b (h:a<b)=>zc2.mpr (.inl h)) (Q.at_up k)
 exact znW (zaJ T R hk) (zaJ T R' hk) ((ori R).filter _) ((ori R').filter _) (λe=>zbo.trans (half R' oth e)) (λe=>zbo.trans (half R (λc hc=>(oth c hc).symm) e))
end
structure zaV (K:Frag)(CS:Addr)(H:Hp)(sh dx st p:Addr)(qs:List Addr)(ps:List Nat)(rows:List .(j))(t rs:Addr)(as:List Addr):Prop where
 own:H dx=some (.own sh)
 ins:H sh=some (.ins CS dx [("kept",.ref st),("fulls",.ref p)])
 stand:zbz H st ps rows t rs as
 full:FA K H p qs (ps.length+1) (zal ps rows)
def Tp (H H':Hp):Prop:=∀ b us,H b=some (.tup us)->H' b=some (.tup us)
def zkd (e:Tp H H')(h:zaQ H as rows):zaQ H' as rows:=pImp (λ_ _=>e _ _) h
def zcl {st t:Addr}(e:Tp H H')(S:zbz H st ps rows t rs as):zbz H' st ps rows t rs as:=
 #[e _ _ S.st,e _ _ S.tr,e _ _ S.rs,zkd e S.at_,S.len,S.T,S.R,S.few,S.keys]
def But.tp (k:But p H H')(n:∀ us,H p≠some (.tup us)):Tp H H':=λb us e=>k b _ (λz=>n us (z ▸ e)) e
def zbe {K:Frag}(k:Tp H H'){es:List (Int×Int)}{ws:List V}(h:zan K H es ws):zan K H' es ws:=pImp (λ_ _ h=>by
  obtain ⟨a,x1,x2,rfl,hT,e1,e2⟩:=(show hasP K H _ _ from h);exact #[a,x1,x2,rfl,k _ _ hT,e1,e2]) h
def FA.tp {K:Frag}(h:FA K H p qs n f)(e:Tp H H')(l:∀ b us,H b=some (.lst us)->H' b=some (.lst us)):FA K H' p qs n f:=
 #[l _ _ h.at_,h.len,h.nd,h.np,λj q hq=>by
  obtain ⟨ws,h1,h2⟩:=h.get j q hq;exact #[ws,l _ _ h1,zbe e h2]]
inductive zk3 (K:Frag)(CS:Addr)(vs:List V)(H:Hp)(Q:VK)(w_1:XK):Prop
 | c:∀(sh dx st:Addr) (ps:List Nat) (rows:List (List Int)) (t rs:Addr) (as:List Addr),vs=[.ref sh,.ref st]->H dx=some (.own sh)->H sh=some (.ins CS dx [])->zbz H st ps rows t rs as->(∀(p:Addr) (qs:List Addr) (H':Hp),H p=none->(∀ q∈qs,H q=none)->But sh H H'->zaV K CS H' sh dx st p qs ps rows t rs as->Q .non H')->zk3 K CS vs H Q w_1
def ztV {K:Frag}:∀{n:Nat} {qs:List Addr} (m:Nat),zaK K H ps rows (List.range' m n) qs->qs.length=n/\∀(j:Nat) (q:Addr),qs[j]?=some q->∃ ws,H q=some (.lst ws)/\zan K H (zal ps rows (m+j)) ws
 | 0,_,_,.nil=>#[rfl,λj q h=>by simp at h]
 | n+1,_,m,.cons (b:=q) h r=>by
  obtain ⟨l,g⟩:=ztV (m+1) r;refine #[by rw[yaQ,l],λj q' hj=>?_];cases j with
  | zero=>
   obtain rfl:=yae hj;exact h
  | succ j=>
   have:=g j q' hj;rwa[show m+1+j=m+(j+1) by lia]at this
def zaK.fa {K:Frag}{p:Addr}{rows:List .(j)}{n:Nat}{qs:List Addr}(h:zaK K H ps rows (List.range n) qs)(hp:H p=some (.lst (qs.map V.ref)))(nd:qs.Nodup)(np:p∉qs):FA K H p qs n (zal ps rows):=by
 rw[List.range_eq_range']at h;obtain ⟨l,g⟩:=ztV 0 h;exact #[hp,l,nd,np,λj q hj=>by
  have:=g j q hj;rwa[ycv]at this]
def zrM (T:Txt K mg)(O:OwnC K mg CS)(qaG:DI K CS "Shelf.__init__" zbF zbs)(qdD:FC P w K mg base 8 "full_rows" zcW (zka K)):FI P w K mg base CS 9 zbs (zk3 K CS):=by
 refine qaG.ok qbr .(c) .(b)
 .obtain ⟨sh,dx,st,ps,rows,t,rs,as,rfl,_⟩:=h;rfl
 obtain ⟨sh,dx,st,ps,rows,t,rs,as,rfl,h1,h2,S,q⟩:=h;refine #[_,(zah (zhv (pv 0) (pv 1) rfl)
   (zae (zhv (pv 0) (zaA qdD hr (zaa (pv 1) zac)) rfl))),?_]
 refine #[_,rfl,_,rfl,sh,CS,dx,[],rfl,h2,O.cl,O.n_kept,by decide,?_];have k1:But sh H (upd H sh (.ins CS dx (putF "kept" (.ref st) []))):=λb o n e=>by rw[zag n];exact e
 have hsd:dx≠sh:=λz=>by rw[z,h2]at h1;cases h1
 have a1:=k1 _ _ hsd h1;have a2:upd H sh (.ins CS dx (putF "kept" (.ref st) [])) sh=some (.ins CS dx [("kept",.ref st)]):=zab;have S1:=zcl (k1.tp λus z=>by rw[h2]at z;cases z) S
 have hn:∀ b,upd H sh (.ins CS dx (putF "kept" (.ref st) [])) b=none->H b=none:=λb e=>by
  by_cases z:b=sh
  .subst z;rw[a2]at e;cases e
  .rwa[zag z]at e
 generalize upd H sh (.ins CS dx (putF "kept" (.ref st) []))=H1 at k1 a1 a2 S1 hn ⊢;refine #[_,rfl,st,ps,rows,t,rs,as,rfl,S1,λp qs H2 hp s2 g2 nd hq np F=>?_];have b2:=s2 _ _ a2;refine #[_,rfl,sh,CS,dx,_,rfl,b2,O.cl,O.n_fulls,(by show 1<1000;decide),?_];have k2:But sh H2 (upd H2 sh (.ins CS dx (putF "fulls" (.ref p) [("kept",.ref st)]))):=λb o n e=>by rw[zag n];exact e
 have F2:FA K (upd H2 sh (.ins CS dx (putF "fulls" (.ref p) [("kept",.ref st)]))) p qs (ps.length+1) (zal ps rows):=by
  exact (F.fa g2 nd np).tp (k2.tp λus z=>by rw[b2]at z;cases z) λb us e=>k2 b _ (λz=>by rw[z,b2]at e;cases e) e
 refine q p qs _ (hn _ hp) (λx hx=>hn _ (hq x hx)) (λb o n e=>k2 b o n (s2 _ _ (k1 b o n e))) #[k2 _ _ hsd (s2 _ _ a1),by rw[zab];rfl,zcl (k2.tp λus z=>by rw[b2]at z;cases z) (S1.same s2),F2]
inductive zfz (K:Frag)(vs:List V)(H:Hp)(Q:VK)(w_1:XK):Prop
 | c:∀(t:Addr) (kn:Nat) (ps:List Nat),vs=[.ref t,.int kn]->H t=some (.tup (zba ps))->ps.length<=900->kn<ps.length+1->Q .non H->zfz K vs H Q w_1
inductive zj4 (CS:Addr)(vs:List V)(H:Hp)(Q:VK)(w_1:XK):Prop
 | c:∀(sh dx st p:Addr),vs=[.ref sh]->H sh=some (.ins CS dx [("kept",.ref st),("fulls",.ref p)])->Q (.ref st) H->zj4 CS vs H Q w_1
def zpr (O:OwnC K mg CS)(qaW:DM K CS "stand" "Shelf.stand" zco zca):FM P w K mg base CS 1 "stand" zca (zj4 CS):=by
 refine qaW.ok qcF .(c) .(b)
 .obtain ⟨sh,dx,st,p,rfl,_⟩:=h;rfl
 obtain ⟨sh,dx,st,p,rfl,h2,q⟩:=h;refine #[_,(zae (zaw (zbT (pv 0) rfl))),?_];exact #[_,rfl,sh,CS,dx,_,_,rfl,h2,O.cl,O.n_kept,rfl,q]
def zpB (T:Txt K mg)(qaF:DF K mg "need_knot" zcC zaY)(qau:FC P w K mg base 2 "is_one_of_first" zaH (zid K)):FC P w K mg base 3 "need_knot" zaY (zfz K):=by
 refine qaF.ok qbI .(c) .(b)
 .obtain ⟨t,kn,ps,rfl,_⟩:=h;rfl
 obtain ⟨t,kn,ps,rfl,ht,hl,hk,q⟩:=h;refine #[_,(zae (zaW (zcU (zbI (zaA qau hr (zaa (zam (zak (K:=K)) rfl T.qas boot_len (zaa (pv 0) zac)) (zaa (pv 1) zac))))) (zae za4) zay)),?_];have el:=zao ps;refine #[_,rfl,_,_,rfl,.inr (SqT.of ht),_,rfl,_,_,rfl,by lia,by lia,_,rfl,?_];exact iteF q
def zoM (x:Int):Prop:=-10^60<x/\x<10^60
inductive zj6 (K:Frag)(vs:List V)(H:Hp)(Q:VK)(w_1:XK):Prop
 | c:∀(x:Int),vs=[.int x]->zoM x->Q .non H->zj6 K vs H Q w_1
def zpu (T:Txt K mg)(qbw:DF K mg "need_key" zd6 zdj)(qc7:FC P w K mg base 2 "is_key" zdK (zib K)):FC P w K mg base 3 "need_key" zdj (zj6 K):=by
 refine qbw.ok qdt .(c) .(b)
 .obtain ⟨x,rfl,_⟩:=h;rfl
 obtain ⟨x,rfl,hx,q⟩:=h;refine #[_,(zae (zaW (zcU (zbI (zaA qc7 hr (zaa (pv 0) zac)))) (zae za4) zay)),?_];refine #[_,rfl,_,true,rfl,.int x _ (yah (p:=(if x<0 then -x else x)<10^60) ?_).symm,_,rfl,?_]
 .obtain ⟨h1,h2⟩:=hx;split<;>lia
 exact iteF q
inductive zkb (K:Frag)(CS:Addr)(vs:List V)(H:Hp)(Q:VK)(w_1:XK):Prop
 | c:∀(sh dx st p:Addr) (kn:Nat) (qs:List Addr) (ps:List Nat) (rows:List (List Int)) (t rs:Addr) (as:List Addr),vs=[.ref sh,.int kn]->zaV K CS H sh dx st p qs ps rows t rs as->kn<ps.length+1->(∀(D:Addr) (ws:List V),H D=none->zan K H (zal ps rows kn) ws->Q (.ref D) (upd H D (.lst ws)))->zkb K CS vs H Q w_1
def zpF (T:Txt K mg)(O:OwnC K mg CS)(qa7:DM K CS "full" "Shelf.full" zcT zcr)(qaz:FC P w K mg base 3 "need_knot" zaY (zfz K)):FM P w K mg base CS 4 "full" zcr (zkb K CS):=by
 refine qa7.ok qcV .(c) .(b)
 .obtain ⟨sh,dx,st,p,kn,qs,ps,rows,t,rs,as,rfl,_⟩:=h;rfl
 obtain ⟨sh,dx,st,p,kn,qs,ps,rows,t,rs,as,rfl,S,hk,q⟩:=h;refine #[_,(zah (zbd (zaA qaz hr (zaa (zaL (zaG (K:=K)) (zbT (pv 0) rfl) zaf (λ_ _=>rfl)) (zaa (pv 1) zac))))
   (zae (zaw (zaU (zct (K:=K)) rfl T.qbK boot_list (zaa (zaL (zaC (K:=K)) (zbT (pv 0) rfl) (pv 1) (λ_ _=>rfl)) zac))))),?_]
 obtain ⟨qk,ws,g1,g2,g3⟩:=S.full.at hk;refine #[_,rfl,sh,CS,dx,_,_,rfl,S.ins,O.cl,O.n_kept,rfl,_,_,_,_,rfl,rfl,SqT.of S.stand.st,rfl,_,rfl,t,kn,ps,rfl,S.stand.tr,by have:=S.stand.few;lia,hk,?_];refine #[_,rfl,sh,CS,dx,_,_,rfl,S.ins,O.cl,O.n_fulls,rfl,_,rfl,_,_,_,_,rfl,rfl,SqL.of S.full.at_,zb1 g1,qk,ws,rfl,.inl (SqL.of g2),λD hD=>?_];exact q D ws hD g3
inductive zgd (K:Frag)(CS:Addr)(vs:List V)(H:Hp)(Q:VK)(w_1:XK):Prop
 | c:∀(sh dx st p:Addr) (kn:Nat) (x:Int) (qs:List Addr) (ps:List Nat) (rows:List (List Int)) (t rs:Addr) (as:List Addr),vs=[.ref sh,.int kn,.int x]->zaV K CS H sh dx st p qs ps rows t rs as->kn<ps.length+1->zoM x->(∀(a:Addr),as[kn]?=some a->H a=some (.tup ((zaq rows kn).map V.int))->Q (.ref a) H)->zgd K CS vs H Q w_1
def znA (T:Txt K mg)(O:OwnC K mg CS)(qaP:DM K CS "row_for" "Shelf.row_for" zbN zbi)(qaz:FC P w K mg base 3 "need_knot" zaY (zfz K))(qdU:FC P w K mg base 3 "need_key" zdj (zj6 K)):FM P w K mg base CS 4 "row_for" zbi (zgd K CS):=by
 refine qaP.ok qbM .(c) .(b)
 .obtain ⟨sh,dx,st,p,kn,x,qs,ps,rows,t,rs,as,rfl,_⟩:=h;rfl
 obtain ⟨sh,dx,st,p,kn,x,qs,ps,rows,t,rs,as,rfl,S,hk,hx,q⟩:=h;refine #[_,(zah (zbd (zaA qaz hr (zaa (zaL (zaG (K:=K)) (zbT (pv 0) rfl) zaf (λ_ _=>rfl)) (zaa (pv 1) zac))))
   (zah (zbd (zaA qdU hr (zaa (pv 2) zac)))
   (zae (zaw (zaL (zaG (K:=K)) (zaL (zaG (K:=K)) (zbT (pv 0) rfl) zaf (λ_ _=>rfl)) (pv 1) (λ_ _=>rfl)))))),?_]
 obtain ⟨a,g1,g2⟩:=S.stand.at_.get (k:=kn) (by rw[S.stand.len];exact hk);refine #[_,rfl,sh,CS,dx,_,_,rfl,S.ins,O.cl,O.n_kept,rfl,_,_,_,_,rfl,rfl,SqT.of S.stand.st,rfl,_,rfl,t,kn,ps,rfl,S.stand.tr,by have:=S.stand.few;lia,hk,?_];refine #[_,rfl,x,rfl,hx,?_];refine #[_,rfl,sh,CS,dx,_,_,rfl,S.ins,O.cl,O.n_kept,rfl,_,_,_,_,rfl,rfl,SqT.of S.stand.st,rfl,_,rfl,_,_,_,_,rfl,rfl,SqT.of S.stand.rs,zb1 g1,?_];exact q a g1 g2
abbrev kS (e:En):List Key:=[.inl e.1,.inl e.2]
def ztH (h:kS e=kS f):e=f:=by
 obtain ⟨a,b⟩:=e;obtain ⟨c,d⟩:=f;injection h with h1 h2;injection h2 with h2 _;have h1:a=c:=Sum.inl.inj h1;have h2:b=d:=Sum.inl.inj h2;rw[h1,h2]
def kvW (es:List En):List (List Key×V):=es.map λe=>(kS e,.bl true)
def zkr (e:En):∀ es:List En,valV (kvW es) (kS e)=if e∈es then some (.bl true) else none
 | []=>rfl
 | f::es=>by
  show valV ((kS f,.bl true)::kvW es) (kS e)=_;by_cases z:f=e
  .subst z;rw[zcO rfl,if_pos yaB]
  .rw[zbC (λy=>z (ztH y)),zkr e es];have hm:(e∈f::es)=(e∈es):=propext #[λh=>(yaq.mp h).resolve_left λy=>z y.symm,λh=>yaz _ h];by_cases y:e∈es
   .rw[if_pos y,if_pos (by rw[hm];exact y)]
   .rw[if_neg y,if_neg (by rw[hm];exact y)]
inductive zgC (K:Frag)(vs:List V)(H:Hp)(Q:VK)(w_1:XK):Prop
 | c:∀(a c:Addr) (ws us:List V) (es cs:List En),vs=[.ref a,.ref c]->H a=some (.lst ws)->zan K H es ws->es.length<=900->H c=some (.lst us)->zan K H cs us->cs.length<=900->cs.Nodup->(∀(p:Addr) (ws':List V) (H':Hp),H p=none->Same H H'->H' p=some (.lst ws')->zan K H' (zaO es cs) ws'->Q (.ref p) H')->zgC K vs H Q w_1
def zl3 (T:Txt K mg)(qcr:DF K mg "without" zeP zee):FC P w K mg base 1 "without" zee (zgC K):=by
 refine qcr.ok qbp .(c) .(b)
 .obtain ⟨a,c,ws,us,es,cs,rfl,_⟩:=h;rfl
 obtain ⟨a,c,ws,us,es,cs,rfl,ha,hw,hz,hc,hu,hzc,hnd,q⟩:=h;have hwl:=hw.length;have hul:=hu.length;refine #[_,(zah (zas (i:=2) qbp.nd rfl (Or.inr rfl) zpj)
   (zah (zbn PassesOwn.never rfl (zcF (pv 1)) (zau (i:=3) qbp.nd rfl (Or.inl rfl)) (zae (zfE (zfh hr) (pv 2) (pv 3) zew rfl)))
   (zae (zaw (zbU (N:=["entry","away"]) (own:=1) (cap:=[2]) rfl (zcF (pv 0)) #[rfl,rfl,rfl,rfl,rfl,rfl] (λ_ _ _ _ _=>(zau (i:=0) (show List.Nodup (["entry","away"]:List Str) by decide +kernel) rfl (Or.inl rfl))) (λ_ _ _ _ _=>(zdh (zat (zl2 (zfh hr)) (pv 0) (pv 1) (by with_unfolding_all rfl)))) (λ_ _ _ _ _=>(pv 0))))))),?_]
 intro D hD;have k0:But D H (upd H D (.dT [])):=λb o n e=>by rw[zag n];exact e
 have naD:a≠D:=zad ha hD;have ncD:c≠D:=zad hc hD;refine #[_,rfl,c,rfl,#[_,SqL.of (k0 _ _ ncD hc)],?_];refine ziO (xs:=us) (λi U H2=>∃ x3:Option V,U=[some (.ref a),some (.ref c),some (.ref D),x3]/\H2 D=some (.dT (kvW (cs.take i)))/\But D H H2) ?_ ?_ ?_ ?_
 .exact #[_,rfl,zab,k0]
 .rintro i U H2 _ ⟨x3,rfl,_,k2⟩;exact SqL.of (k2 _ _ ncD hc)
 .rintro i x U H2 hx ⟨x3,rfl,h2,k2⟩;obtain ⟨e,he,hhas⟩:=hu.get hx;obtain ⟨b,y1,y2,rfl,hb,hy1,hy2⟩:=(show hasP K H e x from hhas);have hy1:y1=.int e.1:=hy1;have hy2:y2=.int e.2:=hy2;subst hy1 hy2;have hi:=(yap.mp he).1;have htk:cs.take (i+1)=cs.take i++[e]:=by
   rw[yaZ hi,(yap.mp he).2]
  have h2b:=k2 _ _ (zad hb hD) hb;have hnot:e∉cs.take i:=λz=>by
   have hn2:=hnd;rw[<-ya2 (i+1) cs,htk]at hn2;have:=(ybh.mp (ybh.mp hn2).1).2.2 e z e (yao.mpr rfl);exact this rfl
  have hln:(kvW (cs.take i)).length<=1000:=by
   unfold kvW;rw[yab,yar];lia
  refine #[_,rfl,_,rfl,D,_,rfl,DPut.t (k:=kS e) h2 h2b (zap hln),?_];refine #[_,rfl,?_,λb o n e=>by rw[zag n];exact k2 b o n e];rw[zab,zeY _ (by rw[zkr,if_neg hnot]),htk];unfold kvW;rw[yas];rfl
 .rintro U H2 ⟨x3,rfl,h2,k2⟩;rw[yat .(a)]at h2;have s2:Same H H2:=λb o e=>k2 b o (zad e hD) e;have h2a:=s2 _ _ ha;refine #[_,rfl,a,rfl,#[_,SqL.of h2a],λp hp=>?_];have nDp:D≠p:=zad h2 hp;refine zch (xs:=ws) (λj U H5=>∃(x0:Option V) (us:List V),U=[x0,some (.ref D)]/\H5 p=some (.lst us)/\zan K H5 (zaO (es.take j) cs) us/\us.length<=j/\But p H2 H5) ?_ ?_ ?_ ?_
  .exact #[_,[],rfl,zab,.nil,yaa _,λb o n e=>by rw[zag n];exact e]
  .rintro j U H5 _ ⟨x0,us,rfl,_,_,_,k5⟩;exact k5.sq (SqL.of h2a) hp
  .rintro j m x U H5 hx hm ⟨x0,us,rfl,h5,hv,hul,k5⟩;have hj:=(yap.mp hx).1;obtain ⟨e,he,bb,x1,x2,rfl,hb,e1,e2⟩:∃ e,es[j]?=some e/\hasP K H e x:=hw.get hx;have e1':x1=.int e.1:=e1;have e2':x2=.int e.2:=e2;subst e1' e2';have htk:zaO (es.take (j+1)) cs=zaO (es.take j) cs++zaO [e] cs:=by
    unfold zaO;rw[yaZ .(a),(yap.mp he).2,yby]
   have b2:=s2 _ _ hb;have b5:=k5 _ _ (zad b2 hp) b2;have h5D:=k5 _ _ nDp h2;refine #[_,rfl,_,rfl,D,_,rfl,DGet.t (k:=kS e) h5D b5,_,rfl,?_];rw[zkr];by_cases c:e∈cs
   .rw[if_pos c];refine iteF #[m-1,by lia,by lia,_,_,rfl,h5,?_,by lia,k5];rw[htk,show zaO [e] cs=[] from ybD (p:=λe=>decide (e∉cs)) (by simpa using c),yaw];exact hv
   .rw[if_neg c];refine iteT #[_,rfl,_,h5,zap .(a),m-1,by lia,by lia,_,_,rfl,zab,?_,by rw[yan,yaU];lia,λb o n e=>by rw[zag n];exact k5 b o n e];rw[htk,show zaO [e] cs=[e] from ybp (p:=λe=>decide (e∉cs)) (yah c)];exact (zaR h5 hv).append (zaR h5 (.cons #[bb,.int e.1,.int e.2,rfl,b5,rfl,rfl] .nil))
  rintro U H5 ⟨x0,us',rfl,h5,hv,_,k5⟩;rw[<-hwl,yat (yaa _)]at hv;have hpH:H p=none:=by
   cases e:H p with
   | none=>rfl
   | some o=>
    rw[s2 _ _ e]at hp;cases hp
  exact q p us' H5 hpH (λb o e=>k5 b o (zad (s2 _ _ e) hp) (s2 _ _ e)) h5 hv
section
variable {ps:List Nat}{rows rows':List .(j)}{k:Nat}
def upN (ps:List Nat)(k:Nat):Nat->Option Nat
 | 0=>some k
 | m+1=>(upN ps k m).bind (par ps)
def zoT {m j p:Nat}(h:upN ps k m=some j)(hp:par ps j=some p):upN ps k (m+1)=some p:=by
 show (upN ps k m).bind (par ps)=_;rw[h];exact hp
def zhX {m j:Nat}(h:upN ps k m=some j):upN ps k (m+1)=par ps j:=by
 show (upN ps k m).bind (par ps)=_;rw[h];rfl
def zgb {m p:Nat}(h:upN ps k (m+1)=some p):∃ j,upN ps k m=some j/\par ps j=some p:=by
 cases e:upN ps k m with
 | none=>
  have:(upN ps k m).bind (par ps)=some p:=h;rw[e]at this;cases this
 | some j=>
  have:(upN ps k m).bind (par ps)=some p:=h;rw[e]at this;exact #[j,rfl,this]
def zkU (T:zax ps):∀{m j:Nat},upN ps k m=some j->j+m<=k
 | 0,j,h=>by
  have:k=j:=yae h;lia
 | m+1,j,h=>by
  obtain ⟨i,h1,h2⟩:=zgb h;have:=zkU T h1;have:=(zaN T h2).1;lia
def zhn (T:zax ps)(hk:k<ps.length+1){m j:Nat}(h:upN ps k m=some j):j<ps.length+1:=by
 have:=zkU T h;lia
def zhY (T:zax ps){i j:Nat}:∀ d m,upN ps k (m+d)=some i->upN ps k m=some j->i+d<=j
 | 0,m,h1,h2=>by
  rw[ybL,h2]at h1;have:=yae h1;lia
 | d+1,m,h1,h2=>by
  obtain ⟨x,g1,g2⟩:=zgb (m:=m+d) h1;have:=zhY T d m g1 h2;have:=(zaN T g2).1;lia
def zkV (T:zax ps)(hk:k<ps.length+1):∀{m j:Nat},upN ps k m=some j->isB ps j k=true
 | 0,j,h=>by
  have:k=j:=yae h;subst this;exact zcs
 | m+1,j,h=>by
  obtain ⟨i,h1,h2⟩:=zgb h;exact (zcg T _ k (yaa _) hk).mpr (.inr #[i,h2,zkV T hk h1])
def zqr (T:zax ps)(hk:k<ps.length+1):∀(n j:Nat),ps.length+1-j<=n->isB ps j k=true->∃ m,upN ps k m=some j
 | 0,j,hn,h=>by
  rcases (zcg T _ k (yaa _) hk).mp h with z|⟨c,hc,_⟩
  .exact #[0,congrArg some z]
  .have:=zaN T hc;lia
 | n+1,j,hn,h=>by
  rcases (zcg T _ k (yaa _) hk).mp h with z|⟨c,hc,hb⟩
  .exact #[0,congrArg some z]
  .have:=zaN T hc;obtain ⟨m,hm⟩:=zqr T hk n c .(a) hb;exact #[m+1,zoT hm hc]
def stL (ps:List Nat)(rows rows':List .(j))(k:Nat):Nat->Nat->List En
 | 0,i=>zal ps rows i
 | m+1,i=>if upN ps k m=some i then zal ps rows' i else stL ps rows rows' k m i
def zmU:∀{m i m':Nat},m'<m->upN ps k m'=some i->stL ps rows rows' k m i=zal ps rows' i
 | m+1,i,m',h,e=>by
  unfold stL;by_cases z:upN ps k m=some i
  .rw[if_pos z]
  .rw[if_neg z];refine zmU (m':=m') ?_ e;rcases ybX m' m with y|y
   .exact y
   .have:m'=m:=by lia
    subst this;exact absurd e z
def zhZ:∀{m i:Nat},(∀ m',m'<m->upN ps k m'≠some i)->stL ps rows rows' k m i=zal ps rows i
 | 0,_,_=>rfl
 | m+1,i,h=>by
  unfold stL;rw[if_neg (h m .(a))];exact zhZ λm' hm=>h m' .(a)
def zrj (T:zax ps){m j:Nat}(h:upN ps k m=some j):stL ps rows rows' k m j=zal ps rows j:=zhZ λm' hm e=>by
 have:=zhY T (m-m') m' (by rw[show m'+(m-m')=m by lia];exact h) e;lia
def zmA (T:zax ps)(R:zaD rows)(R':zaD rows')(hk:k<ps.length+1)(h:zf6 k rows rows'){m j:Nat}(hm:upN ps k m=some j)(e:zal ps rows' j=zal ps rows j):∀{d i:Nat},upN ps k (m+d)=some i->zal ps rows' i=zal ps rows i
 | 0,i,hi=>by
  rw[ybL,hm]at hi;have:=yae hi;subst this;exact e
 | d+1,i,hi=>by
  obtain ⟨x,g1,g2⟩:=zgb (m:=m+d) hi;have ih:=zmA T R R' hk h hm e g1;have L:=zok T R R' hk h (zkV T hk g1) g2;rw[ih,zjF]at L;exact ziH (zaJ T R (zhn T hk hi)) (zaJ T R' (zhn T hk hi)) L.gone.symm L.come.symm
def zri (T:zax ps)(R:zaD rows)(R':zaD rows')(hk:k<ps.length+1)(h:zf6 k rows rows'){m:Nat}(hm:upN ps k m=none\/∃ j,upN ps k m=some j/\zal ps rows' j=zal ps rows j){i:Nat}(hi:i<ps.length+1):stL ps rows rows' k m i=zal ps rows' i:=by
 cases e:isB ps i k with
 | false=>
  rw[zhZ λm' _ z=>by rw[zkV T hk z]at e;cases e]
  exact (zgz T hk h _ i (yaa _) hi e).symm
 | true=>
  obtain ⟨m',e'⟩:=zqr T hk _ i (yaa _) e;rcases ybX m' m with y|y
  .exact zmU y e'
  ·rw[zhZ λx hx z=>by
    have:=zhY T (m'-x) x (by rw[show x+(m'-x)=m' by lia];exact e') z;lia]
   rcases hm with hm|⟨j,hm,hj⟩
   .exfalso;have:∀ d,upN ps k (m+d)=none:=λd=>by
     induction d with
     | zero=>exact hm
     | succ d ih=>
      show (upN ps k (m+d)).bind (par ps)=none;rw[ih];rfl
    have:=this (m'-m);rw[show m+(m'-m)=m' by lia,e']at this;cases this
   .exact (zmA T R R' hk h hm hj (d:=m'-m) (by rw[show m+(m'-m)=m' by lia];exact e')).symm
end
def zmM (ps:List Nat)(rows rows':List .(j))(j:Nat):Tri Int (List En) (List En):=#[(j:Int),zaO .(l) .(o),zaO .(o) .(l)]
def zb2 (ps:List Nat)(rows rows':List .(j))(k:Nat):Nat->List (Tri Int (List En) (List En))
 | 0=>[]
 | m+1=>zb2 ps rows rows' k m++((upN ps k m).map (zmM ps rows rows')).toList
structure zcK (K:Frag)(CS:Addr)(H:Hp)(sh dx st p:Addr)(qs:List Addr)(ps:List Nat)(rows rows':List .(j))(t rs:Addr)(as:List Addr)(k m:Nat):Prop where
 own:H dx=some (.own sh)
 ins:H sh=some (.ins CS dx [("kept",.ref st),("fulls",.ref p)])
 stand:zbz H st ps rows' t rs as
 full:FA K H p qs (ps.length+1) (stL ps rows rows' k m)
def ziW (ps:List Nat)(rows rows':List .(j))(k m:Nat):Prop:=(∀ m' j,m'<m->upN ps k m'=some j->¬(zaO .(l) .(o)=[]/\zaO .(o) .(l)=[]))/\
 (upN ps k m=none\/∃ j,upN ps k m=some j/\zaO .(l) .(o)=[]/\zaO .(o) .(l)=[])
structure zt4 (K:Frag)(H:Hp)(D:Addr)(Fr:Addr->Prop)(e:Tri Int (List En) (List En))(v:V):Prop where
 ex:∃(u g c:Addr) (gw cw:List V),v=.ref u/\H u=some (.tup [.int e.a,.ref g,.ref c])/\H g=some (.lst gw)/\zan K H e.b gw/\H c=some (.lst cw)/\zan K H e.c cw/\g≠D/\c≠D/\Fr g/\Fr c
def zbK (K:Frag)(H:Hp)(D:Addr)(Fr:Addr->Prop):List (Tri Int (List En) (List En))->List V->Prop:=Paired (zt4 K H D Fr)
def zkY {R S:Tri Int (List En) (List En)->V->Prop}(h:∀ e v,R e v->S e v){es:List (Tri Int (List En) (List En))}{us:List V}(p:Paired R es us):Paired S es us:=by
 induction p with
 | nil=>exact .nil
 | cons a _ ih=>exact .cons (h _ _ a) ih
def zbK.keep {K:Frag}{H H':Hp}{D:Addr}{Fr:Addr->Prop}(k:∀ b o,b≠D->Fr b->H b=some o->H' b=some o)(tp:Tp H H'){es:List (Tri Int (List En) (List En))}{us:List V}(h:zbK K H D Fr es us):zbK K H' D Fr es us:=zkY (λe v z=>by
 obtain ⟨u,g,c,gw,cw,e1,e2,e3,e4,e5,e6,n1,n2,n3,n4⟩:=z.ex;exact #[u,g,c,gw,cw,e1,tp _ _ e2,k _ _ n1 n3 e3,zbe tp e4,k _ _ n2 n4 e5,zbe tp e6,n1,n2,n3,n4]) h
def zbK.imp {K:Frag}{H:Hp}{Fr Fr':Addr->Prop}(k:∀ b o,H b=some o->Fr b->Fr' b){es:List (Tri Int (List En) (List En))}{us:List V}(h:zbK K H D Fr es us):zbK K H D Fr' es us:=zkY (λe v z=>by
 obtain ⟨u,g,c,gw,cw,e1,e2,e3,e4,e5,e6,n1,n2,n3,n4⟩:=z.ex;exact #[u,g,c,gw,cw,e1,e2,e3,e4,e5,e6,n1,n2,k _ _ e3 n3,k _ _ e5 n4]) h
def zbK.snoc {K:Frag}{Fr:Addr->Prop}{v:V}{es:List (Tri Int (List En) (List En))}{us:List V}(h:zbK K H D Fr es us)(g:zt4 K H D Fr e v):zbK K H D Fr (es++[e]) (us++[v]):=by
 induction h with
 | nil=>exact .cons g .nil
 | cons a _ ih=>exact .cons a ih
inductive zif (K:Frag)(CS:Addr)(vs:List V)(H:Hp)(Q:VK)(w_1:XK):Prop
 | c:∀(sh dx st p g c:Addr) (gw cw:List V) (kn:Nat) (qs:List Addr) (ps:List Nat) (rows rows':List (List Int)) (t rs:Addr) (as:List Addr) (Fr:Addr->Prop),vs=[.ref sh,.int kn,.ref g,.ref c]->zcK K CS H sh dx st p qs ps rows rows' t rs as kn 0->kn<ps.length+1->zf6 kn rows rows'->zaD rows->rows.length=ps.length+1->zby rows<=400->H g=some (.lst gw)->zan K H (zaO (zal ps rows kn) (zal ps rows' kn)) gw->H c=some (.lst cw)->zan K H (zaO (zal ps rows' kn) (zal ps rows kn)) cw->Fr g->Fr c->g∉qs->c∉qs->¬Fr p->(∀ b,H b=none->Fr b)->(∀(D:Addr) (us:List V) (m:Nat) (qs':List Addr) (H':Hp),ziW ps rows rows' kn m->H D=none->(∀ q∈qs',q∈qs\/H q=none)->But p H H'->zaV K CS H' sh dx st p qs' ps rows' t rs as->H' D=some (.lst us)->zbK K H' D (λb=>Fr b/\b∉qs') (zb2 ps rows rows' kn m) us->Q (.ref D) H')->zif K CS vs H Q w_1
def upV:Option Nat->V
 | none=>.non
 | some j=>.int j
def Goes (ps:List Nat)(rows rows':List .(j))(k m:Nat):Prop:=∀ m' j,m'<m->upN ps k m'=some j->¬(zaO .(l) .(o)=[]/\zaO .(o) .(l)=[])
structure CarI (K:Frag)(CS:Addr)(Fr:Addr->Prop)(H H2:Hp)(sh dx st p g c D:Addr)(gw cw us:List V)(qs qs':List Addr)(ps:List Nat)(rows rows':List .(j))(t rs:Addr)(as:List Addr)(k m:Nat):Prop where
 half:zcK K CS H2 sh dx st p qs' ps rows rows' t rs as k m
 hg:H2 g=some (.lst gw)
 hc:H2 c=some (.lst cw)
 cur:∀ j,upN ps k m=some j->zan K H2 (zaO .(l) .(o)) gw/\zan K H2 (zaO .(o) .(l)) cw
 goes:Goes ps rows rows' k m
 hD:H2 D=some (.lst us)
 told:zbK K H2 D (λb=>Fr b/\b∉qs') (zb2 ps rows rows' k m) us
 gD:g≠D
 cD:c≠D
 gp:Fr g
 cp:Fr c
 gq:g∉qs'
 cq:c∉qs'
 nD:H D=none
 nqs:∀ q∈qs',q∈qs\/H q=none
 but:But p H H2
 dp:D≠p
 dqs:D∉qs'
def zcK.keep {K:Frag}{st:Addr}{rows:List .(j)}{t rs:Addr}{k:Nat}(S:zcK K CS H sh dx st p qs ps rows rows' t rs as k m)(kp:But D H H')(hD:∀ o,H D=some o->∃ us,o=.lst us)(dp:D≠p)(dq:D∉qs):zcK K CS H' sh dx st p qs ps rows rows' t rs as k m:=by
 have nl:∀{b:Addr} {o:HO},H b=some o->(∀ us,o≠.lst us)->H' b=some o:=λ{b o} e n=>kp b o (λz=>by
  subst z;obtain ⟨us,z⟩:=hD _ e;exact n us z) e
 have tp:Tp H H':=λb us e=>nl e nofun;refine #[nl S.own nofun,nl S.ins nofun,zcl tp S.stand,kp _ _ dp.symm S.full.at_,S.full.len,S.full.nd,S.full.np,λj q hq=>?_];obtain ⟨ws,h1,h2⟩:=S.full.get j q hq;exact #[ws,kp _ _ (λz=>dq (z ▸ yaM hq)) h1,zbe tp h2]
def zi6 {k:Nat}(T:zax ps):∀ m:Nat,(zb2 ps rows rows' k m).length<=m
 | 0=>yaa _
 | m+1=>by
  unfold zb2;rw[yan];have:=zi6 (rows:=rows) (rows':=rows') (k:=k) T m;cases upN ps k m with
  | none=>exact yb6 this
  | some j=>exact ybV this
def ziv (ps:List Nat)(j:Nat):parV ps j=upV (par ps j):=by
 unfold parV;cases par ps j<;>rfl
def zpH (T:Txt K mg)(O:OwnC K mg CS)(qaH:DM K CS "carry_up" "Shelf.carry_up" zbE za7)(qb4:FC P w K mg base 6 "handed" zdL (zge K))(qbf:FC P w K mg base 1 "joined_up" zcf (zk2 K))(qcs:FC P w K mg base 1 "without" zee (zgC K)):FM P w K mg base CS 7 "carry_up" za7 (zif K CS):=by
 refine qaH.ok qak .(c) .(b)
 .obtain ⟨sh,dx,st,p,g,c,gw,cw,kn,qs,ps,rows,rows',t,rs,as,Fr,rfl,_⟩:=h;rfl
 obtain ⟨sh,dx,st,p,g,c,gw,cw,kn,qs,ps,rows,rows',t,rs,as,Fr,rfl,S,hk,hB,R,hlen,hkeys,hg,hgw,hc,hcw,ngp,ncp,ngq,ncq,hFp,hF0,q⟩:=h;refine #[_,(zaz (zas (i:=4) qak.nd rfl (Or.inl rfl) (zbS zac))
   (zaz (zgs PassesOwn.never (PW.pt (zfW (zat zki (pv 1) zgI (zaE _)) (zdJ (zat znu (zav za8 (zam (zak (K:=K)) rfl T.qas boot_len (zaa (pv 2) zac)) (zam (zak (K:=K)) rfl T.qas boot_len (zaa (pv 3) zac))) zaf (zaE _))))) (zaz (zbd (zfa F.plainAttrs_list F.slot_list_append F.type_list_append za0 (pv 4) (zaa (zaT (zaa (pv 1) (zaa (pv 2) (zaa (pv 3) zac)))) zac)))
   (zaz (zas (i:=5) qak.nd rfl (Or.inl rfl) (zaA qb4 hr (zaa (zaL (zaC (K:=K)) (zbT (pv 0) rfl) (pv 1) (λ_ _=>rfl)) zac)))
   (zaz (zdz (zaA qbf hr (zaa (zbS (zaa (zaA qcs hr (zaa (zaL (zaC (K:=K)) (zbT (pv 0) rfl) (pv 1) (λ_ _=>rfl)) (zaa (pv 2) zac))) (zaa (pv 3) zac))) zac)) (ze9 (zbT (pv 0) rfl) (pv 1) zcm))
   (zaz (zas (i:=6) qak.nd rfl (Or.inl rfl) (zaA qb4 hr (zaa (zaL (zaC (K:=K)) (zbT (pv 0) rfl) (pv 1) (λ_ _=>rfl)) zac)))
   (zaz (zas (i:=2) qak.nd rfl (Or.inl rfl) (zaA qcs hr (zaa (pv 5) (zaa (pv 6) zac))))
   (zaz (zas (i:=3) qak.nd rfl (Or.inl rfl) (zaA qcs hr (zaa (pv 6) (zaa (pv 5) zac))))
   (zae (zas (i:=1) qak.nd rfl (Or.inl rfl) (zaL (zaG (K:=K)) (zaL (zaG (K:=K)) (zbT (pv 0) rfl) zaf (λ_ _=>rfl)) (pv 1) (λ_ _=>rfl)))))))))))
   (zae (zaw (pv 4))))),?_]
 intro N0 n0;refine #[.(F),λD hD=>n0 _ _ ?_];intro Nw nw;have T':=S.stand.T;have R':=S.stand.R;have s0:=zai hD .(M);refine zgB (λU H2=>∃(g c:Addr) (gw cw us:List V) (qs':List Addr) (m:Nat) (x5 x6:Option V),U=[some (.ref sh),some (upV (upN ps kn m)),some (.ref g),some (.ref c),some (.ref D),x5,x6]/\CarI K CS Fr H H2 sh dx st p g c D gw cw us qs qs' ps rows rows' t rs as kn m)
  (λU H2=>∃(g c:Addr) (gw cw us:List V) (qs':List Addr) (m:Nat) (x5 x6:Option V),U=[some (.ref sh),some (upV (upN ps kn m)),some (.ref g),some (.ref c),some (.ref D),x5,x6]/\CarI K CS Fr H H2 sh dx st p g c D gw cw us qs qs' ps rows rows' t rs as kn m/\(upN ps kn m=none\/∃ j,upN ps kn m=some j/\zaO .(l) .(o)=[]/\zaO .(o) .(l)=[]))
  (λU _=>match U with|_::some (.int j)::_=>j.toNat+1|_=>0) ?_ ?_ ?_ ?_
 .refine #[g,c,gw,cw,[],qs,0,_,_,rfl,#[s0 _ _ S.own,s0 _ _ S.ins,S.stand.same s0,S.full.ext s0.ext],s0 _ _ hg,s0 _ _ hc,λj e=>?_,λm' j h=>absurd h (ybI _),zab,.nil,zad hg hD,zad hc hD,ngp,ncp,ngq,ncq,hD,λq h=>.inl h,λb o _ e=>s0 b o e,(λz=>by rw[z,S.full.at_]at hD;cases hD),λz=>?_]
  .have:kn=j:=yae e;subst this;exact #[hgw.mono s0.ext,hcw.mono s0.ext]
  .obtain ⟨j,hj,e⟩:=yaW z;obtain ⟨ws,w1,_⟩:=S.full.get j D (by rw[yac hj,e]);rw[hD]at w1;cases w1
 .rintro U H2 ⟨g,c,gw,cw,us,qs',m,x5,x6,rfl,I⟩;cases eu:upN ps kn m with
  | none=>
   refine #[_,rfl,rfl,_,rfl,?_];refine iteF ?_;refine iteF ?_;exact #[g,c,gw,cw,us,qs',m,x5,x6,by rw[eu],I,.inl eu]
  | some j=>
   refine #[_,rfl,rfl,_,rfl,?_];refine iteT ?_;refine #[_,rfl,_,_,rfl,.inl (SqL.of I.hg),_,rfl,_,_,rfl,.inl (SqL.of I.hc),_,_,rfl,rfl,_,_,rfl,rfl,_,rfl,?_];obtain ⟨cg,cc⟩:=I.cur j eu;have lg:=cg.length;have lc:=cc.length;refine ite2 (λhpos=>?_) (λhneg=>?_)
   .have hmj:=zkU T' eu;have hjn:=zhn T' hk eu;have hfew:=S.stand.few;have hul:us.length<=m:=by
     have:=Paired.length I.told;have:=zi6 (rows:=rows) (rows':=rows') (k:=kn) T' m;lia
    refine ztL λN B' R0 hN hB' hR'=>?_;intro N1 n1;refine #[_,rfl,.inl #[rfl,_,SqL.of I.hD],?_];refine #[_,rfl,_,rfl,_,rfl,(by show 3<=sizeLine;decide),λu hu=>?_];have su:=zai hu (.tup [upV (some j),.ref g,.ref c]);have huT:upd H2 u (.tup [upV (some j),.ref g,.ref c]) u=some (.tup [.int (j:Int),.ref g,.ref c]):=zab;generalize upd H2 u (.tup [upV (some j),.ref g,.ref c])=H3 at su huT ⊢;refine #[_,_,_,rfl,rfl,su _ _ I.hD,zap .(a),n1 _ _ ?_];intro N2 n2;have hDq:∀ o,H3 D=some o->∃ us,o=.lst us:=λo e=>#[us,by rw[su _ _ I.hD]at e;exact (yae e).symm];have k4:But D H3 (upd H3 D (.lst (us++[.ref u]))):=λb o n e=>by rw[zag n];exact e
    have S4:zcK K CS (upd H3 D (.lst (us++[.ref u]))) sh dx st p qs' ps rows rows' t rs as kn m:=zcK.keep #[su _ _ I.half.own,su _ _ I.half.ins,I.half.stand.same su,I.half.full.ext su.ext] k4 hDq I.dp I.dqs;have tp4:Tp H3 (upd H3 D (.lst (us++[.ref u]))):=k4.tp λus' z=>by rw[su _ _ I.hD]at z;cases z
    have tpS:Tp H2 H3:=λb us e=>su _ _ e;have g4:=k4 _ _ I.gD (su _ _ I.hg);have c4:=k4 _ _ I.cD (su _ _ I.hc);have cg4:=zbe tp4 (zbe tpS cg);have cc4:=zbe tp4 (zbe tpS cc);have D4:upd H3 D (.lst (us++[.ref u])) D=some (.lst (us++[.ref u])):=zab;have t4:zbK K (upd H3 D (.lst (us++[.ref u]))) D (λb=>Fr b/\b∉qs') (zb2 ps rows rows' kn (m+1)) (us++[.ref u]):=by
     have e:zb2 ps rows rows' kn (m+1)=zb2 ps rows rows' kn m++[zmM ps rows rows' j]:=by
      show _++((upN ps kn m).map (zmM ps rows rows')).toList=_;rw[eu];rfl
     rw[e];refine zbK.snoc (zbK.keep (λb o n1 _ e=>k4 b o n1 (su _ _ e)) (λb us e=>tp4 _ _ (tpS _ _ e)) I.told) #[u,g,c,gw,cw,rfl,tp4 _ _ huT,g4,cg4,c4,cc4,I.gD,I.cD,#[I.gp,I.gq],#[I.cp,I.cq]]
    have b4:But p H (upd H3 D (.lst (us++[.ref u]))):=λb o n e=>k4 b o (zad e hD) (su _ _ (I.but b o n e));clear k4 hDq tp4;generalize upd H3 D (.lst (us++[.ref u]))=H4 at S4 g4 c4 cg4 cc4 D4 t4 b4 ⊢;obtain ⟨qj,ws,f1,f2,f3⟩:=S4.full.at hjn;rw[zrj T' eu]at f3;have hle:=zdT T' hlen hjn;have hle':=zdT T' S.stand.len hjn;have hk':=S.stand.keys;refine #[_,rfl,sh,CS,dx,_,_,rfl,S4.ins,O.cl,O.n_fulls,rfl,_,rfl,_,_,_,_,rfl,rfl,SqL.of S4.full.at_,zb1 f1,qj,ws,_,rfl,f2,f3,by lia,zfj T' R hfew hjn,zaJ T' R hjn,λB H5 hB5 s5 h5=>n2 _ _ ?_];intro N3 n3;have hh5:zan K H5 (zbZ .(l)) (zci ws (zbJ .(l))):=zgy (f3.mono s5.ext);have tp5:Tp H4 H5:=λb us e=>s5 _ _ e;have S5:zcK K CS H5 sh dx st p qs' ps rows rows' t rs as kn m:=#[s5 _ _ S4.own,s5 _ _ S4.ins,S4.stand.same s5,S4.full.ext s5.ext];have ndg:(zaO .(l) .(o)).Nodup:=zhK (zdw T' R hjn);refine #[_,rfl,sh,CS,dx,_,_,rfl,S5.ins,O.cl,O.n_fulls,rfl,_,rfl,_,_,_,_,rfl,rfl,SqL.of S5.full.at_,zb1 f1,_,rfl,qj,g,ws,gw,_,_,rfl,s5 _ _ f2,f3.mono s5.ext,by lia,s5 _ _ g4,cg4.mono s5.ext,?_,ndg,λW ww H6 hW s6 h6 hw6=>?_]
    .exact yad (ybs _ _) .(a)
    refine #[_,rfl,.(m),λL hL=>?_];have s7:=zai hL (.lst [.ref W,.ref c]);have c7:=s7 _ _ (s6 _ _ (s5 _ _ c4));have hL7:upd H6 L (.lst [.ref W,.ref c]) L=some (.lst ([W,c].map V.ref)):=zab;have W7:=s7 _ _ h6;have w7:=hw6.mono s7.ext;generalize upd H6 L (.lst [.ref W,.ref c])=H7 at s7 c7 hL7 W7 w7 ⊢;have s47:Same H4 H7:=s5.trans (s6.trans s7);have cl:(zaO .(o) .(l)).length<= .(o).length:=ybs _ _;have gl:(zaO .(l) (zaO .(l) .(o))).length<= .(l).length:=ybs _ _;refine #[L,[W,c],[zaO .(l) (zaO .(l) .(o)),zaO .(o) .(l)],rfl,hL7,.cons #[ww,W7,w7] (.cons #[cw,c7,cc4.mono s47.ext] .nil),?_,λJ jw H8 hJ s8 h8 hw8=>?_]
    .rw[ycj,ycj,List.flatten_nil,yaw,yan];lia
    rw[ycj,ycj,List.flatten_nil,yaw,<-(zrZ (zaJ T' R hjn) (zaJ T' R' hjn)).eq]at hw8;have s48:Same H4 H8:=s47.trans s8;have S8:zcK K CS H8 sh dx st p qs' ps rows rows' t rs as kn m:=#[s48 _ _ S4.own,s48 _ _ S4.ins,S4.stand.same s48,S4.full.ext s48.ext];refine #[_,rfl,sh,CS,dx,_,_,rfl,S8.ins,O.cl,O.n_fulls,rfl,_,rfl,p,_,_,j,rfl,rfl,S8.full.at_,zdv (by rw[yab,S8.full.len];exact hjn),n3 _ _ ?_];intro N4 n4;have nn:∀{b:Addr},H7 b=none->H4 b=none:=λ{b} e=>by
     cases e4:H4 b with
     | none=>rfl
     | some o=>
      rw[s47 _ _ e4]at e;cases e
    have hJ4:=nn hJ;have hJp:J≠p:=λz=>by rw[z,S4.full.at_]at hJ4;cases hJ4
    have hJq:J∉qs':=λz=>by
     obtain ⟨i,hi,e⟩:=yaW z;obtain ⟨ws,w1,_⟩:=S4.full.get i J (by rw[yac hi,e]);rw[hJ4]at w1;cases w1
    have hJD:D≠J:=λz=>by rw[<-z,D4]at hJ4;cases hJ4
    have hBp:B≠p:=λz=>by rw[z,S4.full.at_]at hB5;cases hB5
    have F9:=S8.full.set (k:=j) h8 hw8 hJq hJp;have k9:But p H8 (upd H8 p (.lst ((qs'.map V.ref).set j (.ref J)))):=λb o n e=>by rw[zag n];exact e
    have tp9:Tp H8 (upd H8 p (.lst ((qs'.map V.ref).set j (.ref J)))):=k9.tp λus' z=>by rw[S8.full.at_]at z;cases z
    have F9':FA K (upd H8 p (.lst ((qs'.map V.ref).set j (.ref J)))) p (qs'.set j J) (ps.length+1) (stL ps rows rows' kn (m+1)):=F9.congr λi hi=>by
     show _=if upN ps kn m=some i then zal ps rows' i else stL ps rows rows' kn m i
     rw[eu];by_cases z:i=j
     .rw[if_pos z,if_pos (by rw[z]),z]
     .rw[if_neg z,if_neg (λy=>z (yae y).symm)]
    have nlp:∀{b:Addr} {o:HO},H8 b=some o->(∀ us,o≠.lst us)->upd H8 p (.lst ((qs'.map V.ref).set j (.ref J))) b=some o:=λ{b o} e n=>k9 b o (λz=>by
     rw[z,S8.full.at_]at e;exact n _ (yae e).symm) e
    have S9:zcK K CS (upd H8 p (.lst ((qs'.map V.ref).set j (.ref J)))) sh dx st p (qs'.set j J) ps rows rows' t rs as kn (m+1):=#[nlp S8.own (λ_ z=>nomatch z),nlp S8.ins (λ_ z=>nomatch z),zcl tp9 S8.stand,F9'];have s58:Same H5 H8:=s6.trans (s7.trans s8);have B9:=k9 _ _ hBp (s58 _ _ h5);have hB9:=zbe tp9 (hh5.mono s58.ext);have J9:=k9 _ _ hJp h8;have hJ9:=zbe tp9 hw8;have D9:=k9 _ _ I.dp (s48 _ _ D4);have t4':=t4.imp (Fr':=λb=>Fr b/\b∉qs'.set j J) λb o e n=>#[n.1,λz=>by
     rcases ybN z with y|y
     .exact n.2 y
     .rw[y,hJ4]at e;cases e]
    have t9:=zbK.keep (λb o _ n e=>k9 b o (λz=>hFp (z ▸ n.1)) (s48 _ _ e)) (λb us e=>tp9 _ _ (s48 _ _ e)) t4';have b9:But p H (upd H8 p (.lst ((qs'.map V.ref).set j (.ref J)))):=λb o n e=>k9 b o n (s48 _ _ (b4 b o n e));clear k9 tp9 nlp F9 F9';generalize upd H8 p (.lst ((qs'.map V.ref).set j (.ref J)))=H9 at S9 B9 hB9 J9 hJ9 D9 t9 b9 ⊢;have fJ:(qs'.set j J)[j]?=some J:=by
     have:=I.half.full.len;rw[ybE,if_pos rfl,if_pos .(a)]
    refine #[_,rfl,sh,CS,dx,_,_,rfl,S9.ins,O.cl,O.n_fulls,rfl,_,rfl,_,_,_,_,rfl,rfl,SqL.of S9.full.at_,zb1 fJ,J,jw,_,rfl,J9,hJ9,by lia,zfj T' R' hfew hjn,zaJ T' R' hjn,λA' H10 hA10 s10 h10=>n4 _ _ ?_];intro N5 n5;have hh10:zan K H10 (zbZ .(o)) (zci jw (zbJ .(o))):=zgy (hJ9.mono s10.ext);have hl1:=(zaS .(l)).length_le;have hl2:=(zaS .(o)).length_le;have nd1:=(zdw T' R hjn).sublist (zaS .(l));have nd2:=(zdw T' R' hjn).sublist (zaS .(o));refine #[_,rfl,_,rfl,B,A',_,_,_,_,rfl,s10 _ _ B9,hB9.mono s10.ext,by lia,h10,hh10,by lia,nd2,λG gw' H11 hG s11 h11 hw11=>n5 _ _ ?_];intro N6 n6;refine #[_,rfl,_,rfl,A',B,_,_,_,_,rfl,s11 _ _ h10,hh10.mono s11.ext,by lia,s11 _ _ (s10 _ _ B9),(hB9.mono s10.ext).mono s11.ext,by lia,nd1,λC cw' H12 hC s12 h12 hw12=>n6 _ _ ?_];have s92:Same H9 H12:=s10.trans (s11.trans s12);have S12:zcK K CS H12 sh dx st p (qs'.set j J) ps rows rows' t rs as kn (m+1):=#[s92 _ _ S9.own,s92 _ _ S9.ins,S9.stand.same s92,S9.full.ext s92.ext];refine #[_,rfl,sh,CS,dx,_,_,rfl,S12.ins,O.cl,O.n_kept,rfl,_,_,_,_,rfl,rfl,SqT.of S12.stand.st,rfl,_,rfl,_,_,_,_,rfl,rfl,SqT.of S12.stand.tr,zeH hjn,?_];have tp92:Tp H9 H12:=λb us e=>s92 _ _ e;have hnH:∀{b:Addr},H9 b=none->H b=none\/b=p:=λ{b} e=>by
     by_cases z:b=p
     .exact .inr z
     .refine .inl ?_;cases e4:H b with
      | none=>rfl
      | some o=>
       rw[b9 _ _ z e4]at e;cases e
    have nG:H9 G=none:=s10.free hG;have nC:H9 C=none:=s10.free (s11.free hC);have nqs:∀{b:Addr},H9 b=none->b∉qs'.set j J:=λ{b} e z=>by
     obtain ⟨i,hi,ei⟩:=yaW z;obtain ⟨ws,w1,_⟩:=S9.full.get i b (by rw[yac hi,ei]);rw[e]at w1;cases w1
    refine hN _ _ #[#[G,C,gw',cw',us++[.ref u],qs'.set j J,m+1,some (.ref B),some (.ref A'),?_,S12,s12 _ _ h11,h12,λi hi=>?_,λm' i hm' hi=>?_,s92 _ _ D9,zbK.keep (λb o _ _ e=>s92 _ _ e) tp92 t9,?_,?_,?_,?_,nqs nG,nqs nC,hD,λx hx=>?_,λb o n e=>s92 _ _ (b9 b o n e),I.dp,λz=>?_],?_]
    .rw[zhX eu,ziv];rfl
    .have L:=zok T' R R' hk hB (zkV T' hk eu) ((zhX eu).symm.trans hi);rw[<-L.gone,<-L.come];exact #[hw11.mono s12.ext,hw12]
    .rcases ybX m' m with y|y
     .exact I.goes m' i y hi
     .have:m'=m:=by lia
      subst this;rw[eu]at hi;have:=yae hi;subst this;rintro ⟨z1,z2⟩;rw[z1]at lg;rw[z2]at lc;have:(0:Int)<(gw.length:Int)+cw.length:=yaH hpos;rw[yb5]at lg lc;lia
    .exact λz=>by rw[z,D9]at nG;cases nG
    .exact λz=>by rw[z,D9]at nC;cases nC
    .exact (hnH nG).elim (hF0 _) λz=>by rw[z,S9.full.at_]at nG;cases nG
    .exact (hnH nC).elim (hF0 _) λz=>by rw[z,S9.full.at_]at nC;cases nC
    .rcases ybN hx with y|y
     .exact I.nqs x y
     .rw[y];refine .inr ?_;cases e4:H J with
      | none=>rfl
      | some o=>
       rw[b4 _ _ hJp e4]at hJ4;cases hJ4
    .rcases ybN z with y|y
     .exact I.dqs y
     .exact hJD y
    .rw[ziv];cases ep:par ps j with
     | none=>exact ybS _
     | some i=>
      have:=(zaN T' ep).1;show ((i:Int)).toNat+1<((j:Int)).toNat+1;lia
   .have e0:gw.length=0/\cw.length=0:=by
     have:¬ (0:Int)<(gw.length:Int)+cw.length:=λz=>hneg (yah z);lia
    exact #[g,c,gw,cw,us,qs',m,x5,x6,by rw[eu],I,.inr #[j,eu,ydg.mp .(a),ydg.mp .(a)]]
 .refine zi9 (λU H Q Q' m h=>?_) (λU H Q Q' m h=>?_)
  .obtain ⟨y1,e1,e3,b,e4,q⟩:=h;exact #[y1,e1,e3,b,e4,m _ _ q]
  .obtain ⟨y1,e1,p1,z1,e2,e3,y2,e4,p2,z2,e5,e6,i1,j1,e7,e8,i2,j2,e9,e10,b,e11,q⟩:=h;exact #[y1,e1,p1,z1,e2,e3,y2,e4,p2,z2,e5,e6,i1,j1,e7,e8,i2,j2,e9,e10,b,e11,m _ _ q]
 .rintro U H2 ⟨g,c,gw,cw,us,qs',m,x5,x6,rfl,I,hm⟩;have hm':upN ps kn m=none\/∃ j,upN ps kn m=some j/\zal ps rows' j=zal ps rows j:=hm.imp id λ⟨j,h1,h2,h3⟩=>#[j,h1,ziH (zaJ T' R (zhn T' hk h1)) (zaJ T' R' (zhn T' hk h1)) h2 h3];refine nw _ _ ?_;refine .(z);exact q D us m qs' H2 #[I.goes,hm] hD I.nqs I.but #[I.half.own,I.half.ins,I.half.stand,I.half.full.congr λi hi=>zri T' R R' hk hB hm' hi] I.hD I.told
def loN (row:List Int)(x:Int):Nat:=(row.filter λy=>decide (y<x)).length
def putR (row:List Int)(x:Int):List Int:=row.take (loN row x)++[x]++row.drop (loN row x)
def outR (row:List Int)(x:Int):List Int:=row.take (loN row x)++row.drop (loN row x+1)
def znV {x:Int}:∀{row:List Int},row.Pairwise .(O)->(∀ y∈row.take (loN row x),y<x)/\∀ y∈row.drop (loN row x),x<=y
 | [],_=>#[(λ_ h=>by simp at h),λ_ h=>by simp at h]
 | a::r,h=>by
  obtain ⟨h1,h2⟩:=ycN.mp h;by_cases c:a<x
  .have e:loN (a::r) x=loN r x+1:=by
    unfold loN;rw[ybp (p:=λy=>decide (y<x)) (yah c),yaQ]
   obtain ⟨i1,i2⟩:=znV (x:=x) h2;rw[e];refine #[λy hy=>?_,λy hy=>i2 y hy];rcases yaq.mp hy with z|z
   .rw[z];exact c
   .exact i1 y z
  .have e:loN (a::r) x=0:=by
    unfold loN;rw[yci.mpr,yb5];intro y hy z;have z:=yaH z;rcases yaq.mp hy with w|w
    .omega
    .have:=h1 y w;lia
   rw[e];refine #[(λy hy=>by simp at hy),λy hy=>?_];rcases yaq.mp hy with w|w
   .omega
   .have:=h1 y w;lia
def zis {y:Int}:y∈putR row x↔y∈row\/y=x:=by
 unfold putR;rw[yal,yal,yao];constructor
 .rintro ((h|h)|h)
  .exact .inl (ycc h)
  .exact .inr h
  .exact .inl (ycd h)
 .rintro (h|h)
  .rw[<-ya2 (loN row x) row]at h;rcases yal.mp h with h|h
   .exact .inl (.inl h)
   .exact .inr h
  .exact .inl (.inr h)
def zng {row:List Int}{x:Int}(h:row.Pairwise .(O))(n:x∉row):(putR row x).Pairwise .(O):=by
 obtain ⟨h1,h2⟩:=znV (x:=x) h;have h3:∀ y∈row.drop (loN row x),x<y:=λy hy=>by
  have:=h2 y hy;have:y≠x:=λz=>n (z ▸ ycd hy);lia
 have hp:=h;rw[<-ya2 (loN row x) row]at hp;obtain ⟨p1,p2,_⟩:=yaO.mp hp;unfold putR;refine yaO.mpr #[yaO.mpr #[p1,ydf _ _,λa ha b hb=>?_],p2,λa ha b hb=>?_]
 .rw[yao.mp hb];exact h1 a ha
 .have:=h3 b hb;rcases yal.mp ha with z|z
  .have:=h1 a z;lia
  .rw[yao.mp z];exact this
def zeC (row:List Int)(x:Int):(outR row x).Sublist row:=by
 unfold outR;have:(row.take (loN row x)++row.drop (loN row x+1)).Sublist (row.take (loN row x)++row.drop (loN row x)):=by
  refine List.Sublist.append (List.Sublist.refl _) ?_;rw[<-ycb];exact ycM _ _
 rwa[ya2]at this
def zkh {row:List Int}{x y:Int}(h:row.Pairwise .(O))(hx:x∈row):y∈outR row x↔y∈row/\y≠x:=by
 obtain ⟨h1,h2⟩:=znV (x:=x) h;have hd:∃ r,row.drop (loN row x)=x::r:=by
  have hm:x∈row.drop (loN row x):=by
   have hx':=hx;rw[<-ya2 (loN row x) row]at hx';rcases yal.mp hx' with z|z
   .exact absurd (h1 x z) .(a)
   .exact z
  cases e:row.drop (loN row x) with
  | nil=>rw[e]at hm;cases hm
  | cons a r=>
   have ha:=h2 a (by rw[e];exact yaB);rw[e]at hm;rcases yaq.mp hm with z|z
   .exact #[r,by rw[z]]
   .have hs:=h.sublist (ycM (loN row x) row);rw[e]at hs;have:=(ycN.mp hs).1 x z;lia
 obtain ⟨r,hr⟩:=hd;have hr1:row.drop (loN row x+1)=r:=by
  rw[<-ycb,hr];rfl
 have hs:=h.sublist (ycM (loN row x) row);rw[hr]at hs;have hlt:=(ycN.mp hs).1;unfold outR;rw[yal,hr1];constructor
 .rintro (z|z)
  .exact #[ycc z,λe=>absurd (h1 y z) .(a)]
  .refine #[ycd (by rw[hr];exact yaz _ z),λe=>?_];have:=hlt y z;lia
 .rintro ⟨z,n⟩;rw[<-ya2 (loN row x) row,hr]at z;rcases yal.mp z with z|z
  .exact .inl z
  .rcases yaq.mp z with z|z
   .exact absurd z n
   .exact .inr z
section
variable {rows:List .(j)}{kn:Nat}{x:Int}{r:List Int}
def zeX (h:kn<rows.length):zaq (rows.set kn r) kn=r:=by
 unfold zaq;rw[yaf,ybE,if_pos rfl,if_pos h];rfl
def ziU:zf6 kn rows (rows.set kn r):=λj n=>by
 unfold zaq;rw[yaf,ybE,if_neg (λz=>n z.symm),yaf]
def zcZ {k:Nat}{e:En}:e∈ownE rows k↔e.1∈zaq rows k/\e.2=(k:Int):=by
 unfold ownE;rw[yaE];constructor
 .rintro ⟨y,hy,rfl⟩;exact #[hy,rfl]
 .rintro ⟨h1,h2⟩;exact #[e.1,h1,by rw[<-h2]]
def zpc (h:kn<rows.length):zaO (ownE rows kn) (ownE (rows.set kn (putR .(f) x)) kn)=[]:=by
 refine yci.mpr λe he z=>?_;have z:=yaH z;obtain ⟨h1,h2⟩:=zcZ.mp he;exact z (zcZ.mpr #[by rw[zeX h];exact zis.mpr (.inl h1),h2])
def zpo (h:kn<rows.length):zaO (ownE (rows.set kn (outR .(f) x)) kn) (ownE rows kn)=[]:=by
 refine yci.mpr λe he z=>?_;have z:=yaH z;obtain ⟨h1,h2⟩:=zcZ.mp he;rw[zeX h]at h1;exact z (zcZ.mpr #[(zeC _ _).mem h1,h2])
def zlk {e:En}(h:Rise l)(m:∀ f,f∈l↔f=e):l=[e]:=zfC h (ydf _ _) λf=>by rw[m f,yao]
def zpd (h:kn<rows.length)(hup: .(f).Pairwise .(O))(hr:Rise (ownE (rows.set kn (putR .(f) x)) kn))(n:x∉zaq rows kn):zaO (ownE (rows.set kn (putR .(f) x)) kn) (ownE rows kn)=[(x,(kn:Int))]:=by
 refine zlk (hr.filter _) λe=>?_;rw[zbo,zcZ,zcZ,zeX h,zis];constructor
 .rintro ⟨⟨h1|h1,h2⟩,h3⟩
  .exact absurd #[h1,h2] h3
  .exact Prod.ext h1 h2
 .rintro rfl;exact #[#[.inr rfl,rfl],λz=>n z.1]
def zpn (h:kn<rows.length)(hup: .(f).Pairwise .(O))(hr:Rise (ownE rows kn))(hx:x∈zaq rows kn):zaO (ownE rows kn) (ownE (rows.set kn (outR .(f) x)) kn)=[(x,(kn:Int))]:=by
 refine zlk (hr.filter _) λe=>?_;rw[zbo,zcZ,zcZ,zeX h,zkh hup hx];constructor
 .rintro ⟨⟨h1,h2⟩,h3⟩;exact Prod.ext (Classical.byContradiction λz=>h3 #[#[h1,z],h2]) h2
 .rintro rfl;exact #[#[hx,rfl],λz=>z.1.2 rfl]
def zin (R:zaD rows)(hup:r.Pairwise .(O))(hk:∀ y∈r,-(10^60)<y/\y<10^60):zaD (rows.set kn r):=by
 refine #[λrow hrow=>?_,λrow hrow=>?_]
 .rcases ybN hrow with z|z
  .exact R.1 row z
  .rw[z]
   first|exact hup|exact hk
 .rcases ybN hrow with z|z
  .exact R.2 row z
  .rw[z]
   first|exact hup|exact hk
end
def zoy (xs:List V)(a:Nat):cutV xs none (some (a:Int))=xs.take a:=by
 unfold cutV;rw[zc1,show HT.sIx xs.length 0 none=0 from rfl,ycT,Nat.sub_zero];by_cases h:a<=xs.length
 .rw[ybc h]
 .rw[ybU .(a),yat (yaa _),yat .(a)]
def zg2 (xs:List V)(a:Nat):cutV xs (some (a:Int)) none=xs.drop a:=by
 unfold cutV;rw[zc1,show HT.sIx xs.length xs.length none=xs.length from rfl];by_cases h:a<=xs.length
 .rw[ybc h,yat (by rw[ya0];exact yaa _)]
 .rw[ybU .(a),yba (yaa _),yba (show xs.length<=a by lia),List.take_nil]
def zm7 {zs:List V}{k:Nat}{x:V}(h:k<zs.length):zs.set k x=zs.take k++[x]++zs.drop (k+1):=by
 rw[List.set_eq_take_append_cons_drop,if_pos h,yaV];rfl
inductive zk0 (K:Frag)(vs:List V)(H:Hp)(Q:VK)(w_1:XK):Prop
 | c:∀(st t rs:Addr) (zs:List V) (k:Nat) (x:V),vs=[.ref st,.int k,x]->H st=some (.tup [.ref t,.ref rs])->H rs=some (.tup zs)->k<zs.length->zs.length<=60->(∀(st' rs':Addr) (H':Hp),Same H H'->H' st'=some (.tup [.ref t,.ref rs'])->H' rs'=some (.tup (zs.set k x))->Q (.ref st') H')->zk0 K vs H Q w_1
def zrH (T:Txt K mg)(qbx:DF K mg "with_row" zd4 zcE):FC P w K mg base 1 "with_row" zcE (zk0 K):=by
 refine qbx.ok qb6 .(c) .(b)
 .obtain ⟨st,t,rs,zs,k,x,rfl,_⟩:=h;rfl
 obtain ⟨st,t,rs,zs,k,x,rfl,hst,hrs,hk,hz,q⟩:=h;refine #[_,(zah (zas (i:=3) qb6.nd rfl (Or.inl rfl) (zaL (zaG (K:=K)) (pv 0) zaf (λ_ _=>rfl)))
   (zae (zaw (zaT (zaa (zaL (zaG (K:=K)) (pv 0) zaf (λ_ _=>rfl)) (zaa (zav ziy (zav zdq (zbR (zd3 (K:=K)) (pv 3) zfF (zbx (pv 1))) (zaT (zaa (pv 2) zac))) (zbR (zd3 (K:=K)) (pv 3) (zbx (zav za8 (pv 1) zaf)) zfF)) zac)))))),?_]
 refine #[_,rfl,_,_,_,_,rfl,rfl,SqT.of hst,rfl,?_];refine #[_,rfl,_,_,_,_,rfl,rfl,SqT.of hst,rfl,?_];refine #[_,rfl,_,rfl,_,rfl,rs,zs,rfl,SqT.of hrs,(λz=>?_),λ_ p hp=>?_]
 .have:=z.2;rw[zc1]at this;lia
 rw[zoy];have g1:=zai hp (.tup (zs.take k));have w1:upd H p (.tup (zs.take k)) p=some (.tup (zs.take k)):=zab;generalize upd H p (.tup (zs.take k))=H1 at g1 w1 ⊢;refine #[_,rfl,.(x),λm hm=>?_];have g2:=zai hm (.tup [x]);have w2:upd H1 m (.tup [x]) m=some (.tup [x]):=zab;have w12:=g2 _ _ w1;generalize upd H1 m (.tup [x])=H2 at g2 w2 w12 ⊢;have hl1:(zs.take k).length=k:=by rw[yar];lia
 have rest:∀(u:Addr) (H3:Hp),Same H2 H3->H3 u=some (.tup (zs.take k++[x]))->∀{Q':VK},(∀(v:Addr) (H':Hp),Same H3 H'->H' v=some (.tup (zs.set k x))->Q' (.ref v) H')->∀(p2:Addr) (H4:Hp),Same H3 H4->H4 p2=some (.tup (zs.drop (k+1)))->zpa K (.ref u) (.ref p2) H4 Q':=λu H3 _ hu Q' q' p2 H4 s4 hp2=>by
  refine #[u,p2,_,_,rfl,rfl,SqT.of (s4 _ _ hu),SqT.of hp2,by simp,?_,λz=>?_,λz v hv=>?_]
  .refine yaj (zap ?_);rw[yan,hl1,ya0,yaU];lia
  .refine q' u H4 s4 ?_;rw[zm7 hk,z,yaw];exact s4 _ _ hu
  .refine q' v _ (s4.trans (zai hv _)) ?_;rw[zab,zm7 hk]
 have fin:∀(u:Addr) (H3:Hp),Same H2 H3->H3 u=some (.tup (zs.take k++[x]))->∀(v:Addr) (H':Hp),Same H3 H'->H' v=some (.tup (zs.set k x))->∀ p,H' p=none->Q (.ref p) (upd H' p (.tup [.ref t,.ref v])):=λu H3 s3 _ v H' s' hv p hp=>by
  have gp:=zai hp (.tup [.ref t,.ref v]);exact q p v _ (g1.trans (g2.trans (s3.trans (s'.trans gp)))) zab (gp _ _ hv)
 have e1k:(k:Int)+1=((k+1:Nat):Int):=by lia
 refine #[p,m,_,_,rfl,rfl,SqT.of w12,SqT.of w2,by simp,yaj (zap (by rw[hl1];show k+1<=1000;lia)),λz=>?_,λz u hu=>?_]
 .have e0:zs.take k++[x]=[x]:=by rw[z];rfl
  refine #[_,rfl,_,rfl,_,_,rfl,rfl,_,rfl,rs,zs,rfl,SqT.of (g2 _ _ (g1 _ _ hrs)),(λz=>?_),λ_ p2 hp2=>?_]
  .have:=z.1;rw[e1k,zc1]at this;lia
  rw[e1k,zg2];exact rest m H2 (λ_ _ e=>e) (by rw[e0];exact w2) (λv H' s' hv=>#[.(m),fin m H2 (λ_ _ e=>e) (by rw[e0];exact w2) v H' s' hv]) p2 _ (zai hp2 _) zab
 .have gu:=zai hu (.tup (zs.take k++[x]));have wu:upd H2 u (.tup (zs.take k++[x])) u=some (.tup (zs.take k++[x])):=zab;generalize upd H2 u (.tup (zs.take k++[x]))=H3 at gu wu ⊢;refine #[_,rfl,_,rfl,_,_,rfl,rfl,_,rfl,rs,zs,rfl,SqT.of (gu _ _ (g2 _ _ (g1 _ _ hrs))),(λz=>?_),λ_ p2 hp2=>?_]
  .have:=z.1;rw[e1k,zc1]at this;lia
  rw[e1k,zg2];exact rest u H3 gu wu (λv H' s' hv=>#[.(m),fin u H3 gu wu v H' s' hv]) p2 _ (zai hp2 _) zab
inductive zro (P:Program)(w:World)(K:Frag)(mg:Str->Option Value)(base:Heap)(vs:List V)(H:Hp)(Q:VK)(w_1:XK):Prop
 | c:∀(n:Nat) (f:Addr) (ps:List Str) (sp:Sp) (b:Nat->Bool) (R:Hp->Prop),vs=[.int n,.ref f]->FV P w K mg base 1 f ps sp->R H->(∀(i:Nat) (H1:Hp) (Q1:VK),i<n->R H1->(∀ H2,R H2->Q1 (.bl (b i)) H2)->sp [.int i] H1 Q1 E0)->(∀ i j,i<=j->j<n->b j=true->b i=true)->(∀(m:Nat) (H':Hp),m<=n->(∀ i,i<m->b i=true)->(∀ i,m<=i->i<n->b i=false)->R H'->Q (.int m) H')->zro P w K mg base vs H Q w_1
def zsI:L2.St->Hp->Nat:=λU _=>match U with
 | [_,_,some (.int lo),some (.int hi),_]=>(hi-lo).toNat
 | _=>0
def ztp (T:Txt K mg)(qaI:DF K mg "how_many_below" zbD zbq):FC P w K mg base 2 "how_many_below" zbq (zro P w K mg base):=by
 refine qaI.ok qam .(c) .(b)
 .obtain ⟨n,f,ps,sp,b,R,rfl,_⟩:=h;rfl
 obtain ⟨n,f,ps,sp,b,R,rfl,hF,hR,hask,hmono,q⟩:=h;refine #[_,(zah (zas (i:=2) qam.nd rfl (Or.inl rfl) zaf)
   (zah (zas (i:=3) qam.nd rfl (Or.inl rfl) (pv 0))
   (zah (zgs PassesOwn.never (zat zhi (pv 2) (pv 3) (zaE _)) (zah (zas (i:=4) qam.nd rfl (Or.inl rfl) (zav zgL (zav za8 (pv 2) (pv 3)) zaf))
   (zae (zaW (zbI (zpl (kr:=1) hr (pv 1) (zaa (pv 4) zac))) (zae (zas (i:=2) qam.nd rfl (Or.inl rfl) (zav za8 (pv 4) zaf))) (zae (zas (i:=3) qam.nd rfl (Or.inl rfl) (pv 4)))))))
   (zae (zaw (pv 2)))))),?_]
 refine .(z);refine zgB (λU H2=>∃(lo hi:Nat) (x4:Option V),U=[some (.int n),some (.ref f),some (.int lo),some (.int hi),x4]/\lo<=hi/\hi<=n/\(∀ i,i<lo->b i=true)/\(∀ i,hi<=i->i<n->b i=false)/\R H2) (λU H2=>∃(lo:Nat) (x4:Option V),U=[some (.int n),some (.ref f),some (.int lo),some (.int lo),x4]/\lo<=n/\(∀ i,i<lo->b i=true)/\(∀ i,lo<=i->i<n->b i=false)/\R H2) zsI ?_ ?_ ?_ ?_
 .exact #[0,n,_,rfl,yaF _,yaa _,λi h=>absurd h (ybI _),λi h1 h2=>absurd h2 (ybY.mpr h1),hR]
 .rintro U H2 ⟨lo,hi,x4,rfl,h1,h2,hb1,hb2,hR2⟩;refine #[_,rfl,_,rfl,_,_,rfl,rfl,_,rfl,?_];refine ite2 .(u) .(u)
  .have c1:(lo:Int)<(hi:Int):=yaH c;have em:((lo:Int)+(hi:Int))/2=(((lo+hi)/2:Nat):Int):=by lia
   have m1:lo<=(lo+hi)/2:=by lia
   have m2:(lo+hi)/2<hi:=by lia
   refine #[_,rfl,_,rfl,_,_,rfl,rfl,_,_,rfl,rfl,#[by decide,by decide],?_];refine #[_,rfl,f,1,ps,sp,rfl,hF,yaa _,_,rfl,?_];show sp [V.int (((lo:Int)+(hi:Int))/2)] H2 _ E0;rw[em];refine hask ((lo+hi)/2) H2 _ .(a) hR2 λH3 hR3=> .(z);cases hbm:b ((lo+hi)/2) with
   | true=>
    refine iteT ?_;refine #[_,rfl,_,_,rfl,rfl,#[(lo+hi)/2+1,hi,some (V.int (((lo:Int)+(hi:Int))/2)),?_,by lia,h2,λi hi'=>hmono i ((lo+hi)/2) .(a) .(a) hbm,hb2,hR3],?_]
    .show [some (V.int n),some (V.ref f),some (V.int (((lo:Int)+(hi:Int))/2+1)),some (V.int hi),some (V.int (((lo:Int)+(hi:Int))/2))]=_;rw[em,yc2];rfl
    .show ((hi:Int)-(((lo:Int)+(hi:Int))/2+1)).toNat<((hi:Int)-(lo:Int)).toNat;lia
   | false=>
    refine iteF ?_;refine #[_,rfl,#[lo,(lo+hi)/2,some (V.int (((lo:Int)+(hi:Int))/2)),?_,m1,by lia,hb1,λi hi' hin=>?_,hR3],?_]
    .show [some (V.int n),some (V.ref f),some (V.int lo),some (V.int (((lo:Int)+(hi:Int))/2)),some (V.int (((lo:Int)+(hi:Int))/2))]=_;rw[em]
    .cases hbi:b i with
     | false=>rfl
     | true=>
      have:=hmono ((lo+hi)/2) i hi' hin hbi;rw[hbm]at this;cases this
    .show ((((lo:Int)+(hi:Int))/2)-(lo:Int)).toNat<((hi:Int)-(lo:Int)).toNat;lia
  .have c1:¬ (lo:Int)<(hi:Int):=ycB (ycA.mpr c);have e:hi=lo:=by lia
   subst e;exact #[hi,_,rfl,h2,hb1,hb2,hR2]
 .intro U H Q Q' m h;obtain ⟨y1,e3,y2,e4,i2,j2,f2,g2,b2,e5,q⟩:=h;exact #[y1,e3,y2,e4,i2,j2,f2,g2,b2,e5,m _ _ q]
 rintro U H2 ⟨lo,x4,rfl,h2,hb1,hb2,hR2⟩;refine .(z);exact q lo H2 h2 hb1 hb2 hR2
def zfq (row:List Int)(key:Int):Nat:=(row.filter λx=>decide (x<key)).length
def zqi {row:List Int}{key:Int}{m:Nat}(hm:m<=row.length)(h1:∀ i,i<m->decide (row.getD i 0<key)=true)(h2:∀ i,m<=i->i<row.length->decide (row.getD i 0<key)=false):zfq row key=m:=by
 unfold zfq
 conv=>lhs;rw[<-ya2 m row]
 rw[yby,yan];have e1:(row.take m).filter (λx=>decide (x<key))=row.take m:=by
  rw[List.filter_eq_self];intro x hx;obtain ⟨i,hi,rfl⟩:=yaW hx;rw[yar]at hi;have:=h1 i .(a);rw[yaf,yac .(a)]at this;rw[List.getElem_take];exact this
 have e2:(row.drop m).filter (λx=>decide (x<key))=[]:=by
  rw[yci];intro x hx;obtain ⟨i,hi,rfl⟩:=yaW hx;rw[ya0]at hi;have:=h2 (m+i) .(a) .(a);rw[yaf,yac .(a)]at this;rw[List.getElem_drop];intro z;rw[show decide (row[m+i]<key)=false from this]at z;cases z
 rw[e1,e2,yar,yb5];lia
abbrev lamQ:Str:=(envOfC ("place" : Str) (zaj zfB) 0 0 .none).qual ++ "<lambda>"
abbrev zdF:Pos:=#[56,36,56,60]
inductive zh8 (K:Frag)(mp:Addr)(vs:List V)(H:Hp)(Q:VK)(w_1:XK):Prop
 | c:∀(r:Addr) (row:List Int) (key:Int),vs=[.ref r,.int key]->H r=some (.tup (row.map V.int))->row.Pairwise (· < ·)->zbw H mp zdF lamQ->(∀ H':Hp,Gro mp H H'->zbw H' mp zdF lamQ->Q (.int (zfq row key:Nat)) H')->zh8 K mp vs H Q w_1
def zpt (T:Txt K mg){mc mp:Addr}(qc8:DFT K mg "place" zfB ze1 mc mp)(hBM:BMAt mg base)(qbT:∀ base,FC P w K mg base 2 "how_many_below" zbq (zro P w K mg base)):FC P w K mg base 3 "place" ze1 (zh8 K mp):=by
 refine qc8.ok qey .(c) (λf A outer s H vs Q E hr h=>?_)
 .obtain ⟨r,row,key,rfl,_⟩:=h;rfl
 obtain ⟨r,row,key,rfl,h0,hup,hT,q⟩:=h;refine #[_,(zae (zaw (zlZ (kf:=0) qbT hr (zam (zak (K:=K)) rfl T.qas boot_len (zaa (pv 0) zac)) (ztB (osc:=zaj zfB) (N:=["row","key"]) (ps:=["at"]) (caps:=["key","row"]) (cap:=[1,0]) #[rfl,rfl,rfl,by decide +kernel,by decide +kernel,by decide +kernel,by decide +kernel] (by decide +kernel) (by decide +kernel) rfl rfl rfl rfl (λ_ _ _ _ us hl=>match us,hl with|[_],_=>rfl) (λ_=>rfl)) rfl qc8.hd hBM (λ_ _ _ _ _ _ _ _ _=>(zgJ zhi (zaL (zaG (K:=K)) (pv 2) (pv 0) (λ_ _=>rfl)) (pv 1) (zaE _)))))),?_]
 refine #[_,rfl,_,_,rfl,.inr (SqT.of h0),hT,[.int key,.ref r],rfl,?_,λbase f c' H2 hg hT2 hC hV=>?_]
 .intro j i v h1 h2;rcases j with _|_|j
  .cases h1;cases h2;rfl
  .cases h1;cases h2;rfl
  .cases h1
 have nmp:r≠mp:=λz=>by
  obtain ⟨tab,e,_⟩:=hT.ex;rw[<-z,h0]at e;cases e
 have h2r:=hg _ _ nmp h0;rw[yab];refine #[row.length,f,_,_,λi=>decide (row.getD i 0<key),λH'=>H'=H2,rfl,hV,rfl,λi H1 Q1 hi hR hQ=>?_,λi j hij hj hb=>?_,λm H' hm hb1 hb2 hR=>?_]
 .subst hR;refine #[rfl,hC,?_];have hat:atI (row.map V.int) ((i:Nat):Int)=some (.int (row.getD i 0)):=zeI (by rw[yax,yac hi,yaf,yac hi];rfl);refine #[_,rfl,_,rfl,_,_,_,_,rfl,rfl,SqT.of h2r,hat,_,rfl,_,_,rfl,rfl,?_];exact hQ _ rfl
 .refine yah ?_;have hb:=yaH hb;by_cases e:i=j
  .subst e;exact hb
  .have:=ya9.mp hup i j .(a) hj .(a);rw[yaf,yac .(a)]at hb ⊢;exact Int.lt_trans this hb
 .subst hR;have e:=zqi hm hb1 hb2;have q2:=q _ hg hT2;rw[e]at q2;exact q2
def zgw {r:List Int}:∀{rows:List (List Int)} {kn:Nat},kn<rows.length->zby (rows.set kn r)+ .(f).length=zby rows+r.length
 | [],_,h=>absurd h (ybI _)
 | a::rows,0,_=>by
  unfold zby
  rw[List.set_cons_zero,yav,yaP,yav,yaP];show r.length+_+a.length=_;lia
 | a::rows,kn+1,h=>by
  have ih:=zgw (r:=r) (rows:=rows) (kn:=kn) (Nat.lt_of_succ_lt_succ h);unfold zby at ih ⊢;rw[List.set_cons_succ,yav,yaP,yav,yaP];have e:zaq (a::rows) (kn+1)=zaq rows kn:=rfl;rw[e];lia
def ziM (n:Int)(xs:List Int):inV (.int n) (xs.map V.int)=decide (n∈xs):=by
 unfold inV
 induction xs with
 | nil=>rfl
 | cons x xs ih=>
  rw[yav,ybv,ih];show (x==n||decide (n∈xs))=decide (n∈x::xs);by_cases h:x=n
  .subst h;simp
  .have h2:¬ n=x:=λz=>h z.symm;simp[h,h2]
def zjh :∀{as:List Addr} {rows:List (List Int)},zaQ H as rows->Paired (zms H) as (rows.map List.length)
 | _,_,.nil=>.nil
 | _,_,.cons h t=>.cons #[_,.inr h,by rw[yab]] (zjh t)
section
variable {K:Frag}{H:Hp}{a b:Addr}{xs ys:List V}{n:Nat}{Q:VK}
def zqw (h:H a=some (.tup xs))(q:∀ v H',Same H H'->H' v=some (.tup (xs.take n))->Q (.ref v) H'):rSlX K (.ref a) none (some (n:Int)) H Q:=
 #[a,xs,rfl,SqT.of h,λz=>q a H (λ_ _ e=>e) (by
  have:=z.2;rw[zc1]at this;rw[yat (by lia)];exact h),λ_ p hp=>q p _ (zai hp _) (by rw[zab,zoy])]
def zk5 (h:H a=some (.tup xs))(q:∀ v H',Same H H'->H' v=some (.tup (xs.drop n))->Q (.ref v) H'):rSlX K (.ref a) (some (n:Int)) none H Q:=
 #[a,xs,rfl,SqT.of h,λz=>q a H (λ_ _ e=>e) (by
  have:=z.1;rw[zc1]at this;have e:xs.drop n=xs:=by
   rcases Nat.eq_zero_or_pos n with y|y
   .rw[y];rfl
   .have:xs=[]:=ydg.mp .(a);rw[this];exact List.drop_nil
  rw[e];exact h),λ_ p hp=>q p _ (zai hp _) (by rw[zab,zg2])]
def zet (ha:H a=some (.tup xs))(hb:H b=some (.tup ys))(hy:ys≠[])(hl:xs.length+ys.length<=sizeLine)(q:∀ v H',Same H H'->H' v=some (.tup (xs++ys))->Q (.ref v) H'):zrv K (.ref a) (.ref b) H Q:=
 #[a,b,xs,ys,rfl,rfl,SqT.of ha,SqT.of hb,hy,hl,λz=>q b H (λ_ _ e=>e) (by rw[z];exact hb),λ_ p hp=>q p _ (zai hp _) zab]
def zqe (ha:H a=some (.tup xs))(hb:H b=some (.tup ys))(hx:xs≠[])(hl:xs.length+ys.length<=sizeLine)(q:∀ v H',Same H H'->H' v=some (.tup (xs++ys))->Q (.ref v) H'):zpa K (.ref a) (.ref b) H Q:=
 #[a,b,xs,ys,rfl,rfl,SqT.of ha,SqT.of hb,hx,hl,λz=>q a H (λ_ _ e=>e) (by rw[z,yaw];exact ha),λ_ p hp=>q p _ (zai hp _) zab]
end
def zez {H:Hp}{v:Addr}{r:List Int}(hv:H v=some (.tup (r.map V.int))):∀{as:List Addr} {rows:List (List Int)} (kn:Nat),zaQ H as rows->zaQ H (as.set kn v) (rows.set kn r)
 | _,_,_,.nil=>.nil
 | _,_,0,.cons _ t=>.cons hv t
 | _,_,kn+1,.cons h t=>.cons h (zez hv kn t)
def znh :(putR row x).length=row.length+1:=by
 unfold putR;rw[yan,yan,yar,ya0];have:loN row x<=row.length:=ybs _ _;show _+1+_=_;lia
def zj1 (x:zbw H Pt pos q)(k:But b H H')(h1:∀ tab,H b≠some (.tbl tab))(h2:∀ f,H b≠some (.ext f)):zbw H' Pt pos q:=by
 obtain ⟨tab,e1,e2,e3⟩:=x.ex;refine #[tab,k _ _ (λz=>h1 tab (z ▸ e1)) e1,e2,?_];rcases e3 with e3|⟨c,e3,e4⟩
 .exact .inl e3
 .exact .inr #[c,e3,k _ _ (λz=>h2 _ (z ▸ (show H c=_ from e4))) e4]
def zjk (Q:zaD r)(k:Nat):Rise (ownE r k):=by
 unfold ownE;exact List.Pairwise.map _ (R:=λa b:Int=>a<b) (λa b (h:a<b)=>zc2.mpr (.inl h)) (Q.at_up k)
def Kd (sh p mp:Addr)(H H':Hp):Prop:=∀ b o,b≠sh->b≠p->b≠mp->H b=some o->H' b=some o
inductive zjb (K:Frag)(CS mp:Addr)(f:List Int->Int->List Int)(ok:List .(j)->Nat->Int->Prop)(vs:List V)(H:Hp)(Q:VK)(w_1:XK):Prop
 | c:∀(sh dx st p:Addr) (kn:Nat) (x:Int) (qs:List Addr) (ps:List Nat) (rows:List (List Int)) (t rs:Addr) (as:List Addr),vs=[.ref sh,.int kn,.int x]->zaV K CS H sh dx st p qs ps rows t rs as->kn < ps.length+1->zoM x->ok rows kn x->zbw H mp zdF lamQ->(∀(D:Addr) (us:List V) (m:Nat) (qs':List Addr) (st' rs':Addr) (as':List Addr) (H':Hp),ziW ps rows (rows.set kn (f (zaq rows kn) x)) kn m->H D=none->(∀ q∈qs',q∈qs\/H q=none)->Kd sh p mp H H'->zaV K CS H' sh dx st' p qs' ps (rows.set kn (f (zaq rows kn) x)) t rs' as'->zbw H' mp zdF lamQ->H' D=some (.lst us)->
  zbK K H' D (λb=>H b=none/\b∉qs') (zb2 ps rows (rows.set kn (f (zaq rows kn) x)) kn m) us->Q (.ref D) H')->zjb K CS mp f ok vs H Q w_1
def zrQ (rows:List .(j))(kn:Nat)(x:Int):Prop:=x∉zaq rows kn/\zby rows<300
def zrR (rows:List .(j))(kn:Nat)(x:Int):Prop:=x∈zaq rows kn
def zjI {K:Frag}{st st' rs' v7 t:Addr}{kn:Nat}{r:List Int}(S:zaV K CS H sh dx st p qs ps rows t rs as)(S2:zaV K CS H2 sh dx st p qs ps rows t rs as)(hT2:zbw H2 mp zdF lamQ)
  (g:∀ b o,b≠mp->H b=some o->H2 b=some o) (s28:Same H2 H8) (h7:H8 v7=some (.tup (r.map V.int))) (h8:H8 st'=some (.tup [.ref t,.ref rs'])) (r8:H8 rs'=some (.tup (.(C).set kn (.ref v7)))) (R':zaD (rows.set kn r)) (hk:zby (rows.set kn r)<=400) :
  zcK K CS (upd H8 sh .(g)) sh dx st' p qs ps rows (rows.set kn r) t rs' (as.set kn v7) kn 0/\zbw (upd H8 sh .(g)) mp zdF lamQ/\(∀ b o,b≠sh->b≠mp->H b=some o->upd H8 sh .(g) b=some o)/\
  (∀{b},upd H8 sh .(g) b=none->H b=none)/\∀{b},upd H8 sh .(g) b=none->b∉qs:=by
 have i8:=s28 _ _ S2.ins;have i9:upd H8 sh .(g) sh=some (.ins CS dx [("kept",.ref st'),("fulls",.ref p)]):=zab;have k9:But sh H8 (upd H8 sh .(g)):=λb o n e=>by rw[zag n];exact e
 generalize upd H8 sh .(g)=H9 at i9 k9 ⊢;have tp9:Tp H8 H9:=k9.tp λus' z=>by rw[i8]at z;cases z
 have l9:∀ b us,H8 b=some (.lst us)->H9 b=some (.lst us):=λb us e=>k9 b _ (λz=>by rw[z,i8]at e;cases e) e
 have o9:=k9 _ _ (λz=>by have:=S.own;rw[z,S.ins]at this;cases this) (s28 _ _ S2.own)
 have S9:zcK K CS H9 sh dx st' p qs ps rows (rows.set kn r) t rs' (as.set kn v7) kn 0:=by
  refine #[o9,i9,#[tp9 _ _ h8,tp9 _ _ (s28 _ _ S2.stand.tr),?_,zez (tp9 _ _ h7) kn (zkd (λb us e=>tp9 _ _ (s28 _ _ e)) S2.stand.at_),by rw[ycm];exact S.stand.len,S.stand.T,R',S.stand.few,hk],(S2.full.ext s28.ext).tp tp9 l9];rw[yb0];exact tp9 _ _ r8
 have T9:=zj1 (hT2.ext s28.ext) k9 (λtab z=>by rw[i8]at z;cases z) (λf z=>by rw[i8]at z;cases z)
 refine #[S9,T9,λb o n1 n2 e=>k9 b o n1 (s28 _ _ (g b o n2 e)),λ{b} e=>?_,λ{b} e z=>?_]
 .cases eb:H b with
  | none=>rfl
  | some o=>
   by_cases z1:b=sh
   .rw[z1,S9.ins]at e;cases e
   .by_cases z2:b=mp
    .obtain ⟨tab,e1,_⟩:=T9.ex;rw[z2,e1]at e;cases e
    .rw[k9 b o z1 (s28 _ _ (g b o z2 eb))]at e;cases e
 .obtain ⟨i,hi,ei⟩:=yaW z;obtain ⟨ws,w1,_⟩:=S9.full.get i b (by rw[yac hi,ei]);rw[e]at w1;cases w1
def ztj (T:Txt K mg)(O:OwnC K mg CS)(qbi:DM K CS "put" "Shelf.put" zdf zcX)(qaQ:FM P w K mg base CS 4 "row_for" zbi (zgd K CS))(qaO:FC P w K mg base 1 "long_together" zbh (zk1 K))(qdE:FC P w K mg base 3 "place" ze1 (zh8 K mp))(qby:FC P w K mg base 1 "with_row" zcE (zk0 K))(qaJ:FM P w K mg base CS 7 "carry_up" za7 (zif K CS)):FM P w K mg base CS 8 "put" zcX (zjb K CS mp putR zrQ):=by
 refine qbi.ok qa1 .(c) .(b)
 .obtain ⟨sh,dx,st,p,kn,x,qs,ps,rows,t,rs,as,rfl,_⟩:=h;rfl
 obtain ⟨sh,dx,st,p,kn,x,qs,ps,rows,t,rs,as,rfl,S,hk,hx,⟨hnx,hroom⟩,hT,q⟩:=h;refine #[_,(zah (zas (i:=3) qa1.nd rfl (Or.inl rfl) (zkf qaQ O.cl hr (pv 0) (zaa (pv 1) (zaa (pv 2) zac))))
   (zaB (zaW (zat (zhz (K:=K)) (pv 2) (pv 3) (by with_unfolding_all rfl)) (zae za4) zay)
   (zaB (zaW (zat znv (zaA qaO hr (zaa (zaL (zaG (K:=K)) (zbT (pv 0) rfl) zaf (λ_ _=>rfl)) zac)) (zdp rfl T.qca) (zaE _)) (zae za4) zay)
   (zah (zas (i:=4) qa1.nd rfl (Or.inl rfl) (zaA qdE hr (zaa (pv 3) (zaa (pv 2) zac))))
   (zah (zhv (pv 0) (zaA qby hr (zaa (zbT (pv 0) rfl) (zaa (pv 1) (zaa (zav ziy (zav zdq (zbR (zd3 (K:=K)) (pv 3) zfF (zbx (pv 4))) (zaT (zaa (pv 2) zac))) (zbR (zd3 (K:=K)) (pv 3) (zbx (pv 4)) zfF)) zac)))) rfl)
   (zae (zaw (zkf qaJ O.cl hr (pv 0) (zaa (pv 1) (zaa (zbS zac) (zaa (zbS (zaa (zaT (zaa (pv 2) (zaa (pv 1) zac))) zac)) zac))))))))))),?_]
 refine #[_,rfl,sh,dx,_,rfl,S.ins,rfl,_,rfl,_,rfl,sh,dx,st,p,kn,x,qs,ps,rows,t,rs,as,rfl,S,hk,hx,λa ha hrow=>?_];have hfl:(.(f).map V.int).all zfl=true:=ybq.mpr λy hy=>by
  obtain ⟨z,_,rfl⟩:=yaE.mp hy;rfl
 refine #[λU' H'=>U'=[some (.ref sh),some (.int kn),some (.int x),some (.ref a),none]/\H=H',?_,?_]
 .refine #[_,rfl,_,rfl,a,_,rfl,.inr (SqT.of hrow),rfl,hfl,_,rfl,?_];show if inV (.int x) (.(f).map V.int)=true then _ else _
  rw[ziM,yai hnx];exact iteF .(L)
 rintro _ _ ⟨rfl,rfl⟩;have hfew:=S.stand.few;refine #[λU' H1=>U'=[some (.ref sh),some (.int kn),some (.int x),some (.ref a),none]/\Same H H1,?_,?_]
 .refine #[_,rfl,sh,CS,dx,_,_,rfl,S.ins,O.cl,O.n_kept,rfl,_,_,_,_,rfl,rfl,SqT.of S.stand.st,rfl,rs,as,_,rfl,.inr S.stand.rs,zjh S.stand.at_,by rw[yab,S.stand.len];lia,λH1 s1=>?_];refine #[_,_,rfl,rfl,_,rfl,?_];exact zpS (show ¬ (300:Int)<=((zby rows:Nat):Int) by lia) #[rfl,s1]
 rintro _ H1 ⟨rfl,s1⟩;have hrow1:=s1 _ _ hrow;refine #[_,rfl,_,rfl,a,zaq rows kn,x,rfl,hrow1,S.stand.R.at_up kn,hT.ext s1.ext,λH2 g2 hT2=>?_];obtain ⟨tab,hmp⟩:∃ tab,H1 mp=some (.tbl tab):=by
  obtain ⟨tab,e,_⟩:=(hT.ext s1.ext).ex;exact #[tab,e]
 have keep2:∀{b:Addr} {o:HO},H b=some o->(∀ tab,o≠.tbl tab)->H2 b=some o:=λ{b o} e n=>g2 b o (λz=>by
  rw[z]at e;have:=s1 _ _ e;rw[hmp]at this;exact n _ (yae this).symm) (s1 _ _ e)
 have tp2:Tp H H2:=λb us e=>keep2 e nofun;have S2:zaV K CS H2 sh dx st p qs ps rows t rs as:=#[keep2 S.own nofun,keep2 S.ins nofun,zcl tp2 S.stand,S.full.tp tp2 λb us e=>keep2 e nofun];have row2:=tp2 _ _ hrow;refine #[_,rfl,sh,CS,dx,_,_,rfl,S2.ins,O.cl,O.n_kept,rfl,_,rfl,?_];refine #[_,rfl,_,rfl,_,rfl,zqw row2 λv3 H3 s3 h3=>?_];refine #[_,rfl,.(x),λv4 hv4=>?_];have s4:=zai hv4 (.tup [.int x]);have h4:upd H3 v4 (.tup [.int x]) v4=some (.tup [.int x]):=zab;have h34:=s4 _ _ h3;have row4:=s4 _ _ (s3 _ _ row2);generalize upd H3 v4 (.tup [.int x])=H4 at s4 h4 h34 row4 ⊢;have hrl: .(f).length<=400:=by
  have:=S.stand.keys;refine yad (zfg ?_) this;unfold zaq;rw[yaf,yac (show kn<rows.length by rw[S.stand.len];exact hk)];exact yaR _
 refine zet h34 h4 nofun (yaj (zap (by rw[yar,yab];show _+1<=1000;lia))) λv5 H5 s5 h5=>?_;refine #[_,rfl,_,rfl,_,rfl,?_];unfold zj2;dsimp only;refine zk5 (s5 _ _ row4) λv6 H6 s6 h6=>?_;refine zqe (s6 _ _ h5) h6 .(h) (yaj (zap (by rw[yan,yar,ya0,yab];show _+1+_<=1000;lia))) λv7 H7 s7 h7=>?_;have s27:Same H2 H7:=s3.trans (s4.trans (s5.trans (s6.trans s7)));have er:(.(f).map V.int).take (zfq .(f) x)++[V.int x]++(.(f).map V.int).drop (zfq .(f) x)=(putR .(f) x).map V.int:=by
  unfold putR;rw[yas,yas,ybZ,List.map_drop];rfl
 rw[er]at h7;have hal:=S.stand.at_.length;refine #[st,t,rs,as.map V.ref,kn,.ref v7,rfl,s27 _ _ S2.stand.st,s27 _ _ S2.stand.rs,by rw[yab,hal,S.stand.len];exact hk,by rw[yab,hal,S.stand.len];lia,λst' rs' H8 s8 h8 r8=>?_];have s28:Same H2 H8:=s27.trans s8;have hkr:kn<rows.length:=by rw[S.stand.len];exact hk
 have R':zaD (rows.set kn (putR .(f) x)):=zin S.stand.R (zng (S.stand.R.at_up kn) hnx) λy hy=>by
  rcases zis.mp hy with z|z
  .exact S.stand.R.at_key kn y z
  .rw[z];exact hx
 have hks:=zgw (r:=putR .(f) x) hkr;rw[znh]at hks;refine #[_,rfl,sh,CS,dx,_,rfl,s28 _ _ S2.ins,O.cl,O.n_kept,(by show 2<1000;decide),?_];obtain ⟨S9,T9,kd9,al,nq9⟩:=zjI (r:=putR .(f) x) S S2 hT2 (λb o n e=>g2 b o n (s1 _ _ e)) s28 (s8 _ _ h7) h8 r8 R' .(a);generalize upd H8 sh .(g)=H9 at S9 T9 kd9 al nq9 ⊢;refine #[_,rfl,sh,dx,_,rfl,S9.ins,rfl,_,rfl,.(F),λg hg=>?_];have s10:=zai hg .(M);have g10:upd H9 g .(M) g=some .(M):=zab;generalize upd H9 g .(M)=H10 at s10 g10 ⊢;refine #[_,rfl,_,rfl,.(m),λu hu=>?_];have s11:=zai hu (.tup [.int x,.int kn]);have u11:upd H10 u (.tup [.int x,.int kn]) u=some (.tup [.int x,.int kn]):=zab;generalize upd H10 u (.tup [.int x,.int kn])=H11 at s11 u11 ⊢;refine #[.(x),λc hc=>?_];have s12:=zai hc (.lst [.ref u]);have c12:upd H11 c (.lst [.ref u]) c=some (.lst [.ref u]):=zab;generalize upd H11 c (.lst [.ref u])=H12 at s12 c12 ⊢;have s92:Same H9 H12:=s10.trans (s11.trans s12);have S12:zcK K CS H12 sh dx st' p qs ps rows (rows.set kn (putR .(f) x)) t rs' (as.set kn v7) kn 0:=#[s92 _ _ S9.own,s92 _ _ S9.ins,S9.stand.same s92,S9.full.ext s92.ext];have L:=zjA S.stand.T S.stand.R R' hk (ziU (rows:=rows) (r:=putR .(f) x));refine #[sh,dx,st',p,g,c,[],[.ref u],kn,qs,ps,rows,rows.set kn (putR .(f) x),t,rs',as.set kn v7,(λb=>H b=none),rfl,S12,hk,ziU,S.stand.R,S.stand.len,S.stand.keys,s12 _ _ (s11 _ _ g10),?_,c12,?_,al hg,al (s10.free (s11.free hc)),(nq9 hg),(nq9 (s10.free (s11.free hc))),(λz=>by have z:H p=none:=z;rw[S.full.at_]at z;cases z),(λb z=>al (s92.free z)),λD us m qs' H' st hD hq bb sh' hDl told=>?_]
 .rw[<-L.gone,zpc hkr];exact .nil
 .rw[<-L.come,zpd hkr (S.stand.R.at_up kn) (zjk R' kn) hnx];exact .cons #[u,.int x,.int kn,rfl,s12 _ _ u11,rfl,rfl] .nil
 .refine q D us m qs' st' rs' (as.set kn v7) H' st (al (s92.free hD)) (λy hy=>(hq y hy).imp id λz=>al (s92.free z)) (λb o n1 n2 n3 e=>bb b o n2 (s92 _ _ (kd9 b o n1 n3 e))) sh' ?_ hDl told;have:=S12.full.at_;exact zj1 (T9.ext s92.ext) bb (λtab z=>by rw[this]at z;cases z) (λf z=>by rw[this]at z;cases z)
section
variable {K:Frag}{H:Hp}{a b:Addr}{xs ys:List V}{Q:VK}
def zlI (ha:H a=some (.tup xs))(hb:H b=some (.tup ys))(hl:xs.length+ys.length<=sizeLine)(q:∀ v H',Same H H'->H' v=some (.tup (xs++ys))->Q (.ref v) H'):zrw K (.ref a) (.ref b) H Q:=
 #[a,b,xs,ys,rfl,rfl,SqT.of ha,SqT.of hb,hl,λz=>q b H (λ_ _ e=>e) (by rw[z];exact hb),λ_=>#[λz=>q a H (λ_ _ e=>e) (by rw[z,yaw];exact ha),λ_ p hp=>q p _ (zai hp _) zab]]
end
def ztl (T:Txt K mg)(O:OwnC K mg CS)(qbj:DM K CS "out" "Shelf.out" zdg zcY)(qaQ:FM P w K mg base CS 4 "row_for" zbi (zgd K CS))(qdE:FC P w K mg base 3 "place" ze1 (zh8 K mp))(qby:FC P w K mg base 1 "with_row" zcE (zk0 K))(qaJ:FM P w K mg base CS 7 "carry_up" za7 (zif K CS)):FM P w K mg base CS 8 "out" zcY (zjb K CS mp outR zrR):=by
 refine qbj.ok qa2 .(c) .(b)
 .obtain ⟨sh,dx,st,p,kn,x,qs,ps,rows,t,rs,as,rfl,_⟩:=h;rfl
 obtain ⟨sh,dx,st,p,kn,x,qs,ps,rows,t,rs,as,rfl,S,hk,hx,hin,hT,q⟩:=h;refine #[_,(zah (zas (i:=3) qa2.nd rfl (Or.inl rfl) (zkf qaQ O.cl hr (pv 0) (zaa (pv 1) (zaa (pv 2) zac))))
   (zaB (zaW (zat (zbf (K:=K)) (pv 2) (pv 3) (by with_unfolding_all rfl)) (zae za4) zay)
   (zah (zas (i:=4) qa2.nd rfl (Or.inl rfl) (zaA qdE hr (zaa (pv 3) (zaa (pv 2) zac))))
   (zah (zhv (pv 0) (zaA qby hr (zaa (zbT (pv 0) rfl) (zaa (pv 1) (zaa (zav znw (zbR (zd3 (K:=K)) (pv 3) zfF (zbx (pv 4))) (zbR (zd3 (K:=K)) (pv 3) (zbx (zav za8 (pv 4) zaf)) zfF)) zac)))) rfl)
   (zae (zaw (zkf qaJ O.cl hr (pv 0) (zaa (pv 1) (zaa (zbS (zaa (zaT (zaa (pv 2) (zaa (pv 1) zac))) zac)) (zaa (zbS zac) zac)))))))))),?_]
 refine #[_,rfl,sh,dx,_,rfl,S.ins,rfl,_,rfl,_,rfl,sh,dx,st,p,kn,x,qs,ps,rows,t,rs,as,rfl,S,hk,hx,λa ha hrow=>?_];have hfl:(.(f).map V.int).all zfl=true:=ybq.mpr λy hy=>by
  obtain ⟨z,_,rfl⟩:=yaE.mp hy;rfl
 refine #[λU' H'=>U'=[some (.ref sh),some (.int kn),some (.int x),some (.ref a),none]/\H=H',?_,?_]
 .refine #[_,rfl,_,rfl,a,_,rfl,.inr (SqT.of hrow),rfl,hfl,_,rfl,?_];show if (!inV (.int x) (.(f).map V.int))=true then _ else _
  rw[ziM,yah (show x∈zaq rows kn from hin)];exact iteF .(L)
 rintro _ _ ⟨rfl,rfl⟩;have hfew:=S.stand.few;have s1:Same H H:=λ_ _ e=>e;have hrow1:=s1 _ _ hrow;refine #[_,rfl,_,rfl,a,zaq rows kn,x,rfl,hrow1,S.stand.R.at_up kn,hT.ext s1.ext,λH2 g2 hT2=>?_];obtain ⟨tab,hmp⟩:∃ tab,H mp=some (.tbl tab):=by
  obtain ⟨tab,e,_⟩:=(hT.ext s1.ext).ex;exact #[tab,e]
 have keep2:∀{b:Addr} {o:HO},H b=some o->(∀ tab,o≠.tbl tab)->H2 b=some o:=λ{b o} e n=>g2 b o (λz=>by
  rw[z]at e;have:=s1 _ _ e;rw[hmp]at this;exact n _ (yae this).symm) (s1 _ _ e)
 have tp2:Tp H H2:=λb us e=>keep2 e nofun;have S2:zaV K CS H2 sh dx st p qs ps rows t rs as:=#[keep2 S.own nofun,keep2 S.ins nofun,zcl tp2 S.stand,S.full.tp tp2 λb us e=>keep2 e nofun];have row2:=tp2 _ _ hrow;refine #[_,rfl,sh,CS,dx,_,_,rfl,S2.ins,O.cl,O.n_kept,rfl,_,rfl,?_];refine #[_,rfl,_,rfl,_,rfl,zqw row2 λv3 H3 s3 h3=>?_];have hrl: .(f).length<=400:=by
  have:=S.stand.keys;refine yad (zfg ?_) this;unfold zaq;rw[yaf,yac (show kn<rows.length by rw[S.stand.len];exact hk)];exact yaR _
 refine #[_,rfl,_,rfl,_,_,rfl,rfl,_,rfl,?_];unfold zj2;dsimp only;rw[show ((zfq .(f) x:Nat):Int)+1=((zfq .(f) x+1:Nat):Int) from rfl];refine zk5 (s3 _ _ row2) λv6 H6 s6 h6=>?_;refine zlI (s6 _ _ h3) h6 (yaj (zap (by rw[yar,ya0,yab];lia))) λv7 H7 s7 h7=>?_;have s27:Same H2 H7:=s3.trans (s6.trans s7);have er:(.(f).map V.int).take (zfq .(f) x)++(.(f).map V.int).drop (zfq .(f) x+1)=(outR .(f) x).map V.int:=by
  unfold outR;rw[yas,ybZ,List.map_drop];rfl
 rw[er]at h7;have hal:=S.stand.at_.length;refine #[st,t,rs,as.map V.ref,kn,.ref v7,rfl,s27 _ _ S2.stand.st,s27 _ _ S2.stand.rs,by rw[yab,hal,S.stand.len];exact hk,by rw[yab,hal,S.stand.len];lia,λst' rs' H8 s8 h8 r8=>?_];have s28:Same H2 H8:=s27.trans s8;have hkr:kn<rows.length:=by rw[S.stand.len];exact hk
 have R':zaD (rows.set kn (outR .(f) x)):=zin S.stand.R ((S.stand.R.at_up kn).sublist (zeC _ _)) λy hy=>S.stand.R.at_key kn y ((zeC _ _).mem hy);have hks:=zgw (r:=outR .(f) x) hkr;have hol:=(zeC .(f) x).length_le;have hkk:=S.stand.keys;refine #[_,rfl,sh,CS,dx,_,rfl,s28 _ _ S2.ins,O.cl,O.n_kept,(by show 2<1000;decide),?_];obtain ⟨S9,T9,kd9,al,nq9⟩:=zjI (r:=outR .(f) x) S S2 hT2 (λb o n e=>g2 b o n (s1 _ _ e)) s28 (s8 _ _ h7) h8 r8 R' .(a);generalize upd H8 sh .(g)=H9 at S9 T9 kd9 al nq9 ⊢;refine #[_,rfl,sh,dx,_,rfl,S9.ins,rfl,_,rfl,_,rfl,_,rfl,.(m),λu hu=>?_];have s10:=zai hu (.tup [.int x,.int kn]);have u10:upd H9 u (.tup [.int x,.int kn]) u=some (.tup [.int x,.int kn]):=zab;generalize upd H9 u (.tup [.int x,.int kn])=H10 at s10 u10 ⊢;refine #[.(x),λg hg=>?_];have s11:=zai hg (.lst [.ref u]);have g11:upd H10 g (.lst [.ref u]) g=some (.lst [.ref u]):=zab;generalize upd H10 g (.lst [.ref u])=H11 at s11 g11 ⊢;refine #[.(F),λc hc=>?_];have s12:=zai hc .(M);have c12:upd H11 c .(M) c=some .(M):=zab;generalize upd H11 c .(M)=H12 at s12 c12 ⊢;have s92:Same H9 H12:=s10.trans (s11.trans s12);have S12:zcK K CS H12 sh dx st' p qs ps rows (rows.set kn (outR .(f) x)) t rs' (as.set kn v7) kn 0:=#[s92 _ _ S9.own,s92 _ _ S9.ins,S9.stand.same s92,S9.full.ext s92.ext];have L:=zjA S.stand.T S.stand.R R' hk (ziU (rows:=rows) (r:=outR .(f) x));refine #[sh,dx,st',p,g,c,[.ref u],[],kn,qs,ps,rows,rows.set kn (outR .(f) x),t,rs',as.set kn v7,(λb=>H b=none),rfl,S12,hk,ziU,S.stand.R,S.stand.len,S.stand.keys,s12 _ _ g11,?_,c12,?_,al (s10.free hg),al (s10.free (s11.free hc)),(nq9 (s10.free hg)),(nq9 (s10.free (s11.free hc))),(λz=>by have z:H p=none:=z;rw[S.full.at_]at z;cases z),(λb z=>al (s92.free z)),λD us m qs' H' st hD hq bb sh' hDl told=>?_]
 .rw[<-L.gone,zpn hkr (S.stand.R.at_up kn) (zjk S.stand.R kn) hin];exact .cons #[u,.int x,.int kn,rfl,s12 _ _ (s11 _ _ u10),rfl,rfl] .nil
 .rw[<-L.come,zpo hkr];exact .nil
 .refine q D us m qs' st' rs' (as.set kn v7) H' st (al (s92.free hD)) (λy hy=>(hq y hy).imp id λz=>al (s92.free z)) (λb o n1 n2 n3 e=>bb b o n2 (s92 _ _ (kd9 b o n1 n3 e))) sh' ?_ hDl told;have:=S12.full.at_;exact zj1 (T9.ext s92.ext) bb (λtab z=>by rw[this]at z;cases z) (λf z=>by rw[this]at z;cases z)
def dl (Av:List Addr)(H:Hp):Hp:=λb=>if b∈Av then none else H b
def KpV (Av:List Addr)(H H':Hp):Prop:=∀ b o,b∉Av->H b=some o->H' b=some o
section
variable {Av:List Addr}{H H':Hp}
def zuB {b:Addr}(h:b∉Av):dl Av H b=H b:=if_neg h
def zfM:Same (dl Av H) H:=λb o e=>by
 unfold dl at e;split at e
 .cases e
 .exact e
def zfN (k:KpV Av H H'):Same (dl Av H) (dl Av H'):=λb o e=>by
 unfold dl at e ⊢;split at e
 .cases e
 .rename_i n;rw[if_neg n];exact k b o n e
def zf8 {b:Addr}{o:HO}(e:H b=some o)(h:b∉Av):dl Av H b=some o:=by rw[zuB h];exact e
def zhm (Av:List Addr)(H:Hp):Prop:=∀ a∈Av,∀ us,H a≠some (.tup us)
def zhm.out (n:zhm Av H){b:Addr}{us:List V}(e:H b=some (.tup us)):b∉Av:=λz=>n b z us e
def zhm.dl (n:zhm Av H){b:Addr}{us:List V}(e:H b=some (.tup us)):dl Av H b=some (.tup us):=zf8 e (n.out e)
def zhm.tp (n:zhm Av H):Tp H (My.dl Av H):=λ_ _ e=>n.dl e
def KpV.of (s:Same H H'):KpV Av H H':=λc o _ e=>s c o e
def KpV.tp (k:KpV Av H H')(n:zhm Av H):Tp H H':=λb us e=>k b _ (n.out e) e
def ztN {α:Type}[Rep α]{K:Frag}{a:α}{v:V}(k:KpV Av H H')(h:Rep.has K (dl Av H) a v):Rep.has K (dl Av H') a v:=Rep.mono (zfN k).ext h
end
def ztJ {c A B:Prop}[Decidable c](hc:¬ c)(h:A):if (!decide c)=true then A else B:=by
 rw[yai hc];exact h
def ziQ (b:Bool)(row:List Int)(x:Int):List Int:=if b then putR row x else outR row x
def zdG (rows:List .(j))(kn:Nat)(x:Int)(b:Bool):List .(j):=rows.set kn (ziQ b .(f) x)
structure zdZ (H:Hp)(r:Addr)(as:List Addr)(rows:List .(j)):Prop where
 at_:H r=some (.tup .(C))
 rows:zaQ H as rows
def zdZ.tp {rows:List .(j)}(h:zdZ H r as rows)(e:Tp H H'):zdZ H' r as rows:=#[e _ _ h.at_,zkd e h.rows]
def zdZ.get {rows:List .(j)}(h:zdZ H r as rows){k:Nat}(hk:k<rows.length):∃ a,atI .(C) (k:Int)=some (.ref a)/\H a=some (.tup ((zaq rows k).map V.int)):=by
 obtain ⟨a,h1,h2⟩:=h.rows.get hk;exact #[a,zb1 h1,h2]
def znT {p:Addr}{o:List V}(s:LS K L d H')(hp:H' p=some (.tup o)):p≠d:=λz=>by
 obtain ⟨_,_,_,e,_⟩:=s.ex;rw[<-z,hp]at e;cases e
def zqG {p:Addr}(s:LS K L d H')(hp:H' p=none):p≠d:=λz=>by
 obtain ⟨_,_,_,e,_⟩:=s.ex;rw[<-z,hp]at e;cases e
def zgP (s:LS K L d H)(k:Keep d H H'):Tp H H':=λb us e=>k b _ (znT s e) e
inductive zmW (K:Frag)(vs:List V)(H:Hp)(Q:VK)(w_1:XK):Prop
 | c:∀(d L t r:Addr) (ps:List Nat) (rows:List (List Int)) (as:List Addr),vs=[.ref d,.ref t,.ref r]->H t=some (.tup (zba ps))->ps.length<=40->zdZ H r as rows->rows.length=ps.length+1->zaD rows->(∀ k,(zaq rows k).length<=400)->LS K L d H->(∀(u:Addr) (kn:Nat) (x:Int) (H':Hp),H u=none->kn<ps.length+1->zoM x->H' u=some (.tup [.int kn,.int x,.bl (!decide (x∈zaq rows kn))])->Keep d H H'->LS K L d H'->Q (.ref u) H')->zmW K vs H Q w_1
def zrJ (T:Txt K mg)(qc9:DF K mg "_law_step" zgl ze4)(qad:FC P w K mg base 2 "_law_take" zbP (zfV K))(qdC:FC P w K mg base 3 "_law_key" ze6 (zo4 K)):FC P w K mg base 4 "_law_step" ze4 (zmW K):=by
 refine qc9.ok qbn .(c) .(b)
 .obtain ⟨d,L,t,r,ps,rows,as,rfl,_⟩:=h;rfl
 obtain ⟨d,L,t,r,ps,rows,as,rfl,ht,hps,hR,hlen,R,hz,hs,q⟩:=h;refine #[_,(zah (zas (i:=3) qbn.nd rfl (Or.inl rfl) (zaA qad hr (zaa (pv 0) (zaa (zam (zak (K:=K)) rfl T.qas boot_len (zaa (pv 1) zac)) zac))))
   (zah (zas (i:=4) qbn.nd rfl (Or.inl rfl) (zaA qdC hr (zaa (pv 0) zac)))
   (zaB (zaW (PW.pt (zfW (zat znu (zam (zak (K:=K)) rfl T.qas boot_len (zaa (zaL (zaG (K:=K)) (pv 2) (pv 3) (λ_ _=>rfl)) zac)) zaf (zaE _)) (zdJ (zat zdO (zaA qad hr (zaa (pv 0) (zaa zaf zac))) zaf (zaE _))))) (zae (zas (i:=4) qbn.nd rfl (Or.inl rfl) (zaL (zaG (K:=K)) (zaL (zaG (K:=K)) (pv 2) (pv 3) (λ_ _=>rfl)) (zaA qad hr (zaa (pv 0) (zaa (zam (zak (K:=K)) rfl T.qas boot_len (zaa (zaL (zaG (K:=K)) (pv 2) (pv 3) (λ_ _=>rfl)) zac)) zac))) (λ_ _=>rfl)))) zay)
   (zae (zaw (zaT (zaa (pv 3) (zaa (pv 4) (zaa (zgJ (zbf (K:=K)) (pv 4) (zaL (zaG (K:=K)) (pv 2) (pv 3) (λ_ _=>rfl)) (by with_unfolding_all rfl)) zac))))))))),?_]
 have el:=zao ps;refine #[_,rfl,_,rfl,_,_,rfl,.inr (SqT.of ht),?_];rw[el];refine #[d,L,((ps.length+1:Nat):Int),rfl,#[by lia,by lia],hs,λn H1 n0 n1 k1 s1=>?_];obtain ⟨kn,rfl⟩:∃ kn:Nat,n=kn:=#[n.toNat,by lia];have hkn:kn<ps.length+1:=by lia
 refine #[_,rfl,d,L,rfl,s1,λx H2 x0 x1 k2 s2=>?_];have k02:=k1.trans k2;have R2:=hR.tp (zgP hs k02);obtain ⟨a,ha,hrow⟩:=R2.get (k:=kn) .(a);have hl:=hz kn;refine #[λU' H'=>∃ x:Int,U'=[some (.ref d),some (.ref t),some (.ref r),some (.int kn),some (.int x)]/\zoM x/\Keep d H H'/\LS K L d H',?_,?_]
 .refine #[_,rfl,_,rfl,_,_,_,_,rfl,rfl,SqT.of R2.at_,ha,_,_,rfl,.inr (SqT.of hrow),_,_,rfl,rfl,_,rfl,?_];refine ite2 .(u) .(u)
  .have c':(0:Int)<((.(f).map V.int).length:Int):=yaH c;rw[yab]at c';refine #[_,rfl,d,L,2,rfl,by decide,s2,λv H3 _ _ k3 s3=>#[rfl,_,rfl,?_]];have R3:=R2.tp (zgP s2 k3);have hrow3:=zgP s2 k3 _ _ hrow;refine ite2 (λ_=>?_) (λ_=>?_)
   .refine #[_,rfl,_,rfl,_,_,_,_,rfl,rfl,SqT.of R3.at_,ha,_,rfl,_,rfl,_,rfl,_,_,_,_,rfl,rfl,SqT.of R3.at_,ha,_,_,rfl,.inr (SqT.of hrow3),?_];rw[yab];refine #[d,L,((.(f).length:Nat):Int),rfl,#[by lia,by lia],s3,λn H4 n0 n1 k4 s4=>?_];obtain ⟨i,rfl⟩:∃ i:Nat,n=i:=#[n.toNat,by lia];have hi:i< .(f).length:=by lia
    have hrow4:=zgP s3 k4 _ _ hrow3;refine #[_,_,_,_,rfl,rfl,SqT.of hrow4,zeI (v:=.int (.(f)[i])) (by rw[yax,yac hi];rfl),?_];exact #[_,rfl,R.at_key kn _ (yaR hi),k02.trans (k3.trans k4),s4]
   .exact #[x,rfl,#[x0,x1],k02.trans k3,s3]
  .refine iteF ?_;exact #[x,rfl,#[x0,x1],k02,s2]
 rintro _ H3 ⟨x,rfl,hx,k3,s3⟩;have R3:=hR.tp (zgP hs k3);obtain ⟨a,ha,hrow⟩:=R3.get (k:=kn) .(a);have hfl:(.(f).map V.int).all zfl=true:=ybq.mpr λy hy=>by
  obtain ⟨z,_,rfl⟩:=yaE.mp hy;rfl
 refine #[_,rfl,_,rfl,_,rfl,_,rfl,_,rfl,_,_,_,_,rfl,rfl,SqT.of R3.at_,ha,a,_,rfl,.inr (SqT.of hrow),rfl,hfl,(by show 3<=sizeLine;decide),λu hu=>?_];rw[ziM];have su:=zai hu (.tup [.int kn,.int x,.bl (!decide (x∈zaq rows kn))]);have hu0:H u=none:=by
  cases e:H u with
  | none=>rfl
  | some o=>
   have:=k3 u o (zqG s3 hu) e;rw[hu]at this;cases this
 exact q u kn x _ hu0 hkn hx zab (λb o n e=>su _ _ (k3 b o n e)) (s3.same su)
def zmD {l:List Int}(h:l.Pairwise .(O)):l.Pairwise λa b=>Srt.blt b a=false:=List.Pairwise.imp (λ{a b} (h:a<b)=>yai .(a)) h
def zkT {l:List Int}(h:l.Pairwise .(O)):l.Nodup:=List.Pairwise.imp (λ{a b} (q:a<b)=>by lia) h
def zuf {l m:List Int}(h1:l.Pairwise .(O))(h2:m.Pairwise .(O))(e:∀ x,x∈l↔x∈m):l=m:=by
 have p:=(yde (zkT h1) (zkT h2)).mpr e;rw[zeN p (zmD h1),zjd (zmD h2)]
def zpb {row:List Int}{x:Int}(h:row.Pairwise .(O))(n:x∉row):zcB (row++[x])=putR row x:=by
 refine (zeN ?_ (zmD (zng h n))).symm;unfold putR;have:=(ycr (l₁:=[x]) (l₂:=row.drop (loN row x))).append_left (row.take (loN row x));rwa[<-yaV,<-yaV,ya2]at this
def zl1 {row:List Int}{x:Int}(h:row.Pairwise .(O))(hx:x∈row):row.filter (λy=>!decide (y=x))=outR row x:=by
 refine zuf (h.sublist List.filter_sublist) (h.sublist (zeC _ _)) λy=>?_;rw[zkh h hx,ybj];simp
inductive zig (K:Frag)(vs:List V)(H:Hp)(Q:VK)(w_1:XK):Prop
 | c:∀(r:Addr) (kn:Nat) (x:Int) (b:Bool) (rows:List (List Int)) (as:List Addr),vs=[.ref r,.int kn,.int x,.bl b]->zdZ H r as rows->kn<rows.length->rows.length<=60->zaD rows->(∀ k,(zaq rows k).length<=400)->(b=!decide (x∈zaq rows kn))->(∀(r':Addr) (as':List Addr) (H':Hp),H r'=none->Same H H'->zdZ H' r' as' (zdG rows kn x b)->Q (.ref r') H')->zig K vs H Q w_1
def znI (T:Txt K mg)(qbz:DF K mg "_law_behind" zea zdn):FC P w K mg base 1 "_law_behind" zdn (zig K):=by
 refine qbz.ok qb9 .(c) .(b)
 .obtain ⟨r,kn,x,b,rows,as,rfl,_⟩:=h;rfl
 obtain ⟨r,kn,x,b,rows,as,rfl,hR,hkn,hz0,R,hz,hb,q⟩:=h;refine #[_,(zah (zas (i:=4) qb9.nd rfl (Or.inl rfl) (zaU (zct (K:=K)) rfl T.qbK boot_list (zaa (pv 0) zac)))
   (zaB (zaW (zbI (pv 3)) (zae (zdz (zaU (zaP (K:=K)) rfl T.qaE boot_tuple (zaa (zam (zhQ Int) rfl T.qbc boot_sorted (zaa (zav zdq (zaL (zaC (K:=K)) (pv 4) (pv 1) (λ_ _=>rfl)) (zaT (zaa (pv 2) zac))) zac)) zac)) (ze9 (pv 4) (pv 1) zcm))) (zae (zdz (zaU (zaP (K:=K)) rfl T.qaE boot_tuple (zaa (zbU (N:=["_law_other","_law_key_here"]) (own:=1) (cap:=[2]) rfl (zex (zaL (zaC (K:=K)) (pv 4) (pv 1) (λ_ _=>rfl))) #[rfl,rfl,rfl,rfl,rfl,rfl] (λ_ _ _ _ _=>(zau (i:=0) (show List.Nodup (["_law_other","_law_key_here"]:List Str) by decide +kernel) rfl (Or.inl rfl))) (λ_ _ _ _ _=>(zdh (zat zns (pv 0) (pv 1) (zaE _)))) (λ_ _ _ _ _=>(pv 0))) zac)) (ze9 (pv 4) (pv 1) zcm))))
   (zae (zaw (zaU (zaP (K:=K)) rfl T.qaE boot_tuple (zaa (pv 4) zac)))))),?_]
 obtain ⟨a,ha,hrow⟩:=hR.get hkn;have hl:=hz kn;have hal:=hR.rows.length;refine #[_,rfl,r,_,rfl,.inr (SqT.of hR.at_),λl hl0=>?_];have s1:=zai hl0 (.lst .(C));have h1:upd H l (.lst .(C)) l=some (.lst .(C)):=zab;generalize upd H l (.lst .(C))=H1 at s1 h1 ⊢;refine #[λU' H'=>∃ v:Addr,U'=[some (.ref r),some (.int kn),some (.int x),some (.bl b),some (.ref l)]/\H' l=some (.lst (.(C).set kn (.ref v)))/\H' v=some (.tup ((ziQ b .(f) x).map V.int))/\Same H H',?_,?_]
 .have ha1:=s1 _ _ hrow;have nal:∀{c:Addr} {us:List V} {H':Hp},H' l=some (.lst .(C))->H' c=some (.tup us)->c≠l:=λe1 e2 z=>by rw[z,e1]at e2;cases e2
  have fin:∀(v:Addr) (H':Hp),Same H1 H'->H' v=some (.tup ((ziQ b .(f) x).map V.int))->∃ v':Addr,[some (V.ref r),some (.int kn),some (.int x),some (.bl b),some (.ref l)]=[some (.ref r),some (.int kn),some (.int x),some (.bl b),some (.ref l)]/\upd H' l (.lst (.(C).set kn (.ref v))) l=some (.lst (.(C).set kn (.ref v')))/\upd H' l (.lst (.(C).set kn (.ref v))) v'=some (.tup ((ziQ b .(f) x).map V.int))/\Same H (upd H' l (.lst (.(C).set kn (.ref v)))):=λv H' s' hv=>
   #[v,rfl,zab,by rw[zag (nal (s' _ _ h1) hv)];exact hv,λc o e=>by rw[zag (zad e hl0)];exact s' _ _ (s1 _ _ e)]
  refine #[_,rfl,_,rfl,?_];cases b with
  | true=>
   refine iteT ?_;have hx:x∉zaq rows kn:=λz=>by rw[yah z]at hb;cases hb
   refine #[_,rfl,_,rfl,_,_,_,_,rfl,rfl,SqL.of h1,ha,_,rfl,.(x),λu hu=>?_];have s2:=zai hu (.tup [.int x]);have h2:upd H1 u (.tup [.int x]) u=some (.tup [.int x]):=zab;generalize upd H1 u (.tup [.int x])=H2 at s2 h2 ⊢;refine zet (s2 _ _ ha1) h2 nofun (yaj (zap (by rw[yab];show _+1<=1000;lia))) λv3 H3 s3 h3=>?_;rw[show .(f).map V.int++[V.int x]=(zaq rows kn++[x]).map V.int by rw[yas];rfl]at h3;refine #[v3,_,zaq rows kn++[x],rfl,SqT.of h3,zan.ints,λl4 ws hl4 hw=>?_];rw[hw.toInts,zpb (R.at_up kn) hx];have s4:=zai hl4 (.lst ((putR .(f) x).map V.int));refine #[l4,_,rfl,.inl #[SqL.of zab,λv5 hv5=>?_]];have s5:=zai hv5 (.tup ((putR .(f) x).map V.int));have s15:Same H1 _:=s2.trans (s3.trans (s4.trans s5));refine #[_,rfl,_,rfl,l,_,_,kn,rfl,rfl,s15 _ _ h1,zdv (by rw[yab,hal];exact hkn),?_];exact fin v5 _ s15 zab
  | false=>
   refine iteF ?_;have hx:x∈zaq rows kn:=Classical.byContradiction λz=>by rw[yai z]at hb;cases hb
   refine #[_,rfl,_,rfl,_,_,_,_,rfl,rfl,SqL.of h1,ha,a,rfl,#[_,SqT.of ha1],λD hD=>?_];refine zer (xs:= .(f).map V.int) (λi U H2=>∃ x0:Option V,U=[x0,some (.int x)]/\H2 D=some (.lst (((.(f).take i).filter (λy=>!decide (y=x))).map V.int))/\But D H1 H2) ?_ ?_ ?_ ?_
   .exact .(D)
   .rintro i U H2 _ ⟨x0,rfl,_,k2⟩;exact SqT.of (k2 _ _ (zad ha1 hD) ha1)
   .rintro i m v U H2 hv hm ⟨x0,rfl,h2,k2⟩;rw[yab]at hm;rw[yax]at hv;obtain ⟨y,hy,rfl⟩:=ybR.mp hv;obtain ⟨hi,rfl⟩:=yap.mp hy;have hfl:=ybs (λy=>!decide (y=x)) (.(f).take i);rw[yar]at hfl;rw[yaZ hi,yby];refine #[_,rfl,_,rfl,rfl,_,rfl,?_];by_cases c: .(f)[i]=x
    .refine zkv (show V.int _=V.int _ by rw[c]) ?_;refine #[m-1,by lia,by rw[yab];lia,_,rfl,?_,k2];rw[ybD (by rw[yah c];decide),List.filter_nil,yaw];exact h2
    .refine ztJ (λz=>c (V.int.inj z)) ?_;refine #[_,rfl,_,h2,zap .(G),m-1,by lia,by rw[yab];lia,_,rfl,?_,λb o n e=>by rw[zag n];exact k2 b o n e];rw[zab,ybp (by rw[yai c];rfl),List.filter_nil,yas];rfl
   .rintro U H2 ⟨x0,rfl,h2,k2⟩;rw[yab,yat (yaa _),zl1 (R.at_up kn) hx]at h2;have s2:Same H1 H2:=λb o e=>k2 b o (zad e hD) e;refine #[D,_,rfl,.inl #[SqL.of h2,λv5 hv5=>?_]];have s15:Same H1 _:=s2.trans (zai hv5 (.tup ((outR .(f) x).map V.int)));refine #[_,rfl,_,rfl,l,_,_,kn,rfl,rfl,s15 _ _ h1,zdv (by rw[yab,hal];exact hkn),?_];exact fin v5 _ s15 zab
 rintro _ H2 ⟨v,rfl,h2,hv,s2⟩;refine #[_,rfl,l,_,rfl,.inl #[SqL.of h2,λr' hr'=>?_]];have s3:=zai hr' (.tup (.(C).set kn (.ref v)));have s03:=s2.trans s3;refine q r' (as.set kn v) _ (s2.free hr') s03 #[?_,zez (s3 _ _ hv) kn (hR.rows.ext s03)];rw[zab,yb0]
def optL (ps:List Nat):List (Option Int):=none::ps.map λ(p:Nat)=>some (Int.ofNat p)
def zkW {K:Frag}(ps:List Nat):zan K H (optL ps) (zba ps):=by
 refine .cons rfl ?_
 induction ps with
 | nil=>exact .nil
 | cons p ps ih=>exact .cons rfl ih
def zio {K:Frag}:∀{as:List Addr} {rows:List (List Int)},zaQ H as rows->zan K H (rows.map Tup.mk) .(C)
 | _,_,.nil=>.nil
 | _,_,.cons h t=>.cons #[_,_,rfl,SqT.of h,zan.ints] (zio t)
abbrev StD:Type:=Tup (Option Int)×Tup (Tup Int)
def zmT (ps:List Nat)(rows:List .(j)):StD:=(#[optL ps],#[rows.map Tup.mk])
def zmS {K:Frag}{st t:Addr}(S:zbz H st ps rows t rs as):Rep.has K H (zmT ps rows) (.ref st):=
 #[st,_,_,rfl,S.st,#[_,_,rfl,SqT.of S.tr,zkW ps],#[_,_,rfl,SqT.of S.rs,zio S.at_]]
def zoj (ps:List Nat)(rows:List .(j)):List (List En):=(List.range (ps.length+1)).map (zal ps rows)
structure zga (Av:List Addr)(H:Hp):Prop where
 some:∀ a∈Av,H a≠none
 tup:zhm Av H
def zga.fresh (A:zga Av H){b:Addr}(h:H b=none):b∉Av:=λz=>A.some b z h
def zga.same (A:zga Av H)(s:Same H H'):zga Av H':=by
 refine #[λa ha z=>?_,λa ha us z=>?_]
 .cases e:H a with
  | none=>exact A.some a ha e
  | some o=>
   rw[s _ _ e]at z;cases z
 .cases e:H a with
  | none=>exact A.some a ha e
  | some o=>
   rw[s _ _ e]at z;exact A.tup a ha us (e.trans z)
def ztY {Av:List Addr}(k:But D H H'):Same (dl (D::Av) H) (dl (D::Av) H'):=zfN λb o n e=>k b o (λz=>n (z ▸ yaB)) e
abbrev ToT:Type:=Tri Int (List En) (List En)
section
variable {ps:List Nat}{rows rows':List .(j)}{k:Nat}
def zmB {m:Nat}(h:upN ps k m=none):∀ d,upN ps k (m+d)=none
 | 0=>h
 | d+1=>by
  show (upN ps k (m+d)).bind (par ps)=none;rw[zmB h d];rfl
def zi5 {m:Nat}(h:upN ps k m=none):∀ d,zb2 ps rows rows' k (m+d)=zb2 ps rows rows' k m
 | 0=>rfl
 | d+1=>by
  show zb2 ps rows rows' k (m+d)++((upN ps k (m+d)).map (zmM ps rows rows')).toList=_;rw[zi5 h d,zmB h d];exact yaw _
def zmL (h1:ziW ps rows rows' k m)(h2:ziW ps rows rows' k n)(h:m<=n):zb2 ps rows rows' k n=zb2 ps rows rows' k m:=by
 rcases ybX m n with z|z
 .rcases h1.2 with y|⟨j,y1,y2,y3⟩
  .have:=zi5 (rows:=rows) (rows':=rows') y (n-m);rwa[show m+(n-m)=n by lia]at this
  .exact absurd #[y2,y3] (h2.1 m j z y1)
 .rw[show m=n by lia]
def zoX (h1:ziW ps rows rows' k m)(h2:ziW ps rows rows' k n):zb2 ps rows rows' k m=zb2 ps rows rows' k n:=by
 rcases Nat.le_total m n with z|z
 .exact (zmL h1 h2 z).symm
 .exact zmL h2 h1 z
def zkX (T:zax ps):∀ m:Nat,(zb2 ps rows rows' k m).length<=m/\(zb2 ps rows rows' k m).length<=k+1
 | 0=>#[yaa _,yaF _]
 | m+1=>by
  obtain ⟨h1,h2⟩:=zkX T m;unfold zb2;rw[yan];cases e:upN ps k m with
  | none=>exact #[yb6 h1,h2]
  | some j=>
   have:=zkU T e;show _+1<=_/\_+1<=_;lia
end
section
variable {rows:List .(j)}{kn:Nat}{x:Int}{b:Bool}
def zp9 {row:List Int}(h:row.Pairwise .(O))(hb:b=!decide (x∈row)):(ziQ b row x).Pairwise .(O):=by
 cases b with
 | true=>exact zng h λz=>by rw[yah z]at hb;cases hb
 | false=>exact h.sublist (zeC _ _)
def zoq {row:List Int}(h:row.Pairwise .(O))(hb:b=!decide (x∈row)){y:Int}:y∈ziQ b row x↔(y=x/\b=true)\/(y≠x/\y∈row):=by
 cases b with
 | true=>
  have hx:x∉row:=λz=>by rw[yah z]at hb;cases hb
  show y∈putR row x↔_;rw[zis];constructor
  .rintro (z|z)
   .exact .inr #[λe=>hx (e ▸ z),z]
   .exact .inl #[z,rfl]
  .rintro (⟨z,_⟩|⟨_,z⟩)
   .exact .inr z
   .exact .inl z
 | false=>
  have hx:x∈row:=Classical.byContradiction λz=>by rw[yai z]at hb;cases hb
  show y∈outR row x↔_;rw[zkh h hx];constructor
  .rintro ⟨z1,z2⟩;exact .inr #[z2,z1]
  .rintro (⟨_,z⟩|⟨z1,z2⟩)
   .cases z
   .exact #[z2,z1]
def zor:(zdG rows kn x b).length=rows.length:=ycm
def zmm (hk:kn<rows.length):zby (zdG rows kn x b)<=zby rows+1:=by
 have:=zgw (r:=ziQ b .(f) x) hk;unfold zdG;cases b with
 | true=>
  have e:(ziQ true .(f) x).length= .(f).length+1:=znh;lia
 | false=>
  have e:(ziQ false .(f) x).length<= .(f).length:=(zeC _ _).length_le;lia
end
structure zd0 (K:Frag)(CS mp:Addr)(H H':Hp)(sh dx p D:Addr)(us:List V)(m:Nat)(qs qs':List Addr)(st' t rs':Addr)(as':List Addr)(ps:List Nat)(rows rows':List .(j))(kn:Nat):Prop where
 stops:ziW ps rows rows' kn m
 new:H D=none
 qn:∀ q∈qs',q∈qs\/H q=none
 kd:Kd sh p mp H H'
 shelf:zaV K CS H' sh dx st' p qs' ps rows' t rs' as'
 tab:zbw H' mp zdF lamQ
 at_:H' D=some (.lst us)
 told:zbK K H' D (λb=>H b=none/\b∉qs') (zb2 ps rows rows' kn m) us
def zr6 {K:Frag}{H:Hp}{R:ToT->V->Prop}(h:∀ e v,R e v->Rep.has K H e v){es:List ToT}{us:List V}(p:Paired R es us):zan K H es us:=by
 induction p with
 | nil=>exact .nil
 | cons a _ ih=>exact .cons (h _ _ a) ih
def zbK.dl {K:Frag}{qs:List Addr}(A:zga Av H)(A':zhm Av H'){es:List ToT}{us:List V}(h:zbK K H' D (λb=>H b=none/\b∉qs) es us):zan K (dl Av H') es us:=zr6 (λe v z=>by
 obtain ⟨u,g,c,gw,cw,e1,e2,e3,e4,e5,e6,n1,n2,n3,n4⟩:=z.ex;exact #[u,_,_,_,e1,A'.dl e2,rfl,#[g,gw,rfl,SqL.of (zf8 e3 (A.fresh n3.1)),zbe A'.tp e4],#[c,cw,rfl,SqL.of (zf8 e5 (A.fresh n4.1)),zbe A'.tp e6]]) h
section
variable {K:Frag}{CS mp:Addr}{H H':Hp}{sh dx p D:Addr}{us:List V}{m:Nat}{qs qs':List Addr}{st' t rs':Addr}{as':List Addr}{ps:List Nat}{rows rows':List .(j)}{kn:Nat}{Av:List Addr}
def zd0.apart (X:zd0 K CS mp H H' sh dx p D us m qs qs' st' t rs' as' ps rows rows' kn)(A:zga Av H):zga Av H':=by
 have h:∀ a∈Av,∃ o,H' a=some o/\∀ us,o≠.tup us:=λa ha=>by
  by_cases z1:a=sh
  .rw[z1];exact #[_,X.shelf.ins,λ_ z=>by cases z]
  .by_cases z2:a=p
   .rw[z2];exact #[_,X.shelf.full.at_,λ_ z=>by cases z]
   .by_cases z3:a=mp
    .obtain ⟨tab,e,_⟩:=X.tab.ex;rw[z3];exact #[_,e,λ_ z=>by cases z]
    .cases e:H a with
     | none=>exact absurd e (A.some a ha)
     | some o=>exact #[o,X.kd a o z1 z2 z3 e,λus z=>A.tup a ha us (by rw[e,z])]
 refine #[λa ha z=>?_,λa ha us z=>?_]
 .obtain ⟨o,e,_⟩:=h a ha;rw[e]at z;cases z
 .obtain ⟨o,e,n⟩:=h a ha;rw[e]at z;exact n us (yae z)
def zd0.kp (X:zd0 K CS mp H H' sh dx p D us m qs qs' st' t rs' as' ps rows rows' kn)(h1:sh∈Av)(h2:p∈Av)(h3:mp∈Av):KpV Av H H':=λb o n e=>X.kd b o (λz=>n (z ▸ h1)) (λz=>n (z ▸ h2)) (λz=>n (z ▸ h3)) e
def zd0.data (X:zd0 K CS mp H H' sh dx p D us m qs qs' st' t rs' as' ps rows rows' kn)(A:zga Av H):Rep.has K (dl Av H') (zb2 ps rows rows' kn m) (.ref D):=
 #[D,us,rfl,SqL.of (zf8 X.at_ (A.fresh X.new)),X.told.dl A (X.apart A).tup]
def zaV.same (S:zaV K CS H sh dx st' p qs ps rows t rs' as')(s:Same H H'):zaV K CS H' sh dx st' p qs ps rows t rs' as':=#[s _ _ S.own,s _ _ S.ins,S.stand.same s,S.full.ext s.ext]
def zaV.ext (S:zaV K CS H sh dx st' p qs ps rows t rs' as')(e:Ext H H'):zaV K CS H' sh dx st' p qs ps rows t rs' as':=#[e _ _ S.own nofun,e _ _ S.ins nofun,zcl (λb us h=>e _ _ h nofun) S.stand,S.full.ext e]
end
def Kp0 (H H':Hp):Prop:=∀ b o,(∀ tab,o≠.tbl tab)->H b=some o->H' b=some o
def ztw (s:LS K L d H)(g:Kp0 H H'):LS K L d H':=by
 obtain ⟨ns,a,l,e,q⟩:=s.ex;refine #[ns,a,l,g _ _ nofun e,?_];rcases q with (q|⟨o,q⟩)|q
 .exact .inl (.inl (g _ _ nofun q))
 .exact .inl (.inr #[o,g _ _ nofun q])
 .exact .inr q
def zrW (s:LS K L d (dl Bv H))(k:Keep d H H')(s':LS K L d H'):LS K L d (dl Bv H'):=by
 obtain ⟨ns,a,l,e,q⟩:=s.ex;obtain ⟨ns',a',l',e',_⟩:=s'.ex;have nd:d∉Bv:=λz=>by
  unfold dl at e;rw[if_pos z]at e;cases e
 have k':Keep d (dl Bv H) (dl Bv H'):=λb o n h=>by
  unfold dl at h ⊢;split at h
  .cases h
  .rename_i nb;rw[if_neg nb];exact k b o n h
 exact #[ns,a',l',zf8 e' nd,zgf e k' q]
def zmf {K:Frag}{sh dx st:Addr}{t:Addr}{Q:VK}(S:zbz H st ps rows t rs as)(hsh:H sh=none)(hdx:H dx=none)(hne:dx≠sh)
  (q:∀(p:Addr) (qs:List Addr) (H':Hp),H p=none->(∀ q∈qs,H q=none)->Same H H'->zaV K CS H' sh dx st p qs ps rows t rs as->Q .non H'):zk3 K CS [.ref sh,.ref st] (upd (upd H dx (.own sh)) sh (.ins CS dx [])) Q E:=by
 have s1:=zai hdx (.own sh);have hsh1:upd H dx (.own sh) sh=none:=by rw[zag (Ne.symm hne)];exact hsh
 have s2:=zai hsh1 (.ins CS dx []);have s12:=s1.trans s2;refine #[sh,dx,st,ps,rows,t,rs,as,rfl,s2 _ _ zab,zab,S.same s12,λp qs H' hp hq hb S'=>?_];exact q p qs H' (s12.free hp) (λx hx=>s12.free (hq x hx)) (λb o e=>hb b o (zad e hsh) (s12 _ _ e)) S'
def zhy {X:Cx}{K:Frag}{A:Around}(α:Type)[Rep α](hu:A.units+Rep.depth (List α)<cLine)(hK:X.K=K:=by rfl)(hA:X.A=A:=by rfl):OpR X (compareOp .NotIn) (rInD α K true):=by
 subst hK hA;exact znr α hu
inductive zie (K:Frag)(vs:List V)(H:Hp)(Q:VK)(w_1:XK):Prop
 | c:∀(a b:Addr) (wa wb:List V) (es fs:List En),vs=[.ref a,.ref b]->H a=some (.lst wa)->zan K H es wa->es.length<=900->H b=some (.lst wb)->zan K H fs wb->fs.length<=900->(∀(u g c:Addr) (gw cw:List V) (H':Hp),H u=none->H g=none->H c=none->Same H H'->H' u=some (.tup [.ref g,.ref c])->H' g=some (.lst gw)->zan K H' (zaO es fs) gw->H' c=some (.lst cw)->zan K H' (zaO fs es) cw->Q (.ref u) H')->zie K vs H Q w_1
def zjH {K:Frag}{H:Hp}{a b D:Addr}{wa wb:List V}{es fs:List En}{x1:Option V}{Q:Hp->Prop}(hD:H D=none)(ha:H a=some (.lst wa))(hes:zan K H es wa)(hz:es.length<=900)(hb:H b=some (.lst wb))(hfs:zan K H fs wb)
  (q:∀(gw:List V) (H':Hp),Same H H'->H' D=some (.lst gw)->zan K H' (zaO es fs) gw->Q H') :
  ∃ W:Nat->Nat->L2.St->Hp->Prop,(∃ m,W 0 m [x1,some (.ref b)] (upd H D .(M)))/\∀ i m U H,W i m U H->((Itl K a).stop i H/\Q H)\/((Itl K a).go i H/\∀ x H',(Itl K a).yld i H x H'->zkx 0 x U H' λU2 H2=>zrd (tOp (rInD (Int×Int) K true) (tVar 0) (tVar 1)) U2 H2 λb H3=>if b=true then tVar 0 U2 H3 λy H4=>∃ xs,H4 D=some (.lst xs)/\xs.length<sizeLine/\∃ m',m'<m/\W (i+1) m' U2 (upd H4 D (.lst (xs++[y]))) else ∃ m',m'<m/\W (i+1) m' U2 H3):=by
 have hl:=hes.length;have e1:∀(l:List En) (c:En),zaO (l++[c]) fs=zaO l fs++zaO [c] fs:=λl c=>yby _ _;refine zch (xs:=wa) (λi U H2=>∃(x0:Option V) (us:List V),U=[x0,some (.ref b)]/\H2 D=some (.lst us)/\zan K H2 (zaO (es.take i) fs) us/\us.length<=i/\But D H H2) ?_ ?_ ?_ ?_
 .exact #[_,[],rfl,zab,.nil,yaa _,λb o n e=>by rw[zag n];exact e]
 .rintro i U H2 _ ⟨x0,us,rfl,_,_,_,k2⟩;exact SqL.of (k2 _ _ (zad ha hD) ha)
 .rintro i m v U H2 hv hm ⟨x0,us,rfl,h2,hu,hul,k2⟩;obtain ⟨e,he,hev⟩:=hes.get hv;obtain ⟨hi,rfl⟩:=yap.mp he;have s2:Same H H2:=λb o e=>k2 b o (zad e hD) e;have htk:=yaZ hi;obtain ⟨pa,y1,y2,rfl,w1,w2,w3⟩:=(show hasP K H _ _ from hev);refine #[_,rfl,_,rfl,b,wb,es[i],fs,rfl,.inl (SqL.of (s2 _ _ hb)),Rep.mono s2.ext hev,hfs.mono s2.ext,λc hc=> .(z)];cases c with
  | true=>
   refine iteF #[m-1,by lia,by lia,_,us,rfl,h2,?_,by lia,k2];rw[htk,e1,show zaO [es[i]] fs=[] from ybD (p:=λe=>decide (e∉fs)) (by simpa using hc.mp rfl),yaw];exact hu
  | false=>
   have hn:es[i]∉fs:=λz=>by cases hc.mpr z
   refine iteT #[_,rfl,us,h2,zap .(a),m-1,by lia,by lia,_,_,rfl,zab,?_,by rw[yan,yaU];lia,λb o n e=>by rw[zag n];exact k2 b o n e];rw[htk,e1,show zaO [es[i]] fs=[es[i]] from ybp (p:=λe=>decide (e∉fs)) (yah hn)];exact (zaR h2 hu).append (zaR h2 (.cons #[pa,y1,y2,rfl,s2 _ _ w1,w2,w3] .nil))
 .rintro U H2 ⟨x0,us,rfl,h2,hu,_,k2⟩;rw[<-hl,yat (yaa _)]at hu;exact q us H2 (λb o e=>k2 b o (zad e hD) e) h2 hu
def znH (T:Txt K mg)(qbA:DF K mg "_law_differ" zd9 zdm):FC P w K mg base 1 "_law_differ" zdm (zie K):=by
 refine qbA.ok qb8 .(c) .(b)
 .obtain ⟨a,b,wa,wb,es,fs,rfl,_⟩:=h;rfl
 obtain ⟨a,b,wa,wb,es,fs,rfl,ha,hes,hez,hb,hfs,hfz,q⟩:=h;refine #[_,(zah (zeA (i:=2) (N:=["_law_entry","_law_behind_here"]) (own:=1) (cap:=[1]) qb8.nd rfl rfl rfl (zcF (pv 0)) #[rfl,rfl,rfl,rfl,rfl,rfl] (λ_ _ _ _ _=>(zau (i:=0) (show List.Nodup (["_law_entry","_law_behind_here"]:List Str) by decide +kernel) rfl (Or.inl rfl))) (λ_ _ _ _ _=>(zdh (zat (zhy (Int×Int) (huD hr)) (pv 0) (pv 1) (by with_unfolding_all rfl)))) (λ_ _ _ _ _=>(pv 0)))
   (zae (zaw (zaT (zaa (pv 2) (zaa (zbU (N:=["_law_entry","_law_before"]) (own:=1) (cap:=[0]) rfl (zcF (pv 1)) #[rfl,rfl,rfl,rfl,rfl,rfl] (λ_ _ _ _ _=>(zau (i:=0) (show List.Nodup (["_law_entry","_law_before"]:List Str) by decide +kernel) rfl (Or.inl rfl))) (λ_ _ _ _ _=>(zdh (zat (zhy (Int×Int) (huD hr)) (pv 0) (pv 1) (by with_unfolding_all rfl)))) (λ_ _ _ _ _=>(pv 0))) zac)))))),?_]
 refine #[_,rfl,a,rfl,#[_,SqL.of ha],λg hg=>?_];refine zjH hg ha hes hez hb hfs λgw H1 s1 h1 hw1=>?_;refine #[_,rfl,_,rfl,b,rfl,#[_,SqL.of (s1 _ _ hb)],λc hc=>?_];refine zjH hc (s1 _ _ hb) (hfs.mono s1.ext) hfz (s1 _ _ ha) (hes.mono s1.ext) λcw H2 s2 h2 hw2=>?_;refine #[.(m),λu hu=>?_];have s3:=zai hu (.tup [.ref g,.ref c]);exact q u g c gw cw _ (s1.free (s2.free hu)) hg (s1.free hc) (s1.trans (s2.trans s3)) zab (s3 _ _ (s2 _ _ h1)) (hw1.mono (s2.trans s3).ext) (s3 _ _ h2) (hw2.mono s3.ext)
inductive zrr (K:Frag)(vs:List V)(H:Hp)(Q:VK)(w_1:XK):Prop
 | c:∀(t pa pf:Addr) (kn:Nat) (qa qf:List Addr) (ps:List Nat) (rows rows':List (List Int)) (Av:List Addr),vs=[.ref t,.ref pa,.ref pf,.int kn]->zga Av H->H t=some (.tup (zba ps))->zax ps->zaD rows->zaD rows'->ps.length<=60->(∀ j,j<ps.length+1->(zal ps rows j).length<=900)->(∀ j,j<ps.length+1->(zal ps rows' j).length<=900)->kn<ps.length+1->FA K H pa qa (ps.length+1) (zal ps rows)->FA K H pf qf (ps.length+1) (zal ps rows')->(∀(D:Addr) (m:Nat) (H':Hp),H D=none->Same H H'->ziW ps rows rows' kn m->Rep.has K (dl Av H') (zb2 ps rows rows' kn m) (.ref D)->Q (.ref D) H')->zrr K vs H Q w_1
def zjG (T:zax ps)(R:zaD rows)(R':zaD rows'){j:Nat}(hj:j<ps.length+1):zal ps rows j=zal ps rows' j↔zaO .(l) .(o)=[]/\zaO .(o) .(l)=[]:=by
 constructor
 .intro z;rw[z,zjF];exact .(L)
 .rintro ⟨z1,z2⟩;exact (ziH (zaJ T R hj) (zaJ T R' hj) z1 z2).symm
def ztr (T:Txt K mg)(qa8:DF K mg "_law_told_due" zcS zcq)(qdV:FC P w K mg base 1 "_law_differ" zdm (zie K)):FC P w K mg base 2 "_law_told_due" zcq (zrr K):=by
 refine qa8.ok qaD .(c) .(b)
 .obtain ⟨t,pa,pf,kn,qa,qf,ps,rows,rows',Av,rfl,_⟩:=h;rfl
 obtain ⟨t,pa,pf,kn,qa,qf,ps,rows,rows',Av,rfl,Ap,ht,T',R,R',hps,hz,hz',hk,FA1,FA2,q⟩:=h;refine #[_,(zah (zas (i:=4) qaD.nd rfl (Or.inl rfl) (zbS zac))
   (zah (zgs PassesOwn.never (PW.pt (zfW (zat zki (pv 3) zgI (zaE _)) (zdJ (zat (zlj (List (Int×Int)) (huD hr)) (zaL (zaC (K:=K)) (pv 1) (pv 3) (λ_ _=>rfl)) (zaL (zaC (K:=K)) (pv 2) (pv 3) (λ_ _=>rfl)) (zaE _))))) (zah (zdz (zaA qdV hr (zaa (zaL (zaC (K:=K)) (pv 1) (pv 3) (λ_ _=>rfl)) (zaa (zaL (zaC (K:=K)) (pv 2) (pv 3) (λ_ _=>rfl)) zac))) (zhw rfl (zbt (zau (i:=5) qaD.nd rfl (Or.inl rfl)) (zbt (zau (i:=6) qaD.nd rfl (Or.inl rfl)) zfG))))
   (zah (zbd (zfa F.plainAttrs_list F.slot_list_append F.type_list_append za0 (pv 4) (zaa (zaT (zaa (pv 3) (zaa (pv 5) (zaa (pv 6) zac)))) zac)))
   (zae (zas (i:=3) qaD.nd rfl (Or.inl rfl) (zaL (zaG (K:=K)) (pv 0) (pv 3) (λ_ _=>rfl)))))))
   (zae (zaw (pv 4))))),?_]
 refine #[.(F),λD hD=>?_];refine zgB (λU H2=>∃(us:List V) (m:Nat) (x5 x6:Option V),U=[some (.ref t),some (.ref pa),some (.ref pf),some (upV (upN ps kn m)),some (.ref D),x5,x6]/\Goes ps rows rows' kn m/\But D H H2/\H2 D=some (.lst us)/\zan K (dl (D::Av) H2) (zb2 ps rows rows' kn m) us)
  (λU H2=>∃(us:List V) (m:Nat) (x5 x6:Option V),U=[some (.ref t),some (.ref pa),some (.ref pf),some (upV (upN ps kn m)),some (.ref D),x5,x6]/\ziW ps rows rows' kn m/\But D H H2/\H2 D=some (.lst us)/\zan K (dl (D::Av) H2) (zb2 ps rows rows' kn m) us)
  (λU _=>match U with|_::_::_::some (.int j)::_=>j.toNat+1|_=>0) ?_ ?_ ?_ ?_
 .exact #[[],0,_,_,rfl,λm' j h=>absurd h (ybI _),λb o n e=>(by rw[zag n];exact e),zab,.nil]
 .rintro U H2 ⟨us,m,x5,x6,rfl,hg,k2,h2,hu⟩;cases eu:upN ps kn m with
  | none=>
   refine #[_,rfl,rfl,_,rfl,?_];refine iteF ?_;refine iteF ?_;exact #[us,m,x5,x6,by rw[eu],#[hg,.inl eu],k2,h2,hu]
  | some j=>
   have hj:=zhn T' hk eu;have s2:Same H H2:=λb o e=>k2 b o (zad e hD) e;obtain ⟨q1,w1,a1,b1,c1⟩:=(FA1.ext s2.ext).at hj;obtain ⟨q2,w2,a2,b2,c2⟩:=(FA2.ext s2.ext).at hj;refine #[_,rfl,rfl,_,rfl,?_];refine iteT ?_;refine #[_,rfl,_,rfl,_,_,_,_,rfl,rfl,SqL.of (s2 _ _ FA1.at_),zb1 a1,_,rfl,_,rfl,_,_,_,_,rfl,rfl,SqL.of (s2 _ _ FA2.at_),zb1 a2,zal ps rows j,zal ps rows' j,#[q1,w1,rfl,SqL.of b1,c1],#[q2,w2,rfl,SqL.of b2,c2],_,rfl,?_];by_cases c:zal ps rows j=zal ps rows' j
   .refine zkv c ?_;exact #[us,m,x5,x6,by rw[eu],#[hg,.inr #[j,eu,(zjG T' R R' hj).mp c]],k2,h2,hu]
   refine ztJ c ?_;refine #[_,rfl,_,rfl,_,_,_,_,rfl,rfl,SqL.of (s2 _ _ FA1.at_),zb1 a1,_,rfl,_,rfl,_,_,_,_,rfl,rfl,SqL.of (s2 _ _ FA2.at_),zb1 a2,q1,q2,w1,w2,_,_,rfl,b1,c1,hz j hj,b2,c2,hz' j hj,λu g c' gw cw H3 hu3 hg3 hc3 s3 h3u h3g hgw h3c hcw=>?_];refine #[u,_,rfl,SqT.of h3u,rfl,_,_,rfl,_,_,rfl,rfl,?_];have D3:=s3 _ _ h2;refine #[_,rfl,.inl #[rfl,_,SqL.of D3],_,rfl,_,rfl,_,rfl,(by show 3<=sizeLine;decide),λv hv=>?_];have s4:=zai hv (.tup [upV (some j),.ref g,.ref c']);have v4:upd H3 v (.tup [upV (some j),.ref g,.ref c']) v=some (.tup [upV (some j),.ref g,.ref c']):=zab;have D4:=s4 _ _ D3;have nvD:v≠D:=λz=>by rw[z,D3]at hv;cases hv
   have ul:=hu.length;have tl:=(zkX (rows:=rows) (rows':=rows') (k:=kn) T' m).2;change upd H3 v (.tup [upV (some j),.ref g,.ref c']) D=_ at D4;refine #[_,_,_,rfl,rfl,D4,zap .(a),?_];generalize upd H3 v (.tup [upV (some j),.ref g,.ref c'])=H4 at s4 v4 D4 ⊢;have k5:But D H4 (upd H4 D (.lst (us++[.ref v]))):=λb o n e=>by rw[zag n];exact e
   have fr:∀{b:Addr},H2 b=none->b∉Av:=λ{b} e=>Ap.fresh (s2.free e);have nl:∀{b:Addr} {o:HO},b≠D->b∉Av->H3 b=some o->dl (D::Av) (upd H4 D (.lst (us++[.ref v]))) b=some o:=λ{b o} n n2 e=>zf8 (k5 _ _ n (s4 _ _ e)) (λz=>(yaq.mp z).elim n n2);have tp:Tp H3 (dl (D::Av) (upd H4 D (.lst (us++[.ref v])))):=λb ws e=>nl (λz=>by rw[z,D3]at e;cases e) ((Ap.same (s2.trans s3)).tup.out e) e
   refine #[_,rfl,_,rfl,_,_,_,_,rfl,rfl,SqT.of (k5 _ _ (λz=>by rw[z,hD]at ht;cases ht) (s4 _ _ (s3 _ _ (s2 _ _ ht)))),zeH hj,?_]
   refine #[#[us++[.ref v],m+1,some (.ref g),some (.ref c'),?_,λm' i hm' hi=>?_,λb o n e=>k5 b o n (s4 _ _ (s3 _ _ (k2 b o n e))),zab,?_],?_]
   .rw[zhX eu,ziv];rfl
   .rcases ybX m' m with y|y
    .exact hg m' i y hi
    .have:m'=m:=by lia
     subst this;rw[eu]at hi;have:=yae hi;subst this;exact λz=>c ((zjG T' R R' hj).mpr z)
   .show zan K _ (zb2 ps rows rows' kn m++((upN ps kn m).map (zmM ps rows rows')).toList) _;rw[eu];refine zan.append (hu.mono (Same.ext ?_)) (.one #[v,_,_,_,rfl,zf8 (k5 _ _ nvD v4) (λz=>(yaq.mp z).elim nvD (fr (s3.free hv))),rfl,#[g,gw,rfl,SqL.of (nl (λz=>by rw[z,h2]at hg3;cases hg3) (fr hg3) h3g),zbe tp hgw],#[c',cw,rfl,SqL.of (nl (λz=>by rw[z,h2]at hc3;cases hc3) (fr hc3) h3c),zbe tp hcw]])
    exact (zfN (KpV.of (s3.trans s4))).trans (ztY k5)
   .rw[ziv];cases ep:par ps j with
    | none=>exact ybS _
    | some i=>
     have:=(zaN T' ep).1;show ((i:Int)).toNat+1<((j:Int)).toNat+1;lia
 .refine zi9 (λU H Q Q' m h=>?_) (λU H Q Q' m h=>?_)
  .obtain ⟨y1,e1,e3,b,e4,q⟩:=h;exact #[y1,e1,e3,b,e4,m _ _ q]
  .obtain ⟨y1,e1,y2,e2,a1,i1,xs1,z1,f1,f2,f3,f4,y3,e3,y4,e4,a2,i2,xs2,z2,g1,g2,g3,g4,l1,l2,ha,hb,b,eb,q⟩:=h;exact #[y1,e1,y2,e2,a1,i1,xs1,z1,f1,f2,f3,f4,y3,e3,y4,e4,a2,i2,xs2,z2,g1,g2,g3,g4,l1,l2,ha,hb,b,eb,m _ _ q]
 .rintro U H2 ⟨us,m,x5,x6,rfl,hst,k2,h2,hu⟩;refine .(z);refine q D m H2 hD (λb o e=>k2 b o (zad e hD) e) hst #[D,us,rfl,SqL.of (zf8 h2 (Ap.fresh hD)),hu.mono (Same.ext λb o e=>?_)];have nb:b∉D::Av:=λz=>by unfold dl at e;rw[if_pos z]at e;cases e
  exact zf8 (zfM _ _ e) λz=>nb (yaz _ z)
def zqk {Av:List Addr}{H:Hp}(all:∀ b∈Av,∃ o,H b=some o/\∀ us,o≠.tup us):zga Av H:=by
 refine #[λb hb z=>?_,λb hb us z=>?_]
 .obtain ⟨o,e,_⟩:=all b hb;rw[e]at z;cases z
 .obtain ⟨o,e,n⟩:=all b hb;rw[e]at z;exact n us (yae z)
structure SNow (K:Frag)(CS mp a:Addr)(H:Hp)(d sh p:Addr)(qs:List Addr)(ps:List Nat)(rows:List .(j)):Prop where
 shelf:∃ dx st t rs as,zaV K CS H sh dx st p qs ps rows t rs as
 tab:zbw H mp zdF lamQ
 ls:LS K a d (dl [sh,p,mp] H)
section
variable {K:Frag}{CS mp a d sh p:Addr}{H H':Hp}{qs:List Addr}{ps:List Nat}{rows:List .(j)}
def SNow.lsH (h:SNow K CS mp a H d sh p qs ps rows):LS K a d H:=h.ls.same zfM
def SNow.apart (h:SNow K CS mp a H d sh p qs ps rows):zga [d,sh,p,mp] H:=by
 obtain ⟨dx,st,t,rs,as,S⟩:=h.shelf;obtain ⟨ns,x,l,e,_⟩:=h.lsH.ex;obtain ⟨tab,e2,_⟩:=h.tab.ex;refine zqk λb hb=>?_;simp only[yaq,ybC,or_false]at hb;rcases hb with rfl|rfl|rfl|rfl
 .exact #[_,e,λ_ z=>by cases z]
 .exact #[_,S.ins,λ_ z=>by cases z]
 .exact #[_,S.full.at_,λ_ z=>by cases z]
 .exact #[_,e2,λ_ z=>by cases z]
def SNow.same (h:SNow K CS mp a H d sh p qs ps rows)(s:Same H H'):SNow K CS mp a H' d sh p qs ps rows:=by
 obtain ⟨dx,st,t,rs,as,S⟩:=h.shelf;exact #[#[dx,st,t,rs,as,S.same s],h.tab.ext s.ext,h.ls.same (zfN (KpV.of s))]
def SNow.take (h:SNow K CS mp a H d sh p qs ps rows)(k:Keep d H H')(s:LS K a d H'):SNow K CS mp a H' d sh p qs ps rows:=by
 obtain ⟨dx,st,t,rs,as,S⟩:=h.shelf;have e:=h.lsH.ext k;exact #[#[dx,st,t,rs,as,S.ext e],h.tab.ext e,zrW h.ls k s]
def zn2 (k:Keep d H H'):KpV [d,sh,p,mp] H H':=λb o n e=>k b o (λz=>n (z ▸ yaB)) e
def SNow.deed {t:Addr}(h:SNow K CS mp a H d sh p qs ps rows)(X:zd0 K CS mp H H' sh dx p D zs m qs qs' st' t rs' as' ps rows rows' kn):SNow K CS mp a H' d sh p qs' ps rows':=by
 have kb:KpV [sh,p,mp] H H':=X.kp .(h) .(h) .(h);exact #[#[dx,st',t,rs',as',X.shelf],X.tab,h.ls.same (zfN kb)]
def SNow.new {st t rs:Addr}(s0:LS K a d H0)(hT:zbw H0 mp zdF lamQ)(s:Same H0 H)(hsh:H0 sh=none)(hp:H0 p=none)(S:zaV K CS H sh dx st p qs ps rows t rs as):SNow K CS mp a H d sh p qs ps rows:=by
 refine #[#[dx,st,t,rs,as,S],hT.ext s.ext,ztw s0 λb o n e=>zf8 (s _ _ e) λz=>?_];simp only[yaq,ybC,or_false]at z;rcases z with rfl|rfl|rfl
 .rw[hsh]at e;cases e
 .rw[hp]at e;cases e
 .obtain ⟨tab,e2,_⟩:=hT.ex;rw[e2]at e;exact n _ (yae e).symm
end
def ztW {K:Frag}(F:FA K H p qs n f)(A:zhm Av H)(h1:p∉Av)(h2:∀ q∈qs,q∉Av):FA K (dl Av H) p qs n f:=
 #[zf8 F.at_ h1,F.len,F.nd,F.np,λj q hq=>by
  obtain ⟨ws,g1,g2⟩:=F.get j q hq;exact #[ws,zf8 g1 (h2 q (yaM hq)),zbe A.tp g2]]
def znZ {m:Nat}:∀{rows:List (List Int)},(∀ row∈rows,row.length<=m)->zby rows<=rows.length*m
 | [],_=>yaF _
 | r::rows,h=>by
  have h1:=h r yaB;have h2:=znZ (m:=m) (rows:=rows) λx hx=>h x (yaz _ hx);unfold zby at h2 ⊢;rw[yav,yaP,yaQ,Nat.succ_mul];lia
def zk8 (k:Nat):(zaq rows k).length<=zby rows:=by
 unfold zaq;rw[yaf];cases e:rows[k]? with
 | none=>exact yaF _
 | some r=>exact zfg (yaM e)
def zts (b:Bool)(rows:List .(j))(kn:Nat)(x:Int):Prop:=(b=true->zrQ rows kn x)/\(b=false->zrR rows kn x)
def znJ {b:Bool}{x:Int}(hb:b=!decide (x∈zaq rows kn))(hk:zby rows<300):zts b rows kn x:=
 #[λz=>#[λy=>(by rw[z,yah y]at hb;cases hb),hk],λz=>show x∈zaq rows kn from Classical.byContradiction λy=>by rw[z,yai y]at hb;cases hb]
def FA.snoc {K:Frag}{E:Addr}{ws:List V}(h:FA K H p qs n f)(hE:H E=none)(hw:zan K H (f n) ws):FA K (upd (upd H E (.lst ws)) p (.lst (qs.map V.ref++[.ref E]))) p (qs++[E]) (n+1) f:=by
 have s1:=zai hE (.lst ws);have e1:upd H E (.lst ws) E=some (.lst ws):=zab;have nEp:E≠p:=λz=>by rw[z,h.at_]at hE;cases hE
 have p1:=s1 _ _ h.at_;have nq:E∉qs:=λz=>by
  obtain ⟨i,hi,ei⟩:=yaW z;obtain ⟨ws,w1,_⟩:=h.get i E (by rw[yac hi,ei]);rw[hE]at w1;cases w1
 have hl:=h.len;refine #[by rw[zab,yas];rfl,by rw[yan,yaU,hl],?_,?_,λj q hj=>?_]
 .rw[ybh];exact #[h.nd,ya4.mpr #[nofun,ybw],λa ha b hb e=>nq ((e.trans (yao.mp hb)) ▸ ha)]
 .intro z;rcases yal.mp z with y|y
  .exact h.np y
  .exact nEp (yao.mp y).symm
 .rcases ybX j qs.length with c|c
  .rw[ybu c]at hj;obtain ⟨us,g1,g2⟩:=h.get j q hj;have hne:q≠p:=λz=>h.np (z ▸ yaM hj);exact #[us,by rw[zag hne];exact s1 _ _ g1,zaR p1 (g2.mono s1.ext)]
  .rw[ybt c]at hj;have hj0:j-qs.length=0:=by
    have:=(yap.mp hj).1;rw[yaU]at this;lia
   rw[hj0]at hj;cases hj
   have:j=n:=by lia
   subst this;exact #[ws,by rw[zag nEp];exact e1,zaR p1 (hw.mono s1.ext)]
section
variable {ps:List Nat}{rows:List .(j)}{k:Nat}
def zfi (T:zax ps)(hk:k<ps.length+1):zax (ps++[k]):=λi h=>by
 rw[yan,yaU]at h;rw[List.getElem_append];split
 .exact T i _
 .rw[List.getElem_singleton];lia
def zpY {j:Nat}(hj:j<ps.length+1):par (ps++[k]) j=par ps j:=by
 cases j with
 | zero=>rfl
 | succ j=>
  show (ps++[k])[j]?=ps[j]?;rw[ybu .(a)]
def zpX {j:Nat}(hl:rows.length=ps.length+1)(hj:j<ps.length+1):zaq (rows++[[]]) j=zaq rows j:=by
 unfold zaq;rw[yaf,yaf,ybu .(a)]
def zoe:zaq (rows++[[]]) rows.length=[]:=by
 unfold zaq;rw[yaf,ybt (yaa _),Nat.sub_self];rfl
def zoh:zbZ []=[]:=List.eq_nil_of_sublist_nil (zaS [])
def zo7:zcB ([]:List (Int×Int))=[]:=List.Perm.eq_nil (zb3 _)
def zlC (T:zax ps)(hk:k<ps.length+1)(hl:rows.length=ps.length+1):zal (ps++[k]) (rows++[[]]) (ps.length+1)=[]:=by
 have e:(ps++[k]).length=ps.length+1:=by rw[yan,yaU]
 rw[zbv (zfi T hk) (by rw[e];lia)];have c0:zbB (ps++[k]) (ps.length+1) ((ps++[k]).length+1)=[]:=List.eq_nil_iff_forall_not_mem.mpr λc hc=>by
  have h:=zaF.mp hc;have:=zaN (zfi T hk) h.2;rw[e]at h;lia
 unfold zc6 ownE;rw[c0,<-hl,zoe];exact zo7
def zof (T:zax ps)(hk:k<ps.length+1)(hl:rows.length=ps.length+1):∀(m j:Nat),ps.length+1-j<=m->j<ps.length+1->zal (ps++[k]) (rows++[[]]) j=zal ps rows j:=λm=>by
 have e:(ps++[k]).length=ps.length+1:=by rw[yan,yaU]
 have T':=zfi T hk
 induction m with
 | zero=>exact λj h1 h2=>by lia
 | succ m ih=>
  intro j h1 h2;rw[zbv T' (by rw[e];lia),zbv T h2];congr 1;unfold zc6;rw[yb1,yb1,yc4,yc4,e,zeG];have ec:zbB (ps++[k]) j (ps.length+1)=zbB ps j (ps.length+1):=List.filter_congr λc hc=>by rw[zpY (ybk.mp hc)]
  have eo:ownE (rows++[[]]) j=ownE rows j:=by unfold ownE;rw[zpX hl h2]
  rw[ec,eo,yas,yb1];have e1:((zbB ps j (ps.length+1)).map λc=>zbZ (zal (ps++[k]) (rows++[[]]) c))=(zbB ps j (ps.length+1)).map λc=>zbZ (zal ps rows c):=ycD λc hc=>by
   have h:=zaF.mp hc;have:=zaN T h.2;rw[ih c .(a) h.1]
  have e2:((if par (ps++[k]) (ps.length+1)=some j then [ps.length+1] else []).map λc=>zbZ (zal (ps++[k]) (rows++[[]]) c)).flatten=[]:=by
   split
   .rw[List.map_singleton,zlC T hk hl,zoh];rfl
   .rfl
  rw[e1,e2,yaw]
def zsf:zba (ps++[k])=zba ps++[.int (k:Int)]:=by
 unfold zba;simp
def zod (R:zaD rows):zaD (rows++[[]]):=#[λr hr=>(yal.mp hr).elim (R.up r) λh=>by rw[yao.mp h];exact .nil,λr hr=>(yal.mp hr).elim (R.key r) λh=>by rw[yao.mp h];exact λy hy=>nomatch hy]
def zjx:zby (rows++[[]])=zby rows:=by
 unfold zby
 rw[yas,List.sum_append];rfl
end
structure zlL (K:Frag)(CS:Addr)(H H':Hp)(sh dx p:Addr)(qs:List Addr)(E st' t' rs':Addr)(as':List Addr)(ps:List Nat)(rows:List .(j))(kn:Nat):Prop where
 new:H E=none
 kd:∀ b o,b≠sh->b≠p->H b=some o->H' b=some o
 shelf:zaV K CS H' sh dx st' p (qs++[E]) (ps++[kn]) (rows++[[]]) t' rs' as'
inductive zmZ (K:Frag)(CS:Addr)(vs:List V)(H:Hp)(Q:VK)(w_1:XK):Prop
 | c:∀(sh dx st p:Addr) (kn:Nat) (qs:List Addr) (ps:List Nat) (rows:List (List Int)) (t rs:Addr) (as:List Addr),vs=[.ref sh,.int kn]->zaV K CS H sh dx st p qs ps rows t rs as->kn<ps.length+1->ps.length+1<40->(∀(E st' t' rs':Addr) (as':List Addr) (H':Hp),zlL K CS H H' sh dx p qs E st' t' rs' as' ps rows kn->Q (.int ((ps.length+1:Nat):Int)) H')->zmZ K CS vs H Q w_1
def zrO (T:Txt K mg)(O:OwnC K mg CS)(qaC:DM K CS "hang" "Shelf.hang" zce zbr)(qaz:FC P w K mg base 3 "need_knot" zaY (zfz K)):FM P w K mg base CS 4 "hang" zbr (zmZ K CS):=by
 refine qaC.ok qaK .(c) .(b)
 .obtain ⟨sh,dx,st,p,kn,qs,ps,rows,t,rs,as,rfl,_⟩:=h;rfl
 obtain ⟨sh,dx,st,p,kn,qs,ps,rows,t,rs,as,rfl,S,hk,h40,q⟩:=h;refine #[_,(zah (zas (i:=2) qaK.nd rfl (Or.inl rfl) (zaL (zaG (K:=K)) (zbT (pv 0) rfl) zaf (λ_ _=>rfl)))
   (zah (zbd (zaA qaz hr (zaa (pv 2) (zaa (pv 1) zac))))
   (zaB (zaW (zat znv (zam (zak (K:=K)) rfl T.qas boot_len (zaa (pv 2) zac)) (zdp rfl T.qa3) (zaE _)) (zae za4) zay)
   (zah (zhv (pv 0) (zaT (zaa (zav zdq (pv 2) (zaT (zaa (pv 1) zac))) (zaa (zav zdq (zaL (zaG (K:=K)) (zbT (pv 0) rfl) zaf (λ_ _=>rfl)) (zaT (zaa (zaT zac) zac))) zac))) rfl)
   (zah (zbd (zfa F.plainAttrs_list F.slot_list_append F.type_list_append za0 (zbT (pv 0) rfl) (zaa (zbS zac) zac)))
   (zae (zaw (zam (zak (K:=K)) rfl T.qas boot_len (zaa (pv 2) zac))))))))),?_]
 have el:=zao ps;refine #[_,rfl,sh,CS,dx,_,_,rfl,S.ins,O.cl,O.n_kept,rfl,_,_,_,_,rfl,rfl,SqT.of S.stand.st,rfl,?_];refine #[_,rfl,_,rfl,t,kn,ps,rfl,S.stand.tr,by lia,hk,?_];refine #[λU' H'=>U'=[some (.ref sh),some (.int kn),some (.ref t)]/\H=H',?_,?_]
 .refine #[_,rfl,_,_,rfl,.inr (SqT.of S.stand.tr),_,_,rfl,rfl,_,rfl,?_];refine zpS (show ¬ (40:Int)<=(((zba ps).length:Nat):Int) by rw[el];lia) .(L)
 rintro _ _ ⟨rfl,rfl⟩;refine #[_,rfl,_,rfl,.(x),λu hu=>?_];have s1:=zai hu (.tup [.int kn]);have h1:upd H u (.tup [.int kn]) u=some (.tup [.int kn]):=zab;generalize upd H u (.tup [.int kn])=H1 at s1 h1 ⊢;refine zet (s1 _ _ S.stand.tr) h1 nofun (yaj (zap (by rw[el];show _+1<=1000;lia))) λt' H2 s2 h2=>?_;rw[<-zsf]at h2;have s02:=s1.trans s2;refine #[_,rfl,sh,CS,dx,_,_,rfl,s02 _ _ S.ins,O.cl,O.n_kept,rfl,_,_,_,_,rfl,rfl,SqT.of (s02 _ _ S.stand.st),rfl,?_];refine #[.(F),λe he=>?_];have s3:=zai he (.tup []);have h3:upd H2 e (.tup []) e=some (.tup []):=zab;generalize upd H2 e (.tup [])=H3 at s3 h3 ⊢;refine #[.(x),λu2 hu2=>?_];have s4:=zai hu2 (.tup [.ref e]);have h4:upd H3 u2 (.tup [.ref e]) u2=some (.tup [.ref e]):=zab;generalize upd H3 u2 (.tup [.ref e])=H4 at s4 h4 ⊢;have s04:=s02.trans (s3.trans s4);have hal:=S.stand.at_.length;have hlen:=S.stand.len;refine zet (s04 _ _ S.stand.rs) h4 nofun (yaj (zap (by rw[yab,hal];show _+1<=1000;lia))) λrs' H5 s5 h5=>?_;rw[show as.map V.ref++[V.ref e]=(as++[e]).map V.ref by rw[yas];rfl]at h5;refine #[.(m),λst' hst'=>?_];have s6:=zai hst' (.tup [.ref t',.ref rs']);have h6:upd H5 st' (.tup [.ref t',.ref rs']) st'=some (.tup [.ref t',.ref rs']):=zab;generalize upd H5 st' (.tup [.ref t',.ref rs'])=H6 at s6 h6 ⊢;have s06:=s04.trans (s5.trans s6);refine #[_,rfl,sh,CS,dx,_,rfl,s06 _ _ S.ins,O.cl,O.n_kept,(by show 2<1000;decide),?_];have eF:(ps++[kn]).length=ps.length+1:=by rw[yan,yaU]
 have SN:zbz H6 st' (ps++[kn]) (rows++[[]]) t' rs' (as++[e]):=#[h6,s6 _ _ (s5 _ _ (s4 _ _ (s3 _ _ h2))),s6 _ _ h5,zaQ.snoc (S.stand.at_.ext s06) (s6 _ _ (s5 _ _ (s4 _ _ h3))),by rw[yan,yaU,eF,hlen],zfi S.stand.T hk,zod S.stand.R,by rw[eF];lia,by rw[zjx];exact S.stand.keys];have k7:But sh H6 (upd H6 sh .(g)):=λb o n e=>by rw[zag n];exact e
 have i7:upd H6 sh .(g) sh=some (.ins CS dx [("kept",.ref st'),("fulls",.ref p)]):=by rw[zab];rfl
 generalize upd H6 sh .(g)=H7 at k7 i7 ⊢;have ins6:=s06 _ _ S.ins;have tp7:Tp H6 H7:=k7.tp λus z=>by rw[ins6]at z;cases z
 have nsp:p≠sh:=λz=>by have:=S.full.at_;rw[z,S.ins]at this;cases this
 have p7:=k7 _ _ nsp (s06 _ _ S.full.at_);have ndx:dx≠sh:=λz=>by have:=S.own;rw[z,S.ins]at this;cases this
 have o7:=k7 _ _ ndx (s06 _ _ S.own);have F7:FA K H7 p qs (ps.length+1) (zal ps rows):=(S.full.ext s06.ext).tp tp7 λb us e=>k7 b _ (λz=>by rw[z,ins6]at e;cases e) e
 refine #[_,rfl,sh,CS,dx,_,_,rfl,i7,O.cl,O.n_fulls,rfl,.inl #[rfl,_,SqL.of p7],.(F),λE1 hE1=>?_];have nE:E1≠p:=λz=>by rw[z,p7]at hE1;cases hE1
 have fE:H E1=none:=by
  cases e:H E1 with
  | none=>rfl
  | some o=>
   by_cases z:E1=sh
   .rw[z,i7]at hE1;cases hE1
   .rw[k7 _ _ z (s06 _ _ e)]at hE1;cases hE1
 have s8:=zai hE1 .(M);have hql:=F7.len;refine #[_,_,_,rfl,rfl,s8 _ _ p7,zap .(G),?_];have F9:=F7.congr (g:=zal (ps++[kn]) (rows++[[]])) λj hj=>(zof S.stand.T hk hlen _ j (yaa _) hj).symm;have F10:=F9.snoc hE1 (ws:=[]) (by rw[zlC S.stand.T hk hlen];exact .nil);have k10:But p H7 (upd (upd H7 E1 .(M)) p (.lst (qs.map V.ref++[.ref E1]))):=λb o n e=>by rw[zag n];exact s8 _ _ e
 generalize upd (upd H7 E1 .(M)) p (.lst (qs.map V.ref++[.ref E1]))=H10 at F10 k10 ⊢;have tp10:Tp H7 H10:=k10.tp λus z=>by rw[p7]at z;cases z
 refine #[_,rfl,_,_,rfl,.inr (SqT.of (tp10 _ _ (tp7 _ _ (s06 _ _ S.stand.tr)))),?_];rw[el];refine q E1 st' t' rs' (as++[e]) H10 #[fE,λb o n1 n2 e=>k10 b o n2 (k7 b o n1 (s06 _ _ e)),k10 _ _ (λz=>by rw[z,p7]at o7;cases o7) o7,k10 _ _ nsp.symm i7,zcl tp10 (zcl tp7 SN),?_]
 rw[eF];exact F10
inductive AnyV (K:Frag)(H:Hp):V->Prop where
 | int (i:Int):AnyV K H (.int i)
 | oth (x:V) (h:∀ i,x≠.int i) (w:zhd K H x false):AnyV K H x
def zf4 (n:Nat)(x:V):Bool:=match x with
 | .int i=>decide (0<=i)&&decide (i<n)
 | _=>false
def zml {x:V}(h:∀ i,x≠.int i):zf4 n x=false:=by
 cases x with
 | int i=>exact absurd rfl (h i)
 | _=>rfl
inductive zic (K:Frag)(vs:List V)(H:Hp)(Q:VK)(w_1:XK):Prop
 | c:∀(n:Nat) (x:V),vs=[.int n,x]->AnyV K H x->Q (.bl (zf4 n x)) H->zic K vs H Q w_1
def znG (T:Txt K mg)(qan:DF K mg "is_one_of_first" za6 zaH)(qaU:FC P w K mg base 1 "is_whole" zb5 (zgD K)):FC P w K mg base 2 "is_one_of_first" zaH (zic K):=by
 refine qan.ok qaR .(c) .(b)
 .obtain ⟨n,x,rfl,_⟩:=h;rfl
 obtain ⟨n,x,rfl,hx,q⟩:=h;refine #[_,(zae (zaw (zli (zaA qaU hr (zaa (pv 1) zac)) (zlf (zlh zpp zhi zaf (pv 1) (pv 0)))))),?_];cases hx with
 | oth x h w=>
  refine #[_,rfl,_,false,rfl,w,_,rfl,?_];refine iteF ?_;rw[zml h]at q;exact q
 | int i=>
  refine #[_,rfl,_,true,rfl,.int i,_,rfl,?_];refine iteT ?_;refine #[_,rfl,_,_,rfl,rfl,_,rfl,?_];refine ite2 .(u) .(u)
  .refine #[_,rfl,_,_,rfl,rfl,?_];have e:zf4 n (.int i)=decide (i<(n:Int)):=by
    show (decide (0<=i)&&decide (i<(n:Int)))=_;rw[show decide (0<=i)=true from c,Bool.true_and]
   rw[e]at q;exact q
  .have e:zf4 n (.int i)=false:=by
    show (decide (0<=i)&&decide (i<(n:Int)))=_;rw[show decide (0<=i)=false from ycA.mpr c,Bool.false_and]
   rw[e]at q;exact q
inductive zj8 (K:Frag)(C:Addr)(vs:List V)(H:Hp)(w_1:VK)(E:XK):Prop
 | c:∀(t:Addr) (x:V) (ps:List Nat),vs=[.ref t,x]->H t=some (.tup (zba ps))->ps.length<=900->AnyV K H x->zf4 (ps.length+1) x=false->E (.ref C) none H->zj8 K C vs H w_1 E
def zpA (T:Txt K mg){qac qai qao qae qap qaf qab qaa qaq qag qar qaj qaw:Addr}(CL:Cls K mg qac qai qao qae qap qaf qab qaa qaq qag qar qaj qaw)(qaF:DF K mg "need_knot" zcC zaY)(qau:FC P w K mg base 2 "is_one_of_first" zaH (zic K)):FX P w K mg base 3 "need_knot" zaY (zj8 K qaa):=by
 refine qaF.okx qbI .(c) .(b)
 .obtain ⟨t,x,ps,rfl,_⟩:=h;rfl
 obtain ⟨t,x,ps,rfl,ht,hl,hx,hf,e⟩:=h;refine #[_,(zae (zaW (zcU (zbI (zaA qau hr (zaa (zam (zak (K:=K)) rfl T.qas boot_len (zaa (pv 0) zac)) (zaa (pv 1) zac))))) (zae (zld CL.qeC thrX rfl rfl (zaa zbQ zac))) zay)),?_];refine #[_,rfl,_,_,rfl,.inr (SqT.of ht),_,rfl,?_];rw[zao];refine #[ps.length+1,x,rfl,hx,?_];rw[hf];refine #[_,rfl,iteT ?_];exact #[.(x),e]
def zrn (K:Frag)(C:Addr):Sp:=λvs H Q E=>zfz K vs H Q E\/zj8 K C vs H Q E
inductive zj9 (K:Frag)(CS CK CR:Addr)(vs:List V)(H:Hp)(w_1:VK)(E:XK):Prop
 | c:∀(sh dx st p:Addr) (x:V) (qs:List Addr) (ps:List Nat) (rows:List (List Int)) (t rs:Addr) (as:List Addr),vs=[.ref sh,x]->zaV K CS H sh dx st p qs ps rows t rs as->((AnyV K H x/\zf4 (ps.length+1) x=false/\E (.ref CK) none H)\/∃ kn:Nat,x=.int kn/\kn<ps.length+1/\40<=ps.length+1/\E (.ref CR) none H)->zj9 K CS CK CR vs H w_1 E
def zpD (T:Txt K mg){qac qai qao qae qap qaf qab qaa qaq qag qar qaj qaw:Addr}(CL:Cls K mg qac qai qao qae qap qaf qab qaa qaq qag qar qaj qaw)(O:OwnC K mg CS)(qaC:DM K CS "hang" "Shelf.hang" zce zbr)(qaz:FX P w K mg base 3 "need_knot" zaY (zrn K qaa)):FMX P w K mg base CS 4 "hang" zbr (zj9 K CS qaa qab):=by
 refine qaC.okx qaK .(c) .(b)
 .obtain ⟨sh,dx,st,p,x,qs,ps,rows,t,rs,as,rfl,_⟩:=h;rfl
 obtain ⟨sh,dx,st,p,x,qs,ps,rows,t,rs,as,rfl,S,hc⟩:=h;refine #[_,(zah (zas (i:=2) qaK.nd rfl (Or.inl rfl) (zaL (zaG (K:=K)) (zbT (pv 0) rfl) zaf (λ_ _=>rfl)))
   (zah (zbd (ztc qaz hr zur (zaa (pv 2) (zaa (pv 1) zac))))
   (zaB (zaW (zat znv (zam (zak (K:=K)) rfl T.qas boot_len (zaa (pv 2) zac)) (zdp rfl T.qa3) (zaE _)) (zae (zld CL.qeG thrX rfl rfl (zaa zbQ zac))) zay)
   (zah (zhv (pv 0) (zaT (zaa (zav zdq (pv 2) (zaT (zaa (pv 1) zac))) (zaa (zav zdq (zaL (zaG (K:=K)) (zbT (pv 0) rfl) zaf (λ_ _=>rfl)) (zaT (zaa (zaT zac) zac))) zac))) rfl)
   (zah (zbd (zfa F.plainAttrs_list F.slot_list_append F.type_list_append za0 (zbT (pv 0) rfl) (zaa (zbS zac) zac)))
   (zae (zaw (zam (zak (K:=K)) rfl T.qas boot_len (zaa (pv 2) zac))))))))),?_]
 have hfew:=S.stand.few;refine #[_,rfl,sh,CS,dx,_,_,rfl,S.ins,O.cl,O.n_kept,rfl,_,_,_,_,rfl,rfl,SqT.of S.stand.st,rfl,?_];rcases hc with ⟨hx,hf,e⟩|⟨kn,rfl,hk,h40,e⟩
 .exact #[_,rfl,_,rfl,.inr #[t,x,ps,rfl,S.stand.tr,by lia,hx,hf,e]]
 .refine #[_,rfl,_,rfl,.inl #[t,kn,ps,rfl,S.stand.tr,by lia,hk,?_]];refine #[λ_ _=>False,?_,λ_ _ z=>z.elim];refine #[_,rfl,_,_,rfl,.inr (SqT.of S.stand.tr),_,_,rfl,rfl,_,rfl,?_];exact zr5 (show (40:Int)<=(((zba ps).length:Nat):Int) by rw[zao];lia) #[.(x),e]
def zrp (K:Frag)(CS CK CR:Addr):Sp:=λvs H Q E=>zmZ K CS vs H Q E\/zj9 K CS CK CR vs H Q E
structure ClsF (K:Frag)(os:List Addr)(cR cK C:Addr)(c:Bool):Prop where
 x:ExcC K C
 v:kitOne K (.ref C) (.type "ValueError")=some true
 o:PySem.W.kitAny K (.ref C) (os.map Value.ref)=some false
 k0:kitOne K (.ref C) (.ref cR)=some c
 k1:kitOne K (.ref C) (.ref cK)=some (!c)
def ztK:Bool->Str
 | false => "no knot"
 | true => "no room"
def zsr {qac qai qao qae qap qaf qab qaa qaq qag qar qaj qaw:Addr}(CL:Cls K mg qac qai qao qae qap qaf qab qaa qaq qag qar qaj qaw)(c:Bool):∃ C,ClsF K [qaf,qaq,qag,qar,qae,qaj,qai,qao,qap] qab qaa C c/\zhf K C qac/\(c=false->C=qaa)/\(c=true->C=qab):=by
 cases c with
 | false=>exact #[qaa,#[CL.qeD,CL.qeF,by simp only[List.map,PySem.W.kitAny,CL.qbO,CL.qcJ,CL.qbP,CL.qcK,CL.qbN,CL.qce,CL.qcb,CL.qcH,CL.qcI],CL.qcc,CL.qcd],CL.qeE,λ_=>rfl,λz=>nomatch z]
 | true=>exact #[qab,#[CL.qeH,CL.qeJ,by simp only[List.map,PySem.W.kitAny,CL.qbR,CL.qcN,CL.qbS,CL.qcO,CL.qbQ,CL.qci,CL.qcf,CL.qcL,CL.qcM],CL.qcg,CL.qch],CL.qeI,nofun,λ_=>rfl]
inductive zmY (K:Frag)(CS:Addr)(vs:List V)(H:Hp)(Q:VK)(w_1:XK):Prop
 | c:∀(sh dx st p:Addr) (x:V) (qs:List Addr) (ps:List Nat) (rows:List (List Int)) (t rs:Addr) (as:List Addr),vs=[.ref sh,x]->zaV K CS H sh dx st p qs ps rows t rs as->((∃ c:Bool,((c=false/\AnyV K H x/\zf4 (ps.length+1) x=false)\/(c=true/\∃ kn:Nat,x=.int kn/\kn < ps.length+1/\40<=ps.length+1))/\∀ H',Same H H'->Q (.str (ztK c)) H')\/
  ∃ kn:Nat,x=.int kn/\kn<ps.length+1/\ps.length+1<40/\∀(E st' t' rs':Addr) (as':List Addr) (H':Hp),zlL K CS H H' sh dx p qs E st' t' rs' as' ps rows kn->Q (.int ((ps.length+1:Nat):Int)) H')->zmY K CS vs H Q w_1
def zrN (T:Txt K mg){qac qai qao qae qap qaf qab qaa qaq qag qar qaj qaw:Addr}(CL:Cls K mg qac qai qao qae qap qaf qab qaa qaq qag qar qaj qaw)(O:OwnC K mg CS)(qda:DF K mg "_law_hung" zgn ze7)(qdh:FMX P w K mg base CS 4 "hang" zbr (zrp K CS qaa qab)):FC P w K mg base 5 "_law_hung" ze7 (zmY K CS):=by
 refine qda.ok qa0 .(c) .(b)
 .obtain ⟨sh,dx,st,p,x,qs,ps,rows,t,rs,as,rfl,_⟩:=h;rfl
 obtain ⟨sh,dx,st,p,x,qs,ps,rows,t,rs,as,rfl,S,hc⟩:=h;refine #[_,(zah (zas (i:=2) qa0.nd rfl (Or.inl rfl) zgI)
   (zah (zas (i:=3) qa0.nd rfl (Or.inl rfl) zgI)
   (zaB (zrz (i:=4) (j:=3) (zrx qdh O.cl hr (pv 0) (zaa (pv 1) zac)) rfl rfl rfl rfl qa0.nd rfl rfl CL.qcW rfl (λ_=>(zae (zas (i:=2) qa0.nd rfl (Or.inl rfl) (pv 4)))))
   (zaB (zaW (zat zth (pv 2) zgI (zaE _)) (zae (zaw (pv 3))) zay)
   (zaB (zaW (zbI (zam zdX rfl T.qah boot_isinstance (zaa (pv 2) (zaa (zaT (zaa (zb6 (v:=.ref qaf) rfl CL.qei rfl) (zaa (zb6 (v:=.ref qaq) rfl CL.qe2 rfl) (zaa (zb6 (v:=.ref qag) rfl CL.qej rfl) (zaa (zb6 (v:=.ref qar) rfl CL.qe3 rfl) (zaa (zb6 (v:=.ref qae) rfl CL.qeh rfl) (zaa (zb6 (v:=.ref qaj) rfl CL.qeB rfl) (zaa (zb6 (v:=.ref qai) rfl CL.qez rfl) (zaa (zb6 (v:=.ref qao) rfl CL.qe0 rfl) (zaa (zb6 (v:=.ref qap) rfl CL.qe1 rfl) zac)))))))))) zac)))) (zae (zaw zbQ)) zay)
   (zaB (zaW (PW.pt (znf (zcU (zbI (zam zdX rfl T.qah boot_isinstance (zaa (pv 2) (zaa (zcG (v:=.ty "ValueError") rfl T.qdf (by decide +kernel) rfl) zac))))) (zla (zat zdO (zam zdX rfl T.qah boot_isinstance (zaa (pv 2) (zaa (zb6 (v:=.ref qab) rfl CL.qdM rfl) zac))) (zam zdX rfl T.qah boot_isinstance (zaa (pv 2) (zaa (zb6 (v:=.ref qaa) rfl CL.qeA rfl) zac))) (zaE _))))) (zae (zaw zbQ)) zay)
   (zae (zaw (zaL (zaC (K:=K)) (zbS (zaa zbQ (zaa zbQ zac))) (zaU zoF rfl T.qeX boot_int (zaa (zam zdX rfl T.qah boot_isinstance (zaa (pv 2) (zaa (zb6 (v:=.ref qab) rfl CL.qdM rfl) zac))) zac)) (λ_ _=>rfl)))))))))),?_]
 rcases hc with ⟨c,hR,q⟩|⟨kn,rfl,hk,h40,q⟩
 .obtain ⟨C,F,hC,e0,e1⟩:=zsr CL c;refine #[λU' H'=>∃ a,U'=[some (.ref sh),some x,some (.ref a),some .non,none]/\H' a=some (zjE a (.ref C))/\Same H H',?_,?_]
  .refine #[_,rfl,sh,dx,_,rfl,S.ins,rfl,_,rfl,.inr #[sh,dx,st,p,x,qs,ps,rows,t,rs,as,rfl,S,?_]];rcases hR with ⟨z,h1,h2⟩|⟨z,kn,rfl,h1,h2⟩
   .cases e0 z
    exact .inl #[h1,h2,#[_,rfl,hC,λa ha=>#[_,rfl,a,rfl,zab,zai ha _]]]
   .cases e1 z
    exact .inr #[kn,rfl,h1,h2,#[_,rfl,hC,λa ha=>#[_,rfl,a,rfl,zab,zai ha _]]]
  clear hR e0 e1;rintro _ H1 ⟨a,rfl,ha,s1⟩;refine #[λU' H'=>U'=[some (.ref sh),some x,some (.ref a),some .non,none]/\H1=H',#[_,rfl,rfl,_,rfl,iteF .(L)],?_];rintro _ _ ⟨rfl,rfl⟩;refine #[λU' H'=>U'=[some (.ref sh),some x,some (.ref a),some .non,none]/\Same H1 H',?_,?_]
  .refine #[_,rfl,(by show 9<=sizeLine;decide),λtp htp=>?_];have st:=zai htp (.tup [.ref qaf,.ref qaq,.ref qag,.ref qar,.ref qae,.ref qaj,.ref qai,.ref qao,.ref qap]);exact #[a,C,_,false,rfl,st _ _ ha,F.x,.inr (.inr #[tp,[qaf,qaq,qag,qar,qae,qaj,qai,qao,qap],rfl,zab,F.o]),_,rfl,iteF #[rfl,st]]
  rintro _ H2 ⟨rfl,s2⟩;have ha2:=s2 _ _ ha;refine #[λU' H'=>U'=[some (.ref sh),some x,some (.ref a),some .non,none]/\H2=H',?_,?_]
  .refine #[_,rfl,a,C,_,true,rfl,ha2,F.x,.inr (.inl #[_,rfl,F.v]),_,rfl,iteF ?_];refine #[_,rfl,a,C,_,_,rfl,ha2,F.x,.inl #[_,rfl,F.k0],_,rfl,a,C,_,_,rfl,ha2,F.x,.inl #[_,rfl,F.k1],rfl,_,rfl,?_];cases c with
   | false=>exact iteF .(L)
   | true=>exact iteF .(L)
  rintro _ _ ⟨rfl,rfl⟩;refine #[.(m),λl hl=>?_];have s3:=zai hl (.lst [.str "no knot",.str "no room"]);have h3:upd H2 l (.lst [.str "no knot",.str "no room"]) l=some (.lst [.str "no knot",.str "no room"]):=zab;generalize upd H2 l (.lst [.str "no knot",.str "no room"])=H3 at s3 h3 ⊢;refine #[_,rfl,a,C,_,_,rfl,s3 _ _ ha2,F.x,.inl #[_,rfl,F.k0],.inr .(z)];have e:=q H3 (s1.trans (s2.trans s3));cases c with
  | false=>exact #[_,_,_,_,rfl,rfl,SqL.of h3,rfl,e]
  | true=>exact #[_,_,_,_,rfl,rfl,SqL.of h3,rfl,e]
 .refine #[λU' H'=>U'=[some (.ref sh),some (.int kn),some .non,some (.int ((ps.length+1:Nat):Int)),none]/\Q (.int ((ps.length+1:Nat):Int)) H',?_,?_]
  .refine #[_,rfl,sh,dx,_,rfl,S.ins,rfl,_,rfl,.inl #[sh,dx,st,p,kn,qs,ps,rows,t,rs,as,rfl,S,hk,h40,λE st' t' rs' as' H' X=>#[rfl,q E st' t' rs' as' H' X]]]
  rintro _ H1 ⟨rfl,q1⟩;refine #[λ_ _=>False,?_,λ_ _ z=>z.elim];exact #[_,rfl,rfl,_,rfl,iteT #[_,rfl,q1]]
inductive zh7 (K:Frag)(CS:Addr)(vs:List V)(H:Hp)(Q:VK)(w_1:XK):Prop
 | c:∀(sh dx st p t0 r pf:Addr) (qs qf:List Addr) (ps:List Nat) (rows:List (List Int)) (t rs:Addr) (as asr:List Addr),vs=[.ref sh,.ref t0,.ref r,.ref pf]->zaV K CS H sh dx st p qs ps rows t rs as->H t0=some (.tup (zba ps))->zdZ H r asr rows->FA K H pf qf (ps.length+1) (zal ps rows)->(∀ H',Same H H'->Q (.bl true) H')->zh7 K CS vs H Q w_1
def znz (T:Txt K mg)(O:OwnC K mg CS)(qbB:DF K mg "_law_stands" zd8 zdl)(qdi:FM P w K mg base CS 4 "full" zcr (zkb K CS))(qdb:FM P w K mg base CS 1 "stand" zca (zj4 CS)):FC P w K mg base 5 "_law_stands" zdl (zh7 K CS):=by
 refine qbB.ok qdw .(c) .(b)
 .obtain ⟨sh,dx,st,p,t0,r,pf,qs,qf,ps,rows,t,rs,as,asr,rfl,_⟩:=h;rfl
 obtain ⟨sh,dx,st,p,t0,r,pf,qs,qf,ps,rows,t,rs,as,asr,rfl,S,ht,R,F2,q⟩:=h;refine #[_,(zaB (zaW (zat (zlj (Tup (Option Int)×Tup (Tup Int)) (huD hr)) (ztb qdb O.cl hr (pv 0)) (zaT (zaa (pv 1) (zaa (pv 2) zac))) (zaE _)) (zae (zaw zew)) zay)
   (zae (zaw (zgJ (zti (List (List (Int×Int))) (huD hr)) (zbU (N:=["_law_knot","_law_shelf"]) (own:=1) (cap:=[0]) rfl (zaZ rfl T.qat (zaa (zam (zak (K:=K)) rfl T.qas boot_len (zaa (pv 1) zac)) zac)) #[rfl,rfl,rfl,rfl,rfl,rfl] (λ_ _ _ _ _=>(zau (i:=0) (show List.Nodup (["_law_knot","_law_shelf"]:List Str) by decide +kernel) rfl (Or.inl rfl))) (λ_ _ _ _ _=>zb4) (λ_ _ _ _ _=>(zkf qdi O.cl hr (pv 1) (zaa (pv 0) zac)))) (pv 3) (zaE _))))),?_]
 have el:=zao ps;have hfew:=S.stand.few;refine #[λU' H'=>U'=[some (.ref sh),some (.ref t0),some (.ref r),some (.ref pf)]/\Same H H',?_,?_]
 .refine #[_,rfl,sh,dx,_,rfl,S.ins,rfl,sh,dx,st,p,rfl,S.ins,_,rfl,_,rfl,.(m),λu hu=>?_];have su:=zai hu (.tup [.ref t0,.ref r]);have Ru:=R.tp λb us e=>su _ _ e;refine #[zmT ps rows,zmT ps rows,zmS (S.stand.same su),#[u,_,_,rfl,zab,#[_,_,rfl,SqT.of (su _ _ ht),zkW ps],#[_,_,rfl,SqT.of Ru.at_,zio Ru.rows]],_,rfl,?_];exact zkv rfl #[rfl,su]
 rintro _ H1 ⟨rfl,s1⟩;have S1:=S.same s1;refine #[_,rfl,_,_,rfl,.inr (SqT.of (s1 _ _ ht)),_,rfl,by rw[el];lia,by rw[el];lia,λpa hpa=>?_];rw[el,ybe];refine zb7 (n:=ps.length+1) (λi U H2=>∃(x0:Option V) (qa:List Addr),U=[x0,some (.ref sh)]/\FA K H2 pa qa i (zal ps rows)/\But pa H1 H2) ?_ ?_ ?_
 .exact #[_,[],rfl,#[zab,rfl,ybw,nofun,λj q e=>by simp at e],λb o n e=>by rw[zag n];exact e]
 .rintro i2 m U H2 hm hi2 ⟨x0,qa,rfl,F3,k2⟩;rw[ybi];have s2:Same H1 H2:=λb o e=>k2 b o (zad e hpa) e;have S2:=S1.same s2;have hql:=F3.len;refine zc0 ?_;refine #[_,rfl,sh,dx,_,rfl,S2.ins,rfl,_,rfl,sh,dx,st,p,i2,qs,ps,rows,t,rs,as,rfl,S2,hi2,λB0 ws hB0 hw=>?_];have nB:B0≠pa:=λz=>by rw[z,F3.at_]at hB0;cases hB0
  exact #[_,by rw[zag (Ne.symm nB)];exact F3.at_,zap .(G),m-1,by lia,by lia,_,_,rfl,F3.snoc hB0 hw,λb o n e=>by rw[zag n];exact zai hB0 _ _ _ (k2 b o n e)]
 rintro U H2 ⟨x0,qa,rfl,F3,k2⟩;have s2:Same H1 H2:=λb o e=>k2 b o (zad e hpa) e;have s02:=s1.trans s2;refine #[_,rfl,zoj ps rows,zoj ps rows,#[pa,_,rfl,SqL.of F3.at_,F3.has],#[pf,_,rfl,SqL.of (s02 _ _ F2.at_),F2.has.mono s02.ext],?_];rw[yah (Eq.refl (zoj ps rows))];exact q _ s02
def SNow.hang {K:Frag}{a:Addr}{rows:List .(j)}(h:SNow K CS mp a H d sh p qs ps rows)(X:zlL K CS H H' sh dx p qs E st' t' rs' as' ps rows kn):SNow K CS mp a H' d sh p (qs++[E]) (ps++[kn]) (rows++[[]]):=by
 obtain ⟨dx0,st0,t0,rs0,as0,S⟩:=h.shelf;obtain ⟨tab,et,r1,r2⟩:=h.tab.ex;have kk:∀{b:Addr} {o:HO},H b=some o->(∀ us,o≠.lst us)->(∀ c d f,o≠.ins c d f)->H' b=some o:=λ{b o} e n1 n2=>X.kd b o (λz=>by rw[z,S.ins]at e;exact n2 _ _ _ (yae e).symm) (λz=>by rw[z,S.full.at_]at e;exact n1 _ (yae e).symm) e;refine #[#[dx,st',t',rs',as',X.shelf],#[tab,kk et nofun (λ_ _ _ z=>nomatch z),r1,?_],h.ls.same (zfN λb o n e=>X.kd b o (λz=>n (by simp[z])) (λz=>n (by simp[z])) e)];rcases r2 with z|⟨c,z1,z2⟩
 .exact .inl z
 .exact .inr #[c,z1,kk z2 nofun (λ_ _ _ z=>nomatch z)]
def znN {ns:List Nat}(T:zax ps)(h:∀ n∈ns,n<ps.length+1):zax (ps++ns):=λi hi=>by
 rw[List.getElem_append];split
 .exact T i _
 .have:=h _ (yaR (l:=ns) (n:=i-ps.length) (by rw[yan]at hi;lia));lia
def znM {ns:List Nat}:zba (ps++ns)=zba ps++(ns.map λn:Nat=>(n:Int)).map V.int:=by
 unfold zba;simp
structure KNow (K:Frag)(CS mp a:Addr)(H:Hp)(d sh p t r:Addr)(qs asr:List Addr)(ps:List Nat)(rows:List .(j)):Prop where
 now:SNow K CS mp a H d sh p qs ps rows
 tree:H t=some (.tup (zba ps))
 rows:zdZ H r asr rows
section
variable {K:Frag}{CS mp a d sh p t r:Addr}{H H':Hp}{qs asr:List Addr}{ps:List Nat}{rows:List .(j)}
def KNow.same (h:KNow K CS mp a H d sh p t r qs asr ps rows)(s:Same H H'):KNow K CS mp a H' d sh p t r qs asr ps rows:=#[h.now.same s,s _ _ h.tree,h.rows.tp λb us e=>s _ _ e]
def KNow.take (h:KNow K CS mp a H d sh p t r qs asr ps rows)(k:Keep d H H')(s:LS K a d H'):KNow K CS mp a H' d sh p t r qs asr ps rows:=#[h.now.take k s,zgP h.now.lsH k _ _ h.tree,h.rows.tp (zgP h.now.lsH k)]
end
inductive zhs (K:Frag)(mp:Addr)(vs:List V)(H:Hp)(Q:VK)(w_1:XK):Prop
 | c:∀(a:Addr) (ns:List Int),vs=[.ref a]->SqL K H a (ns.map V.int)->ns.length<=63->H mp=some (.tbl (List.toArray []))->(∀ H',Q (.bl true) H')->zhs K mp vs H Q w_1
def ztn (T:Txt K mg)(O:OwnC K mg CS)(qe6:DF K mg "law" zo8 zle)(qep:FC P w K mg base 1 "_law_begin" zej (zkc K))(qad:FC P w K mg base 2 "_law_take" zbP (zfV K))(qeO:FC P w K mg base 3 "_law_tree" ze3 (zmV K))(qeP:FC P w K mg base 5 "_law_rows" ze5 (zmX K))(qeq:FC P w K mg base 3 "tree_of" zef (zh6 K))(qdW:FC P w K mg base 4 "stand_of" zdi (zgE K))(qe7:FI P w K mg base CS 9 zbs (zk3 K CS))(qdN:FC P w K mg base 5 "_law_hung" ze7 (zmY K CS))(qdj:FC P w K mg base 3 "_law_fulls" zei (zia K))(qcR:FC P w K mg base 5 "_law_stands" zdl (zh7 K CS))(qeQ:FC P w K mg base 4 "_law_step" ze4 (zmW K))(qdX:FC P w K mg base 1 "_law_behind" zdn (zig K))(qdk:FC P w K mg base 2 "_law_told_due" zcq (zrr K))(qdF:FM P w K mg base CS 8 "put" zcX (zjb K CS mp putR zrQ))(qdG:FM P w K mg base CS 8 "out" zcY (zjb K CS mp outR zrR)):FC P w K mg base 11 "law" zle (zhs K mp):=by
 refine qe6.ok qax .(c) .(b)
 .obtain ⟨a,ns,rfl,_⟩:=h;rfl
 obtain ⟨a,ns,rfl,hS,_,hmp,q⟩:=h;have hT0:zbw H mp zdF lamQ:=#[(List.toArray []),hmp,trivial,.inl rfl];refine #[_,(zaz (zas (i:=1) qax.nd rfl (Or.inr rfl) (zaA qep hr (zaa (pv 0) zac)))
   (zaz (zas (i:=2) qax.nd rfl (Or.inr rfl) (zaA qeO hr (zaa (pv 1) (zaa zaf zac))))
   (zcD (zaW (zat zdO (zaA qad hr (zaa (pv 1) (zaa zaf zac))) zaf (zaE _)) (zaz (zas (i:=3) qax.nd rfl (Or.inl rfl) (zav zbV (zav za8 zaf (zaA qad hr (zaa (pv 1) (zaa zaf zac)))) (zam (zak (K:=K)) rfl T.qas boot_len (zaa (pv 2) zac))))
   (zae (zas (i:=2) qax.nd rfl (Or.inr rfl) (zav znw (pv 2) (zaU (zaP (K:=K)) rfl T.qaE boot_tuple (zaa (zbU (N:=["_law_k","_law_state","_law_tree_here"]) (own:=1) (cap:=[1,2]) rfl (zaZ rfl T.qat (zaa (pv 3) zac)) #[rfl,rfl,rfl,rfl,rfl,rfl] (λ_ _ _ _ _=>(zau (i:=0) (show List.Nodup (["_law_k","_law_state","_law_tree_here"]:List Str) by decide +kernel) rfl (Or.inl rfl))) (λ_ _ _ _ _=>zb4) (λ_ _ _ _ _=>(zav zb0 (zaA qad hr (zaa (pv 1) (zaa zaf zac))) (zav zc7 (pv 0) (zam (zak (K:=K)) rfl T.qas boot_len (zaa (pv 2) zac)))))) zac)))))) zay)
   (zaz (zas (i:=4) qax.nd rfl (Or.inl rfl) (zaA qeP hr (zaa (pv 1) (zaa (zam (zak (K:=K)) rfl T.qas boot_len (zaa (pv 2) zac)) (zaa zaf zac)))))
   (zaz (zas (i:=5) qax.nd rfl (Or.inl rfl) (zuq qe7 hr O.mgC (zaa (zaA qdW hr (zaa (zaA qeq hr (zaa (pv 2) zac)) (zaa (pv 4) zac))) zac)))
   (zaz (zbn PassesOwn.never rfl (zaZ rfl T.qat (zaa zaf zac)) (zau (i:=6) qax.nd rfl (Or.inl rfl)) (zaz (zas (i:=7) qax.nd rfl (Or.inl rfl) (zaA qad hr (zaa (pv 1) (zaa (zam (zak (K:=K)) rfl T.qas boot_len (zaa (pv 2) zac)) zac))))
   (zcD (zaW (zat zns (zaA qdN hr (zaa (pv 5) (zaa (zam (zak (K:=K)) rfl T.qas boot_len (zaa (pv 2) zac)) zac))) zbQ (zaE _)) (zae (zaw zew)) zay)
   (zaz (zas (i:=8) qax.nd rfl (Or.inl rfl) (zaA qdN hr (zaa (pv 5) (zaa (pv 7) zac))))
   (zcD (zaW (zat zdO (zam (zak (K:=K)) rfl T.qas boot_len (zaa (pv 2) zac)) zaf (zaE _)) (zae (zaW (zat zns (pv 8) zbQ (zaE _)) (zae (zaw zew)) zay)) (zcD (zaW (PW.pt (znf (zbI (zam (zfp (K:=K)) rfl T.qah boot_isinstance (zaa (pv 8) (zaa (zcG (v:=.ty "bool") rfl T.qeV boot_bool rfl) zac)))) (znf (zcU (zbI (zam (zfp (K:=K)) rfl T.qah boot_isinstance (zaa (pv 8) (zaa (zcG (v:=.ty "int") rfl T.qeX boot_int rfl) zac))))) (zla (zat zns (pv 8) (zam (zak (K:=K)) rfl T.qas boot_len (zaa (pv 2) zac)) (zaE _)))))) (zae (zaw zew)) zay)
   (zaz (zas (i:=2) qax.nd rfl (Or.inr rfl) (zav zdq (pv 2) (zaT (zaa (pv 7) zac))))
   (zae (zas (i:=4) qax.nd rfl (Or.inl rfl) (zav zdq (pv 4) (zaT (zaa (zaT zac) zac))))))))
   (zaz (zas (i:=9) qax.nd rfl (Or.inl rfl) (zaA qdj hr (zaa (pv 2) (zaa (pv 4) zac))))
   (zcD (zaW (zcU (zbI (zaA qcR hr (zaa (pv 5) (zaa (pv 2) (zaa (pv 4) (zaa (pv 9) zac))))))) (zae (zaw zew)) zay)
   (zaz (zdz (zaA qeQ hr (zaa (pv 1) (zaa (pv 2) (zaa (pv 4) zac)))) (zhw rfl (zbt (zau (i:=7) qax.nd rfl (Or.inl rfl)) (zbt (zau (i:=10) qax.nd rfl (Or.inl rfl)) (zbt (zau (i:=11) qax.nd rfl (Or.inl rfl)) zfG)))))
   (zcD (zaW (zat zdO (zaA qad hr (zaa (pv 1) (zaa zaf zac))) zaf (zaE _)) (zaz (zas (i:=7) qax.nd rfl (Or.inl rfl) (zav zbV (zam (zak (K:=K)) rfl T.qas boot_len (zaa (pv 2) zac)) zaf))
   (zae (zas (i:=11) qax.nd rfl (Or.inl rfl) (zgJ (zbf (K:=K)) (pv 10) (zaL (zaG (K:=K)) (pv 4) (pv 7) (λ_ _=>rfl)) (by with_unfolding_all rfl))))) zay)
   (zaz (zas (i:=4) qax.nd rfl (Or.inl rfl) (zaA qdX hr (zaa (pv 4) (zaa (pv 7) (zaa (pv 10) (zaa (pv 11) zac))))))
   (zaz (zas (i:=12) qax.nd rfl (Or.inl rfl) (zaA qdj hr (zaa (pv 2) (zaa (pv 4) zac))))
   (zaz (zas (i:=13) qax.nd rfl (Or.inl rfl) (zaA qdk hr (zaa (pv 2) (zaa (pv 9) (zaa (pv 12) (zaa (pv 7) zac))))))
   (zcD (zaW (PW.pt (znf (PW.pt (zfW (zbI (pv 11)) (zdJ (zat (zlj (List (Tri Int (List (Int×Int)) (List (Int×Int)))) (huD hr)) (zkf qdF O.cl hr (pv 5) (zaa (pv 7) (zaa (pv 10) zac))) (pv 13) (zaE _))))) (zla (PW.pt (zfW (zcU (zbI (pv 11))) (zdJ (zat (zlj (List (Tri Int (List (Int×Int)) (List (Int×Int)))) (huD hr)) (zkf qdG O.cl hr (pv 5) (zaa (pv 7) (zaa (pv 10) zac))) (pv 13) (zaE _)))))))) (zae (zaw zew)) zay)
   (zae (zaW (zcU (zbI (zaA qcR hr (zaa (pv 5) (zaa (pv 2) (zaa (pv 4) (zaa (pv 12) zac))))))) (zae (zaw zew)) zay)))))))))))))))
   (zae (zaw zew)))))))),?_]
 intro N1 n1;refine #[_,rfl,a,ns,rfl,hS,λd H1 _ g1 s1=>n1 _ _ ?_];intro N2 n2;refine #[_,rfl,d,a,9,rfl,by decide,s1,λt ps H2 ht hT hl h2 k2 s2=>n2 _ _ ?_];have hT2:zbw H2 mp zdF lamQ:=(hT0.ext g1.ext).ext (s1.ext k2);have el:=zao ps;refine #[λU' H'=>∃(t:Addr) (ps:List Nat) (x3:Option V),U'=[some (.ref a),some (.ref d),some (.ref t),x3,none,none,none,none,none,none,none,none,none,none]/\H' t=some (.tup (zba ps))/\zax ps/\ps.length<=39/\Keep d H2 H'/\LS K a d H',?_,?_]
 .intro N3 n3;refine #[_,rfl,d,a,4,rfl,by decide,s2,λv H3 _ _ k3 s3=>#[rfl,_,rfl,?_]];have t3:=zgP s2 k3 _ _ h2;refine ite2 (λ_=>?_) (λ_=>n3 _ _ #[t,ps,_,rfl,t3,hT,by lia,k3,s3]);intro N4 n4;refine #[_,rfl,d,a,4,rfl,by decide,s3,λv2 H4 v0 v1 k4 s4=>?_];have t4:=zgP s3 k4 _ _ t3;refine #[_,_,rfl,rfl,_,rfl,_,_,rfl,.inr (SqT.of t4),_,_,rfl,rfl,n4 _ _ ?_];rw[el];refine #[_,rfl,_,rfl,_,rfl,by show -2^62<=37+v2-((ps.length+1:Nat):Int);lia,by show 37+v2-((ps.length+1:Nat):Int)<2^62;lia,λB hB=>?_];refine zb7 (n:=(37+v2-((ps.length+1:Nat):Int)).toNat) (λi U H5=>∃(x0:Option V) (ms:List Nat),U=[x0,some (.ref d),some (.ref t)]/\H5 B=some (.lst ((ms.map λn:Nat=>(n:Int)).map V.int))/\ms.length=i/\(∀ n∈ms,n<ps.length+1)/\(∀ b o,b≠d->b≠B->H4 b=some o->H5 b=some o)/\LS K a d H5) ?_ ?_ ?_
  .exact #[_,[],rfl,zab,rfl,(λn z=>nomatch z),λb o _ n e=>(by rw[zag n];exact e),s4.same (zai hB _)]
  .rintro i m U H5 hm hi ⟨x0,ms,rfl,h5,ml,mb,k5,s5⟩;rw[ybi];have tB:t≠B:=λz=>by rw[z,hB]at t4;cases t4
   have BdN:B≠d:=zqG s4 hB;have t5:=k5 _ _ (znT s4 t4) tB t4;refine zc0 ?_;refine #[_,rfl,d,a,2,rfl,by decide,s5,λv3 H6 w0 w1 k6 s6=>?_];have h6:=k6 _ _ BdN h5;have t6:=zgP s5 k6 _ _ t5;refine #[_,rfl,_,rfl,_,_,rfl,.inr (SqT.of t6),?_];rw[el];refine #[_,_,rfl,rfl,(by show (0:Int)<((ps.length+1:Nat):Int);lia),_,_,rfl,rfl,.inl #[by lia,by lia],?_];have hmod:=ycy (i:Int) (b:=((ps.length+1:Nat):Int)) .(a);have hmod0:=ycx (i:Int) (b:=((ps.length+1:Nat):Int)) .(a);obtain ⟨g,hg,hg2⟩:∃ g:Nat,v3*((i:Int)%((ps.length+1:Nat):Int))=g/\g<ps.length+1:=by
    obtain rfl|rfl:v3=0\/v3=1:=by lia
    .exact #[0,by simp,by lia]
    .exact #[((i:Int)%((ps.length+1:Nat):Int)).toNat,by lia,by lia]
   have h6':upd H6 B (.lst ((ms.map λn:Nat=>(n:Int)).map V.int++[.int (v3*((i:Int)%((ps.length+1:Nat):Int)))])) B=some (.lst (((ms++[g]).map λn:Nat=>(n:Int)).map V.int)):=by
    rw[zab,hg];simp
   have k46:∀ b o,b≠d->b≠B->H4 b=some o->H6 b=some o:=λb o n1 n2 e=>k6 _ _ n1 (k5 b o n1 n2 e);refine #[_,h6,zap (by simp only[yab];lia),m-1,by lia,by lia,_,ms++[g],rfl,h6',by rw[yan,ml,yaU],λn hn=>?_,λb o n1 n2 e=>(by rw[zag n2];exact k46 b o n1 n2 e),s4.put hB k46 s6];rcases yal.mp hn with z|z
   .exact mb n z
   .rw[yao.mp z];exact hg2
  .rintro U H5 ⟨x0,ms,rfl,h5,ml,mb,k5,s5⟩;have tB:t≠B:=λz=>by rw[z,hB]at t4;cases t4
   have t5:=k5 _ _ (znT s4 t4) tB t4;refine #[B,_,rfl,.inl #[SqL.of h5,λv hv=>?_]];have sv:=zai hv (.tup ((ms.map λn:Nat=>(n:Int)).map V.int));refine zlI (sv _ _ t5) zab (by rw[zao,yab,yab,ml];show _<=sizeLine;have:100<=sizeLine:= .(k);lia) λt' H6 s6 h6=>n3 _ _ ?_;rw[<-znM]at h6;refine #[t',ps++ms,_,rfl,h6,znN hT mb,by rw[yan,ml];lia,λb o n e=>?_,s5.same (sv.trans s6)];have e4:=k4 _ _ n (k3 _ _ n e);exact (sv.trans s6) _ _ (k5 _ _ n (λz=>by rw[z,hB]at e4;cases e4) e4)
 clear el h2 hl hT;rintro _ H2' ⟨t,ps,x3,rfl,h2,hT,hl,k22,s2'⟩;have hT2':=hT2.ext (s2.ext k22);clear k22 hT2 s2 ht;intro N3 n3;refine #[_,rfl,_,rfl,_,_,rfl,.inr (SqT.of h2),?_];refine #[d,a,(zba ps).length,5,rfl,by rw[zao];lia,by lia,s2',λr0 as0 rows0 H3 hr1 A1 hl1 R1 f1 h3 k3 s3=>n3 _ _ ?_];intro N4 n4;rw[zao]at hl1;have h3t:=zgP s2' k3 _ _ h2;have w1:=znZ f1;have hkeys:zby rows0<=200:=by lia
 have hT3:zbw H3 mp zdF lamQ:=hT2'.ext (s2'.ext k3);refine #[_,rfl,t,ps,rfl,h3t,hT,by lia,λH4 s4=>?_];refine #[_,rfl,t,r0,ps,rows0,as0,rfl,s4 _ _ h3t,s4 _ _ h3,A1.ext s4,hl1,hT,R1,by lia,by lia,λst rs bs H5 hst s5 S5=>?_];have s35:=s4.trans s5;intro sh dx hsh hdx hne;refine zmf S5 hsh hdx hne λp qs H6 hp hqs s6 S6=>#[rfl,n4 _ _ ?_];intro N5 n5;have s36:=s35.trans s6;have M6:SNow K CS mp a H6 d sh p qs ps rows0:=SNow.new (s3.same s35) (hT3.ext s35.ext) s6 hsh hp S6;have t6:=s36 _ _ h3t;have R6:zdZ H6 r0 as0 rows0:=#[s36 _ _ h3,A1.ext s36];clear s36 s35 S6 S5;have M6:KNow K CS mp a H6 d sh p t r0 qs as0 ps rows0:=#[M6,t6,R6];clear R6 t6 A1 h3 h3t s3 k3 s2' h2;refine #[_,rfl,.(k),.(k),?_];refine zbj (n:=8) (λi U HA=>∃(t r:Addr) (asr qs:List Addr) (ps:List Nat) (rows:List (List Int)) (x6 x7 x8 x9 x10 x11 x12 x13:Option V),U=[some (.ref a),some (.ref d),some (.ref t),x3,some (.ref r),some (.ref sh),x6,x7,x8,x9,x10,x11,x12,x13]/\KNow K CS mp a HA d sh p t r qs asr ps rows/\zax ps/\ps.length<=39/\zby rows<=200+i) ?_ ?_ ?_
 .exact #[t,r0,as0,qs,ps,rows0,_,_,_,_,_,_,_,_,rfl,M6,hT,hl,hkeys]
 .clear M6 hT hl hkeys w1 R1 hl1 f1;rintro i U HA hi ⟨t,r,asr,qs,ps,rows,x6,x7,x8,x9,x10,x11,x12,x13,rfl,NA,hT,hl,hkA⟩;refine ztM λN B R hN hB hR'=>?_;intro N1 n1;have el:=zao ps;refine #[_,rfl,_,rfl,_,_,rfl,.inr (SqT.of NA.tree),?_];rw[el];refine #[d,a,((ps.length+1:Nat):Int),rfl,#[by lia,by lia],NA.now.lsH,λv HB v0 v1 kB sB=>n1 _ _ ?_];obtain ⟨kn,rfl⟩:∃ kn:Nat,v=kn:=#[v.toNat,by lia];have NB:=NA.take kB sB;have hkn:kn<ps.length+1:=by lia
  clear NA;refine #[λU' H'=>U'=[some (.ref a),some (.ref d),some (.ref t),x3,some (.ref r),some (.ref sh),some (.int (0+(i:Int))),some (.int kn),x8,x9,x10,x11,x12,x13]/\Same HB H',?_,?_]
  .intro N2 n2;obtain ⟨dx,st1,t1,rs1,as1,S⟩:=NB.now.shelf;refine #[_,rfl,_,rfl,_,_,rfl,.inr (SqT.of NB.tree),?_];rw[el];refine #[sh,dx,st1,p,.int ((ps.length+1:Nat):Int),qs,ps,rows,t1,rs1,as1,rfl,S,.inl #[false,.inl #[rfl,?_,?_],λHC sC=>#[rfl,_,rfl,?_]]]
   .exact .int _
   .simp[zf4]
   exact iteF (n2 _ _ #[rfl,sC])
  rintro _ HC ⟨rfl,sC⟩;have NC:=NB.same sC;clear NB;intro N3 n3;obtain ⟨dx,st1,t1,rs1,as1,SC⟩:=NC.now.shelf;have hlen:=SC.stand.len;have RC:=SC.stand.R;have join:∀(fv:V) (HE:Hp),(fv=.str (ztK true)/\40<=ps.length+1/\Same HC HE)\/(fv=.int ((ps.length+1:Nat):Int)/\ps.length+1<40/\∃ E st' t' rs' as',zlL K CS HC HE sh dx p qs E st' t' rs' as' ps rows kn)->N3 [some (.ref a),some (.ref d),some (.ref t),x3,some (.ref r),some (.ref sh),some (.int (0+(i:Int))),some (.int kn),some fv,x9,x10,x11,x12,x13] HE:=by
   intro fv HE hfv;refine n3 _ _ ?_;refine #[λU' HF=>∃(t r:Addr) (asr qs:List Addr) (ps:List Nat) (rows:List (List Int)),U'=[some (.ref a),some (.ref d),some (.ref t),x3,some (.ref r),some (.ref sh),some (.int (0+(i:Int))),some (.int kn),some fv,x9,x10,x11,x12,x13]/\KNow K CS mp a HF d sh p t r qs asr ps rows/\zax ps/\ps.length<=39/\zby rows<=200+i,?_,?_]
   .intro N4 n4;rcases hfv with ⟨rfl,h40,sE⟩|⟨rfl,h40,E1,st',t',rs',as',X⟩
    .have NE:=NC.same sE;refine #[_,rfl,_,_,rfl,.inr (SqT.of NE.tree),?_];rw[el];refine #[rfl,_,rfl,?_];refine ite2 (λ_=>?_) λz=>?_
     .exact #[_,rfl,rfl,_,rfl,iteF (n4 _ _ #[t,r,asr,qs,ps,rows,rfl,NE,hT,hl,hkA])]
     .exact absurd (yah (congrArg V.int (show ((ps.length+1:Nat):Int)=40 by lia))) z
    .have kpE:KpV [d,sh,p,mp] HC HE:=λb o n e=>X.kd b o (λz=>n (by simp[z])) (λz=>n (by simp[z])) e;have tpE:=kpE.tp NC.now.apart.tup;have tE:=tpE _ _ NC.tree;have RE:=NC.rows.tp tpE;have NE:=NC.now.hang X;refine #[_,rfl,_,_,rfl,.inr (SqT.of tE),?_];rw[el];refine #[rfl,_,rfl,?_];refine ite2 (λz=>?_) λ_=>?_
     .have:=V.int.inj (yaH z);lia
     refine #[λU' H'=>U'=[some (.ref a),some (.ref d),some (.ref t),x3,some (.ref r),some (.ref sh),some (.int (0+(i:Int))),some (.int kn),some (.int ((ps.length+1:Nat):Int)),x9,x10,x11,x12,x13]/\HE=H',?_,?_]
     .intro N5 n5;refine #[_,rfl,_,_,_,_,rfl,.int _,zqI,_,rfl,iteF ?_];refine #[_,rfl,_,_,_,_,rfl,.int _,zqH,_,rfl,iteF ?_];refine #[_,rfl,_,rfl,_,_,rfl,.inr (SqT.of tE),?_];rw[el];exact #[rfl,_,rfl,zkv rfl (n5 _ _ .(L))]
     rintro _ _ ⟨rfl,rfl⟩;intro N5 n5;refine #[_,rfl,_,rfl,.(x),λu hu=>?_];have su:=zai hu (.tup [.int kn]);refine zet (su _ _ tE) zab nofun (by rw[el];show _+1<=sizeLine;have:100<=sizeLine:= .(k);lia) λt2 H2 s2 h2=>n5 _ _ ?_;refine #[_,rfl,.(F),λe1 he1=>#[.(x),λu2 hu2=>?_]];have s3:=zai he1 (.tup []);have s4:=zai hu2 (.tup [.ref e1]);have sE2:=su.trans s2;have s24:=s3.trans s4;have RE2:=RE.tp λb us e=>s24 _ _ (sE2 _ _ e);have eu2:e1≠u2:=λz=>by rw[z,zab]at hu2;cases hu2
     have ee:upd (upd H2 e1 (.tup [])) u2 (.tup [.ref e1]) e1=some (.tup []):=by rw[zag eu2,zab]
     have al:=RE.rows.length;refine zet RE2.at_ zab nofun (by rw[yab];show _+1<=sizeLine;have:100<=sizeLine:= .(k);lia) λr2 H5 s5 h5=>n4 _ _ ?_;have s25:=s24.trans s5;refine #[t2,r2,asr++[e1],qs++[E1],ps++[kn],rows++[[]],rfl,#[(NE.same sE2).same s25,?_,?_,?_],zi4 hT .(a),by rw[yan,yaU];lia,by rw[zjx];exact hkA]
     .have:=s25 _ _ h2;rw[this];congr 2;exact (znM (ns:=[kn])).symm
     .rw[h5];simp
     .exact (RE2.rows.ext s5).snoc (s5 _ _ ee)
   clear hT hl hkA el hfv hlen RC SC NC sC st1 t1 rs1 as1 hkn;rintro _ HF ⟨t,r,asr,qs,ps,rows,rfl,NF,hT,hl,hkA⟩;have el:=zao ps;intro N5 n5;obtain ⟨dx,st1,t1,rs1,as1,SF⟩:=NF.now.shelf;have hlen:=SF.stand.len;have RF:=SF.stand.R;refine #[_,rfl,_,rfl,t,r,ps,rows,asr,rfl,NF.tree,NF.rows.at_,NF.rows.rows,hlen,hT,RF,by lia,by lia,λpa qa HG hpa sG FG hqa=>n5 _ _ ?_];have NG:=NF.same sG;have GG:FA K (dl [d,sh,p,mp] HG) pa qa (ps.length+1) (zal ps rows):=ztW FG NG.now.apart.tup (NF.now.apart.fresh hpa) λq hq=>NF.now.apart.fresh (hqa q hq);refine #[λU' H'=>U'=[some (.ref a),some (.ref d),some (.ref t),x3,some (.ref r),some (.ref sh),some (.int (0+(i:Int))),some (.int kn),some fv,some (.ref pa),x10,x11,x12,x13]/\Same HG H',?_,?_]
   .intro N6 n6;obtain ⟨dx,st1,t1,rs1,as1,SG⟩:=NG.now.shelf;refine #[_,rfl,_,rfl,_,rfl,_,rfl,sh,dx,st1,p,t,r,pa,qs,qa,ps,rows,t1,rs1,as1,asr,rfl,SG,NG.tree,NG.rows,FG,λH8 s8=> .(z)];exact iteF (n6 _ _ #[rfl,s8])
   rintro _ HH ⟨rfl,sH⟩;have NH:=NG.same sH;have GH:=GG.ext (zfN (KpV.of sH)).ext;clear NF SF NG GG FG;intro N7 n7;refine #[_,rfl,_,rfl,_,rfl,d,a,t,r,ps,rows,asr,rfl,NH.tree,by lia,NH.rows,hlen,RF,λk=>yad (zk8 k) .(a),NH.now.lsH,λu k1 x HI hu hk1 hx huT kI sI=>?_];refine #[u,_,rfl,SqT.of huT,rfl,_,_,rfl,_,_,rfl,_,_,rfl,rfl,n7 _ _ ?_];have NI:=NH.take kI sI;have GI:=GH.ext (zfN (zn2 kI)).ext;clear NH GH;refine #[λU' H'=>∃(kn:Nat) (b:Bool),kn<ps.length+1/\b=(!decide (x∈zaq rows kn))/\U'=[some (.ref a),some (.ref d),some (.ref t),x3,some (.ref r),some (.ref sh),some (.int (0+(i:Int))),some (.int kn),some fv,some (.ref pa),some (.int x),some (.bl b),x12,x13]/\KNow K CS mp a H' d sh p t r qs asr ps rows/\FA K (dl [d,sh,p,mp] H') pa qa (ps.length+1) (zal ps rows),?_,?_]
   .intro N8 n8;refine #[_,rfl,d,a,2,rfl,by decide,NI.now.lsH,λv HJ v0 v1 kJ sJ=>#[rfl,_,rfl,?_]];have NJ:=NI.take kJ sJ;have GJ:=GI.ext (zfN (zn2 kJ)).ext;refine ite2 (λ_=>?_) λ_=>n8 _ _ #[k1,_,hk1,rfl,rfl,NJ,GJ];intro N9 n9;refine #[_,rfl,_,_,rfl,.inr (SqT.of NJ.tree),?_];rw[el];refine #[_,_,rfl,rfl,n9 _ _ ?_];have e1:((ps.length+1:Nat):Int)-1=(ps.length:Int):=by lia
    obtain ⟨a1,ha1,ha2⟩:=NJ.rows.get (k:=ps.length) .(a);have hfl:((zaq rows ps.length).map V.int).all zfl=true:=ybq.mpr λy hy=>by
     obtain ⟨z,_,rfl⟩:=yaE.mp hy;rfl
    refine #[_,rfl,_,rfl,_,rfl,_,_,_,_,rfl,rfl,SqT.of NJ.rows.at_,(by rw[e1];exact ha1),a1,_,rfl,.inr (SqT.of ha2),rfl,hfl,?_];rw[ziM];refine n8 _ _ #[ps.length,_,by lia,rfl,?_,NJ,GJ];show [some (V.ref a),some (.ref d),some (.ref t),x3,some (.ref r),some (.ref sh),some (.int (0+(i:Int))),some (.int (((ps.length+1:Nat):Int)-1)),some fv,some (.ref pa),some (.int x),some (.bl _),x12,x13]=_;rw[e1];rfl
   clear NI GI hk1 huT sI kI hu;rintro _ HJ ⟨kn,b,hkn,hb,rfl,NJ,GJ⟩;intro N8 n8;have hkr:kn<rows.length:=by lia
   have hkd:=zmm (x:=x) (b:=b) hkr;have R':zaD (zdG rows kn x b):=zin RF (zp9 (RF.at_up kn) hb) λy hy=>by
    rcases (zoq (RF.at_up kn) hb).mp hy with ⟨z,_⟩|⟨_,z⟩
    .rw[z];exact hx
    .exact RF.at_key kn y z
   refine #[_,rfl,_,rfl,_,rfl,_,rfl,r,kn,x,b,rows,asr,rfl,NJ.rows,hkr,by lia,RF,λk=>yad (zk8 k) .(a),hb,λr' as' HC hr' sC RC=>n8 _ _ ?_];intro N9 n9;have NC:=NJ.same sC;have GC:=GJ.ext (zfN (KpV.of sC)).ext;have hlen':(zdG rows kn x b).length=ps.length+1:=by rw[zor];exact hlen
   refine #[_,rfl,_,rfl,t,r',ps,zdG rows kn x b,as',rfl,NC.tree,RC.at_,RC.rows,hlen',hT,R',by lia,by lia,λpf qf HD hpf sD FD hqf=>n9 _ _ ?_];have ND:=NC.same sD;have RD:=RC.tp λb us e=>sD _ _ e;have GD:=GC.ext (zfN (KpV.of sD)).ext;have GF:FA K (dl [d,sh,p,mp] HD) pf qf (ps.length+1) (zal ps (zdG rows kn x b)):=ztW FD ND.now.apart.tup (NC.now.apart.fresh hpf) λq hq=>NC.now.apart.fresh (hqf q hq);clear NJ GJ NC GC RC;have hfz:∀ j,j<ps.length+1-> .(l).length<=400:=λj hj=>by
    have:=zdT hT hlen hj;lia
   have hfz':∀ j,j<ps.length+1->(zal ps (zdG rows kn x b) j).length<=400:=λj hj=>by
    have:=zdT hT hlen' hj;lia
   intro N10 n10;refine #[_,rfl,_,rfl,_,rfl,_,rfl,t,pa,pf,kn,qa,qf,ps,rows,zdG rows kn x b,[d,sh,p,mp],rfl,ND.now.apart,ND.tree,hT,RF,R',by lia,λj hj=>yad (hfz j hj) .(k),λj hj=>yad (hfz' j hj) .(k),hkn,GD.ext zfM.ext,FD,λDu m2 HE hDu sE hst2 hasDu=>n10 _ _ ?_];have NE:=ND.same sE;have RE:=RD.tp λb us e=>sE _ _ e;have GE:=GF.ext (zfN (KpV.of sE)).ext;clear ND RD GD GF FD;obtain ⟨dx,st1,t1,rs1,as1,SE⟩:=NE.now.shelf;have hok:=znJ (rows:=rows) (kn:=kn) (x:=x) hb .(a);refine #[λU' HF=>∃ D us m qs' st' rs' as'',U'=[some (.ref a),some (.ref d),some (.ref t),x3,some (.ref r'),some (.ref sh),some (.int (0+(i:Int))),some (.int kn),some fv,some (.ref pa),some (.int x),some (.bl b),some (.ref pf),some (.ref Du)]/\zd0 K CS mp HE HF sh dx p D us m qs qs' st' t1 rs' as'' ps rows (zdG rows kn x b) kn,?_,?_]
   .intro N11 n11;have cmp:∀{D us m qs' st' rs' as'' HF},zd0 K CS mp HE HF sh dx p D us m qs qs' st' t1 rs' as'' ps rows (zdG rows kn x b) kn->Rep.has K HF (zb2 ps rows (zdG rows kn x b) kn m) (.ref D)/\Rep.has K HF (zb2 ps rows (zdG rows kn x b) kn m) (.ref Du):=λ{D us m qs' st' rs' as'' HF} X=>by
     have kpF:KpV [d,sh,p,mp] HE HF:=X.kp .(h) .(h) .(h);have e:=ztN kpF hasDu;rw[zoX hst2 X.stops]at e;exact #[Rep.mono zfM.ext (X.data NE.now.apart),Rep.mono zfM.ext e]
    cases b with
    | true=>
     refine #[_,rfl,_,rfl,iteT ?_];refine #[_,rfl,sh,dx,_,rfl,SE.ins,rfl,_,rfl,_,rfl,sh,dx,st1,p,kn,x,qs,ps,rows,t1,rs1,as1,rfl,SE,hkn,hx,hok.1 rfl,NE.now.tab,λD us m qs' st' rs' as' H' h1 h2 h3 h4 h5 h6 h7 h8=>?_];have X:zd0 K CS mp HE H' sh dx p D us m qs qs' st' t1 rs' as' ps rows (zdG rows kn x true) kn:=#[h1,h2,h3,h4,h5,h6,h7,h8];obtain ⟨c1,c2⟩:=cmp X;exact #[_,rfl,_,_,c1,c2,_,rfl,zkv rfl #[_,rfl,_,rfl,iteF (iteF (n11 _ _ #[D,us,m,qs',st',rs',as',rfl,X]))]]
    | false=>
     refine #[_,rfl,_,rfl,iteF ?_];refine iteF #[_,rfl,_,rfl,iteT ?_];refine #[_,rfl,sh,dx,_,rfl,SE.ins,rfl,_,rfl,_,rfl,sh,dx,st1,p,kn,x,qs,ps,rows,t1,rs1,as1,rfl,SE,hkn,hx,hok.2 rfl,NE.now.tab,λD us m qs' st' rs' as' H' h1 h2 h3 h4 h5 h6 h7 h8=>?_];have X:zd0 K CS mp HE H' sh dx p D us m qs qs' st' t1 rs' as' ps rows (zdG rows kn x false) kn:=#[h1,h2,h3,h4,h5,h6,h7,h8];obtain ⟨c1,c2⟩:=cmp X;exact #[_,rfl,_,_,c1,c2,_,rfl,zkv rfl (n11 _ _ #[D,us,m,qs',st',rs',as',rfl,X])]
   rintro _ HF ⟨D,us,m,qs',st',rs',as'',rfl,X⟩;have kpF:KpV [d,sh,p,mp] HE HF:=X.kp .(h) .(h) .(h);have tpF:=kpF.tp NE.now.apart.tup;have NF:=NE.now.deed X;have RF:=RE.tp tpF;have GF:=GE.ext (zfN kpF).ext;have tF:=tpF _ _ NE.tree;obtain ⟨dx2,st2,t2,rs2,as2,S2⟩:=NF.shelf;refine #[_,rfl,_,rfl,_,rfl,_,rfl,sh,dx2,st2,p,t,r',pf,qs',qf,ps,zdG rows kn x b,t2,rs2,as2,as',rfl,S2,tF,RF,GF.ext zfM.ext,λHG sG=> .(z)];exact iteF (hN _ _ #[t,r',as',qs',ps,zdG rows kn x b,_,_,_,_,_,_,_,_,rfl,#[NF.same sG,sG _ _ tF,RF.tp λb us e=>sG _ _ e],hT,hl,by lia])
  refine #[_,rfl,_,rfl,?_];by_cases h40:ps.length+1<40
  .exact #[sh,dx,st1,p,.int kn,qs,ps,rows,t1,rs1,as1,rfl,SC,.inr #[kn,rfl,hkn,h40,λE1 st' t' rs' as' HE X=>join _ _ (.inr #[rfl,h40,E1,st',t',rs',as',X])]]
  .exact #[sh,dx,st1,p,.int kn,qs,ps,rows,t1,rs1,as1,rfl,SC,.inl #[true,.inr #[rfl,kn,rfl,hkn,by lia],λHE sE=>join _ _ (.inl #[rfl,by lia,sE])]]
 .rintro U HA ⟨t,r,asr,qs,ps,rows,x6,x7,x8,x9,x10,x11,x12,x13,rfl,_⟩;exact n5 _ _ (q _)
abbrev lawRoom:Nat:=11
def all_ok (T:Txt K mg){qac qai qao qae qap qaf qab qaa qaq qag qar qaj qaw:Addr}(CL:Cls K mg qac qai qao qae qap qaf qab qaa qaq qag qar qaj qaw)(O:OwnC K mg CS){mc mp:Addr}(hBM:BMAt mg base)(qbu:DF K mg "is_whole" zeb zb5)(qc4:DF K mg "is_key" zgp zdK)(qbw:DF K mg "need_key" zd6 zdj)(qel:DF K mg "code" zk6 zit)(qaI:DF K mg "how_many_below" zbD zbq)(qc8:DFT K mg "place" zfB ze1 mc mp)(qbe:DF K mg "joined_up" zdd zcf)(qaM:DF K mg "lowest_unlike" zbL zbG)(qcY:DF K mg "turned" zgg zeZ)(qcZ:DF K mg "labels" zgi ze2)(qa4:DF K mg "neighbours" zcQ zbO)(qa5:DF K mg "least_free" zcR zcp)(qcm:DF K mg "colours" zeV zek)(qdz:DF K mg "marks" zik zgt)(qc1:DF K mg "handed" zgq zdL)(qan:DF K mg "is_one_of_first" za6 zaH)(qcp:DF K mg "tree_of" zeQ zef)(qaF:DF K mg "need_knot" zcC zaY)(qbt:DF K mg "children" zec zdo)(qco:DF K mg "beneath" zeW zel)(qc6:DF K mg "row_of" zgh ze0)(qaN:DF K mg "long_together" zbM zbh)(qbv:DF K mg "stand_of" zd5 zdi)(qbx:DF K mg "with_row" zd4 zcE)(qaV:DF K mg "own_entries" zcn zb9)(qay:DF K mg "full_rows_beneath" zbb za5)(qbg:DF K mg "full_rows" zde zcW)(qcr:DF K mg "without" zeP zee)(qck:DF K mg "_law_begin" zeU zej)(qcj:DF K mg "_law_mixed" zeR zeg)(qcX:DF K mg "_law_take" zgk zbP)(qdy:DF K mg "_law_key" zim ze6)(qc2:DF K mg "_law_tree" zgj ze3)(qdB:DF K mg "_law_row" zil zgu)(qc5:DF K mg "_law_rows" zgm ze5)(qc0:DF K mg "_law_code" zgo ze8)(qbs:DF K mg "_law_turned" zd7 zdk)(qbd:DF K mg "_law_colours" zdc zcV)(qcn:DF K mg "_law_marks" zeS zeh)(qcq:DF K mg "_law_fulls" zeT zei)(qbA:DF K mg "_law_differ" zd9 zdm)(qa8:DF K mg "_law_told_due" zcS zcq)(qc9:DF K mg "_law_step" zgl ze4)(qbz:DF K mg "_law_behind" zea zdn)(qda:DF K mg "_law_hung" zgn ze7)(qbB:DF K mg "_law_stands" zd8 zdl)(qe6:DF K mg "law" zo8 zle)(qaG:DI K CS "Shelf.__init__" zbF zbs)(qaP:DM K CS "row_for" "Shelf.row_for" zbN zbi)(qaH:DM K CS "carry_up" "Shelf.carry_up" zbE za7)(qbi:DM K CS "put" "Shelf.put" zdf zcX)(qbj:DM K CS "out" "Shelf.out" zdg zcY)(qaC:DM K CS "hang" "Shelf.hang" zce zbr)(qaW:DM K CS "stand" "Shelf.stand" zco zca)(qa7:DM K CS "full" "Shelf.full" zcT zcr):FC P w K mg base 11 "law" zle (zhs K mp):=
 have m:=zpv (P:=P) (w:=w) (base:=base) T qcj;have t:=zrI T qcX m;have c:=zrP (P:=P) (w:=w) (base:=base) T qel;have nb:=ziz (P:=P) (w:=w) (base:=base) T qa4;have mk:=zpw T qdz (znD T qcZ c (znx T qcY (ztm T qaM))) (zl6 T qcm nb (ziA T qa5)) nb;have hd:=znF T qc1 mk;have ch:=zkk (P:=P) (w:=w) (base:=base) T qbt;have jo:=znE (P:=P) (w:=w) (base:=base) T qbe;have fr:=ztq T qay (zl7 T qco) ch hd (ztk T qaV) jo;have wh:=zpq (P:=P) (w:=w) (base:=base) T qbu;have lg:=zrL (P:=P) (w:=w) (base:=base) T qaN;have ik:=zpC T qc4 wh;have so:=zl4 T qbv (zps T qc6 ik) lg;have fi:=zpG T qan wh;have ky:=zto T qdy t;have kn:=zpB T qaF fi;have rf:=znA T O qaP kn (zpu T qbw ik);have pl:=zpt (P:=P) (w:=w) (base:=base) T qc8 hBM (λb=>ztp (base:=b) T qaI);have wr:=zrH (P:=P) (w:=w) (base:=base) T qbx;have cu:=zpH T O qaH hd jo (zl3 T qcr);have pu:=ztj T O qbi rf lg pl wr cu;have ou:=ztl T O qbj rf pl wr cu;have lm:=znB T qcn (zpz T qc0) (zl5 T qbs) (zkj T qbd);have di:=znH (P:=P) (w:=w) (base:=base) T qbA;have kb:=kn.fx.or (zpA T CL qaF (znG T qan wh));have hb:=(zrO T O qaC kn).fx.or (zpD T CL O qaC kb)
 ztn T O qe6 (zpI T qck) t (zpx T qc2 t) (zpy T qc5 t (zrK T qdB t ky)) (zny T qcp fi) so (zrM T O qaG (zpE T qbg fr)) (zrN T CL O qda hb) (znC T qcq lm) (znz T O qbB (zpF T O qa7 kn) (zpr O qaW)) (zrJ T qc9 t ky) (znI T qbz) (ztr T qa8 di) pu ou
end
def u1 {P:List Value->Prop}(h:∀ a,P [a])(us:List Value)(hl:us.length=1):P us:=by
 rcases us with _|⟨a,_|⟨z,us⟩⟩
 .cases hl
 .exact h a
 .exact absurd hl .(h)
def u2 {P:List Value->Prop}(h:∀ a b,P [a,b])(us:List Value)(hl:us.length=2):P us:=by
 rcases us with _|⟨a,_|⟨b,_|⟨z,us⟩⟩⟩
 .cases hl
 .cases hl
 .exact h a b
 .exact absurd hl .(h)
def u3 {P:List Value->Prop}(h:∀ a b c,P [a,b,c])(us:List Value)(hl:us.length=3):P us:=by
 rcases us with _|⟨a,_|⟨b,_|⟨c,_|⟨z,us⟩⟩⟩⟩
 .cases hl
 .cases hl
 .cases hl
 .exact h a b c
 .exact absurd hl .(h)
def u4 {P:List Value->Prop}(h:∀ a b c d,P [a,b,c,d])(us:List Value)(hl:us.length=4):P us:=by
 rcases us with _|⟨a,_|⟨b,_|⟨c,_|⟨d,_|⟨z,us⟩⟩⟩⟩⟩
 .cases hl
 .cases hl
 .cases hl
 .cases hl
 .exact h a b c d
 .exact absurd hl .(h)
structure AD (K:Frag)(x:Str)(st:Stmt):Prop where
 ex:∃(f:Addr) (oc:Value) (od:Option Addr) (kV dc pm:Value) (an:Option Addr) (cd ct:Value) (sl:Array (Option Value)),nsIn K mainGlobals x=some (some (.ref f))/\K.lookup f=some #[oc,od,.func (fnOf x x (zbX st) (za3 st) (zaj st) .none kV dc pm an cd ct),sl]/\codeIn K cd x=true/\keepIn K (.ref f)=true
def AD.of {K:Frag}{x:Str}{st:Stmt}{f:Addr}{oc:Value}{od:Option Addr}{kV dc pm:Value}{an:Option Addr}{cd ct:Value}{sl:Array (Option Value)}(a:nsIn K mainGlobals x=some (some (.ref f)))(l:K.lookup f=some #[oc,od,.func (fnOf x x (zbX st) (za3 st) (zaj st) .none kV dc pm an cd ct),sl])(c:codeIn K cd x=true)(k:keepIn K (.ref f)=true):AD K x st:=#[f,oc,od,kV,dc,pm,an,cd,ct,sl,a,l,c,k]
def AD.df {K:Frag}{h:Heap}{mg:Str->Option Value}{x:Str}{st:Stmt}{ps:List Str}(a:AD K x st)(X:K.In h)(G:h.Ns mainGlobals mg)
  (hb:∀(kV doc pm:Value) (an:Option Addr) (cdv ct:Value) (us:List Value),us.length=ps.length->bindArgs (fnOf x x (zbX st) (za3 st) (zaj st) .none kV doc pm an cdv ct) #[us,[]]=pure (ps.zip us):=by
   first|exact λ_ _ _ _ _ _=>u1 λ_=>rfl|exact λ_ _ _ _ _ _=>u2 λ_ _=>rfl|exact λ_ _ _ _ _ _=>u3 λ_ _ _=>rfl|exact λ_ _ _ _ _ _=>u4 λ_ _ _ _=>rfl|exact λ_ _ _ _ _ _=>u5 λ_ _ _ _ _=>rfl|exact λ_ _ _ _ _ _=>u6 λ_ _ _ _ _ _=>rfl):DF K mg x st ps:=by
 obtain ⟨f,oc,od,kV,dc,pm,an,cd,ct,sl,a,l,c,k⟩:=a.ex;exact #[_,_,zgX l c k,(zgX l c k).binds hb,mg_of X G a]
def AD.dft {K:Frag}{h:Heap}{mg:Str->Option Value}{x:Str}{st:Stmt}{ps:List Str}{mc mp:Addr}(a:AD K x st)(X:K.In h)(G:h.Ns mainGlobals mg)(t:tabIn K x=some (mc,mp))(hh:codeHdIn K mc mp=true)
  (hb:∀(kV doc pm:Value) (an:Option Addr) (cdv ct:Value) (us:List Value),us.length=ps.length->bindArgs (fnOf x x (zbX st) (za3 st) (zaj st) .none kV doc pm an cdv ct) #[us,[]]=pure (ps.zip us):=by
   first|exact λ_ _ _ _ _ _=>u1 λ_=>rfl|exact λ_ _ _ _ _ _=>u2 λ_ _=>rfl|exact λ_ _ _ _ _ _=>u3 λ_ _ _=>rfl|exact λ_ _ _ _ _ _=>u4 λ_ _ _ _=>rfl|exact λ_ _ _ _ _ _=>u5 λ_ _ _ _ _=>rfl|exact λ_ _ _ _ _ _=>u6 λ_ _ _ _ _ _=>rfl):DFT K mg x st ps mc mp:=by
 obtain ⟨f,oc,od,kV,dc,pm,an,cd,ct,sl,a,l,c,k⟩:=a.ex;have e:cd=.ref mc:=L2.zoY a l t;subst e;exact #[#[_,_,_,_,_,_,_,_,_,l,c,k,mg_of X G a,(zgX l c k).binds hb],hh]
structure AM (K:Frag)(C:Addr)(m q:Str)(st:Stmt):Prop where
 ex:∃(f:Addr) (oc:Value) (od:Option Addr) (kV dc pm:Value) (an:Option Addr) (cd ct:Value) (sl:Array (Option Value)),findIn K (.ref C) m=some (some (.ref f))/\PySem.W.isFn K (.ref f)=true/\K.lookup f=some #[oc,od,.func (fnOf m q (zbX st) (za3 st) (zaj st) .none kV dc pm an cd ct),sl]/\codeIn K cd q=true/\keepIn K (.ref f)=true
def AM.of {K:Frag}{C:Addr}{m q:Str}{st:Stmt}{f:Addr}{oc:Value}{od:Option Addr}{kV dc pm:Value}{an:Option Addr}{cd ct:Value}{sl:Array (Option Value)}(a:findIn K (.ref C) m=some (some (.ref f)))(i:PySem.W.isFn K (.ref f)=true)(l:K.lookup f=some #[oc,od,.func (fnOf m q (zbX st) (za3 st) (zaj st) .none kV dc pm an cd ct),sl])(c:codeIn K cd q=true)(k:keepIn K (.ref f)=true):AM K C m q st:=#[f,oc,od,kV,dc,pm,an,cd,ct,sl,a,i,l,c,k]
def AM.dm {K:Frag}{st:Stmt}{ps:List Str}(a:AM K C m q st)
  (hb:∀(kV doc pm:Value) (an:Option Addr) (cdv ct:Value) (us:List Value),us.length=ps.length->bindArgs (fnOf m q (zbX st) (za3 st) (zaj st) .none kV doc pm an cdv ct) #[us,[]]=pure (ps.zip us):=by
   first|exact λ_ _ _ _ _ _=>u1 λ_=>rfl|exact λ_ _ _ _ _ _=>u2 λ_ _=>rfl|exact λ_ _ _ _ _ _=>u3 λ_ _ _=>rfl|exact λ_ _ _ _ _ _=>u4 λ_ _ _ _=>rfl|exact λ_ _ _ _ _ _=>u5 λ_ _ _ _ _=>rfl|exact λ_ _ _ _ _ _=>u6 λ_ _ _ _ _ _=>rfl):DM K C m q st ps:=by
 obtain ⟨f,oc,od,kV,dc,pm,an,cd,ct,sl,a,i,l,c,k⟩:=a.ex;exact #[_,_,zgX l c k,(zgX l c k).binds hb,#[a,i,k]]
def AM.di {K:Frag}{q:Str}{st:Stmt}{ps:List Str}(a:AM K C "__init__" q st)(mk:PySem.W.makesIn K C=true)(kc:keepIn K (.ref C)=true)
  (hb:∀(kV doc pm:Value) (an:Option Addr) (cdv ct:Value) (us:List Value),us.length=ps.length->bindArgs (fnOf "__init__" q (zbX st) (za3 st) (zaj st) .none kV doc pm an cdv ct) #[us,[]]=pure (ps.zip us):=by
   first|exact λ_ _ _ _ _ _=>u1 λ_=>rfl|exact λ_ _ _ _ _ _=>u2 λ_ _=>rfl|exact λ_ _ _ _ _ _=>u3 λ_ _ _=>rfl|exact λ_ _ _ _ _ _=>u4 λ_ _ _ _=>rfl|exact λ_ _ _ _ _ _=>u5 λ_ _ _ _ _=>rfl|exact λ_ _ _ _ _ _=>u6 λ_ _ _ _ _ _=>rfl):DI K C q st ps:=by
 obtain ⟨f,oc,od,kV,dc,pm,an,cd,ct,sl,a,i,l,c,k⟩:=a.ex;exact #[_,_,zgX l c k,(zgX l c k).binds hb,#[mk,a,i,kc]]
def zt3 {l:OpenLaw}{K:Frag}{h:Heap}{mg:Str->Option Value}{fa mc6 mp6 qac qai qao qae qap qaf qab qaa qaq qag qar qaj qaw CS:Addr}(X:K.In h)(G:h.Ns mainGlobals mg)(hfa:mg "law" = some (.ref fa)){t_KNOT_NUMBERS:Tok}{t_TURNS:Tok}{t_MOST_KNOTS:Tok}{t_MOST_KEYS:Tok}(a1:AD K "is_whole" zeb)(a2:AD K "is_key" zgp)(a3:AD K "need_key" zd6)(a4:AD K "code" zk6)(a5:AD K "how_many_below" zbD)(a6:AD K "place" zfB)(a7:AD K "joined_up" zdd)(a8:AD K "lowest_unlike" zbL)(a9:AD K "turned" zgg)(a10:AD K "labels" zgi)(a11:AD K "neighbours" zcQ)(a12:AD K "least_free" zcR)(a13:AD K "colours" zeV)(a14:AD K "marks" zik)(a15:AD K "handed" zgq)(a16:AD K "is_one_of_first" za6)(a17:AD K "tree_of" zeQ)(a18:AD K "need_knot" zcC)(a19:AD K "children" zec)(a20:AD K "beneath" zeW)(a21:AD K "row_of" zgh)(a22:AD K "long_together" zbM)(a23:AD K "stand_of" zd5)(a24:AD K "with_row" zd4)(a25:AD K "own_entries" zcn)(a26:AD K "full_rows_beneath" zbb)(a27:AD K "full_rows" zde)(a28:AD K "without" zeP)(a29:AD K "_law_begin" zeU)(a30:AD K "_law_mixed" zeR)(a31:AD K "_law_take" zgk)(a32:AD K "_law_key" zim)(a33:AD K "_law_tree" zgj)(a34:AD K "_law_row" zil)(a35:AD K "_law_rows" zgm)(a36:AD K "_law_code" zgo)(a37:AD K "_law_turned" zd7)(a38:AD K "_law_colours" zdc)(a39:AD K "_law_marks" zeS)(a40:AD K "_law_fulls" zeT)(a41:AD K "_law_differ" zd9)(a42:AD K "_law_told_due" zcS)(a43:AD K "_law_step" zgl)(a44:AD K "_law_behind" zea)(a45:AD K "_law_hung" zgn)(a46:AD K "_law_stands" zd8)(a47:AD K "law" zo8)(t6:tabIn K "place" = some (mc6,mp6))(h6:codeHdIn K mc6 mp6=true)(o_C:nsIn K mainGlobals "Shelf" = some (some (.ref CS)))(o_g:PySem.W.plainGet K CS Str.empty=true)(o_h:PySem.W.hasDictIn K CS=true)(o_p:PySem.W.plainOver K CS=true)(o_s:findIn K (.ref CS) "__setattr__" = some (some (.builtin "object.__setattr__")))(o_m:PySem.W.makesIn K CS=true)(o_k:keepIn K (.ref CS)=true)(qe8:findIn K (.ref CS) "kept" = some none)(qeR:findIn K (.ref CS) "fulls" = some none)(qbU:AM K CS "__init__" "Shelf.__init__" zbF)(qct:AM K CS "row_for" "Shelf.row_for" zbN)(qbV:AM K CS "carry_up" "Shelf.carry_up" zbE)(qdH:AM K CS "put" "Shelf.put" zdf)(qdI:AM K CS "out" "Shelf.out" zdg)(qdl:AM K CS "hang" "Shelf.hang" zce)(qdc:AM K CS "stand" "Shelf.stand" zco)(qdm:AM K CS "full" "Shelf.full" zcT)(qdd:nsIn K mainGlobals "BridgeError" = some (some (.ref qac)))(qeS:nsIn K mainGlobals "NoTree" = some (some (.ref qai)))(qe9:nsIn K mainGlobals "NoWay" = some (some (.ref qao)))(qer:nsIn K mainGlobals "NoStand" = some (some (.ref qae)))(qfa:nsIn K mainGlobals "Twice" = some (some (.ref qap)))(qes:nsIn K mainGlobals "Missing" = some (some (.ref qaf)))(qdO:nsIn K mainGlobals "NoRoom" = some (some .(v)))(qdP:nsIn K mainGlobals "NoKnot" = some (some .(w)))(qfb:nsIn K mainGlobals "NoKey" = some (some (.ref qaq)))(qet:nsIn K mainGlobals "NoOrder" = some (some (.ref qag)))(qfc:nsIn K mainGlobals "NoRow" = some (some (.ref qar)))(qeT:nsIn K mainGlobals "NoText" = some (some (.ref qaj)))(qfd:nsIn K mainGlobals "Shelf" = some (some (.ref qaw)))(qeu:PySem.W.excIn K qaa zq6 "ValueError.__new__" = true)(qdY:findIn K .(w) "__getattribute__" = some (some (.builtin "BaseException.__getattribute__")))(qdZ:findIn K .(w) "__getattr__" = some none)(qd0:findIn K .(w) "__class__" = some (some .(P)))(qd1:mroIn K qaa (.type "object")=some true)(qd2:mroIn K qaa (.type "BaseException")=some true)(qd3:(PySem.W.clsIn K qaa).isSome=true)(qd4:mroIn K qaa (.ref qac)=some true)(qd5:kitOne K .(w) (.type "ValueError")=some true)(qa9:kitOne K .(w) (.ref qac)=some true)(qbW:kitOne K .(w) (.ref qai)=some false)(qcu:kitOne K .(w) (.ref qao)=some false)(qbC:kitOne K .(w) (.ref qae)=some false)(qcv:kitOne K .(w) (.ref qap)=some false)(qbD:kitOne K .(w) (.ref qaf)=some false)(qbX:kitOne K .(w) .(v)=some false)(qbY:kitOne K .(w) .(w)=some true)(qcw:kitOne K .(w) (.ref qaq)=some false)(qbE:kitOne K .(w) (.ref qag)=some false)(qcx:kitOne K .(w) (.ref qar)=some false)(qbZ:kitOne K .(w) (.ref qaj)=some false)(qcy:kitOne K .(w) (.ref qaw)=some false)(qev:PySem.W.excIn K qab zq6 "ValueError.__new__" = true)(qd6:findIn K .(v) "__getattribute__" = some (some (.builtin "BaseException.__getattribute__")))(qd7:findIn K .(v) "__getattr__" = some none)(qd8:findIn K .(v) "__class__" = some (some .(P)))(qd9:mroIn K qab (.type "object")=some true)(qea:mroIn K qab (.type "BaseException")=some true)(qeb:(PySem.W.clsIn K qab).isSome=true)(qec:mroIn K qab (.ref qac)=some true)(qed:kitOne K .(v) (.type "ValueError")=some true)(qba:kitOne K .(v) (.ref qac)=some true)(qb0:kitOne K .(v) (.ref qai)=some false)(qcz:kitOne K .(v) (.ref qao)=some false)(qbF:kitOne K .(v) (.ref qae)=some false)(qcA:kitOne K .(v) (.ref qap)=some false)(qbG:kitOne K .(v) (.ref qaf)=some false)(qb1:kitOne K .(v) .(v)=some true)(qb2:kitOne K .(v) .(w)=some false)(qcB:kitOne K .(v) (.ref qaq)=some false)(qbH:kitOne K .(v) (.ref qag)=some false)(qcC:kitOne K .(v) (.ref qar)=some false)(qb3:kitOne K .(v) (.ref qaj)=some false)(qcD:kitOne K .(v) (.ref qaw)=some false)(ug1:PySem.W.specialIn K .(P) "__get__" = some (some (.builtin "getset_descriptor.__get__")))(ug2:PySem.W.takesIn K .(P)=some true)(ub1:(PySem.W.clsIn K qac).isSome=true)(ub2:PySem.W.typeIn K (.ref qac)=some (.type "type"))(ub3:mroIn K qac (.type "BaseException")=some true)(qdn:nsIn K mainGlobals "ValueError" = some none)(qfp:nsIn K mainGlobals "abs" = some none)(qfj:nsIn K mainGlobals "bool" = some none)(qdJ:nsIn K mainGlobals "enumerate" = some none)(qfq:nsIn K mainGlobals "int" = some none)(qdo:nsIn K mainGlobals "isinstance" = some none)(qfr:nsIn K mainGlobals "len" = some none)(qfk:nsIn K mainGlobals "list" = some none)(qfs:nsIn K mainGlobals "max" = some none)(qft:nsIn K mainGlobals "min" = some none)(qfe:nsIn K mainGlobals "range" = some none)(qee:nsIn K mainGlobals "reversed" = some none)(qfu:nsIn K mainGlobals "set" = some none)(qeU:nsIn K mainGlobals "sorted" = some none)(qfv:nsIn K mainGlobals "sum" = some none)(qff:nsIn K mainGlobals "tuple" = some none)(qfw:nsIn K mainGlobals "zip" = some none)(qcP:nsIn K mainGlobals "KNOT_NUMBERS" = some (some (.int 64 t_KNOT_NUMBERS)))(qfg:nsIn K mainGlobals "TURNS" = some (some (.int 5 t_TURNS)))(qdp:nsIn K mainGlobals "MOST_KNOTS" = some (some (.int 40 t_MOST_KNOTS)))(qdK:nsIn K mainGlobals "MOST_KEYS" = some (some (.int 300 t_MOST_KEYS))) :
  ∃ fd:FuncData,(∀(s:Shared) (v:Value),BindsTo s fd #[[v],[]] [("_law_script",v)])/\∀ base:Heap,K.In base->base.Ns mainGlobals mg->L2.BMAt mg base->FnOk l.prog w K mg base CX0 lawRoom fa fd ["_law_script"] (zhs K mp6):=by
 obtain ⟨f,oc,od,kV,dc,pm,an,cd,ct,sl,a,l,c,k⟩:=a47.ex;have e:=hfa.symm.trans (mg_of X G a);cases e
 have T:Txt K mg:=#[mg_none_of X G qdn,mg_none_of X G qfp,mg_none_of X G qfj,mg_none_of X G qdJ,mg_none_of X G qfq,mg_none_of X G qdo,mg_none_of X G qfr,mg_none_of X G qfk,mg_none_of X G qfs,mg_none_of X G qft,mg_none_of X G qfe,mg_none_of X G qee,mg_none_of X G qfu,mg_none_of X G qeU,mg_none_of X G qfv,mg_none_of X G qff,mg_none_of X G qfw,#[_,mg_of X G qcP],#[_,mg_of X G qfg],#[_,mg_of X G qdp],#[_,mg_of X G qdK]];have CL:Cls K mg qac qai qao qae qap qaf qab qaa qaq qag qar qaj qaw:=#[mg_of X G qdd,mg_of X G qeS,mg_of X G qe9,mg_of X G qer,mg_of X G qfa,mg_of X G qes,mg_of X G qdO,mg_of X G qdP,mg_of X G qfb,mg_of X G qet,mg_of X G qfc,mg_of X G qeT,mg_of X G qfd,#[mg_of X G qdP,qeu],#[qdY,qdZ,qd0,ug1,ug2,qd1,qd2,qd3],#[qd4,ub1,ub2,ub3],qd5,qa9,qbW,qcu,qbC,qcv,qbD,qbX,qbY,qcw,qbE,qcx,qbZ,qcy,#[mg_of X G qdO,qev],#[qd6,qd7,qd8,ug1,ug2,qd9,qea,qeb],#[qec,ub1,ub2,ub3],qed,qba,qb0,qcz,qbF,qcA,qbG,qb1,qb2,qcB,qbH,qcC,qb3,qcD];have O:OwnC K mg CS:=#[#[o_g,o_h,o_p,o_s],mg_of X G o_C,qe8,qeR];exact #[_,λs v=>.of_eq rfl,λbase _ _ hBM=>(all_ok (P:=_) (w:=w) (base:=base) T CL O hBM (a1.df X G) (a2.df X G) (a3.df X G) (a4.df X G) (a5.df X G) (a6.dft X G t6 h6) (a7.df X G) (a8.df X G) (a9.df X G) (a10.df X G) (a11.df X G) (a12.df X G) (a13.df X G) (a14.df X G) (a15.df X G) (a16.df X G) (a17.df X G) (a18.df X G) (a19.df X G) (a20.df X G) (a21.df X G) (a22.df X G) (a23.df X G) (a24.df X G) (a25.df X G) (a26.df X G) (a27.df X G) (a28.df X G) (a29.df X G) (a30.df X G) (a31.df X G) (a32.df X G) (a33.df X G) (a34.df X G) (a35.df X G) (a36.df X G) (a37.df X G) (a38.df X G) (a39.df X G) (a40.df X G) (a41.df X G) (a42.df X G) (a43.df X G) (a44.df X G) (a45.df X G) (a46.df X G) (a47.df X G) (qbU.di o_m o_k) (qct.dm) (qbV.dm) (qdH.dm) (qdI.dm) (qdl.dm) (qdc.dm) (qdm.dm)).at (mg_of X G a) l]
def walk {l:OpenLaw}{q:Program}{loose:List Str}{XP:(Str->Option Value)->Heap->Prop}{YP:World->Heap->Prop}{d:DefRec}{K:Params->Frag}{mc mp:Addr}(hn:l.most=some 63)(hdf:d.params.defaults=[])
  (hY:∀(w:World) (h:Heap),YP w h->(K w.params).In h) (hYT:∀(w:World) (h:Heap),YP w h->h.get? mp=some (PySem.W.tabObj (List.toArray []))) (hC:∀(w:World),codeHdIn (K w.params) mc mp=true) (hC2:∀(w:World),(K w.params).lookup mp=none)
  (F:∀(w:World) (mg:Str->Option Value) (fa:Addr) (h:Heap),(K w.params).In h->h.Ns mainGlobals mg->mg d.name=some (.ref fa)->
   ∃ fd:FuncData,(∀(s:Shared) (u:Value),BindsTo s fd #[[u],[]] [("_law_script",u)])/\∀ base:Heap,(K w.params).In base->base.Ns mainGlobals mg->L2.BMAt mg base->FnOk l.prog w (K w.params) mg base CX0 lawRoom fa fd ["_law_script"] (zhs (K w.params) mp)) :
  PySem.W.WalkO q loose XP YP l.row.toRowW d [] (λf vs=>PySem.call f vs):=
 L2.zoR (n:=63) (k:=lawRoom) (x := "_law_script") (tabs:=[(mc,mp)]) (sp:=λw=>zhs (K w.params) mp) hn .(k) hdf #[rfl,by decide,by decide,rfl] hY (λw h Y q hq=>by rw[yao.mp hq];exact hYT w h Y) (λw q hq=>by rw[yao.mp hq];exact #[hC w,hC2 w]) F (λ_ _ a ns hl hT hS=>#[a,ns,rfl,hS,hl,hT (mc,mp) (yao.mpr rfl),λ_=>rfl])
end My
open PySem PySem.W PyProof.Rows
end
namespace PySem.W.Fast
def tw13481737133069025352:=0
def tw1983525054860658416:=0
def tw10415166640533264356:=0
def tw2464249792384043235:=0
def tw12952679629473755541:=0
def tw5591361501222851993:=0
def tw15075711967395883806:=0
def tw16742070816117841387:=0
def tw7234277216330856372:=0
def tw2968616375971933097:=0
def tw9191448046893325601:=0
def tw10628293225916354757:=0
def tw15061550467567202709:=0
def tw2680426381022741680:=0
def tw13750731714109730612:=0
def tw16066905386380038724:=0
def tw11585711256699363267:=0
def tw10850190722022629513:=0
def tw18359401621165862300:=0
def tw2022230683524777549:=0
def tw7504218754003288896:=0
def tw12738525379004586352:=0
def tw9933868536259388470:=0
def tw14832194454406805765:=0
def tw15228472673979321127:=0
def tw1911177401576912265:=0
def tw14137017305292977093:=0
def tw11474945653166446288:=0
def tw16319125693006132192:=0
def tw1615555140754312452:=0
def tw6092227664588399551:=0
def tw7630158080258081510:=0
def tw6090272791607278247:=0
def tw2335155644136742897:=0
def tw3538013525161173487:=0
def tw2143909279067400181:=0
def tw314817822632815842:=0
def tw4153230769763278169:=0
def tw12299191737851573346:=0
def tw4873435027096533361:=0
def tw8733172062390238764:=0
def tw15576118911177958890:=0
def tw987303796094924569:=0
def tw11115483820919637418:=0
def tw4342056685284460538:=0
def tw12567612200573441446:=0
def tw5410058476050459210:=0
def tw6218486597482743311:=0
def tw15428865084273483821:=0
def tw12285806698583012648:=0
def tw8879965487053884397:=0
def tw4348969364309436189:=0
def tw5813812148426311690:=0
def tw260038517875944311:=0
def tw16495641600929364568:=0
def tw18331308314385930398:=0
def tw15612455016840896910:=0
def tw955811439152847678:=0
def tw17761315987648044958:=0
def tw18139353303501940733:=0
def tw4820768771162172526:=0
def tw8415759774769278191:=0
def tw8748465971650426568:=0
def tw4061485369592973782:=0
def tw12822443157255413697:=0
def tw710640953068071877:=0
def tw12504897038615308416:=0
def tw13954755276399451341:=0
def tw17020347985912902538:=0
def tw12188071682851677864:=0
def tw17091319883315446958:=0
def tw12521628875260249127:=0
def tw4480999660257483022:=0
def tw16346480229384876832:=0
def tw7515559989188828698:=0
def tw6066871540923161545:=0
def tw6722019839885723344:=0
def tw1125627211148745170:=0
def tw5617899081191618732:=0
def tw6389718203329917711:=0
def tw8611848473928439420:=0
def tw6939732554126414041:=0
def tw8115720795219114265:=0
def tw971599188669252856:=0
def tw6456512597670762974:=0
def tw10140841799613172727:=0
def tw7035788894670348614:=0
def tw2618877342315542659:=0
def tw4082778759043590299:=0
def tw15394863498435431633:=0
def tw12784349781677332775:=0
def tw5975041496644979831:=0
def tw9841128681441874201:=0
def tw10031266903610151403:=0
def tw3831057790119942230:=0
def tw8126876650523490811:=0
def tw10789598381687827077:=0
def tw10154501781453192992:=0
def tw5799325225857743161:=0
def tw13565384907500746500:=0
def tw9796705021659891795:=0
def tw5936677662617148920:=0
def tw16763257122406894434:=0
def tw8717627770065368573:=0
def tw11080346910615884882:=0
def tw1740512456712239448:=0
def tw9064126228233111429:=0
def tw231390986102887364:=0
def tw1096454273653996326:=0
def tw13584073314094446960:=0
def tw12618387256082488060:=0
def tw6665856524368040888:=0
def tw11283400608319565705:=0
def tw4532137619418393845:=0
def tw1365769465190909300:=0
def tw14609811060641010224:=0
def tw11206956491326656912:=0
def tw17957587364118550245:=0
def tw6827553666348625637:=0
def tw8319865523670806359:=0
def tw2444789806369641252:=0
def tw8364123329862932349:=0
def tw14380810392697421168:=0
def tw1648925188756509031:=0
def tw1594037378353516851:=0
def tw18376571110856686851:=0
def tw7259895273424521883:=0
def tw16258888505543355971:=0
def tw3436678140797175935:=0
def tw13309055993719124972:=0
def tw12859935257711095036:=0
def tw17212328065089747200:=0
def tw4060125343153173125:=0
def tw6509131961252342913:=0
def tw8022461272688382963:=0
def tw4405459787399127370:=0
def tw646119831225152762:=0
def tw1163331676960847924:=0
def tw17581238878622242026:=0
def tw13130360447630325417:=0
def tw2631355628859635815:=0
def tw978442451921423850:=0
def tw3019322230038686534:=0
def tw11423016108936525297:=0
def tw10077505827505507988:=0
def tw267759889854441427:=0
def tw9021578066176784804:=0
def tw14689083952790687860:=0
def tw7027828828304324272:=0
def tw3455442501899223554:=0
def tw10431655110712252692:=0
def tw3274912678930661477:=0
def tw4359697598658660698:=0
def tw8465128435460649618:=0
def tw737853333502323271:=0
def tw5641344455592421112:=0
def tw2420633020212385008:=0
def tw16385917698442708441:=0
def tw17709951428335956695:=0
def tw945744217031991577:=0
def tw3842013497064728373:=0
def tw10156757667155590211:=0
def tw9599295537002848781:=0
def tw5726207265314253605:=0
def tw16209334057207000864:=0
def tw13420183990958723152:=0
def tw12251695282647908707:=0
def tw12194534959912998828:=0
def tw10423414455708042582:=0
def tw13892618793235503753:=0
def tw6499209841404302741:=0
def tw14298157834621885525:=0
def tw7786022409334328357:=0
def tw2862132244640814053:=0
def tw6097773510705972542:=0
def tw12901980326718993098:=0
def tw8473954224435082443:=0
def tw1395742931783532011:=0
def tw13507483510514872123:=0
def tw8456465657659523171:=0
def tw8214561453501710701:=0
def tw6148265212948305067:=0
def tw5838178368311074667:=0
def tw2920291626271184024:=0
def tw18249363277395776793:=0
def tw1667313678526615325:=0
def tw12592550710760080889:=0
def tw6187665004196862998:=0
def tw15700962258619938433:=0
def tw16848177686416099092:=0
def tw14799771834608431070:=0
def tw8181298158817842844:=0
def tw9072898719866673181:=0
def tw11304718763361247766:=0
def tw12667137095299840500:=0
def tw14500315652920928728:=0
def tw12642441262931918823:=0
def tw11117130180191781723:=0
def tw10071494583468533445:=0
def tw9143170373934558978:=0
end PySem.W.Fast
set_option maxRecDepth 100000 in
set_option maxHeartbeats 0 in
theorem PySem.Challenge.cw_bridgefind_k47_knots_hung_holds : PySem.Challenge.rw_bridgefind_k47_knots_hung.Holds := by
 w_on; o_law; k_head; (case hw=>w_witness2)
 k_fill
 refine My.walk (l:=PySem.Challenge.rw_bridgefind_k47_knots_hung) (mc:=214) (mp:=210) rfl rfl (fun w h Y=>PySem.W.km_in_of Y) (fun w h Y=>PySem.W.km_tabs_of Y 210 yaB) (fun w=>by kernel_rfl) (fun w=>by kernel_rfl) ?F
 case F=>
  intro w mg fa h KX G hmg
  refine' My.zt3 (mc6:=214) (mp6:=210) KX G hmg ?_ ?_ ?_ ?_ ?_ ?_ ?_ ?_ ?_ ?_ ?_ ?_ ?_ ?_ ?_ ?_ ?_ ?_ ?_ ?_ ?_ ?_ ?_ ?_ ?_ ?_ ?_ ?_ ?_ ?_ ?_ ?_ ?_ ?_ ?_ ?_ ?_ ?_ ?_ ?_ ?_ ?_ ?_ ?_ ?_ ?_ ?_ ?_ ?_ ?_ ?_ ?_ ?_ ?_ ?_ ?_ ?_ ?_ ?_ ?_ ?_ ?_ ?_ ?_ ?_ ?_ ?_ ?_ ?_ ?_ ?_ ?_ ?_ ?_ ?_ ?_ ?_ ?_ ?_ ?_ ?_ ?_ ?_ ?_ ?_ ?_ ?_ ?_ ?_ ?_ ?_ ?_ ?_ ?_ ?_ ?_ ?_ ?_ ?_ ?_ ?_ ?_ ?_ ?_ ?_ ?_ ?_ ?_ ?_ ?_ ?_ ?_ ?_ ?_ ?_ ?_ ?_ ?_ ?_ ?_ ?_ ?_ ?_ ?_ ?_ ?_ ?_ ?_ ?_ ?_ ?_ ?_ ?_ ?_ ?_ ?_ ?_ ?_ ?_ ?_ ?_ ?_ ?_ ?_ ?_ ?_ ?_ ?_ ?_
  any_goals k_is
  all_goals first | refine' My.AD.of ?_ ?_ ?_ ?_ | refine' My.AM.of ?_ ?_ ?_ ?_ ?_ | skip
  any_goals k_is
  all_goals kernel_rfl

