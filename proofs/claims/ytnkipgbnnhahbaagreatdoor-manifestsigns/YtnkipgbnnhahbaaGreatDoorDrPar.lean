/- That the number 39402006196394479212279040100143613805079739270465446667948293404245721771496870329047266088258938001861606973112319 is prime. Six limbs that fit. Numbers by a modulus: what is taken off, what is left, Montgomery's steps; plain facts on numbers alone. The field's prime: plain facts on numbers. The points of the curve are a group: sums go either way round and in any order. Plain facts on numbers. The reference's numbers as slices: their lengths; stores beside them. The order times the base point is the one at infinity: plain facts on numbers. Points, as the document's and as limbs: plain facts; the curve's number. Elements as trees, and as they lie. An element's bytes. Plain facts. No place of the curve has y = 0: the curve's cubic has no root by the prime. Plain facts on numbers. Elements read out of bytes: what is read, or what is amiss and where. Plain facts. -/
import Derived.Test.YtnkipgbnnhahbaaGreatDoorApBs
import Derived.Test.YtnkipgbnnhahbaaGreatDoorNum
import Derived.Test.YtnkipgbnnhahbaaGreatDoorHeld3
import Derived.Test.YtnkipgbnnhahbaaGreatDoorRows
import Derived.Deep.WholeRow
import Derived.Deep.RegionHeld3
import Derived.Deep.DeepCutAuto
import Derived.Deep.DeepFit
namespace Go.Proofs.YtnkipgbnnhahbaaGreatDoor
open Go.RowKit
theorem pr363557:Pr 363557:=trial 363557 603 (by decide) (by decide) (by decide +kernel)
theorem pr532247449:Pr 532247449:=pockB 532247449 363557 1464 2 30 [363557] (by decide +kernel) (fun r h=>by
 simp only [List.mem_cons,List.not_mem_nil,or_false] at h
 rcases h with rfl
 ·exact pr363557)
theorem pr44925942675193:Pr 44925942675193:=pockB 44925942675193 532247449 84408 2 47 [532247449] (by decide +kernel) (fun r h=>by
 simp only [List.mem_cons,List.not_mem_nil,or_false] at h
 rcases h with rfl
 ·exact pr532247449)
theorem pr35581458644053887931343:Pr 35581458644053887931343:=pockB 35581458644053887931343 44925942675193 792002494 2 76 [44925942675193] (by decide +kernel) (fun r h=>by
 simp only [List.mem_cons,List.not_mem_nil,or_false] at h
 rcases h with rfl
 ·exact pr44925942675193)
theorem pr23964610537191310276190549303:Pr 23964610537191310276190549303:=pockB 23964610537191310276190549303 35581458644053887931343 673514 2 96 [35581458644053887931343] (by decide +kernel) (fun r h=>by
 simp only [List.mem_cons,List.not_mem_nil,or_false] at h
 rcases h with rfl
 ·exact pr35581458644053887931343)
theorem pr862725979338887169942859774909:Pr 862725979338887169942859774909:=pockB 862725979338887169942859774909 23964610537191310276190549303 36 2 101 [23964610537191310276190549303] (by decide +kernel) (fun r h=>by
 simp only [List.mem_cons,List.not_mem_nil,or_false] at h
 rcases h with rfl
 ·exact pr23964610537191310276190549303)
theorem prP6:Pr 20705423504133292078628634597817:=pockB 20705423504133292078628634597817 862725979338887169942859774909 24 2 106 [862725979338887169942859774909] (by decide +kernel) (fun r h=>by
 simp only [List.mem_cons,List.not_mem_nil,or_false] at h
 rcases h with rfl
 ·exact pr862725979338887169942859774909)
theorem prP7:Pr 413244619895455989650825325680172591660047:=pockB 413244619895455989650825325680172591660047 20705423504133292078628634597817 19958279038 2 140 [20705423504133292078628634597817] (by decide +kernel) (fun r h=>by
 simp only [List.mem_cons,List.not_mem_nil,or_false] at h
 rcases h with rfl
 ·exact prP6)
theorem prP8:Pr 12397338596863679689524759770405177749801411:=pockB 12397338596863679689524759770405177749801411 413244619895455989650825325680172591660047 30 2 145 [413244619895455989650825325680172591660047] (by decide +kernel) (fun r h=>by
 simp only [List.mem_cons,List.not_mem_nil,or_false] at h
 rcases h with rfl
 ·exact prP7)
theorem pr21407:Pr 21407:=trial 21407 147 (by decide) (by decide) (by decide +kernel)
theorem pr246608641:Pr 246608641:=pockB 246608641 21407 11520 2 29 [21407] (by decide +kernel) (fun r h=>by
 simp only [List.mem_cons,List.not_mem_nil,or_false] at h
 rcases h with rfl
 ·exact pr21407)
theorem pr881:Pr 881:=trial 881 30 (by decide) (by decide) (by decide +kernel)
theorem pr211:Pr 211:=trial 211 15 (by decide) (by decide) (by decide +kernel)
theorem pr105957871:Pr 105957871:=pockB 105957871 185891 570 2 28 [881,211] (by decide +kernel) (fun r h=>by
 simp only [List.mem_cons,List.not_mem_nil,or_false] at h
 rcases h with rfl|rfl
 ·exact pr881
 ·exact pr211)
theorem pr529709925838459440593:Pr 529709925838459440593:=pockB 529709925838459440593 26130126570563311 20272 2 70 [246608641,105957871] (by decide +kernel) (fun r h=>by
 simp only [List.mem_cons,List.not_mem_nil,or_false] at h
 rcases h with rfl|rfl
 ·exact pr246608641
 ·exact pr105957871)
theorem prP15:Pr 19173790298027098165721053155794528970226934547887232785722672956982046098136719667167519737147526097:=pockB 19173790298027098165721053155794528970226934547887232785722672956982046098136719667167519737147526097 6566993308738930588330512200382809924575610638753396583902076723 2919721308762696059271802914099725552 2 335 [12397338596863679689524759770405177749801411,529709925838459440593] (by decide +kernel) (fun r h=>by
 simp only [List.mem_cons,List.not_mem_nil,or_false] at h
 rcases h with rfl|rfl
 ·exact prP8
 ·exact pr529709925838459440593)
theorem pr_P:Pr 39402006196394479212279040100143613805079739270465446667948293404245721771496870329047266088258938001861606973112319:=pockB 39402006196394479212279040100143613805079739270465446667948293404245721771496870329047266088258938001861606973112319 19173790298027098165721053155794528970226934547887232785722672956982046098136719667167519737147526097 2054993070433694 2 385 [19173790298027098165721053155794528970226934547887232785722672956982046098136719667167519737147526097] (by decide +kernel) (fun r h=>by
 simp only [List.mem_cons,List.not_mem_nil,or_false] at h
 rcases h with rfl
 ·exact prP15)
theorem fits6 {x0 x1 x2 x3 x4 x5:Int} (h:(0≤x0∧x0 < 18446744073709551616)∧(0≤x1∧x1 < 18446744073709551616)∧(0≤x2∧x2 < 18446744073709551616)∧(0≤x3∧x3 < 18446744073709551616)∧(0≤x4∧x4 < 18446744073709551616)∧(0≤x5∧x5 < 18446744073709551616)):fits [x0,x1,x2,x3,x4,x5]:=by
 obtain ⟨h0,h1,h2,h3,h4,h5⟩:=h
 intro j
 match j with
 | 0=>exact h0
 | 1=>exact h1
 | 2=>exact h2
 | 3=>exact h3
 | 4=>exact h4
 | 5=>exact h5
 | _ + 6=>exact ⟨by simp,by simp⟩
theorem v6_bound (A:List Int) (l:A.length=6) (h:fits A):0≤v64 A∧v64 A < 18446744073709551616 ^ 6:=by
 have:=v64_bound A h
 rw [l] at this;exact this
/-- the prime -/
def PP:Int:=39402006196394479212279040100143613805079739270465446667948293404245721771496870329047266088258938001861606973112319
/-- the prime divides it -/
def Nu (a:Int):Prop:=PP ∣ a
theorem Nu.add {a b:Int} (h:Nu a) (k:Nu b):Nu (a + b):=Int.dvd_add h k
theorem PP_nat':PP=((39402006196394479212279040100143613805079739270465446667948293404245721771496870329047266088258938001861606973112319:Nat):Int):=by decide
theorem Nu.split {a b:Int} (h:Nu (a * b)):Nu a∨Nu b:=by
 unfold Nu at h ⊢
 rw [PP_nat'] at h ⊢
 rw [Int.ofNat_dvd_left] at h ⊢
 rw [Int.ofNat_dvd_left]
 rw [Int.natAbs_mul] at h
 exact pr_P.split h
theorem Nu.left {a b:Int} (h:Nu (a * b)) (k:¬ Nu b):Nu a:=h.split.resolve_right k
theorem nu_iff {a:Int}:Nu a↔a % PP=0:=⟨Int.emod_eq_zero_of_dvd,Int.dvd_of_emod_eq_zero⟩
theorem nu_eq {a b:Int} (h:Nu (a - b)):a % PP=b % PP:=Int.emod_eq_emod_iff_emod_sub_eq_zero.2 (nu_iff.1 h)
/-- below the prime -/
def Lo (a:Int):Prop:=0≤a∧a < PP
theorem Lo.emod {a:Int} (h:Lo a):a % PP=a:=Int.emod_eq_of_lt h.1 h.2
theorem Lo.is {a b:Int} (h:Lo a) (e:Nu (a - b)):b % PP=a:=by
 have:=nu_eq e
 rw [h.emod] at this;exact this.symm
/-- what makes 1 of a number -/
def pinv (d:Int):Int:=d ^ 39402006196394479212279040100143613805079739270465446667948293404245721771496870329047266088258938001861606973112317 % PP
/-- the curve's number -/
def BB:Int:=27580193559959705877849011840389048093056905856361568521428707301988689241309860865136260764883745107765439761230575
/-- the slope, as the document has it -/
def slope (x1 y1 x2 y2:Int):Int :=
 if x1=x2 then ((3 * (x1 * x1) - 3) % PP * pinv ((y1 + y1) % PP)) % PP else ((y2 - y1) % PP * pinv ((x2 - x1) % PP)) % PP
/-- points -/
abbrev Pt:=Option (Int × Int)
theorem num_len {w:World} {v:Value} {N:Int} (h:NumIs w v N):∃ (ao:Option Addr) (n cap:Nat),v=.slice ao n cap∧n≤cap∧cap≤maxLen∧((n:Int)=0↔N=0):=by
 obtain ⟨D,sD,dD,tD,rfl⟩:=h
 obtain ⟨ao,cap,rfl,m,k,-⟩:=sD.form
 refine ⟨ao,D.length,cap,rfl,k,m,fun h=>?_,fun h=>?_⟩
 ·match D,h with
  | [],_=>rfl
 ·apply Classical.byContradiction
  intro hn
  have l:=trd_lower D dD tD (by omega)
  have p:(0:Int) < 4294967296 ^ (D.length - 1):=Int.pow_pos (by decide)
  omega
theorem NumIs.form {w:World} {v:Value} {N:Int} (h:NumIs w v N):∃ (ao:Option Addr) (n cap:Nat),v=.slice ao n cap:=by
 obtain ⟨ao,n,cap,e,-⟩:=num_len h
 exact ⟨ao,n,cap,e⟩
/-- a store into a block that begins with a bool leaves numbers as they are -/
theorem NumIs.set {w:World} {v:Value} {N:Int} {b j:Nat} {c:Bool} {X:List Value} {y:Value} (h:NumIs w v N) (B:Blk w b (.bool c :: X)):NumIs (w.setCell ⟨b,j,none⟩ y) v N:=by
 obtain ⟨D,sD,h2⟩:=h
 refine ⟨D,?_,h2⟩
 rcases sD with ⟨h1,h3⟩|⟨b',cap,h1,h3,h4,h5,h6⟩
 ·exact .inl ⟨h1,h3⟩
 ·refine .inr ⟨b',cap,h1,h3,h4,by simpa using h5,fun k hk=>?_⟩
  have h0:=h6 0 (by omega)
  have hb:=B.cell 0 _ rfl
  have hne:b'≠b:=by
   rintro rfl
   rw [hb] at h0
   simp at h0
  rw [World.cell?_setCell_other _ _ _ _ (by simp)]
  exact h6 k hk
/-- a sum by a slope that is told -/
def stp (p q:Int × Int) (l:Int):Option (Int × Int) :=
 if (p.2 - q.2 - l * (p.1 - q.1)) % PP=0∧(l * (p.2 + q.2) - (p.1 * p.1 + p.1 * q.1 + q.1 * q.1 - 3)) % PP=0∧¬ (p.1=q.1∧(p.2 + q.2) % PP=0) then
  some ((l * l - p.1 - q.1) % PP,(l * (p.1 - (l * l - p.1 - q.1) % PP) - p.2) % PP)
 else none
/-- a point of the document's -/
def PtIs (w:World) (v:Value):Pt→Prop
 | none=>v=.agg #[.bool true,.slice none 0 0,.slice none 0 0]
 | some p=>∃ a m c a' m' c',v=.agg #[.bool false,.slice a m c,.slice a' m' c']∧NumIs w (.slice a m c) p.1∧NumIs w (.slice a' m' c') p.2
theorem PtIs.later {w w':World} {v:Value} {P:Pt} (h:PtIs w v P) (hb:Below w.heap.size w w'):PtIs w' v P:=by
 cases P with
 | none=>exact h
 | some p =>
  obtain ⟨a,m,c,a',m',c',e,h1,h2⟩:=h
  exact ⟨a,m,c,a',m',c',e,h1.later hb,h2.later hb⟩
theorem PtIs.drew {w:World} {v:Value} {P:Pt} (h:PtIs w v P):PtIs w.drew v P:=by
 cases P with
 | none=>exact h
 | some p =>
  obtain ⟨a,m,c,a',m',c',e,h1,h2⟩:=h
  exact ⟨a,m,c,a',m',c',e,h1.drew,h2.drew⟩
theorem PtIs.alloc {w:World} {v:Value} {P:Pt} (h:PtIs w v P) (o:Obj):PtIs (w.alloc o) v P:=h.later ((Below.refl _ _).alloc (Nat.le_refl _) o)
theorem PtIs.form {w:World} {v:Value} {P:Pt} (h:PtIs w v P):∃ (nb:Bool) (a:Option Addr) (n k:Nat) (b:Option Addr) (m l:Nat),v=.agg #[.bool nb,.slice a n k,.slice b m l]:=by
 cases P with
 | none=>exact ⟨true,none,0,0,none,0,0,h⟩
 | some p =>
  obtain ⟨a,m,c,a',m',c',e,_⟩:=h
  exact ⟨false,a,m,c,a',m',c',e⟩
/-- the limbs A and B and the bool n tell the point P -/
structure Told (P:Pt) (A B:List Int) (n:Bool):Prop where
 fA:fits A
 fB:fits B
 is:(P=none∧n=true∧A=[0,0,0,0,0,0]∧B=[0,0,0,0,0,0])∨(P=some (v64 A,v64 B)∧n=false)
/-- an element -/
inductive Tl where
 | mk (c t:Int) (m:Bool) (b:List Int) (ks:List Tl)
mutual
/-- how many elements it has in it, with itself -/
def szT:Tl→Nat
 | .mk _ _ _ _ ks=>1 + szL ks
def szL:List Tl→Nat
 | []=>0
 | k :: ks=>szT k + szL ks
end
theorem szT_pos:∀ t:Tl,0 < szT t
 | .mk _ _ _ _ ks=>by rw [szT];omega
theorem szL_get:∀ {ks:List Tl} {i:Nat} {k:Tl},ks[i]?=some k→szT k≤szL ks
 | [],i,k,h=>by simp at h
 | x :: xs,0,k,h=>by
  simp at h
  subst h
  rw [szL]
  omega
 | x :: xs,i + 1,k,h=>by
  rw [List.getElem?_cons_succ] at h
  have:=szL_get h
  rw [szL]
  omega
/-- cells that lie somewhere -/
def CsAt (w:World) (g o:Nat) (cs:List Value):Prop:=g < w.heap.size∧∀ j v,cs[j]?=some v→w.cell? ⟨g,o + j,none⟩=some v
theorem CsAt.later {w w':World} {g o:Nat} {cs:List Value} (h:CsAt w g o cs) (hb:Below w.heap.size w w'):CsAt w' g o cs :=
 ⟨Nat.lt_of_lt_of_le h.1 hb.size,fun j v hj=>(hb.cell (p:=⟨g,o + j,none⟩) h.1).trans (h.2 j v hj)⟩
mutual
/-- an element as five cells tell it -/
def TlAt (w:World):Tl→List Value→Prop
 | .mk c t m b ks,cs=>∃ bv ao cap,cs=[.int .i64 c,.int .i64 t,.bool m,bv,.slice ao ks.length cap]∧Bs w bv b∧ks.length≤cap∧cap≤maxLen∧(0 < ks.length→∃ g o,ao=some ⟨g,o,none⟩∧KidsAt w ks g o)
def KidsAt (w:World):List Tl→Nat→Nat→Prop
 | [],_,_=>True
 | k :: ks,g,o=>(∃ cs,CsAt w g o cs∧TlAt w k cs)∧KidsAt w ks g (o + 5)
end
theorem TlAt.five {w:World}:∀ {t:Tl} {cs:List Value},TlAt w t cs→cs.length=5
 | .mk ..,_,h=>by
  rw [TlAt] at h
  obtain ⟨_,_,_,rfl,_⟩:=h
  rfl
mutual
theorem TlAt.later {w w':World} (hb:Below w.heap.size w w'):∀ {t:Tl} {cs:List Value},TlAt w t cs→TlAt w' t cs
 | .mk c t m b ks,cs,h=>by
  rw [TlAt] at h ⊢
  obtain ⟨bv,ao,cap,h1,h2,h3,h4,h5⟩:=h
  refine ⟨bv,ao,cap,h1,h2.later hb,h3,h4,fun h0=>?_⟩
  obtain ⟨g,o,e,hk⟩:=h5 h0
  exact ⟨g,o,e,KidsAt.later hb hk⟩
theorem KidsAt.later {w w':World} (hb:Below w.heap.size w w'):∀ {ks:List Tl} {g o:Nat},KidsAt w ks g o→KidsAt w' ks g o
 | [],_,_,_=>by rw [KidsAt];trivial
 | k :: ks,g,o,h=>by
  rw [KidsAt] at h ⊢
  obtain ⟨⟨cs,h1,h2⟩,h3⟩:=h
  exact ⟨⟨cs,h1.later hb,TlAt.later hb h2⟩,KidsAt.later hb h3⟩
end
theorem KidsAt.get {w:World}:∀ {ks:List Tl} {g o i:Nat} {k:Tl},KidsAt w ks g o→ks[i]?=some k→∃ cs,CsAt w g (o + 5 * i) cs∧TlAt w k cs
 | [],_,_,i,_,_,h=>by simp at h
 | x :: xs,g,o,0,k,h,e=>by
  rw [KidsAt] at h
  simp at e
  subst e
  exact h.1
 | x :: xs,g,o,i + 1,k,h,e=>by
  rw [KidsAt] at h
  rw [List.getElem?_cons_succ] at e
  have:=KidsAt.get h.2 e
  rw [show o + 5 * (i + 1)=o + 5 + 5 * i by omega]
  exact this
mutual
/-- numbers that are ints, bytes that are bytes -/
def WfT:Tl→Prop
 | .mk c t _ b ks=>(-9223372036854775808≤c∧c < 9223372036854775808)∧(-9223372036854775808≤t∧t < 9223372036854775808)∧byt b∧WfL ks
def WfL:List Tl→Prop
 | []=>True
 | k :: ks=>WfT k∧WfL ks
end
theorem WfL.get:∀ {ks:List Tl} {i:Nat} {k:Tl},WfL ks→ks[i]?=some k→WfT k
 | [],i,k,_,h=>by simp at h
 | x :: xs,0,k,h,e=>by
  rw [WfL] at h
  simp at e
  subst e
  exact h.1
 | x :: xs,i + 1,k,h,e=>by
  rw [WfL] at h
  rw [List.getElem?_cons_succ] at e
  exact WfL.get h.2 e
/-- may one element be, what is in it aside? -/
def fine1 (c t:Int) (m:Bool) (b:List Int) (ks:List Tl):Bool:=decide (0≤c) && decide (c≤3) && decide (0≤t) && decide (t≤30) && !(m && decide (0 < b.length)) && !(!m && decide (0 < ks.length))
mutual
def fineT:Tl→Bool
 | .mk c t m b ks=>fine1 c t m b ks && fineL ks
def fineL:List Tl→Bool
 | []=>true
 | k :: ks=>fineT k && fineL ks
end
mutual
def depT:Tl→Nat
 | .mk _ _ _ _ ks=>depL ks + 1
def depL:List Tl→Nat
 | []=>0
 | k :: ks=>max (depT k) (depL ks)
end
theorem fineL_drop {ks:List Tl} {i:Nat} {k:Tl} (h:ks[i]?=some k):fineL (ks.drop i)=(fineT k && fineL (ks.drop (i + 1))):=by
 have e:=List.getElem?_eq_some_iff.1 h
 rw [List.drop_eq_getElem_cons e.1,e.2,fineL]
theorem depL_app:∀ (xs ys:List Tl),depL (xs++ys)=max (depL xs) (depL ys)
 | [],ys=>by simp [depL]
 | x :: xs,ys=>by rw [List.cons_append,depL,depL,depL_app xs ys,Nat.max_assoc]
theorem depL_next {ks:List Tl} {i:Nat} {k:Tl} (h:ks[i]?=some k):depL (ks.take (i + 1))=max (depL (ks.take i)) (depT k):=by
 rw [List.take_add_one,h]
 show depL (ks.take i++[k])=_
 rw [depL_app]
 simp [depL]
/-- an element's first byte -/
def headB (c t:Int) (m:Bool):Int:=64 * c + t + (if m then 32 else 0)
/-- a length as it is told -/
def lenB (n:Nat):List Int :=
 if n < 128 then [(n:Int)] else if n < 256 then [129,(n:Int)] else if n < 65536 then [130,((n / 256:Nat):Int),((n % 256:Nat):Int)] else [131,((n / 65536 % 256:Nat):Int),((n / 256 % 256:Nat):Int),((n % 256:Nat):Int)]
mutual
/-- an element's bytes -/
def bytesT:Tl→List Int
 | .mk c t m b ks=>headB c t m :: (lenB (b++bytesL ks).length++(b++bytesL ks))
def bytesL:List Tl→List Int
 | []=>[]
 | k :: ks=>bytesT k++bytesL ks
end
theorem bytesL_app:∀ (xs ys:List Tl),bytesL (xs++ys)=bytesL xs++bytesL ys
 | [],ys=>by rw [bytesL];rfl
 | x :: xs,ys=>by rw [List.cons_append,bytesL,bytesL,bytesL_app xs ys,List.append_assoc]
theorem bytesL_next {ks:List Tl} {i:Nat} {k:Tl} (h:ks[i]?=some k):bytesL (ks.take (i + 1))=bytesL (ks.take i)++bytesT k:=by
 rw [List.take_add_one,h]
 show bytesL (ks.take i++[k])=_
 rw [bytesL_app,bytesL,bytesL,List.append_nil]
theorem lenB_len (n:Nat):(lenB n).length≤4:=by
 unfold lenB
 split
 ·simp
 split
 ·simp
 split<;>simp
theorem bytesL_le {ks:List Tl}:∀ {i:Nat},i≤ks.length→(bytesL (ks.take i)).length≤(bytesL ks).length:=fun {i} _=>by
 have e:bytesL ks=bytesL (ks.take i)++bytesL (ks.drop i):=by rw [← bytesL_app,List.take_append_drop]
 rw [e,List.length_append]
 omega
theorem bytesL_kid {ks:List Tl} {i:Nat} {k:Tl} (h:ks[i]?=some k):(bytesL (ks.take i)).length + (bytesT k).length≤(bytesL ks).length:=by
 have:=bytesL_le (ks:=ks) (i:=i + 1) (by have:=(List.getElem?_eq_some_iff.1 h).1;omega)
 rw [bytesL_next h,List.length_append] at this
 exact this
theorem fineL.get:∀ {ks:List Tl} {i:Nat} {k:Tl},fineL ks=true→ks[i]?=some k→fineT k=true
 | [],i,k,_,h=>by simp at h
 | x :: xs,0,k,h,e=>by
  rw [fineL,Bool.and_eq_true] at h
  simp at e
  subst e
  exact h.1
 | x :: xs,i + 1,k,h,e=>by
  rw [fineL,Bool.and_eq_true] at h
  rw [List.getElem?_cons_succ] at e
  exact fineL.get h.2 e
theorem fine1_num {c t:Int} {m:Bool} {b:List Int} {ks:List Tl} (h:fine1 c t m b ks=true):(0≤c∧c≤3)∧(0≤t∧t≤30):=by
 unfold fine1 at h
 simp only [Bool.and_eq_true,decide_eq_true_eq] at h
 omega
/-- c0 + c1 x + c2 x^2 -/
abbrev Tri:=Int × Int × Int
def ev (r:Int) (a:Tri):Int:=a.1 + a.2.1 * r + a.2.2 * (r * r)
/-- k bytes from place o on, the highest first -/
def beV (B:List Int) (o:Nat):Nat→Nat
 | 0=>0
 | k + 1=>256 * beV B o k + (B.getD (o + k) 0).toNat
/-- the byte at a place -/
def byN (B:List Int) (a:Nat):Nat:=(B.getD a 0).toNat
/-- a length told at a place, within an end: it, and where what it tells of begins -/
def lenP (B:List Int) (a en:Nat):Except (Nat × Nat) (Nat × Nat) :=
 if en≤a then .error (6,a)
 else if byN B a < 128 then .ok (byN B a,a + 1)
 else if byN B a=128∨131 < byN B a then .error (7,a)
 else if en < a + 1 + (byN B a - 128) then .error (6,a)
 else if byN B (a + 1)=0∨beV B (a + 1) (byN B a - 128) < 128 then .error (7,a)
 else .ok (beV B (a + 1) (byN B a - 128),a + 1 + (byN B a - 128))
/-- elements one behind the other, up to a place -/
def kidsP (f:Nat→Nat→Except (Nat × Nat) (Tl × Nat)) (stop:Nat):Nat→Nat→List Tl→Except (Nat × Nat) (List Tl × Nat)
 | 0,x,acc=>.ok (acc,x)
 | k + 1,x,acc=>if x < stop then (match f x stop with|.error e=>.error e|.ok (t,y)=>kidsP f stop k y (acc++[t])) else .ok (acc,x)
/-- an element at a place, within an end; d: how deep it may be -/
def elemP (B:List Int):Nat→Nat→Nat→Except (Nat × Nat) (Tl × Nat)
  | 0,a,_=>.error (9,a)
  | d + 1,a,en =>
    if en≤a then .error (6,a)
    else if byN B a % 32=31 then .error (7,a)
    else match lenP B (a + 1) en with
      | .error e=>.error e
      | .ok (n,f) =>
        if en < f + n then .error (6,a + 1)
        else if byN B a / 32 % 2=1 then
          (match kidsP (elemP B d) (f + n) n f [] with
            | .error e=>.error e
            | .ok (ks,z)=>.ok (.mk ((byN B a / 64:Nat):Int) ((byN B a % 32:Nat):Int) true [] ks,z))
        else .ok (.mk ((byN B a / 64:Nat):Int) ((byN B a % 32:Nat):Int) false ((B.drop f).take n) [],f + n)
/-- the whole: 2: too long (at no place) -/
def parseP (B:List Int):Except (Nat × Nat) Tl :=
 if 1048576 < B.length then .error (2,0)
 else match elemP B 16 0 B.length with
  | .error e=>.error e
  | .ok (t,z)=>if z < B.length then .error (8,z) else .ok t
theorem byN_lt {B:List Int} (h:byt B) (a:Nat):byN B a < 256:=by
 have:=h a
 unfold byN
 omega
theorem byN_int {B:List Int} (h:byt B) (a:Nat):B.getD a 0=((byN B a:Nat):Int):=by
 have:=h a
 unfold byN
 omega
/-- X stands there -/
def PreAt (B:List Int) (a:Nat) (X:List Int):Prop:=∀ j,j < X.length→B.getD (a + j) 0=X.getD j 0
theorem PreAt.two {B X Y:List Int} {a:Nat} (h:PreAt B a X) (k:PreAt B (a + X.length) Y):PreAt B a (X++Y):=fun j hj=>by
 rw [List.length_append] at hj
 rw [List.getD_eq_getElem?_getD (l:=X++Y),List.getElem?_append]
 split
 ·rw [← List.getD_eq_getElem?_getD];exact h j (by omega)
 ·rw [← List.getD_eq_getElem?_getD,← k (j - X.length) (by omega),show a + X.length + (j - X.length)=a + j by omega]
theorem PreAt.left {B X Y:List Int} {a:Nat} (h:PreAt B a (X++Y)):PreAt B a X:=fun j hj=>by
 have:=h j (by rw [List.length_append];omega)
 rw [this,List.getD_eq_getElem?_getD,List.getElem?_append_left hj,← List.getD_eq_getElem?_getD]
theorem PreAt.right {B X Y:List Int} {a:Nat} (h:PreAt B a (X++Y)):PreAt B (a + X.length) Y:=fun j hj=>by
 have:=h (X.length + j) (by rw [List.length_append];omega)
 rw [show a + X.length + j=a + (X.length + j) by omega,this,List.getD_eq_getElem?_getD,List.getElem?_append_right (by omega),← List.getD_eq_getElem?_getD,show X.length + j - X.length=j by omega]
theorem PreAt.nil {B:List Int} {a:Nat}:PreAt B a []:=fun j hj=>by simp at hj
theorem PreAt.one {B:List Int} {a:Nat} {x:Int} (h:B.getD a 0=x):PreAt B a [x]:=fun j hj=>by
 have e:j=0:=by simp at hj;exact hj
 subst e
 exact h
theorem PreAt.cons {B X:List Int} {a:Nat} {x:Int} (h:B.getD a 0=x) (k:PreAt B (a + 1) X):PreAt B a (x :: X):=(PreAt.one h).two k
theorem PreAt.head {B X:List Int} {a:Nat} {x:Int} (h:PreAt B a (x :: X)):B.getD a 0=x:=h 0 (by simp)
theorem PreAt.tail {B X:List Int} {a:Nat} {x:Int} (h:PreAt B a (x :: X)):PreAt B (a + 1) X:=PreAt.right (X:=[x]) h
theorem PreAt.take {B X:List Int} {a:Nat} (h:PreAt B a X) (l:a + X.length≤B.length):(B.drop a).take X.length=X:=by
 apply List.ext_getElem
 ·rw [List.length_take,List.length_drop];omega
 ·intro j h1 h2
  have:=h j h2
  rw [List.getElem_take,List.getElem_drop]
  simpa [List.getD_eq_getElem?_getD,h2,show a + j < B.length by omega] using this
theorem PreAt.of_take {B:List Int} {a n:Nat} (l:a + n≤B.length):PreAt B a ((B.drop a).take n)∧((B.drop a).take n).length=n:=by
 have e:((B.drop a).take n).length=n:=by rw [List.length_take,List.length_drop];omega
 refine ⟨fun j hj=>?_,e⟩
 rw [e] at hj
 rw [List.getD_eq_getElem?_getD,List.getD_eq_getElem?_getD,List.getElem?_take,if_pos hj,List.getElem?_drop]
theorem PreAt.all {B X:List Int} (h:PreAt B 0 X) (l:X.length=B.length):B=X:=by
 have:=h.take (by omega)
 rw [List.drop_zero,l,List.take_length] at this
 exact this
theorem byt_takeP {B:List Int} (h:byt B) (a n:Nat):byt ((B.drop a).take n):=fun j=>by
 rw [List.getD_eq_getElem?_getD,List.getElem?_take]
 split
 ·rw [List.getElem?_drop,← List.getD_eq_getElem?_getD];exact h _
 ·exact ⟨by decide,by decide⟩
/-- a length that is taken is told by those bytes -/
theorem len_ok {B:List Int} {a en n f:Nat} (b:byt B) (h:lenP B a en=.ok (n,f)):a < en∧f≤en∧f=a + (lenB n).length∧n < 16777216∧PreAt B a (lenB n):=by
 unfold lenP at h
 have l0:=byN_lt b a
 have l1:=byN_lt b (a + 1)
 have l2:=byN_lt b (a + 2)
 have l3:=byN_lt b (a + 3)
 have i0:=byN_int b a
 have i1:=byN_int b (a + 1)
 have i2:=byN_int b (a + 2)
 have i3:=byN_int b (a + 3)
 by_cases c1:en≤a
 ·rw [if_pos c1] at h;cases h
 ·rw [if_neg c1] at h
  by_cases c2:byN B a < 128
  ·rw [if_pos c2] at h
   simp only [Except.ok.injEq,Prod.mk.injEq] at h
   obtain ⟨rfl,rfl⟩:=h
   have e:lenB (byN B a)=[((byN B a:Nat):Int)]:=by unfold lenB;rw [if_pos c2]
   rw [e]
   exact ⟨by omega,by omega,rfl,by omega,PreAt.one i0⟩
  ·rw [if_neg c2] at h
   by_cases c3:byN B a=128∨131 < byN B a
   ·rw [if_pos c3] at h;cases h
   ·rw [if_neg c3] at h
    by_cases c4:en < a + 1 + (byN B a - 128)
    ·rw [if_pos c4] at h;cases h
    ·rw [if_neg c4] at h
     by_cases c5:byN B (a + 1)=0∨beV B (a + 1) (byN B a - 128) < 128
     ·rw [if_pos c5] at h;cases h
     ·rw [if_neg c5] at h
      simp only [Except.ok.injEq,Prod.mk.injEq] at h
      obtain ⟨rfl,rfl⟩:=h
      have hm:byN B a=129∨byN B a=130∨byN B a=131:=by omega
      rcases hm with e|e|e
      ·rw [e] at c4 c5 i0 ⊢
       have ev:beV B (a + 1) (129 - 128)=byN B (a + 1):=by show 256 * 0 + byN B (a + 1 + 0)=_;simp
       rw [ev] at c5 ⊢
       have el:lenB (byN B (a + 1))=[129,((byN B (a + 1):Nat):Int)]:=by unfold lenB;rw [if_neg (by omega),if_pos (by omega)]
       rw [el]
       exact ⟨by omega,by omega,rfl,by omega,PreAt.cons i0 (PreAt.one i1)⟩
      ·rw [e] at c4 c5 i0 ⊢
       have ev:beV B (a + 1) (130 - 128)=256 * byN B (a + 1) + byN B (a + 2):=by show 256 * (256 * 0 + byN B (a + 1 + 0)) + byN B (a + 1 + 1)=_;simp
       rw [ev] at c5 ⊢
       have el:lenB (256 * byN B (a + 1) + byN B (a + 2))=[130,((byN B (a + 1):Nat):Int),((byN B (a + 2):Nat):Int)]:=by
        unfold lenB
        rw [if_neg (by omega),if_neg (by omega),if_pos (by omega),show (256 * byN B (a + 1) + byN B (a + 2)) / 256=byN B (a + 1) by omega,show (256 * byN B (a + 1) + byN B (a + 2)) % 256=byN B (a + 2) by omega]
       rw [el]
       exact ⟨by omega,by omega,rfl,by omega,PreAt.cons i0 (PreAt.cons i1 (PreAt.one i2))⟩
      ·rw [e] at c4 c5 i0 ⊢
       have ev:beV B (a + 1) (131 - 128)=256 * (256 * byN B (a + 1) + byN B (a + 2)) + byN B (a + 3):=by show 256 * (256 * (256 * 0 + byN B (a + 1 + 0)) + byN B (a + 1 + 1)) + byN B (a + 1 + 2)=_;simp
       rw [ev] at c5 ⊢
       have el:lenB (256 * (256 * byN B (a + 1) + byN B (a + 2)) + byN B (a + 3))=[131,((byN B (a + 1):Nat):Int),((byN B (a + 2):Nat):Int),((byN B (a + 3):Nat):Int)]:=by
        unfold lenB
        rw [if_neg (by omega),if_neg (by omega),if_neg (by omega),show (256 * (256 * byN B (a + 1) + byN B (a + 2)) + byN B (a + 3)) / 65536 % 256=byN B (a + 1) by omega,show (256 * (256 * byN B (a + 1) + byN B (a + 2)) + byN B (a + 3)) / 256 % 256=byN B (a + 2) by omega,show (256 * (256 * byN B (a + 1) + byN B (a + 2)) + byN B (a + 3)) % 256=byN B (a + 3) by omega]
       rw [el]
       exact ⟨by omega,by omega,rfl,by omega,PreAt.cons i0 (PreAt.cons i1 (PreAt.cons i2 (PreAt.one i3)))⟩
/-- a length that is told is taken -/
theorem len_of {B:List Int} {a en n:Nat} (h:PreAt B a (lenB n)) (hn:n < 16777216) (he:a + (lenB n).length≤en):lenP B a en=.ok (n,a + (lenB n).length):=by
 unfold lenP
 unfold lenB at h he ⊢
 by_cases c1:n < 128
 ·rw [if_pos c1] at h he ⊢
  have e0:byN B a=n:=by unfold byN;rw [h.head];omega
  simp only [List.length_singleton] at he ⊢
  rw [if_neg (by omega),e0,if_pos c1]
 ·rw [if_neg c1] at h he ⊢
  by_cases c2:n < 256
  ·rw [if_pos c2] at h he ⊢
   have e0:byN B a=129:=by unfold byN;rw [h.head];rfl
   have e1:byN B (a + 1)=n:=by unfold byN;rw [h.tail.head];omega
   have ev:beV B (a + 1) (129 - 128)=n:=by show 256 * 0 + byN B (a + 1 + 0)=_;rw [Nat.add_zero,e1];omega
   simp only [List.length_cons,List.length_nil] at he ⊢
   rw [if_neg (by omega),e0,if_neg (by omega),if_neg (by omega),if_neg (by omega),e1,ev,if_neg (by omega)]
  ·rw [if_neg c2] at h he ⊢
   by_cases c3:n < 65536
   ·rw [if_pos c3] at h he ⊢
    have e0:byN B a=130:=by unfold byN;rw [h.head];rfl
    have e1:byN B (a + 1)=n / 256:=by unfold byN;rw [h.tail.head];omega
    have e2:byN B (a + 1 + 1)=n % 256:=by unfold byN;rw [h.tail.tail.head];omega
    have ev:beV B (a + 1) (130 - 128)=n:=by show 256 * (256 * 0 + byN B (a + 1 + 0)) + byN B (a + 1 + 1)=_;rw [Nat.add_zero (a + 1),e1,e2];omega
    simp only [List.length_cons,List.length_nil] at he ⊢
    rw [if_neg (by omega),e0,if_neg (by omega),if_neg (by omega),if_neg (by omega),e1,ev,if_neg (by omega)]
   ·rw [if_neg c3] at h he ⊢
    have e0:byN B a=131:=by unfold byN;rw [h.head];rfl
    have e1:byN B (a + 1)=n / 65536 % 256:=by unfold byN;rw [h.tail.head];omega
    have e2:byN B (a + 1 + 1)=n / 256 % 256:=by unfold byN;rw [h.tail.tail.head];omega
    have e3:byN B (a + 1 + 2)=n % 256:=by unfold byN;rw [show a + 1 + 2=a + 1 + 1 + 1 by omega,h.tail.tail.tail.head];omega
    have ev:beV B (a + 1) (131 - 128)=n:=by show 256 * (256 * (256 * 0 + byN B (a + 1 + 0)) + byN B (a + 1 + 1)) + byN B (a + 1 + 2)=_;rw [Nat.add_zero (a + 1),e1,e2,e3];omega
    simp only [List.length_cons,List.length_nil] at he ⊢
    rw [if_neg (by omega),e0,if_neg (by omega),if_neg (by omega),if_neg (by omega),e1,ev,if_neg (by omega)]
theorem lenB_pos (n:Nat):1≤(lenB n).length:=by
 unfold lenB
 split
 ·simp
 ·split
  ·simp
  ·split<;>simp
theorem bytesT_len (c t:Int) (m:Bool) (b:List Int) (ks:List Tl):(bytesT (.mk c t m b ks)).length=1 + (lenB (b++bytesL ks).length).length + (b++bytesL ks).length:=by
 rw [bytesT,List.length_cons,List.length_append]
 omega
theorem bytesT_two:∀ T:Tl,2≤(bytesT T).length
 | .mk c t m b ks=>by
  rw [bytesT_len]
  have:=lenB_pos (b++bytesL ks).length
  omega
theorem bytesL_two:∀ ks:List Tl,2 * ks.length≤(bytesL ks).length
 | []=>by simp
 | k :: ks=>by
  rw [bytesL,List.length_append,List.length_cons]
  have:=bytesT_two k
  have:=bytesL_two ks
  omega
/-- an element that is read: its bytes stand there -/
def ElOk (B:List Int) (d a:Nat) (T:Tl) (z:Nat):Prop:=z=a + (bytesT T).length∧PreAt B a (bytesT T)∧fineT T=true∧depT T≤d∧WfT T
theorem kids_ok {B:List Int} {d stop:Nat} {f:Nat→Nat→Except (Nat × Nat) (Tl × Nat)} (hf:∀ a T z,f a stop=.ok (T,z)→ElOk B d a T z∧z≤stop) :
  ∀ (k x:Nat) (acc ks:List Tl) (z:Nat),kidsP f stop k x acc=.ok (ks,z)→x≤stop→∃ ls,ks=acc++ls∧z=x + (bytesL ls).length∧PreAt B x (bytesL ls)∧fineL ls=true∧depL ls≤d∧WfL ls∧z≤stop∧(stop≤x + k→z=stop)
 | 0,x,acc,ks,z,h,hx=>by
  simp only [kidsP,Except.ok.injEq,Prod.mk.injEq] at h
  obtain ⟨rfl,rfl⟩:=h
  exact ⟨[],by simp,by simp [bytesL],by rw [bytesL];exact PreAt.nil,by rw [fineL],by rw [depL];omega,by rw [WfL];trivial,hx,fun h=>by omega⟩
 | k + 1,x,acc,ks,z,h,hx=>by
  rw [kidsP] at h
  by_cases c:x < stop
  ·rw [if_pos c] at h
   cases hq:f x stop with
   | error e=>rw [hq] at h;cases h
   | ok p =>
    obtain ⟨t,y⟩:=p
    rw [hq] at h
    obtain ⟨⟨q1,q2,q3,q4,q5⟩,q6⟩:=hf x t y hq
    obtain ⟨ls,r1,r2,r3,r4,r5,r6,r7,r8⟩:=kids_ok hf k y (acc++[t]) ks z h q6
    have b2:=bytesT_two t
    refine ⟨t :: ls,by rw [r1,List.append_assoc];rfl,by rw [bytesL,List.length_append];omega,?_,by rw [fineL,q3,r4];rfl,by rw [depL];omega,by rw [WfL];exact ⟨q5,r6⟩,r7,fun h=>r8 (by omega)⟩
    rw [bytesL]
    refine q2.two ?_
    rw [← q1]
    exact r3
  ·rw [if_neg c] at h
   simp only [Except.ok.injEq,Prod.mk.injEq] at h
   obtain ⟨rfl,rfl⟩:=h
   exact ⟨[],by simp,by simp [bytesL],by rw [bytesL];exact PreAt.nil,by rw [fineL],by rw [depL];omega,by rw [WfL];trivial,hx,fun h=>by omega⟩
theorem head_of (x:Nat):headB ((x / 64:Nat):Int) ((x % 32:Nat):Int) (decide (x / 32 % 2=1))=(x:Int):=by
 unfold headB
 by_cases c:x / 32 % 2=1
 ·rw [decide_eq_true c,if_pos rfl];omega
 ·rw [decide_eq_false c,if_neg (by decide)];omega
theorem elem_ok {B:List Int} (b:byt B):∀ (d a en:Nat) (T:Tl) (z:Nat),en≤B.length→elemP B d a en=.ok (T,z)→ElOk B d a T z∧z≤en
 | 0,a,en,T,z,_,h=>by rw [elemP] at h;cases h
 | d + 1,a,en,T,z,he,h=>by
  rw [elemP] at h
  by_cases c1:en≤a
  ·rw [if_pos c1] at h;cases h
  rw [if_neg c1] at h
  by_cases c2:byN B a % 32=31
  ·rw [if_pos c2] at h;cases h
  rw [if_neg c2] at h
  cases hl:lenP B (a + 1) en with
  | error e=>rw [hl] at h;cases h
  | ok p =>
   obtain ⟨n,f⟩:=p
   rw [hl] at h
   simp only at h
   by_cases c3:en < f + n
   ·rw [if_pos c3] at h;cases h
   rw [if_neg c3] at h
   obtain ⟨p1,p2,p3,p4,p5⟩:=len_ok b hl
   have hb:byN B a < 256:=byN_lt b a
   have hh:=head_of (byN B a)
   by_cases c4:byN B a / 32 % 2=1
   ·rw [if_pos c4] at h
    rw [decide_eq_true c4] at hh
    cases hk:kidsP (elemP B d) (f + n) n f [] with
    | error e=>rw [hk] at h;cases h
    | ok p =>
     obtain ⟨ks,y⟩:=p
     rw [hk] at h
     simp only [Except.ok.injEq,Prod.mk.injEq] at h
     obtain ⟨rfl,rfl⟩:=h
     obtain ⟨ls,r1,r2,r3,r4,r5,r6,r7,r8⟩:=kids_ok (B:=B) (d:=d) (fun a T z hz=>elem_ok b d a (f + n) T z (by omega) hz) n f [] ks y hk (by omega)
     rw [List.nil_append] at r1
     subst r1
     have ez:=r8 (by omega)
     have en':(bytesL ks).length=n:=by omega
     refine ⟨⟨?_,?_,?_,?_,?_⟩,by omega⟩
     ·rw [bytesT_len,List.nil_append,en'];omega
     ·rw [bytesT,List.nil_append,en',hh]
      refine PreAt.cons (byN_int b a) (p5.two ?_)
      rw [← p3]
      exact r3
     ·rw [fineT,r4,Bool.and_true]
      unfold fine1
      simp
      omega
     ·rw [depT];omega
     ·rw [WfT]
      exact ⟨by omega,by omega,fun j=>by simp,r6⟩
   ·rw [if_neg c4] at h
    rw [decide_eq_false c4] at hh
    simp only [Except.ok.injEq,Prod.mk.injEq] at h
    obtain ⟨rfl,rfl⟩:=h
    obtain ⟨t1,t2⟩:=PreAt.of_take (B:=B) (a:=f) (n:=n) (by omega)
    refine ⟨⟨?_,?_,?_,?_,?_⟩,by omega⟩
    ·rw [bytesT_len,bytesL,List.append_nil,t2];omega
    ·rw [bytesT,bytesL,List.append_nil,t2,hh]
     refine PreAt.cons (byN_int b a) (p5.two ?_)
     rw [← p3]
     exact t1
    ·rw [fineT,fineL]
     unfold fine1
     simp
     omega
    ·rw [depT,depL];omega
    ·rw [WfT,WfL]
     exact ⟨by omega,by omega,byt_takeP b f n,trivial⟩
theorem fine1_more {c t:Int} {m:Bool} {b:List Int} {ks:List Tl} (h:fine1 c t m b ks=true):(m=true→b=[])∧(m=false→ks=[]):=by
 unfold fine1 at h
 simp only [Bool.and_eq_true,Bool.not_eq_true',Bool.and_eq_false_iff,decide_eq_false_iff_not,Bool.not_eq_false'] at h
 obtain ⟨⟨_,h1⟩,h2⟩:=h
 constructor
 ·intro e
  subst e
  rcases h1 with h1|h1
  ·cases h1
  ·exact List.eq_nil_of_length_eq_zero (by omega)
 ·intro e
  subst e
  rcases h2 with h2|h2
  ·cases h2
  ·exact List.eq_nil_of_length_eq_zero (by omega)
theorem kids_of {B:List Int} {d stop:Nat} {f:Nat→Nat→Except (Nat × Nat) (Tl × Nat)} (hf:∀ T a,fineT T=true→depT T≤d→(bytesT T).length < 16777216→PreAt B a (bytesT T)→a + (bytesT T).length≤stop→f a stop=.ok (T,a + (bytesT T).length)) :
  ∀ (ks:List Tl) (k x:Nat) (acc:List Tl),ks.length≤k→fineL ks=true→depL ks≤d→(bytesL ks).length < 16777216→PreAt B x (bytesL ks)→x + (bytesL ks).length=stop→kidsP f stop k x acc=.ok (acc++ks,stop)
 | [],k,x,acc,_,_,_,_,_,hs=>by
  rw [bytesL,List.length_nil,Nat.add_zero] at hs
  subst hs
  cases k with
  | zero=>rw [kidsP,List.append_nil]
  | succ k=>rw [kidsP,if_neg (by omega),List.append_nil]
 | t :: ks,0,x,acc,hk,_,_,_,_,_=>by simp at hk
 | t :: ks,k + 1,x,acc,hk,hfi,hd,hl,hp,hs=>by
  rw [bytesL,List.length_append] at hl hs
  rw [bytesL] at hp
  rw [fineL,Bool.and_eq_true] at hfi
  rw [depL] at hd
  have b2:=bytesT_two t
  rw [kidsP,if_pos (by omega),hf t x hfi.1 (by omega) (by omega) hp.left (by omega)]
  simp only
  rw [kids_of hf ks k (x + (bytesT t).length) (acc++[t]) (by simpa using hk) hfi.2 (by omega) (by omega) hp.right (by omega),List.append_assoc]
  rfl
/-- an element's bytes are read as it -/
theorem elem_of {B:List Int}:∀ (d:Nat) (T:Tl) (a en:Nat),en≤B.length→fineT T=true→depT T≤d→(bytesT T).length < 16777216→PreAt B a (bytesT T)→a + (bytesT T).length≤en→elemP B d a en=.ok (T,a + (bytesT T).length)
 | 0,.mk c t m b ks,a,en,_,_,hd,_,_,_=>by rw [depT] at hd;omega
 | d + 1,.mk c t m b ks,a,en,he,hfi,hd,hl,hp,hs=>by
  rw [fineT,Bool.and_eq_true] at hfi
  rw [depT] at hd
  have nums:=fine1_num hfi.1
  have more:=fine1_more hfi.1
  rw [bytesT_len] at hl hs ⊢
  rw [bytesT] at hp
  have lp:=lenB_pos (b++bytesL ks).length
  have h0:byN B a=(headB c t m).toNat:=by unfold byN;rw [hp.head]
  have hb:(byN B a:Int)=64 * c + t + (if m then 32 else 0):=by
   rw [h0]
   unfold headB
   split<;>omega
  have hlen:=len_of (B:=B) (a:=a + 1) (en:=en) hp.tail.left (by omega) (by omega)
  have hrest:=hp.tail.right
  rw [elemP,if_neg (by omega),if_neg (by cases m<;>simp at hb<;>omega),hlen]
  simp only
  obtain ⟨n,hn⟩:∃ n,(b++bytesL ks).length=n:=⟨_,rfl⟩
  rw [hn] at hl hs hlen hrest lp ⊢
  obtain ⟨e,hee⟩:∃ e,a + 1 + (lenB n).length=e:=⟨_,rfl⟩
  rw [hee] at hrest ⊢
  rw [if_neg (by omega)]
  cases m with
  | true =>
   have eb:=more.1 rfl
   subst eb
   rw [List.nil_append] at hn hrest
   simp at hb
   have b2:=bytesL_two ks
   rw [if_pos (by omega),kids_of (B:=B) (d:=d) (fun T a h1 h2 h3 h4 h5=>elem_of d T a (e + n) (by omega) h1 h2 h3 h4 h5) ks n e [] (by omega) hfi.2 (by omega) (by omega) hrest (by omega)]
   simp only [List.nil_append,Except.ok.injEq,Prod.mk.injEq,Tl.mk.injEq,and_true]
   refine ⟨⟨by omega,by omega⟩,by omega⟩
  | false =>
   have ek:=more.2 rfl
   subst ek
   rw [bytesL,List.append_nil] at hn hrest
   simp at hb
   rw [if_neg (by omega)]
   have ht:=hrest.take (by omega)
   rw [hn] at ht
   rw [ht]
   simp only [Except.ok.injEq,Prod.mk.injEq,Tl.mk.injEq,and_true]
   refine ⟨⟨by omega,by omega⟩,by omega⟩
/-- what is read whole is told by those bytes alone -/
theorem parse_ok {B:List Int} {T:Tl} (b:byt B) (h:parseP B=.ok T):bytesT T=B∧fineT T=true∧depT T≤16∧WfT T∧B.length≤1048576:=by
 unfold parseP at h
 by_cases c:1048576 < B.length
 ·rw [if_pos c] at h;cases h
 rw [if_neg c] at h
 cases hq:elemP B 16 0 B.length with
 | error e=>rw [hq] at h;cases h
 | ok p =>
  obtain ⟨U,z⟩:=p
  rw [hq] at h
  simp only at h
  by_cases c2:z < B.length
  ·rw [if_pos c2] at h;cases h
  rw [if_neg c2] at h
  simp only [Except.ok.injEq] at h
  subst h
  obtain ⟨⟨q1,q2,q3,q4,q5⟩,q6⟩:=elem_ok b 16 0 B.length U z (Nat.le_refl _) hq
  exact ⟨(q2.all (by omega)).symm,q3,q4,q5,by omega⟩
theorem pre_self (X Y:List Int):PreAt (X++Y) 0 X:=fun j hj=>by
 rw [Nat.zero_add,List.getD_eq_getElem?_getD,List.getElem?_append_left hj,← List.getD_eq_getElem?_getD]
/-- what is written is read as it was; with bytes behind, these are too many -/
theorem parse_of {T:Tl} {Y:List Int} (hf:fineT T=true) (hd:depT T≤16) (hl:(bytesT T++Y).length≤1048576):parseP (bytesT T++Y)=if Y.length=0 then .ok T else .error (8,(bytesT T).length):=by
 unfold parseP
 rw [if_neg (by omega)]
 have ll:(bytesT T++Y).length=(bytesT T).length + Y.length:=List.length_append
 rw [elem_of 16 T 0 (bytesT T++Y).length (Nat.le_refl _) hf hd (by omega) (pre_self _ _) (by omega),Nat.zero_add]
 simp only
 by_cases c:Y.length=0
 ·rw [if_neg (by omega),if_pos c]
 ·rw [if_pos (by omega),if_neg c]
theorem byt_catP {A B:List Int} (ha:byt A) (hb:byt B):byt (A++B):=fun j=>by
 rw [List.getD_eq_getElem?_getD,List.getElem?_append]
 split
 ·rw [← List.getD_eq_getElem?_getD];exact ha j
 ·rw [← List.getD_eq_getElem?_getD];exact hb _
theorem byt_consP {x:Int} {A:List Int} (hx:0≤x∧x < 256) (ha:byt A):byt (x :: A):=fun j=>by
 cases j with
 | zero=>exact hx
 | succ j=>rw [List.getD_cons_succ];exact ha j
theorem byt_nilP:byt []:=fun j=>by simp
theorem lenB_byt (n:Nat):byt (lenB n):=by
 unfold lenB
 split
 ·exact byt_consP (by omega) byt_nilP
 ·split
  ·exact byt_consP (by omega) (byt_consP (by omega) byt_nilP)
  ·split
   ·exact byt_consP (by omega) (byt_consP (by omega) (byt_consP (by omega) byt_nilP))
   ·exact byt_consP (by omega) (byt_consP (by omega) (byt_consP (by omega) (byt_consP (by omega) byt_nilP)))
mutual
theorem bytesT_byt:∀ {T:Tl},fineT T=true→WfT T→byt (bytesT T)
 | .mk c t m b ks,h,hw=>by
  rw [fineT,Bool.and_eq_true] at h
  rw [WfT] at hw
  have nums:=fine1_num h.1
  rw [bytesT]
  refine byt_consP ?_ (byt_catP (lenB_byt _) (byt_catP hw.2.2.1 (bytesL_byt h.2 hw.2.2.2)))
  unfold headB
  split<;>omega
theorem bytesL_byt:∀ {ks:List Tl},fineL ks=true→WfL ks→byt (bytesL ks)
 | [],_,_=>by rw [bytesL];exact byt_nilP
 | k :: ks,h,hw=>by
  rw [fineL,Bool.and_eq_true] at h
  rw [WfL] at hw
  rw [bytesL]
  exact byt_catP (bytesT_byt h.1 hw.1) (bytesL_byt h.2 hw.2)
end
end Go.Proofs.YtnkipgbnnhahbaaGreatDoor
