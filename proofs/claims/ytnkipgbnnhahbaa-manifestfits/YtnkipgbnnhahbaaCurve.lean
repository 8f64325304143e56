/- The points of the curve are a group: sums go either way round and in any order. Plain facts on numbers. -/
import Derived.Test.YtnkipgbnnhahbaaPNum
import Derived.Test.YtnkipgbnnhahbaaPrimeP
import Derived.Test.YtnkipgbnnhahbaaInvN
namespace Go.Proofs.Ytnkipgbnnhahbaa
/-- the prime divides it -/
def Nu (a : Int) : Prop := PP ∣ a
theorem Nu.add {a b : Int} (h : Nu a) (k : Nu b) : Nu (a + b) := Int.dvd_add h k
theorem Nu.sub {a b : Int} (h : Nu a) (k : Nu b) : Nu (a - b) := Int.dvd_sub h k
theorem Nu.mul {a : Int} (h : Nu a) (c : Int) : Nu (c * a) := Int.dvd_mul_of_dvd_right h
theorem Nu.neg {a : Int} (h : Nu a) : Nu (-a) := Int.dvd_neg.2 h
theorem nu_zero : Nu 0 := Int.dvd_zero _
theorem Nu.to {a b : Int} (h : Nu a) (e : b = a) : Nu b := e ▸ h
theorem nu_of1 {a0 : Int} {g : Int} (h0 : Nu a0) (c0 : Int) (e : g = c0 * a0) : Nu g := by rw [e]; exact (h0.mul c0)
theorem nu_of2 {a0 : Int} {a1 : Int} {g : Int} (h0 : Nu a0) (c0 : Int) (h1 : Nu a1) (c1 : Int) (e : g = c0 * a0 + c1 * a1) : Nu g := by rw [e]; exact ((h0.mul c0).add (h1.mul c1))
theorem nu_of3 {a0 : Int} {a1 : Int} {a2 : Int} {g : Int} (h0 : Nu a0) (c0 : Int) (h1 : Nu a1) (c1 : Int) (h2 : Nu a2) (c2 : Int) (e : g = c0 * a0 + c1 * a1 + c2 * a2) : Nu g := by rw [e]; exact (((h0.mul c0).add (h1.mul c1)).add (h2.mul c2))
theorem nu_of4 {a0 : Int} {a1 : Int} {a2 : Int} {a3 : Int} {g : Int} (h0 : Nu a0) (c0 : Int) (h1 : Nu a1) (c1 : Int) (h2 : Nu a2) (c2 : Int) (h3 : Nu a3) (c3 : Int) (e : g = c0 * a0 + c1 * a1 + c2 * a2 + c3 * a3) : Nu g := by rw [e]; exact ((((h0.mul c0).add (h1.mul c1)).add (h2.mul c2)).add (h3.mul c3))
theorem nu_of5 {a0 : Int} {a1 : Int} {a2 : Int} {a3 : Int} {a4 : Int} {g : Int} (h0 : Nu a0) (c0 : Int) (h1 : Nu a1) (c1 : Int) (h2 : Nu a2) (c2 : Int) (h3 : Nu a3) (c3 : Int) (h4 : Nu a4) (c4 : Int) (e : g = c0 * a0 + c1 * a1 + c2 * a2 + c3 * a3 + c4 * a4) : Nu g := by rw [e]; exact (((((h0.mul c0).add (h1.mul c1)).add (h2.mul c2)).add (h3.mul c3)).add (h4.mul c4))
theorem nu_of6 {a0 : Int} {a1 : Int} {a2 : Int} {a3 : Int} {a4 : Int} {a5 : Int} {g : Int} (h0 : Nu a0) (c0 : Int) (h1 : Nu a1) (c1 : Int) (h2 : Nu a2) (c2 : Int) (h3 : Nu a3) (c3 : Int) (h4 : Nu a4) (c4 : Int) (h5 : Nu a5) (c5 : Int) (e : g = c0 * a0 + c1 * a1 + c2 * a2 + c3 * a3 + c4 * a4 + c5 * a5) : Nu g := by rw [e]; exact ((((((h0.mul c0).add (h1.mul c1)).add (h2.mul c2)).add (h3.mul c3)).add (h4.mul c4)).add (h5.mul c5))
theorem nu_of7 {a0 : Int} {a1 : Int} {a2 : Int} {a3 : Int} {a4 : Int} {a5 : Int} {a6 : Int} {g : Int} (h0 : Nu a0) (c0 : Int) (h1 : Nu a1) (c1 : Int) (h2 : Nu a2) (c2 : Int) (h3 : Nu a3) (c3 : Int) (h4 : Nu a4) (c4 : Int) (h5 : Nu a5) (c5 : Int) (h6 : Nu a6) (c6 : Int) (e : g = c0 * a0 + c1 * a1 + c2 * a2 + c3 * a3 + c4 * a4 + c5 * a5 + c6 * a6) : Nu g := by rw [e]; exact (((((((h0.mul c0).add (h1.mul c1)).add (h2.mul c2)).add (h3.mul c3)).add (h4.mul c4)).add (h5.mul c5)).add (h6.mul c6))
theorem nu_of8 {a0 : Int} {a1 : Int} {a2 : Int} {a3 : Int} {a4 : Int} {a5 : Int} {a6 : Int} {a7 : Int} {g : Int} (h0 : Nu a0) (c0 : Int) (h1 : Nu a1) (c1 : Int) (h2 : Nu a2) (c2 : Int) (h3 : Nu a3) (c3 : Int) (h4 : Nu a4) (c4 : Int) (h5 : Nu a5) (c5 : Int) (h6 : Nu a6) (c6 : Int) (h7 : Nu a7) (c7 : Int) (e : g = c0 * a0 + c1 * a1 + c2 * a2 + c3 * a3 + c4 * a4 + c5 * a5 + c6 * a6 + c7 * a7) : Nu g := by rw [e]; exact ((((((((h0.mul c0).add (h1.mul c1)).add (h2.mul c2)).add (h3.mul c3)).add (h4.mul c4)).add (h5.mul c5)).add (h6.mul c6)).add (h7.mul c7))
theorem nu_of9 {a0 : Int} {a1 : Int} {a2 : Int} {a3 : Int} {a4 : Int} {a5 : Int} {a6 : Int} {a7 : Int} {a8 : Int} {g : Int} (h0 : Nu a0) (c0 : Int) (h1 : Nu a1) (c1 : Int) (h2 : Nu a2) (c2 : Int) (h3 : Nu a3) (c3 : Int) (h4 : Nu a4) (c4 : Int) (h5 : Nu a5) (c5 : Int) (h6 : Nu a6) (c6 : Int) (h7 : Nu a7) (c7 : Int) (h8 : Nu a8) (c8 : Int) (e : g = c0 * a0 + c1 * a1 + c2 * a2 + c3 * a3 + c4 * a4 + c5 * a5 + c6 * a6 + c7 * a7 + c8 * a8) : Nu g := by rw [e]; exact (((((((((h0.mul c0).add (h1.mul c1)).add (h2.mul c2)).add (h3.mul c3)).add (h4.mul c4)).add (h5.mul c5)).add (h6.mul c6)).add (h7.mul c7)).add (h8.mul c8))
theorem nu_of10 {a0 : Int} {a1 : Int} {a2 : Int} {a3 : Int} {a4 : Int} {a5 : Int} {a6 : Int} {a7 : Int} {a8 : Int} {a9 : Int} {g : Int} (h0 : Nu a0) (c0 : Int) (h1 : Nu a1) (c1 : Int) (h2 : Nu a2) (c2 : Int) (h3 : Nu a3) (c3 : Int) (h4 : Nu a4) (c4 : Int) (h5 : Nu a5) (c5 : Int) (h6 : Nu a6) (c6 : Int) (h7 : Nu a7) (c7 : Int) (h8 : Nu a8) (c8 : Int) (h9 : Nu a9) (c9 : Int) (e : g = c0 * a0 + c1 * a1 + c2 * a2 + c3 * a3 + c4 * a4 + c5 * a5 + c6 * a6 + c7 * a7 + c8 * a8 + c9 * a9) : Nu g := by rw [e]; exact ((((((((((h0.mul c0).add (h1.mul c1)).add (h2.mul c2)).add (h3.mul c3)).add (h4.mul c4)).add (h5.mul c5)).add (h6.mul c6)).add (h7.mul c7)).add (h8.mul c8)).add (h9.mul c9))
theorem nu_of11 {a0 : Int} {a1 : Int} {a2 : Int} {a3 : Int} {a4 : Int} {a5 : Int} {a6 : Int} {a7 : Int} {a8 : Int} {a9 : Int} {a10 : Int} {g : Int} (h0 : Nu a0) (c0 : Int) (h1 : Nu a1) (c1 : Int) (h2 : Nu a2) (c2 : Int) (h3 : Nu a3) (c3 : Int) (h4 : Nu a4) (c4 : Int) (h5 : Nu a5) (c5 : Int) (h6 : Nu a6) (c6 : Int) (h7 : Nu a7) (c7 : Int) (h8 : Nu a8) (c8 : Int) (h9 : Nu a9) (c9 : Int) (h10 : Nu a10) (c10 : Int) (e : g = c0 * a0 + c1 * a1 + c2 * a2 + c3 * a3 + c4 * a4 + c5 * a5 + c6 * a6 + c7 * a7 + c8 * a8 + c9 * a9 + c10 * a10) : Nu g := by rw [e]; exact (((((((((((h0.mul c0).add (h1.mul c1)).add (h2.mul c2)).add (h3.mul c3)).add (h4.mul c4)).add (h5.mul c5)).add (h6.mul c6)).add (h7.mul c7)).add (h8.mul c8)).add (h9.mul c9)).add (h10.mul c10))
theorem PP_nat' : PP = ((39402006196394479212279040100143613805079739270465446667948293404245721771496870329047266088258938001861606973112319 : Nat) : Int) := by decide
theorem Nu.split {a b : Int} (h : Nu (a * b)) : Nu a ∨ Nu b := by
  unfold Nu at h ⊢
  rw [PP_nat'] at h ⊢
  rw [Int.ofNat_dvd_left] at h ⊢
  rw [Int.ofNat_dvd_left]
  rw [Int.natAbs_mul] at h
  exact pr_P.split h
theorem Nu.left {a b : Int} (h : Nu (a * b)) (k : ¬ Nu b) : Nu a := h.split.resolve_right k
theorem nu_iff {a : Int} : Nu a ↔ a % PP = 0 := ⟨Int.emod_eq_zero_of_dvd, Int.dvd_of_emod_eq_zero⟩
theorem nu_emod (a : Int) : Nu (a % PP - a) := by
  rw [nu_iff, Int.sub_emod, Int.emod_emod, Int.sub_self, Int.zero_emod]
theorem nu_eq {a b : Int} (h : Nu (a - b)) : a % PP = b % PP := Int.emod_eq_emod_iff_emod_sub_eq_zero.2 (nu_iff.1 h)
/-- below the prime -/
def Lo (a : Int) : Prop := 0 ≤ a ∧ a < PP
theorem lo_emod (a : Int) : Lo (a % PP) := ⟨Int.emod_nonneg _ (by decide), Int.emod_lt_of_pos _ PP_pos⟩
theorem Lo.emod {a : Int} (h : Lo a) : a % PP = a := Int.emod_eq_of_lt h.1 h.2
theorem Lo.eq {a b : Int} (h : Lo a) (k : Lo b) (e : Nu (a - b)) : a = b := by
  have := nu_eq e
  rwa [h.emod, k.emod] at this
theorem Lo.is {a b : Int} (h : Lo a) (e : Nu (a - b)) : b % PP = a := by
  have := nu_eq e
  rw [h.emod] at this; exact this.symm
/-- what makes 1 of a number -/
def pinv (d : Int) : Int := d ^ 39402006196394479212279040100143613805079739270465446667948293404245721771496870329047266088258938001861606973112317 % PP
theorem pinv_ok {d : Int} (h0 : 0 ≤ d) (h : ¬ Nu d) : Nu (d * pinv d - 1) := by
  have z : pinv d = d ^ 39402006196394479212279040100143613805079739270465446667948293404245721771496870329047266088258938001861606973112317 % PP := rfl
  generalize pinv d = z' at *
  have e1 : ¬ d % PP = 0 := fun k => h (nu_iff.2 k)
  have e2 : d * z' % PP = 1 := by
    rw [PP_nat'] at z e1 ⊢
    exact (inv_gen pr_P (by decide +kernel) (by decide +kernel) h0 z).2 e1
  rw [nu_iff, Int.sub_emod, e2]; decide
theorem div_ex {d : Int} (c : Int) (h : ¬ Nu d) : ∃ k, Nu (k * d - c) := by
  have hd : ¬ Nu (d % PP) := fun k => h (nu_iff.2 (by rw [← Int.emod_emod]; exact nu_iff.1 k))
  have i := pinv_ok (lo_emod d).1 hd
  have e := nu_emod d
  generalize d % PP = D at *
  generalize pinv D = I at *
  exact ⟨c * I, nu_of2 e (0 - c * I) i c (by grind)⟩
/-- the curve's number -/
def BB : Int := 27580193559959705877849011840389048093056905856361568521428707301988689241309860865136260764883745107765439761230575
/-- x and y, below the prime, of the curve -/
structure Aff (x y : Int) : Prop where
  lx : Lo x
  ly : Lo y
  cu : Nu (y * y - (x * x * x - 3 * x + BB))
/-- l is the slope of the line through two places (the tangent's, if they are one) -/
structure SlR (x1 y1 x2 y2 l : Int) : Prop where
  one : Nu (y1 - y2 - l * (x1 - x2))
  two : Nu (l * (y1 + y2) - (x1 * x1 + x1 * x2 + x2 * x2 - 3))
/-- opposite places -/
def Opp (x1 y1 x2 y2 : Int) : Prop := x1 = x2 ∧ (y1 + y2) % PP = 0
theorem nu_two : ¬ Nu 2 := by unfold Nu; decide +kernel
theorem nu_three : ¬ Nu 3 := by unfold Nu; decide +kernel
theorem nu_dis : ¬ Nu (BB * BB - 4) := by unfold Nu; decide +kernel
/-- no place has no tangent -/
theorem smooth {x y : Int} (h : Nu (y * y - (x * x * x - 3 * x + BB))) (h1 : Nu (y + y)) (h2 : Nu (3 * (x * x) - 3)) : False := by
  have k1 : Nu y := (Nu.to h1 (show y * 2 = y + y by omega)).left nu_two
  have k2 : Nu (x * x - 1) := (Nu.to h2 (show (x * x - 1) * 3 = 3 * (x * x) - 3 by omega)).left nu_three
  have k3 : Nu (BB - 2 * x) := nu_of3 h (-1) k1 y k2 (-x) (by grind)
  exact nu_dis (nu_of2 k3 (BB + 2 * x) k2 4 (by grind))
/-- the slope, as the document has it -/
def slope (x1 y1 x2 y2 : Int) : Int :=
  if x1 = x2 then ((3 * (x1 * x1) - 3) % PP * pinv ((y1 + y1) % PP)) % PP else ((y2 - y1) % PP * pinv ((x2 - x1) % PP)) % PP
/-- points -/
abbrev Pt := Option (Int × Int)
/-- the sum of points, as the document has it -/
def cadd : Pt → Pt → Pt
  | none, q => q
  | some p, none => some p
  | some p, some q =>
    if p.1 = q.1 ∧ (p.2 + q.2) % PP = 0 then none
    else some ((slope p.1 p.2 q.1 q.2 * slope p.1 p.2 q.1 q.2 - p.1 - q.1) % PP, (slope p.1 p.2 q.1 q.2 * (p.1 - (slope p.1 p.2 q.1 q.2 * slope p.1 p.2 q.1 q.2 - p.1 - q.1) % PP) - p.2) % PP)
/-- the opposite point -/
def cneg : Pt → Pt
  | none => none
  | some p => some (p.1, (0 - p.2) % PP)
/-- a point of the curve -/
def OnC : Pt → Prop
  | none => True
  | some p => Aff p.1 p.2
theorem mulinv {A D i s n d : Int} (hA : Nu (A - n)) (hD : Nu (D - d)) (hi : Nu (D * i - 1)) (hs : Nu (s - A * i)) : Nu (s * d - n) :=
  nu_of4 hs d hD (0 - A * i) hi A hA 1 (by grind)
theorem not_emod {d : Int} (h : ¬ Nu d) : ¬ Nu (d % PP) := fun k => h (nu_iff.2 (by rw [← Int.emod_emod]; exact nu_iff.1 k))
theorem sub_not {a b : Int} (ha : Lo a) (hb : Lo b) (h : ¬ a = b) : ¬ Nu (b - a) := fun k => h (hb.eq ha k).symm
theorem slope_ok {x1 y1 x2 y2 : Int} (A1 : Aff x1 y1) (A2 : Aff x2 y2) (hn : ¬ Opp x1 y1 x2 y2) : SlR x1 y1 x2 y2 (slope x1 y1 x2 y2) := by
  unfold slope
  by_cases hx : x1 = x2
  · subst hx
    rw [if_pos rfl]
    have hs : ¬ Nu (y1 + y2) := fun k => hn ⟨rfl, nu_iff.1 k⟩
    have hd : Nu ((y1 - y2) * (y1 + y2)) := nu_of2 A1.cu 1 A2.cu (-1) (by grind)
    have e : y1 = y2 := A1.ly.eq A2.ly (hd.left hs)
    subst e
    have r := mulinv (nu_emod (3 * (x1 * x1) - 3)) (nu_emod (y1 + y1)) (pinv_ok (lo_emod _).1 (not_emod hs)) (nu_emod ((3 * (x1 * x1) - 3) % PP * pinv ((y1 + y1) % PP)))
    generalize (3 * (x1 * x1) - 3) % PP * pinv ((y1 + y1) % PP) % PP = s at *
    exact ⟨Nu.to nu_zero (by grind), Nu.to r (by grind)⟩
  · rw [if_neg hx]
    have hs := sub_not A1.lx A2.lx hx
    have r := mulinv (nu_emod (y2 - y1)) (nu_emod (x2 - x1)) (pinv_ok (lo_emod _).1 (not_emod hs)) (nu_emod ((y2 - y1) % PP * pinv ((x2 - x1) % PP)))
    generalize (y2 - y1) % PP * pinv ((x2 - x1) % PP) % PP = s at *
    refine ⟨Nu.to r (by grind), ?_⟩
    have q : Nu ((s * (y1 + y2) - (x1 * x1 + x1 * x2 + x2 * x2 - 3)) * (x2 - x1)) := nu_of3 r (y1 + y2) A1.cu (-1) A2.cu 1 (by grind)
    exact q.left hs
theorem slope_one {x1 y1 x2 y2 l m : Int} (A1 : Aff x1 y1) (A2 : Aff x2 y2) (hn : ¬ Opp x1 y1 x2 y2) (hl : SlR x1 y1 x2 y2 l) (hm : SlR x1 y1 x2 y2 m) : Nu (l - m) := by
  by_cases hx : x1 = x2
  · have hs : ¬ Nu (y1 + y2) := fun k => hn ⟨hx, nu_iff.1 k⟩
    have q : Nu ((l - m) * (y1 + y2)) := nu_of2 hl.two 1 hm.two (-1) (by grind)
    exact q.left hs
  · have hs := sub_not A1.lx A2.lx hx
    have q : Nu ((l - m) * (x2 - x1)) := nu_of2 hl.one 1 hm.one (-1) (by grind)
    exact q.left hs
/-- the sum, told by any slope -/
theorem add_is {x1 y1 x2 y2 l x y : Int} (A1 : Aff x1 y1) (A2 : Aff x2 y2) (hn : ¬ Opp x1 y1 x2 y2) (S : SlR x1 y1 x2 y2 l) (lx : Lo x) (ly : Lo y) (hx : Nu (x - (l * l - x1 - x2))) (hy : Nu (y - (l * (x1 - x) - y1))) :
    cadd (some (x1, y1)) (some (x2, y2)) = some (x, y) := by
  have e := slope_one A1 A2 hn (slope_ok A1 A2 hn) S
  simp only [cadd]
  rw [if_neg (show ¬ (x1 = x2 ∧ (y1 + y2) % PP = 0) from hn)]
  generalize slope x1 y1 x2 y2 = s at *
  have ex : (s * s - x1 - x2) % PP = x := lx.is (nu_of2 hx 1 e (0 - s - l) (by grind))
  simp only [ex]
  have ey : (s * (x1 - x) - y1) % PP = y := ly.is (nu_of2 hy 1 e (x - x1) (by grind))
  rw [ey]
theorem on_line {x1 y1 x2 y2 l x y : Int} (c : Nu (y1 * y1 - (x1 * x1 * x1 - 3 * x1 + BB))) (S : SlR x1 y1 x2 y2 l) (hx : Nu (x - (l * l - x1 - x2))) (hy : Nu (y - (l * (x1 - x) - y1))) : Nu (y * y - (x * x * x - 3 * x + BB)) := by
  have h1 := S.one
  have h2 := S.two
  exact nu_of5 c (1) h1 (l * l * l - l * x2 - 2 * l * x1) h2 (l * l - x2 - 2 * x1) hx (3 - x * x - x1 * x1 - x2 * x2 + x * x1 + x * x2 + x2 * l * l - x1 * l * l - 2 * x1 * x2 + 2 * l * y1) hy (y - y1 + l * x1 - l * x) (by grind)
theorem add_fin {x1 y1 x2 y2 : Int} (A1 : Aff x1 y1) (A2 : Aff x2 y2) (hn : ¬ Opp x1 y1 x2 y2) :
    ∃ l x y, SlR x1 y1 x2 y2 l ∧ Aff x y ∧ Nu (x - (l * l - x1 - x2)) ∧ Nu (y - (l * (x1 - x) - y1)) ∧ cadd (some (x1, y1)) (some (x2, y2)) = some (x, y) := by
  have S := slope_ok A1 A2 hn
  generalize slope x1 y1 x2 y2 = l at S
  have hx := nu_emod (l * l - x1 - x2)
  have lx := lo_emod (l * l - x1 - x2)
  generalize (l * l - x1 - x2) % PP = x at *
  have hy := nu_emod (l * (x1 - x) - y1)
  have ly := lo_emod (l * (x1 - x) - y1)
  generalize (l * (x1 - x) - y1) % PP = y at *
  exact ⟨l, x, y, S, ⟨lx, ly, on_line A1.cu S hx hy⟩, hx, hy, add_is A1 A2 hn S lx ly hx hy⟩
theorem add_opp {x1 y1 x2 y2 : Int} (h : Opp x1 y1 x2 y2) : cadd (some (x1, y1)) (some (x2, y2)) = none := by
  simp only [cadd]
  rw [if_pos (show x1 = x2 ∧ (y1 + y2) % PP = 0 from h)]
theorem on_add {P Q : Pt} (hP : OnC P) (hQ : OnC Q) : OnC (cadd P Q) := by
  match P, Q, hP, hQ with
  | none, Q, _, h => exact h
  | some p, none, h, _ => exact h
  | some (x1, y1), some (x2, y2), h1, h2 =>
    by_cases h : Opp x1 y1 x2 y2
    · rw [add_opp h]; trivial
    · obtain ⟨l, x, y, _, A, _, _, e⟩ := add_fin h1 h2 h
      rw [e]; exact A
theorem neg_aff {x y : Int} (h : Aff x y) : Aff x ((0 - y) % PP) := by
  refine ⟨h.lx, lo_emod _, ?_⟩
  have e := nu_emod (0 - y)
  generalize (0 - y) % PP = z at *
  exact nu_of2 h.cu 1 e (z - y) (by grind)
theorem on_neg {P : Pt} (h : OnC P) : OnC (cneg P) := by
  match P, h with
  | none, _ => trivial
  | some (x, y), h => exact neg_aff h
theorem neg_neg {P : Pt} (h : OnC P) : cneg (cneg P) = P := by
  match P, h with
  | none, _ => rfl
  | some (x, y), h =>
    show some (x, (0 - (0 - y) % PP) % PP) = some (x, y)
    have e := nu_emod (0 - y)
    generalize (0 - y) % PP = z at *
    rw [h.ly.is (nu_of1 e 1 (by grind))]
theorem opp_comm {x1 y1 x2 y2 : Int} (h : Opp x1 y1 x2 y2) : Opp x2 y2 x1 y1 := ⟨h.1.symm, by rw [Int.add_comm]; exact h.2⟩
theorem slr_comm {x1 y1 x2 y2 l : Int} (h : SlR x1 y1 x2 y2 l) : SlR x2 y2 x1 y1 l := ⟨nu_of1 h.one (-1) (by grind), Nu.to h.two (by grind)⟩
theorem add_comm' {P Q : Pt} (hP : OnC P) (hQ : OnC Q) : cadd P Q = cadd Q P := by
  match P, Q, hP, hQ with
  | none, none, _, _ => rfl
  | none, some _, _, _ => rfl
  | some _, none, _, _ => rfl
  | some (x1, y1), some (x2, y2), h1, h2 =>
    by_cases h : Opp x1 y1 x2 y2
    · rw [add_opp h, add_opp (opp_comm h)]
    · obtain ⟨l, x, y, S, A, hx, hy, e⟩ := add_fin h1 h2 h
      rw [e]
      refine (add_is h2 h1 (fun k => h (opp_comm k)) (slr_comm S) A.lx A.ly (Nu.to hx (by grind)) ?_).symm
      exact nu_of2 hy 1 S.one (-1) (by grind)
theorem opp_neg {x1 y1 x2 y2 : Int} (A2 : Aff x2 y2) (h : Opp x1 y1 x2 y2) : some (x2, y2) = cneg (some (x1, y1)) := by
  show some (x2, y2) = some (x1, (0 - y1) % PP)
  rw [h.1, A2.ly.is (nu_of1 (nu_iff.2 h.2) 1 (by grind))]
theorem neg_opp {x y : Int} : Opp x y x ((0 - y) % PP) := ⟨rfl, nu_iff.1 (nu_of1 (nu_emod (0 - y)) 1 (by grind))⟩
theorem add_neg {P : Pt} : cadd P (cneg P) = none := by
  match P with
  | none => rfl
  | some (x, y) => exact add_opp neg_opp
/-- what was added is taken off again -/
theorem cancel {P Q : Pt} (hP : OnC P) (hQ : OnC Q) : cadd (cadd P Q) (cneg Q) = P := by
  match P, Q, hP, hQ with
  | none, Q, _, _ => exact add_neg
  | some _, none, _, _ => rfl
  | some (x1, y1), some (x2, y2), h1, h2 =>
    by_cases h : Opp x1 y1 x2 y2
    · rw [add_opp h]
      exact (opp_neg h1 (opp_comm h)).symm
    · obtain ⟨l, u, yu, S, A, hu, gu, e⟩ := add_fin h1 h2 h
      rw [e]
      show cadd (some (u, yu)) (some (x2, (0 - y2) % PP)) = some (x1, y1)
      have B := neg_aff h2
      have ez := nu_emod (0 - y2)
      have s1 := S.one
      have s2 := S.two
      generalize (0 - y2) % PP = z at *
      have hn : ¬ Opp u yu x2 z := by
        intro k
        obtain ⟨rfl, k2⟩ := k
        have k2 := nu_iff.2 k2
        have q1 : Nu (y2 + y2) := nu_of4 s1 (0 - 1) gu (1) ez (1) k2 (0 - 1) (by grind)
        have q2 : Nu (3 * (u * u) - 3) := nu_of5 s2 (0 - 1) hu (u - x1) gu (l) ez (l) k2 (0 - l) (by grind)
        exact smooth h2.cu q1 q2
      have T : SlR u yu x2 z (-l) := ⟨nu_of3 s1 (0 - 1) gu (1) ez (0 - 1) (by grind), nu_of4 s2 (1) hu (x1 - u) gu (0 - l) ez (0 - l) (by grind)⟩
      exact add_is A B hn T h1.lx h1.ly (nu_of1 hu 1 (by grind)) (nu_of1 gu (1) (by grind))
theorem neg_add {P Q : Pt} (hP : OnC P) (hQ : OnC Q) : cneg (cadd P Q) = cadd (cneg P) (cneg Q) := by
  match P, Q, hP, hQ with
  | none, Q, _, _ => rfl
  | some _, none, _, _ => rfl
  | some (x1, y1), some (x2, y2), h1, h2 =>
    show cneg (cadd (some (x1, y1)) (some (x2, y2))) = cadd (some (x1, (0 - y1) % PP)) (some (x2, (0 - y2) % PP))
    have B1 := neg_aff h1
    have B2 := neg_aff h2
    have e1 := nu_emod (0 - y1)
    have e2 := nu_emod (0 - y2)
    generalize (0 - y1) % PP = z1 at *
    generalize (0 - y2) % PP = z2 at *
    by_cases h : Opp x1 y1 x2 y2
    · rw [add_opp h, add_opp ⟨h.1, nu_iff.1 (nu_of3 (nu_iff.2 h.2) (-1) e1 1 e2 1 (by grind))⟩]
      rfl
    · obtain ⟨l, x, y, S, A, hx, hy, e⟩ := add_fin h1 h2 h
      have s1 := S.one
      have s2 := S.two
      have hn : ¬ Opp x1 z1 x2 z2 := fun k => h ⟨k.1, nu_iff.1 (nu_of3 (nu_iff.2 k.2) (-1) e1 1 e2 1 (by grind))⟩
      have T : SlR x1 z1 x2 z2 (-l) := ⟨nu_of3 e1 1 e2 (-1) s1 (-1) (by grind), nu_of3 e1 (-l) e2 (-l) s2 1 (by grind)⟩
      rw [e]
      show some (x, (0 - y) % PP) = _
      have ez := nu_emod (0 - y)
      have C := neg_aff A
      generalize (0 - y) % PP = z at *
      exact (add_is B1 B2 hn T A.lx C.ly (nu_of1 hx 1 (by grind)) (nu_of3 ez 1 hy (-1) e1 1 (by grind))).symm
/-- sums go in any order, where none of them is the one at infinity -/
theorem assoc_fin {x1 y1 x2 y2 x3 y3 u yu v yv l m : Int} (A1 : Aff x1 y1) (A3 : Aff x3 y3) (AU : Aff u yu) (AV : Aff v yv) (S : SlR x1 y1 x2 y2 l) (T : SlR x2 y2 x3 y3 m)
    (hu : Nu (u - (l * l - x1 - x2))) (gu : Nu (yu - (l * (x1 - u) - y1))) (hv : Nu (v - (m * m - x2 - x3))) (gv : Nu (yv - (m * (x2 - v) - y2)))
    (n1 : ¬ Opp u yu x3 y3) (n2 : ¬ Opp x1 y1 v yv) (hlm : ¬ Nu (l - m)) : cadd (some (u, yu)) (some (x3, y3)) = cadd (some (x1, y1)) (some (v, yv)) := by
  obtain ⟨k, hk⟩ := div_ex (x3 - x1) hlm
  have h1 := S.one
  have h2 := S.two
  have h3 := T.one
  have h4 := T.two
  have ga : Nu ((yu - y3 - -(l + k) * (u - x3)) * (l - m)) := nu_of7 h1 (m) h2 (0 - 1) h3 (l) h4 (1) hk (l * l - x1 - x2 - x3) hu (k * l - k * m) gu (l - m) (by grind)
  have gb : Nu ((-(l + k) * (yu + y3) - (u * u + u * x3 + x3 * x3 - 3)) * (l - m)) := nu_of7 h1 (l * l + k * l - k * m) h2 (0 - m) h3 (l * l + k * l - k * m) h4 (l) hk (l * l * l + m * x2 - l * x1 - m * x3 - 2 * l * x2) hu (k * l * l + l * x1 + l * x2 + m * u + m * x3 - l * u - l * x3 - m * x1 - m * x2 - k * l * m) gu (0 - l * l + k * m + l * m - k * l) (by grind)
  have gc : Nu ((y1 - yv - -(m + k) * (x1 - v)) * (l - m)) := nu_of7 h1 (0 - m) h2 (1) h3 (0 - m) h4 (0 - 1) hk (x1 + x2 + x3 - m * m) hv (k * m - k * l) gv (m - l) (by grind)
  have gd : Nu ((-(m + k) * (y1 + yv) - (x1 * x1 + x1 * v + v * v - 3)) * (l - m)) := nu_of7 h1 (m * m + k * m - k * l) h2 (0 - m) h3 (l * m) h4 (l) hk (m * m * m + l * x2 - l * x1 - m * x3 - 2 * m * x2) hv (l * x2 + l * x3 + m * v + m * x1 - k * m * m - l * v - l * x1 - m * x2 - m * x3 + k * l * m) gv (m * m + k * m - k * l - l * m) (by grind)
  have R1 : SlR u yu x3 y3 (-(l + k)) := ⟨ga.left hlm, gb.left hlm⟩
  have R2 : SlR x1 y1 v yv (-(m + k)) := ⟨gc.left hlm, gd.left hlm⟩
  obtain ⟨r, wx, wy, R, AW, hw0, gw0, e⟩ := add_fin AU A3 n1
  have er := slope_one AU A3 n1 R R1
  have hw : Nu (wx - ((l + k) * (l + k) - u - x3)) := nu_of2 hw0 1 er (r - l - k) (by grind)
  have gw : Nu (wy - (-(l + k) * (u - wx) - yu)) := nu_of2 gw0 1 er (u - wx) (by grind)
  clear ga gb gc gd hw0 gw0 er R R1
  rw [e]
  have ex : Nu (wx - (-(m + k) * -(m + k) - x1 - v)) := nu_of4 hk (2) hu (0 - 1) hv (1) hw (1) (by grind)
  have ey : Nu ((wy - (-(m + k) * (x1 - wx) - y1)) * (l - m)) := nu_of9 h1 (l - 2 * m) h2 (1) h3 (0 - m) h4 (0 - 1) hk (x1 + x2 + x3 + l * l + k * l - k * m - 2 * l * m) hu (0 - l * l - m * m + k * m - k * l + 2 * l * m) gu (m - l) hw (l * l + m * m - 2 * l * m) gw (l - m) (by grind)
  exact (add_is A1 AV n2 R2 AW.lx AW.ly ex (ey.left hlm)).symm
/-- sums go in any order -/
theorem assoc {P Q R : Pt} (hP : OnC P) (hQ : OnC Q) (hR : OnC R) : cadd (cadd P Q) R = cadd P (cadd Q R) := by
  match P, Q, R, hP, hQ, hR with
  | none, _, _, _, _, _ => rfl
  | some _, none, _, _, _, _ => rfl
  | some (x1, y1), some (x2, y2), none, h1, h2, _ =>
    show cadd (cadd _ _) none = cadd _ (some (x2, y2))
    generalize cadd (some (x1, y1)) (some (x2, y2)) = T
    cases T <;> rfl
  | some (x1, y1), some (x2, y2), some (x3, y3), h1, h2, h3 =>
    have h1 : Aff x1 y1 := h1
    have h2 : Aff x2 y2 := h2
    have h3 : Aff x3 y3 := h3
    have o1 : OnC (some (x1, y1)) := h1
    have o2 : OnC (some (x2, y2)) := h2
    have o3 : OnC (some (x3, y3)) := h3
    by_cases n12 : Opp x1 y1 x2 y2
    · rw [add_opp n12, opp_neg h2 n12]
      show some (x3, y3) = _
      have c := cancel o3 (on_neg o1)
      rw [neg_neg o1] at c
      rw [add_comm' (on_neg o1) o3, add_comm' o1 (on_add o3 (on_neg o1))]
      exact c.symm
    by_cases n23 : Opp x2 y2 x3 y3
    · rw [add_opp n23, opp_neg h3 n23]
      exact cancel o1 o2
    obtain ⟨l, u, yu, S, AU, hu, gu, eU⟩ := add_fin h1 h2 n12
    obtain ⟨m, v, yv, T, AV, hv, gv, eV⟩ := add_fin h2 h3 n23
    have oU : OnC (some (u, yu)) := AU
    have oV : OnC (some (v, yv)) := AV
    by_cases n1 : Opp u yu x3 y3
    · have e3 := opp_neg h3 n1
      rw [eU, add_opp n1, e3, ← eU, neg_add o1 o2]
      have c := cancel (on_neg o1) (on_neg o2)
      rw [neg_neg o2] at c
      rw [add_comm' o2 (on_add (on_neg o1) (on_neg o2)), c]
      exact add_neg.symm
    by_cases n2 : Opp x1 y1 v yv
    · have e1 := opp_neg h1 (opp_comm n2)
      rw [eV, add_opp n2, e1, ← eV, neg_add o2 o3]
      have c := cancel (on_neg o3) (on_neg o2)
      rw [neg_neg o2] at c
      rw [add_comm' (on_neg o2) (on_neg o3), c, add_comm' (on_neg o3) o3]
      exact add_neg
    by_cases hlm : Nu (l - m)
    · have s1 := S.one
      have s2 := S.two
      have t1 := T.one
      have t2 := T.two
      have q : Nu ((x1 - x3) * (x1 + x2 + x3 - l * l)) := nu_of5 hlm (2 * y2 + l * x3 + m * x3 - l * x2 - m * x2) s1 (l) s2 (0 - 1) t1 (m) t2 (1) (by grind)
      rcases q.split with q1 | q1
      · have e1 : x1 = x3 := h1.lx.eq h3.lx q1
        subst e1
        have e2 : y1 = y3 := h1.ly.eq h3.ly (nu_of3 hlm (x1 - x2) s1 (1) t1 (1) (by grind))
        subst e2
        rw [add_comm' o1 (on_add o2 o1), add_comm' o2 o1]
      · have e1 : u = x3 := AU.lx.eq h3.lx (nu_of2 hu 1 q1 (-1) (by grind))
        subst e1
        exact absurd ⟨rfl, nu_iff.1 (nu_of4 hlm (x2 - u) s1 (0 - 1) t1 (0 - 1) gu (1) (by grind))⟩ n1
    · rw [eU, eV]
      exact assoc_fin h1 h3 AU AV S T hu gu hv gv n1 n2 hlm
end Go.Proofs.Ytnkipgbnnhahbaa
