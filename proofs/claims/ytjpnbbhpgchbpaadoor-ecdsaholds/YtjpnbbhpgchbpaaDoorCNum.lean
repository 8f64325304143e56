/- The points of the curve are a group: sums go either way round and in any order. Plain facts on numbers. No place of the curve has y = 0: the curve's cubic has no root by the prime. Plain facts on numbers. Multiples of points: plain facts on numbers. The order times the base point is the one at infinity: plain facts on numbers. Multiples by bits, and modulo the order: plain facts. -/
import Derived.Test.YtjpnbbhpgchbpaaDoorMath
namespace Go.Proofs.YtjpnbbhpgchbpaaDoor

/-- the prime divides it -/
def Nu (a : Int) : Prop := PP ∣ a

theorem Nu.add {a b : Int} (h : Nu a) (k : Nu b) : Nu (a + b) := Int.dvd_add h k
theorem Nu.sub {a b : Int} (h : Nu a) (k : Nu b) : Nu (a - b) := Int.dvd_sub h k
theorem Nu.mul {a : Int} (h : Nu a) (c : Int) : Nu (c * a) := Int.dvd_mul_of_dvd_right h
theorem Nu.neg {a : Int} (h : Nu a) : Nu (-a) := Int.dvd_neg.2 h
theorem nu_zero : Nu 0 := Int.dvd_zero _
theorem Nu.to {a b : Int} (h : Nu a) (e : b = a) : Nu b := e ▸ h
theorem nu_of1 {a0 : Int} {g : Int} (h0 : Nu a0) (c0 : Int) (e : g = c0 * a0) : Nu g := by rw [e]; exact (h0.mul c0)
theorem nu_of2 {a0 : Int} {a1 : Int} {g : Int} (h0 : Nu a0) (c0 : Int) (h1 : Nu a1) (c1 : Int) (e : g = c0 * a0 + c1 * a1) : Nu g := by rw [e]; exact ((h0.mul c0).add (h1.mul c1))
theorem nu_of3 {a0 : Int} {a1 : Int} {a2 : Int} {g : Int} (h0 : Nu a0) (c0 : Int) (h1 : Nu a1) (c1 : Int) (h2 : Nu a2) (c2 : Int) (e : g = c0 * a0 + c1 * a1 + c2 * a2) : Nu g := by rw [e]; exact (((h0.mul c0).add (h1.mul c1)).add (h2.mul c2))
theorem nu_of4 {a0 : Int} {a1 : Int} {a2 : Int} {a3 : Int} {g : Int} (h0 : Nu a0) (c0 : Int) (h1 : Nu a1) (c1 : Int) (h2 : Nu a2) (c2 : Int) (h3 : Nu a3) (c3 : Int) (e : g = c0 * a0 + c1 * a1 + c2 * a2 + c3 * a3) : Nu g := by rw [e]; exact ((((h0.mul c0).add (h1.mul c1)).add (h2.mul c2)).add (h3.mul c3))
theorem nu_of5 {a0 : Int} {a1 : Int} {a2 : Int} {a3 : Int} {a4 : Int} {g : Int} (h0 : Nu a0) (c0 : Int) (h1 : Nu a1) (c1 : Int) (h2 : Nu a2) (c2 : Int) (h3 : Nu a3) (c3 : Int) (h4 : Nu a4) (c4 : Int) (e : g = c0 * a0 + c1 * a1 + c2 * a2 + c3 * a3 + c4 * a4) : Nu g := by rw [e]; exact (((((h0.mul c0).add (h1.mul c1)).add (h2.mul c2)).add (h3.mul c3)).add (h4.mul c4))
theorem nu_of6 {a0 : Int} {a1 : Int} {a2 : Int} {a3 : Int} {a4 : Int} {a5 : Int} {g : Int} (h0 : Nu a0) (c0 : Int) (h1 : Nu a1) (c1 : Int) (h2 : Nu a2) (c2 : Int) (h3 : Nu a3) (c3 : Int) (h4 : Nu a4) (c4 : Int) (h5 : Nu a5) (c5 : Int) (e : g = c0 * a0 + c1 * a1 + c2 * a2 + c3 * a3 + c4 * a4 + c5 * a5) : Nu g := by rw [e]; exact ((((((h0.mul c0).add (h1.mul c1)).add (h2.mul c2)).add (h3.mul c3)).add (h4.mul c4)).add (h5.mul c5))
theorem nu_of7 {a0 : Int} {a1 : Int} {a2 : Int} {a3 : Int} {a4 : Int} {a5 : Int} {a6 : Int} {g : Int} (h0 : Nu a0) (c0 : Int) (h1 : Nu a1) (c1 : Int) (h2 : Nu a2) (c2 : Int) (h3 : Nu a3) (c3 : Int) (h4 : Nu a4) (c4 : Int) (h5 : Nu a5) (c5 : Int) (h6 : Nu a6) (c6 : Int) (e : g = c0 * a0 + c1 * a1 + c2 * a2 + c3 * a3 + c4 * a4 + c5 * a5 + c6 * a6) : Nu g := by rw [e]; exact (((((((h0.mul c0).add (h1.mul c1)).add (h2.mul c2)).add (h3.mul c3)).add (h4.mul c4)).add (h5.mul c5)).add (h6.mul c6))
theorem nu_of8 {a0 : Int} {a1 : Int} {a2 : Int} {a3 : Int} {a4 : Int} {a5 : Int} {a6 : Int} {a7 : Int} {g : Int} (h0 : Nu a0) (c0 : Int) (h1 : Nu a1) (c1 : Int) (h2 : Nu a2) (c2 : Int) (h3 : Nu a3) (c3 : Int) (h4 : Nu a4) (c4 : Int) (h5 : Nu a5) (c5 : Int) (h6 : Nu a6) (c6 : Int) (h7 : Nu a7) (c7 : Int) (e : g = c0 * a0 + c1 * a1 + c2 * a2 + c3 * a3 + c4 * a4 + c5 * a5 + c6 * a6 + c7 * a7) : Nu g := by rw [e]; exact ((((((((h0.mul c0).add (h1.mul c1)).add (h2.mul c2)).add (h3.mul c3)).add (h4.mul c4)).add (h5.mul c5)).add (h6.mul c6)).add (h7.mul c7))
theorem nu_of9 {a0 : Int} {a1 : Int} {a2 : Int} {a3 : Int} {a4 : Int} {a5 : Int} {a6 : Int} {a7 : Int} {a8 : Int} {g : Int} (h0 : Nu a0) (c0 : Int) (h1 : Nu a1) (c1 : Int) (h2 : Nu a2) (c2 : Int) (h3 : Nu a3) (c3 : Int) (h4 : Nu a4) (c4 : Int) (h5 : Nu a5) (c5 : Int) (h6 : Nu a6) (c6 : Int) (h7 : Nu a7) (c7 : Int) (h8 : Nu a8) (c8 : Int) (e : g = c0 * a0 + c1 * a1 + c2 * a2 + c3 * a3 + c4 * a4 + c5 * a5 + c6 * a6 + c7 * a7 + c8 * a8) : Nu g := by rw [e]; exact (((((((((h0.mul c0).add (h1.mul c1)).add (h2.mul c2)).add (h3.mul c3)).add (h4.mul c4)).add (h5.mul c5)).add (h6.mul c6)).add (h7.mul c7)).add (h8.mul c8))
theorem nu_of10 {a0 : Int} {a1 : Int} {a2 : Int} {a3 : Int} {a4 : Int} {a5 : Int} {a6 : Int} {a7 : Int} {a8 : Int} {a9 : Int} {g : Int} (h0 : Nu a0) (c0 : Int) (h1 : Nu a1) (c1 : Int) (h2 : Nu a2) (c2 : Int) (h3 : Nu a3) (c3 : Int) (h4 : Nu a4) (c4 : Int) (h5 : Nu a5) (c5 : Int) (h6 : Nu a6) (c6 : Int) (h7 : Nu a7) (c7 : Int) (h8 : Nu a8) (c8 : Int) (h9 : Nu a9) (c9 : Int) (e : g = c0 * a0 + c1 * a1 + c2 * a2 + c3 * a3 + c4 * a4 + c5 * a5 + c6 * a6 + c7 * a7 + c8 * a8 + c9 * a9) : Nu g := by rw [e]; exact ((((((((((h0.mul c0).add (h1.mul c1)).add (h2.mul c2)).add (h3.mul c3)).add (h4.mul c4)).add (h5.mul c5)).add (h6.mul c6)).add (h7.mul c7)).add (h8.mul c8)).add (h9.mul c9))
theorem nu_of11 {a0 : Int} {a1 : Int} {a2 : Int} {a3 : Int} {a4 : Int} {a5 : Int} {a6 : Int} {a7 : Int} {a8 : Int} {a9 : Int} {a10 : Int} {g : Int} (h0 : Nu a0) (c0 : Int) (h1 : Nu a1) (c1 : Int) (h2 : Nu a2) (c2 : Int) (h3 : Nu a3) (c3 : Int) (h4 : Nu a4) (c4 : Int) (h5 : Nu a5) (c5 : Int) (h6 : Nu a6) (c6 : Int) (h7 : Nu a7) (c7 : Int) (h8 : Nu a8) (c8 : Int) (h9 : Nu a9) (c9 : Int) (h10 : Nu a10) (c10 : Int) (e : g = c0 * a0 + c1 * a1 + c2 * a2 + c3 * a3 + c4 * a4 + c5 * a5 + c6 * a6 + c7 * a7 + c8 * a8 + c9 * a9 + c10 * a10) : Nu g := by rw [e]; exact (((((((((((h0.mul c0).add (h1.mul c1)).add (h2.mul c2)).add (h3.mul c3)).add (h4.mul c4)).add (h5.mul c5)).add (h6.mul c6)).add (h7.mul c7)).add (h8.mul c8)).add (h9.mul c9)).add (h10.mul c10))

theorem PP_nat' : PP = ((39402006196394479212279040100143613805079739270465446667948293404245721771496870329047266088258938001861606973112319 : Nat) : Int) := by decide

theorem Nu.split {a b : Int} (h : Nu (a * b)) : Nu a ∨ Nu b := by
  unfold Nu at h ⊢
  rw [PP_nat'] at h ⊢
  rw [Int.ofNat_dvd_left] at h ⊢
  rw [Int.ofNat_dvd_left]
  rw [Int.natAbs_mul] at h
  exact pr_P.split h

theorem Nu.left {a b : Int} (h : Nu (a * b)) (k : ¬ Nu b) : Nu a := h.split.resolve_right k

theorem nu_iff {a : Int} : Nu a ↔ a % PP = 0 := ⟨Int.emod_eq_zero_of_dvd, Int.dvd_of_emod_eq_zero⟩
theorem nu_emod (a : Int) : Nu (a % PP - a) := by
  rw [nu_iff, Int.sub_emod, Int.emod_emod, Int.sub_self, Int.zero_emod]
theorem nu_eq {a b : Int} (h : Nu (a - b)) : a % PP = b % PP := Int.emod_eq_emod_iff_emod_sub_eq_zero.2 (nu_iff.1 h)

/-- below the prime -/
def Lo (a : Int) : Prop := 0 ≤ a ∧ a < PP
theorem lo_emod (a : Int) : Lo (a % PP) := ⟨Int.emod_nonneg _ (by decide), Int.emod_lt_of_pos _ PP_pos⟩
theorem Lo.emod {a : Int} (h : Lo a) : a % PP = a := Int.emod_eq_of_lt h.1 h.2
theorem Lo.eq {a b : Int} (h : Lo a) (k : Lo b) (e : Nu (a - b)) : a = b := by
  have := nu_eq e
  rwa [h.emod, k.emod] at this
theorem Lo.is {a b : Int} (h : Lo a) (e : Nu (a - b)) : b % PP = a := by
  have := nu_eq e
  rw [h.emod] at this; exact this.symm

/-- what makes 1 of a number -/
def pinv (d : Int) : Int := d ^ 39402006196394479212279040100143613805079739270465446667948293404245721771496870329047266088258938001861606973112317 % PP

theorem pinv_ok {d : Int} (h0 : 0 ≤ d) (h : ¬ Nu d) : Nu (d * pinv d - 1) := by
  have z : pinv d = d ^ 39402006196394479212279040100143613805079739270465446667948293404245721771496870329047266088258938001861606973112317 % PP := rfl
  generalize pinv d = z' at *
  have e1 : ¬ d % PP = 0 := fun k => h (nu_iff.2 k)
  have e2 : d * z' % PP = 1 := by
    rw [PP_nat'] at z e1 ⊢
    exact (inv_gen pr_P (by decide +kernel) (by decide +kernel) h0 z).2 e1
  rw [nu_iff, Int.sub_emod, e2]; decide

theorem div_ex {d : Int} (c : Int) (h : ¬ Nu d) : ∃ k, Nu (k * d - c) := by
  have hd : ¬ Nu (d % PP) := fun k => h (nu_iff.2 (by rw [← Int.emod_emod]; exact nu_iff.1 k))
  have i := pinv_ok (lo_emod d).1 hd
  have e := nu_emod d
  generalize d % PP = D at *
  generalize pinv D = I at *
  exact ⟨c * I, nu_of2 e (0 - c * I) i c (by grind)⟩

/-- the curve's number -/
def BB : Int := 27580193559959705877849011840389048093056905856361568521428707301988689241309860865136260764883745107765439761230575

/-- x and y, below the prime, of the curve -/
structure Aff (x y : Int) : Prop where
  lx : Lo x
  ly : Lo y
  cu : Nu (y * y - (x * x * x - 3 * x + BB))

/-- l is the slope of the line through two places (the tangent's, if they are one) -/
structure SlR (x1 y1 x2 y2 l : Int) : Prop where
  one : Nu (y1 - y2 - l * (x1 - x2))
  two : Nu (l * (y1 + y2) - (x1 * x1 + x1 * x2 + x2 * x2 - 3))

/-- opposite places -/
def Opp (x1 y1 x2 y2 : Int) : Prop := x1 = x2 ∧ (y1 + y2) % PP = 0

theorem nu_two : ¬ Nu 2 := by unfold Nu; decide +kernel
theorem nu_three : ¬ Nu 3 := by unfold Nu; decide +kernel
theorem nu_dis : ¬ Nu (BB * BB - 4) := by unfold Nu; decide +kernel

/-- no place has no tangent -/
theorem smooth {x y : Int} (h : Nu (y * y - (x * x * x - 3 * x + BB))) (h1 : Nu (y + y)) (h2 : Nu (3 * (x * x) - 3)) : False := by
  have k1 : Nu y := (Nu.to h1 (show y * 2 = y + y by omega)).left nu_two
  have k2 : Nu (x * x - 1) := (Nu.to h2 (show (x * x - 1) * 3 = 3 * (x * x) - 3 by omega)).left nu_three
  have k3 : Nu (BB - 2 * x) := nu_of3 h (-1) k1 y k2 (-x) (by grind)
  exact nu_dis (nu_of2 k3 (BB + 2 * x) k2 4 (by grind))

/-- the slope, as the document has it -/
def slope (x1 y1 x2 y2 : Int) : Int :=
  if x1 = x2 then ((3 * (x1 * x1) - 3) % PP * pinv ((y1 + y1) % PP)) % PP else ((y2 - y1) % PP * pinv ((x2 - x1) % PP)) % PP

/-- points -/
abbrev Pt := Option (Int × Int)

/-- the sum of points, as the document has it -/
def cadd : Pt → Pt → Pt
  | none, q => q
  | some p, none => some p
  | some p, some q =>
    if p.1 = q.1 ∧ (p.2 + q.2) % PP = 0 then none
    else some ((slope p.1 p.2 q.1 q.2 * slope p.1 p.2 q.1 q.2 - p.1 - q.1) % PP, (slope p.1 p.2 q.1 q.2 * (p.1 - (slope p.1 p.2 q.1 q.2 * slope p.1 p.2 q.1 q.2 - p.1 - q.1) % PP) - p.2) % PP)

/-- the opposite point -/
def cneg : Pt → Pt
  | none => none
  | some p => some (p.1, (0 - p.2) % PP)

/-- a point of the curve -/
def OnC : Pt → Prop
  | none => True
  | some p => Aff p.1 p.2

theorem mulinv {A D i s n d : Int} (hA : Nu (A - n)) (hD : Nu (D - d)) (hi : Nu (D * i - 1)) (hs : Nu (s - A * i)) : Nu (s * d - n) :=
  nu_of4 hs d hD (0 - A * i) hi A hA 1 (by grind)

theorem not_emod {d : Int} (h : ¬ Nu d) : ¬ Nu (d % PP) := fun k => h (nu_iff.2 (by rw [← Int.emod_emod]; exact nu_iff.1 k))

theorem sub_not {a b : Int} (ha : Lo a) (hb : Lo b) (h : ¬ a = b) : ¬ Nu (b - a) := fun k => h (hb.eq ha k).symm

theorem slope_ok {x1 y1 x2 y2 : Int} (A1 : Aff x1 y1) (A2 : Aff x2 y2) (hn : ¬ Opp x1 y1 x2 y2) : SlR x1 y1 x2 y2 (slope x1 y1 x2 y2) := by
  unfold slope
  by_cases hx : x1 = x2
  · subst hx
    rw [if_pos rfl]
    have hs : ¬ Nu (y1 + y2) := fun k => hn ⟨rfl, nu_iff.1 k⟩
    have hd : Nu ((y1 - y2) * (y1 + y2)) := nu_of2 A1.cu 1 A2.cu (-1) (by grind)
    have e : y1 = y2 := A1.ly.eq A2.ly (hd.left hs)
    subst e
    have r := mulinv (nu_emod (3 * (x1 * x1) - 3)) (nu_emod (y1 + y1)) (pinv_ok (lo_emod _).1 (not_emod hs)) (nu_emod ((3 * (x1 * x1) - 3) % PP * pinv ((y1 + y1) % PP)))
    generalize (3 * (x1 * x1) - 3) % PP * pinv ((y1 + y1) % PP) % PP = s at *
    exact ⟨Nu.to nu_zero (by grind), Nu.to r (by grind)⟩
  · rw [if_neg hx]
    have hs := sub_not A1.lx A2.lx hx
    have r := mulinv (nu_emod (y2 - y1)) (nu_emod (x2 - x1)) (pinv_ok (lo_emod _).1 (not_emod hs)) (nu_emod ((y2 - y1) % PP * pinv ((x2 - x1) % PP)))
    generalize (y2 - y1) % PP * pinv ((x2 - x1) % PP) % PP = s at *
    refine ⟨Nu.to r (by grind), ?_⟩
    have q : Nu ((s * (y1 + y2) - (x1 * x1 + x1 * x2 + x2 * x2 - 3)) * (x2 - x1)) := nu_of3 r (y1 + y2) A1.cu (-1) A2.cu 1 (by grind)
    exact q.left hs

theorem slope_one {x1 y1 x2 y2 l m : Int} (A1 : Aff x1 y1) (A2 : Aff x2 y2) (hn : ¬ Opp x1 y1 x2 y2) (hl : SlR x1 y1 x2 y2 l) (hm : SlR x1 y1 x2 y2 m) : Nu (l - m) := by
  by_cases hx : x1 = x2
  · have hs : ¬ Nu (y1 + y2) := fun k => hn ⟨hx, nu_iff.1 k⟩
    have q : Nu ((l - m) * (y1 + y2)) := nu_of2 hl.two 1 hm.two (-1) (by grind)
    exact q.left hs
  · have hs := sub_not A1.lx A2.lx hx
    have q : Nu ((l - m) * (x2 - x1)) := nu_of2 hl.one 1 hm.one (-1) (by grind)
    exact q.left hs

/-- the sum, told by any slope -/
theorem add_is {x1 y1 x2 y2 l x y : Int} (A1 : Aff x1 y1) (A2 : Aff x2 y2) (hn : ¬ Opp x1 y1 x2 y2) (S : SlR x1 y1 x2 y2 l) (lx : Lo x) (ly : Lo y) (hx : Nu (x - (l * l - x1 - x2))) (hy : Nu (y - (l * (x1 - x) - y1))) :
    cadd (some (x1, y1)) (some (x2, y2)) = some (x, y) := by
  have e := slope_one A1 A2 hn (slope_ok A1 A2 hn) S
  simp only [cadd]
  rw [if_neg (show ¬ (x1 = x2 ∧ (y1 + y2) % PP = 0) from hn)]
  generalize slope x1 y1 x2 y2 = s at *
  have ex : (s * s - x1 - x2) % PP = x := lx.is (nu_of2 hx 1 e (0 - s - l) (by grind))
  simp only [ex]
  have ey : (s * (x1 - x) - y1) % PP = y := ly.is (nu_of2 hy 1 e (x - x1) (by grind))
  rw [ey]

theorem on_line {x1 y1 x2 y2 l x y : Int} (c : Nu (y1 * y1 - (x1 * x1 * x1 - 3 * x1 + BB))) (S : SlR x1 y1 x2 y2 l) (hx : Nu (x - (l * l - x1 - x2))) (hy : Nu (y - (l * (x1 - x) - y1))) : Nu (y * y - (x * x * x - 3 * x + BB)) := by
  have h1 := S.one
  have h2 := S.two
  exact nu_of5 c (1) h1 (l * l * l - l * x2 - 2 * l * x1) h2 (l * l - x2 - 2 * x1) hx (3 - x * x - x1 * x1 - x2 * x2 + x * x1 + x * x2 + x2 * l * l - x1 * l * l - 2 * x1 * x2 + 2 * l * y1) hy (y - y1 + l * x1 - l * x) (by grind)

theorem add_fin {x1 y1 x2 y2 : Int} (A1 : Aff x1 y1) (A2 : Aff x2 y2) (hn : ¬ Opp x1 y1 x2 y2) :
    ∃ l x y, SlR x1 y1 x2 y2 l ∧ Aff x y ∧ Nu (x - (l * l - x1 - x2)) ∧ Nu (y - (l * (x1 - x) - y1)) ∧ cadd (some (x1, y1)) (some (x2, y2)) = some (x, y) := by
  have S := slope_ok A1 A2 hn
  generalize slope x1 y1 x2 y2 = l at S
  have hx := nu_emod (l * l - x1 - x2)
  have lx := lo_emod (l * l - x1 - x2)
  generalize (l * l - x1 - x2) % PP = x at *
  have hy := nu_emod (l * (x1 - x) - y1)
  have ly := lo_emod (l * (x1 - x) - y1)
  generalize (l * (x1 - x) - y1) % PP = y at *
  exact ⟨l, x, y, S, ⟨lx, ly, on_line A1.cu S hx hy⟩, hx, hy, add_is A1 A2 hn S lx ly hx hy⟩

theorem add_opp {x1 y1 x2 y2 : Int} (h : Opp x1 y1 x2 y2) : cadd (some (x1, y1)) (some (x2, y2)) = none := by
  simp only [cadd]
  rw [if_pos (show x1 = x2 ∧ (y1 + y2) % PP = 0 from h)]

theorem on_add {P Q : Pt} (hP : OnC P) (hQ : OnC Q) : OnC (cadd P Q) := by
  match P, Q, hP, hQ with
  | none, Q, _, h => exact h
  | some p, none, h, _ => exact h
  | some (x1, y1), some (x2, y2), h1, h2 =>
    by_cases h : Opp x1 y1 x2 y2
    · rw [add_opp h]; trivial
    · obtain ⟨l, x, y, _, A, _, _, e⟩ := add_fin h1 h2 h
      rw [e]; exact A

theorem neg_aff {x y : Int} (h : Aff x y) : Aff x ((0 - y) % PP) := by
  refine ⟨h.lx, lo_emod _, ?_⟩
  have e := nu_emod (0 - y)
  generalize (0 - y) % PP = z at *
  exact nu_of2 h.cu 1 e (z - y) (by grind)

theorem on_neg {P : Pt} (h : OnC P) : OnC (cneg P) := by
  match P, h with
  | none, _ => trivial
  | some (x, y), h => exact neg_aff h

theorem neg_neg {P : Pt} (h : OnC P) : cneg (cneg P) = P := by
  match P, h with
  | none, _ => rfl
  | some (x, y), h =>
    show some (x, (0 - (0 - y) % PP) % PP) = some (x, y)
    have e := nu_emod (0 - y)
    generalize (0 - y) % PP = z at *
    rw [h.ly.is (nu_of1 e 1 (by grind))]

theorem opp_comm {x1 y1 x2 y2 : Int} (h : Opp x1 y1 x2 y2) : Opp x2 y2 x1 y1 := ⟨h.1.symm, by rw [Int.add_comm]; exact h.2⟩

theorem slr_comm {x1 y1 x2 y2 l : Int} (h : SlR x1 y1 x2 y2 l) : SlR x2 y2 x1 y1 l := ⟨nu_of1 h.one (-1) (by grind), Nu.to h.two (by grind)⟩

theorem add_comm' {P Q : Pt} (hP : OnC P) (hQ : OnC Q) : cadd P Q = cadd Q P := by
  match P, Q, hP, hQ with
  | none, none, _, _ => rfl
  | none, some _, _, _ => rfl
  | some _, none, _, _ => rfl
  | some (x1, y1), some (x2, y2), h1, h2 =>
    by_cases h : Opp x1 y1 x2 y2
    · rw [add_opp h, add_opp (opp_comm h)]
    · obtain ⟨l, x, y, S, A, hx, hy, e⟩ := add_fin h1 h2 h
      rw [e]
      refine (add_is h2 h1 (fun k => h (opp_comm k)) (slr_comm S) A.lx A.ly (Nu.to hx (by grind)) ?_).symm
      exact nu_of2 hy 1 S.one (-1) (by grind)

theorem opp_neg {x1 y1 x2 y2 : Int} (A2 : Aff x2 y2) (h : Opp x1 y1 x2 y2) : some (x2, y2) = cneg (some (x1, y1)) := by
  show some (x2, y2) = some (x1, (0 - y1) % PP)
  rw [h.1, A2.ly.is (nu_of1 (nu_iff.2 h.2) 1 (by grind))]

theorem neg_opp {x y : Int} : Opp x y x ((0 - y) % PP) := ⟨rfl, nu_iff.1 (nu_of1 (nu_emod (0 - y)) 1 (by grind))⟩

theorem add_neg {P : Pt} : cadd P (cneg P) = none := by
  match P with
  | none => rfl
  | some (x, y) => exact add_opp neg_opp

/-- what was added is taken off again -/
theorem cancel {P Q : Pt} (hP : OnC P) (hQ : OnC Q) : cadd (cadd P Q) (cneg Q) = P := by
  match P, Q, hP, hQ with
  | none, Q, _, _ => exact add_neg
  | some _, none, _, _ => rfl
  | some (x1, y1), some (x2, y2), h1, h2 =>
    by_cases h : Opp x1 y1 x2 y2
    · rw [add_opp h]
      exact (opp_neg h1 (opp_comm h)).symm
    · obtain ⟨l, u, yu, S, A, hu, gu, e⟩ := add_fin h1 h2 h
      rw [e]
      show cadd (some (u, yu)) (some (x2, (0 - y2) % PP)) = some (x1, y1)
      have B := neg_aff h2
      have ez := nu_emod (0 - y2)
      have s1 := S.one
      have s2 := S.two
      generalize (0 - y2) % PP = z at *
      have hn : ¬ Opp u yu x2 z := by
        intro k
        obtain ⟨rfl, k2⟩ := k
        have k2 := nu_iff.2 k2
        have q1 : Nu (y2 + y2) := nu_of4 s1 (0 - 1) gu (1) ez (1) k2 (0 - 1) (by grind)
        have q2 : Nu (3 * (u * u) - 3) := nu_of5 s2 (0 - 1) hu (u - x1) gu (l) ez (l) k2 (0 - l) (by grind)
        exact smooth h2.cu q1 q2
      have T : SlR u yu x2 z (-l) := ⟨nu_of3 s1 (0 - 1) gu (1) ez (0 - 1) (by grind), nu_of4 s2 (1) hu (x1 - u) gu (0 - l) ez (0 - l) (by grind)⟩
      exact add_is A B hn T h1.lx h1.ly (nu_of1 hu 1 (by grind)) (nu_of1 gu (1) (by grind))

theorem neg_add {P Q : Pt} (hP : OnC P) (hQ : OnC Q) : cneg (cadd P Q) = cadd (cneg P) (cneg Q) := by
  match P, Q, hP, hQ with
  | none, Q, _, _ => rfl
  | some _, none, _, _ => rfl
  | some (x1, y1), some (x2, y2), h1, h2 =>
    show cneg (cadd (some (x1, y1)) (some (x2, y2))) = cadd (some (x1, (0 - y1) % PP)) (some (x2, (0 - y2) % PP))
    have B1 := neg_aff h1
    have B2 := neg_aff h2
    have e1 := nu_emod (0 - y1)
    have e2 := nu_emod (0 - y2)
    generalize (0 - y1) % PP = z1 at *
    generalize (0 - y2) % PP = z2 at *
    by_cases h : Opp x1 y1 x2 y2
    · rw [add_opp h, add_opp ⟨h.1, nu_iff.1 (nu_of3 (nu_iff.2 h.2) (-1) e1 1 e2 1 (by grind))⟩]
      rfl
    · obtain ⟨l, x, y, S, A, hx, hy, e⟩ := add_fin h1 h2 h
      have s1 := S.one
      have s2 := S.two
      have hn : ¬ Opp x1 z1 x2 z2 := fun k => h ⟨k.1, nu_iff.1 (nu_of3 (nu_iff.2 k.2) (-1) e1 1 e2 1 (by grind))⟩
      have T : SlR x1 z1 x2 z2 (-l) := ⟨nu_of3 e1 1 e2 (-1) s1 (-1) (by grind), nu_of3 e1 (-l) e2 (-l) s2 1 (by grind)⟩
      rw [e]
      show some (x, (0 - y) % PP) = _
      have ez := nu_emod (0 - y)
      have C := neg_aff A
      generalize (0 - y) % PP = z at *
      exact (add_is B1 B2 hn T A.lx C.ly (nu_of1 hx 1 (by grind)) (nu_of3 ez 1 hy (-1) e1 1 (by grind))).symm

/-- sums go in any order, where none of them is the one at infinity -/
theorem assoc_fin {x1 y1 x2 y2 x3 y3 u yu v yv l m : Int} (A1 : Aff x1 y1) (A3 : Aff x3 y3) (AU : Aff u yu) (AV : Aff v yv) (S : SlR x1 y1 x2 y2 l) (T : SlR x2 y2 x3 y3 m)
    (hu : Nu (u - (l * l - x1 - x2))) (gu : Nu (yu - (l * (x1 - u) - y1))) (hv : Nu (v - (m * m - x2 - x3))) (gv : Nu (yv - (m * (x2 - v) - y2)))
    (n1 : ¬ Opp u yu x3 y3) (n2 : ¬ Opp x1 y1 v yv) (hlm : ¬ Nu (l - m)) : cadd (some (u, yu)) (some (x3, y3)) = cadd (some (x1, y1)) (some (v, yv)) := by
  obtain ⟨k, hk⟩ := div_ex (x3 - x1) hlm
  have h1 := S.one
  have h2 := S.two
  have h3 := T.one
  have h4 := T.two
  have ga : Nu ((yu - y3 - -(l + k) * (u - x3)) * (l - m)) := nu_of7 h1 (m) h2 (0 - 1) h3 (l) h4 (1) hk (l * l - x1 - x2 - x3) hu (k * l - k * m) gu (l - m) (by grind)
  have gb : Nu ((-(l + k) * (yu + y3) - (u * u + u * x3 + x3 * x3 - 3)) * (l - m)) := nu_of7 h1 (l * l + k * l - k * m) h2 (0 - m) h3 (l * l + k * l - k * m) h4 (l) hk (l * l * l + m * x2 - l * x1 - m * x3 - 2 * l * x2) hu (k * l * l + l * x1 + l * x2 + m * u + m * x3 - l * u - l * x3 - m * x1 - m * x2 - k * l * m) gu (0 - l * l + k * m + l * m - k * l) (by grind)
  have gc : Nu ((y1 - yv - -(m + k) * (x1 - v)) * (l - m)) := nu_of7 h1 (0 - m) h2 (1) h3 (0 - m) h4 (0 - 1) hk (x1 + x2 + x3 - m * m) hv (k * m - k * l) gv (m - l) (by grind)
  have gd : Nu ((-(m + k) * (y1 + yv) - (x1 * x1 + x1 * v + v * v - 3)) * (l - m)) := nu_of7 h1 (m * m + k * m - k * l) h2 (0 - m) h3 (l * m) h4 (l) hk (m * m * m + l * x2 - l * x1 - m * x3 - 2 * m * x2) hv (l * x2 + l * x3 + m * v + m * x1 - k * m * m - l * v - l * x1 - m * x2 - m * x3 + k * l * m) gv (m * m + k * m - k * l - l * m) (by grind)
  have R1 : SlR u yu x3 y3 (-(l + k)) := ⟨ga.left hlm, gb.left hlm⟩
  have R2 : SlR x1 y1 v yv (-(m + k)) := ⟨gc.left hlm, gd.left hlm⟩
  obtain ⟨r, wx, wy, R, AW, hw0, gw0, e⟩ := add_fin AU A3 n1
  have er := slope_one AU A3 n1 R R1
  have hw : Nu (wx - ((l + k) * (l + k) - u - x3)) := nu_of2 hw0 1 er (r - l - k) (by grind)
  have gw : Nu (wy - (-(l + k) * (u - wx) - yu)) := nu_of2 gw0 1 er (u - wx) (by grind)
  clear ga gb gc gd hw0 gw0 er R R1
  rw [e]
  have ex : Nu (wx - (-(m + k) * -(m + k) - x1 - v)) := nu_of4 hk (2) hu (0 - 1) hv (1) hw (1) (by grind)
  have ey : Nu ((wy - (-(m + k) * (x1 - wx) - y1)) * (l - m)) := nu_of9 h1 (l - 2 * m) h2 (1) h3 (0 - m) h4 (0 - 1) hk (x1 + x2 + x3 + l * l + k * l - k * m - 2 * l * m) hu (0 - l * l - m * m + k * m - k * l + 2 * l * m) gu (m - l) hw (l * l + m * m - 2 * l * m) gw (l - m) (by grind)
  exact (add_is A1 AV n2 R2 AW.lx AW.ly ex (ey.left hlm)).symm

/-- sums go in any order -/
theorem assoc {P Q R : Pt} (hP : OnC P) (hQ : OnC Q) (hR : OnC R) : cadd (cadd P Q) R = cadd P (cadd Q R) := by
  match P, Q, R, hP, hQ, hR with
  | none, _, _, _, _, _ => rfl
  | some _, none, _, _, _, _ => rfl
  | some (x1, y1), some (x2, y2), none, h1, h2, _ =>
    show cadd (cadd _ _) none = cadd _ (some (x2, y2))
    generalize cadd (some (x1, y1)) (some (x2, y2)) = T
    cases T <;> rfl
  | some (x1, y1), some (x2, y2), some (x3, y3), h1, h2, h3 =>
    have h1 : Aff x1 y1 := h1
    have h2 : Aff x2 y2 := h2
    have h3 : Aff x3 y3 := h3
    have o1 : OnC (some (x1, y1)) := h1
    have o2 : OnC (some (x2, y2)) := h2
    have o3 : OnC (some (x3, y3)) := h3
    by_cases n12 : Opp x1 y1 x2 y2
    · rw [add_opp n12, opp_neg h2 n12]
      show some (x3, y3) = _
      have c := cancel o3 (on_neg o1)
      rw [neg_neg o1] at c
      rw [add_comm' (on_neg o1) o3, add_comm' o1 (on_add o3 (on_neg o1))]
      exact c.symm
    by_cases n23 : Opp x2 y2 x3 y3
    · rw [add_opp n23, opp_neg h3 n23]
      exact cancel o1 o2
    obtain ⟨l, u, yu, S, AU, hu, gu, eU⟩ := add_fin h1 h2 n12
    obtain ⟨m, v, yv, T, AV, hv, gv, eV⟩ := add_fin h2 h3 n23
    have oU : OnC (some (u, yu)) := AU
    have oV : OnC (some (v, yv)) := AV
    by_cases n1 : Opp u yu x3 y3
    · have e3 := opp_neg h3 n1
      rw [eU, add_opp n1, e3, ← eU, neg_add o1 o2]
      have c := cancel (on_neg o1) (on_neg o2)
      rw [neg_neg o2] at c
      rw [add_comm' o2 (on_add (on_neg o1) (on_neg o2)), c]
      exact add_neg.symm
    by_cases n2 : Opp x1 y1 v yv
    · have e1 := opp_neg h1 (opp_comm n2)
      rw [eV, add_opp n2, e1, ← eV, neg_add o2 o3]
      have c := cancel (on_neg o3) (on_neg o2)
      rw [neg_neg o2] at c
      rw [add_comm' (on_neg o2) (on_neg o3), c, add_comm' (on_neg o3) o3]
      exact add_neg
    by_cases hlm : Nu (l - m)
    · have s1 := S.one
      have s2 := S.two
      have t1 := T.one
      have t2 := T.two
      have q : Nu ((x1 - x3) * (x1 + x2 + x3 - l * l)) := nu_of5 hlm (2 * y2 + l * x3 + m * x3 - l * x2 - m * x2) s1 (l) s2 (0 - 1) t1 (m) t2 (1) (by grind)
      rcases q.split with q1 | q1
      · have e1 : x1 = x3 := h1.lx.eq h3.lx q1
        subst e1
        have e2 : y1 = y3 := h1.ly.eq h3.ly (nu_of3 hlm (x1 - x2) s1 (1) t1 (1) (by grind))
        subst e2
        rw [add_comm' o1 (on_add o2 o1), add_comm' o2 o1]
      · have e1 : u = x3 := AU.lx.eq h3.lx (nu_of2 hu 1 q1 (-1) (by grind))
        subst e1
        exact absurd ⟨rfl, nu_iff.1 (nu_of4 hlm (x2 - u) s1 (0 - 1) t1 (0 - 1) gu (1) (by grind))⟩ n1
    · rw [eU, eV]
      exact assoc_fin h1 h3 AU AV S T hu gu hv gv n1 n2 hlm
end Go.Proofs.YtjpnbbhpgchbpaaDoor

namespace Go.Proofs.YtjpnbbhpgchbpaaDoor

/-- c0 + c1 x + c2 x^2 -/
abbrev Tri := Int × Int × Int
def ev (r : Int) (a : Tri) : Int := a.1 + a.2.1 * r + a.2.2 * (r * r)
/-- products, by the curve's cubic -/
def mulf (a b : Tri) : Tri :=
  ((a.1 * b.1 - BB * (a.2.1 * b.2.2 + a.2.2 * b.2.1)) % PP, (a.1 * b.2.1 + a.2.1 * b.1 + 3 * (a.2.1 * b.2.2 + a.2.2 * b.2.1) - BB * (a.2.2 * b.2.2)) % PP, (a.1 * b.2.2 + a.2.1 * b.2.1 + a.2.2 * b.1 + 3 * (a.2.2 * b.2.2)) % PP)
def pwf (a : Tri) : Nat → Nat → Tri
  | 0, _ => (1, 0, 0)
  | n + 1, e => if e % 2 = 1 then mulf (mulf (pwf a n (e / 2)) (pwf a n (e / 2))) a else mulf (pwf a n (e / 2)) (pwf a n (e / 2))

theorem ev_mulf {r : Int} (h : Nu (r * r * r - 3 * r + BB)) (a b : Tri) : Nu (ev r (mulf a b) - ev r a * ev r b) := by
  obtain ⟨a0, a1, a2⟩ := a
  obtain ⟨b0, b1, b2⟩ := b
  unfold ev mulf
  simp only
  have e0 := nu_emod (a0 * b0 - BB * (a1 * b2 + a2 * b1))
  have e1 := nu_emod (a0 * b1 + a1 * b0 + 3 * (a1 * b2 + a2 * b1) - BB * (a2 * b2))
  have e2 := nu_emod (a0 * b2 + a1 * b1 + a2 * b0 + 3 * (a2 * b2))
  generalize (a0 * b0 - BB * (a1 * b2 + a2 * b1)) % PP = c0 at *
  generalize (a0 * b1 + a1 * b0 + 3 * (a1 * b2 + a2 * b1) - BB * (a2 * b2)) % PP = c1 at *
  generalize (a0 * b2 + a1 * b1 + a2 * b0 + 3 * (a2 * b2)) % PP = c2 at *
  exact nu_of4 e0 1 e1 r e2 (r * r) h (0 - (a1 * b2 + a2 * b1) - a2 * b2 * r) (by grind)

theorem ev_pwf {r : Int} (h : Nu (r * r * r - 3 * r + BB)) (a : Tri) : ∀ n e : Nat, e < 2 ^ n → Nu (ev r (pwf a n e) - ev r a ^ e)
  | 0, e, he => by
    have : e = 0 := by simpa using he
    subst this
    exact Nu.to nu_zero (by simp [pwf, ev])
  | n + 1, e, he => by
    have ih := ev_pwf h a n (e / 2) (by rw [Nat.pow_succ] at he; omega)
    have m1 := ev_mulf h (pwf a n (e / 2)) (pwf a n (e / 2))
    have m2 := ev_mulf h (mulf (pwf a n (e / 2)) (pwf a n (e / 2))) a
    unfold pwf
    generalize pwf a n (e / 2) = T at *
    by_cases ho : e % 2 = 1
    · rw [if_pos ho]
      have e1 : ev r a ^ e = ev r a ^ (e / 2) * ev r a ^ (e / 2) * ev r a := by
        rw [← Int.pow_add, ← Int.pow_succ]; congr 1; omega
      rw [e1]
      generalize ev r a ^ (e / 2) = Z at *
      generalize ev r (mulf (mulf T T) a) = A1 at *
      generalize ev r (mulf T T) = A2 at *
      generalize ev r T = A3 at *
      exact nu_of3 m2 1 m1 (ev r a) ih ((A3 + Z) * ev r a) (by grind)
    · rw [if_neg ho]
      have e1 : ev r a ^ e = ev r a ^ (e / 2) * ev r a ^ (e / 2) := by
        rw [← Int.pow_add]; congr 1; omega
      rw [e1]
      generalize ev r a ^ (e / 2) = Z at *
      generalize ev r (mulf T T) = A2 at *
      generalize ev r T = A3 at *
      exact nu_of2 m1 1 ih (A3 + Z) (by grind)

theorem pwf_is : pwf (0, 1, 0) 384 39402006196394479212279040100143613805079739270465446667948293404245721771496870329047266088258938001861606973112319 = (8300902441410358810024883245706595788071887638472987429650051756787010122663664392654234716054658334410824607717835, 36451842499335230207230939190122359435795929611070366073564430331459357452117665764765104949638877581977396150453386, 15550551877492060201127078427218509008503925815996229619149120823729355824416602968196515686102139833725391182697242) := by decide +kernel

/-- Fermat, for whole numbers -/
theorem nu_fermat {r : Int} (h0 : 0 ≤ r) : Nu (r ^ 39402006196394479212279040100143613805079739270465446667948293404245721771496870329047266088258938001861606973112319 - r) := by
  obtain ⟨n, rfl⟩ := Int.eq_ofNat_of_zero_le h0
  have key : ∀ q : Nat, Pr q → ∀ e, e + 1 = q → (q : Int) ∣ (n : Int) ^ (e + 1) - n := by
    intro q hq e he
    have hc : (n ^ (e + 1)) % q = n % q := by
      by_cases hd : q ∣ n
      · rw [Nat.mod_eq_zero_of_dvd hd, Nat.pow_succ, Nat.mul_mod, Nat.mod_eq_zero_of_dvd hd]; simp
      · have hf := fermat hq hd
        rw [show q - 1 = e by omega] at hf
        rw [Nat.pow_succ, Nat.mul_mod, hf, Nat.one_mul, Nat.mod_mod]
    refine Int.dvd_of_emod_eq_zero ?_
    rw [← Int.natCast_pow, Int.sub_emod, ← Int.natCast_emod, ← Int.natCast_emod, hc]; simp
  have := key _ pr_P 39402006196394479212279040100143613805079739270465446667948293404245721771496870329047266088258938001861606973112318 (by decide +kernel)
  unfold Nu
  rw [PP_nat']
  exact this

theorem no_two {r : Int} (h0 : 0 ≤ r) (h : Nu (r * r * r - 3 * r + BB)) : False := by
  have f := nu_fermat h0
  have g := ev_pwf h (0, 1, 0) 384 39402006196394479212279040100143613805079739270465446667948293404245721771496870329047266088258938001861606973112319 (by decide +kernel)
  rw [pwf_is] at g
  have e0 : ev r (0, 1, 0) = r := by simp [ev]
  rw [e0] at g
  have k : Nu (ev r (8300902441410358810024883245706595788071887638472987429650051756787010122663664392654234716054658334410824607717835, 36451842499335230207230939190122359435795929611070366073564430331459357452117665764765104949638877581977396150453386, 15550551877492060201127078427218509008503925815996229619149120823729355824416602968196515686102139833725391182697242) - r) := nu_of2 f 1 g 1 (by generalize r ^ 39402006196394479212279040100143613805079739270465446667948293404245721771496870329047266088258938001861606973112319 = Z; generalize ev r (8300902441410358810024883245706595788071887638472987429650051756787010122663664392654234716054658334410824607717835, 36451842499335230207230939190122359435795929611070366073564430331459357452117665764765104949638877581977396150453386, 15550551877492060201127078427218509008503925815996229619149120823729355824416602968196515686102139833725391182697242) = Y; omega)
  have k2 : Nu (((8300902441410358810024883245706595788071887638472987429650051756787010122663664392654234716054658334410824607717835) + (36451842499335230207230939190122359435795929611070366073564430331459357452117665764765104949638877581977396150453386) * r + (15550551877492060201127078427218509008503925815996229619149120823729355824416602968196515686102139833725391182697242) * r * r) - r) := Nu.to k (by unfold ev; grind)
  have bb : BB = 27580193559959705877849011840389048093056905856361568521428707301988689241309860865136260764883745107765439761230575 := rfl
  rw [bb] at h
  have q : Nu PP := Int.dvd_refl _
  rw [show PP = 39402006196394479212279040100143613805079739270465446667948293404245721771496870329047266088258938001861606973112319 from rfl] at q
  have one : Nu 1 := nu_of3 k2 ((23037766613497683937702734290281044719364893268180251583910224888989381657771069200037813904257325918671976092329602) + (8235438212423615602427778915669574859600037698862346933589434399495169446996583974901273360826717582835190849638831) * r + (12157362177932134139146813183752135342286725243554133716818896354380897714709611791313184492360272402950851405460538) * r * r) h ((33047296559504255592651188709346863485400206543726318781804127838965342233844565497607730041700790082657763121017919) + (32869823982379043685874326169836433808330785959775282655386939942853122566550201179306892395623670448475897125153980) * r) q ((-27985506204301980900116639354906072471743897502130450334413920954206602690988000998870430874317183930269993100339226) + (-46055693407233838844319864697948344967725302071157550512851630364787743269605873745478993324497207360250257453859042) * r + (-19272215609935516494685008792283748089986411485569154163933451568869961127397816499566881855378763084966270081003611) * r * r + (-14497329339687318160026190074095270553004564902272400363073903668023753716612990178198531678314546520448525621766129) * r * r * r + (-4798072725004877075157033859075725970289067555847274883866147300255394322129506769885713271735668976079708233611104) * r * r * r * r) (by grind)
  exact absurd one (by unfold Nu; decide +kernel)
end Go.Proofs.YtjpnbbhpgchbpaaDoor

namespace Go.Proofs.YtjpnbbhpgchbpaaDoor

/-- so many times a point -/
def cmul : Nat → Pt → Pt
  | 0, _ => none
  | n + 1, P => cadd (cmul n P) P

theorem on_cmul {P : Pt} (h : OnC P) : ∀ n, OnC (cmul n P)
  | 0 => trivial
  | n + 1 => on_add (on_cmul h n) h

theorem cadd_none (P : Pt) : cadd P none = P := by cases P <;> rfl
theorem none_cadd (P : Pt) : cadd none P = P := rfl

theorem cmul_one (P : Pt) : cmul 1 P = P := rfl

theorem cmul_add {P : Pt} (h : OnC P) (m : Nat) : ∀ n, cmul (m + n) P = cadd (cmul m P) (cmul n P)
  | 0 => (cadd_none _).symm
  | n + 1 => by
    show cadd (cmul (m + n) P) P = cadd (cmul m P) (cadd (cmul n P) P)
    rw [cmul_add h m n, assoc (on_cmul h m) (on_cmul h n) h]

theorem cmul_none : ∀ n, cmul n none = none
  | 0 => rfl
  | n + 1 => by show cadd (cmul n none) none = none; rw [cmul_none n]; rfl

theorem cmul_mul {P : Pt} (h : OnC P) (n : Nat) : ∀ m, cmul (m * n) P = cmul m (cmul n P)
  | 0 => by rw [Nat.zero_mul]; rfl
  | m + 1 => by
    rw [Nat.succ_mul, cmul_add h, cmul_mul h n m]; rfl

theorem four {P Q R S : Pt} (hP : OnC P) (hQ : OnC Q) (hR : OnC R) (hS : OnC S) : cadd (cadd P Q) (cadd R S) = cadd (cadd P R) (cadd Q S) := by
  rw [assoc hP hQ (on_add hR hS), ← assoc hQ hR hS, add_comm' hQ hR, assoc hR hQ hS, ← assoc hP hR (on_add hQ hS)]

theorem cmul_cadd {P Q : Pt} (hP : OnC P) (hQ : OnC Q) : ∀ n, cmul n (cadd P Q) = cadd (cmul n P) (cmul n Q)
  | 0 => rfl
  | n + 1 => by
    show cadd (cmul n (cadd P Q)) (cadd P Q) = cadd (cadd (cmul n P) P) (cadd (cmul n Q) Q)
    rw [cmul_cadd hP hQ n, four (on_cmul hP n) (on_cmul hQ n) hP hQ]

theorem cneg_cmul {P : Pt} (h : OnC P) : ∀ n, cneg (cmul n P) = cmul n (cneg P)
  | 0 => rfl
  | n + 1 => by
    show cneg (cadd (cmul n P) P) = cadd (cmul n (cneg P)) (cneg P)
    rw [neg_add (on_cmul h n) h, cneg_cmul h n]

theorem cmul_sub {P : Pt} (h : OnC P) {m n : Nat} (hn : n ≤ m) : cmul (m - n) P = cadd (cmul m P) (cneg (cmul n P)) := by
  have e : cmul m P = cadd (cmul (m - n) P) (cmul n P) := by rw [← cmul_add h]; congr 1; omega
  rw [e, cancel (on_cmul h _) (on_cmul h _)]

/-- doubled, and one more by a bit -/
theorem cmul_bit {P : Pt} (h : OnC P) (n : Nat) : cmul (2 * n) P = cadd (cmul n P) (cmul n P) := by
  rw [Nat.two_mul, cmul_add h]

theorem cmul_bit1 {P : Pt} (h : OnC P) (n : Nat) : cmul (2 * n + 1) P = cadd (cadd (cmul n P) (cmul n P)) P := by
  show cadd (cmul (2 * n) P) P = _
  rw [cmul_bit h]
end Go.Proofs.YtjpnbbhpgchbpaaDoor

namespace Go.Proofs.YtjpnbbhpgchbpaaDoor

/-- the base point -/
def GX : Int := 26247035095799689268623156744566981891852923491109213387815615900925518854738050089022388053975719786650872476732087
def GY : Int := 8325710961489029985546751289520108179287853048861315594709205902480503199884419224438643760392947333078086511627871
def GG : Pt := some (GX, GY)

theorem lo_GX : Lo GX := by unfold Lo; decide +kernel
theorem lo_GY : Lo GY := by unfold Lo; decide +kernel
theorem aff_G : Aff GX GY := ⟨lo_GX, lo_GY, nu_iff.2 (by decide +kernel)⟩
theorem on_G : OnC GG := aff_G

/-- a sum by a slope that is told -/
def stp (p q : Int × Int) (l : Int) : Option (Int × Int) :=
  if (p.2 - q.2 - l * (p.1 - q.1)) % PP = 0 ∧ (l * (p.2 + q.2) - (p.1 * p.1 + p.1 * q.1 + q.1 * q.1 - 3)) % PP = 0 ∧ ¬ (p.1 = q.1 ∧ (p.2 + q.2) % PP = 0) then
    some ((l * l - p.1 - q.1) % PP, (l * (p.1 - (l * l - p.1 - q.1) % PP) - p.2) % PP)
  else none

theorem stp_ok {p q r : Int × Int} {l : Int} (hp : Aff p.1 p.2) (hq : Aff q.1 q.2) (h : stp p q l = some r) : cadd (some p) (some q) = some r ∧ Aff r.1 r.2 := by
  obtain ⟨x1, y1⟩ := p
  obtain ⟨x2, y2⟩ := q
  unfold stp at h
  by_cases c : (y1 - y2 - l * (x1 - x2)) % PP = 0 ∧ (l * (y1 + y2) - (x1 * x1 + x1 * x2 + x2 * x2 - 3)) % PP = 0 ∧ ¬ (x1 = x2 ∧ (y1 + y2) % PP = 0)
  · simp only at h
    rw [if_pos c] at h
    obtain ⟨c1, c2, c3⟩ := c
    have S : SlR x1 y1 x2 y2 l := ⟨nu_iff.2 c1, nu_iff.2 c2⟩
    have hx := nu_emod (l * l - x1 - x2)
    have lx := lo_emod (l * l - x1 - x2)
    generalize (l * l - x1 - x2) % PP = x at *
    have hy := nu_emod (l * (x1 - x) - y1)
    have ly := lo_emod (l * (x1 - x) - y1)
    generalize (l * (x1 - x) - y1) % PP = y at *
    obtain rfl : (x, y) = r := Option.some.inj h
    exact ⟨add_is hp hq c3 S lx ly hx hy, ⟨lx, ly, on_line hp.cu S hx hy⟩⟩
  · simp only at h
    rw [if_neg c] at h
    exact absurd h (by simp)

/-- doubled and added, by bits and slopes -/
def runS (g : Int × Int) : List Bool → List Int → Int × Int → Option (Int × Int)
  | [], _, a => some a
  | false :: bs, l :: ls, a => match stp a a l with
    | none => none
    | some d => runS g bs ls d
  | true :: bs, l :: m :: ls, a => match stp a a l with
    | none => none
    | some d => match stp d g m with
      | none => none
      | some e => runS g bs ls e
  | _, _, _ => none

def valB : List Bool → Nat → Nat
  | [], k => k
  | b :: bs, k => valB bs (2 * k + b.toNat)

theorem runS_ok {g : Int × Int} (hg : Aff g.1 g.2) : ∀ (bs : List Bool) (ls : List Int) (a r : Int × Int) (k : Nat), Aff a.1 a.2 → cmul k (some g) = some a → runS g bs ls a = some r → cmul (valB bs k) (some g) = some r ∧ Aff r.1 r.2
  | [], _, a, r, k, ha, hk, h => by
    obtain rfl : a = r := Option.some.inj (by simpa [runS] using h)
    exact ⟨hk, ha⟩
  | false :: bs, [], a, r, k, ha, hk, h => by simp [runS] at h
  | false :: bs, l :: ls, a, r, k, ha, hk, h => by
    unfold runS at h
    cases hs : stp a a l with
    | none => rw [hs] at h; simp at h
    | some d =>
      rw [hs] at h
      obtain ⟨e, hd⟩ := stp_ok ha ha hs
      refine runS_ok hg bs ls d r (2 * k + 0) hd ?_ h
      rw [Nat.add_zero, cmul_bit (show OnC (some g) from hg), hk, e]
  | true :: bs, [], a, r, k, ha, hk, h => by simp [runS] at h
  | true :: bs, [l], a, r, k, ha, hk, h => by simp [runS] at h
  | true :: bs, l :: m :: ls, a, r, k, ha, hk, h => by
    unfold runS at h
    cases hs : stp a a l with
    | none => rw [hs] at h; simp at h
    | some d =>
      rw [hs] at h
      simp only at h
      obtain ⟨e, hd⟩ := stp_ok ha ha hs
      cases ht : stp d g m with
      | none => rw [ht] at h; simp at h
      | some f =>
        rw [ht] at h
        obtain ⟨e2, hf⟩ := stp_ok hd hg ht
        refine runS_ok hg bs ls f r (2 * k + 1) hf ?_ h
        rw [cmul_bit1 (show OnC (some g) from hg), hk, e, e2]

def ordBits : List Bool := [true, true, true, true, true, true, true, true, true, true, true, true, true, true, true, true, true, true, true, true, true, true, true, true, true, true, true, true, true, true, true, true, true, true, true, true, true, true, true, true, true, true, true, true, true, true, true, true, true, true, true, true, true, true, true, true, true, true, true, true, true, true, true, true, true, true, true, true, true, true, true, true, true, true, true, true, true, true, true, true, true, true, true, true, true, true, true, true, true, true, true, true, true, true, true, true, true, true, true, true, true, true, true, true, true, true, true, true, true, true, true, true, true, true, true, true, true, true, true, true, true, true, true, true, true, true, true, true, true, true, true, true, true, true, true, true, true, true, true, true, true, true, true, true, true, true, true, true, true, true, true, true, true, true, true, true, true, true, true, true, true, true, true, true, true, true, true, true, true, true, true, true, true, true, true, true, true, true, true, true, true, true, true, true, true, true, true, true, true, true, true, true, true, false, false, false, true, true, true, false, true, true, false, false, false, true, true, false, true, false, false, true, true, false, true, true, false, false, false, false, false, false, true, true, true, true, true, false, true, false, false, false, false, true, true, false, true, true, true, false, false, true, false, true, true, false, true, true, true, false, true, true, true, true, true, false, true, false, true, true, false, false, false, false, false, false, true, true, false, true, false, false, false, false, false, true, true, false, true, true, false, true, true, false, false, true, false, false, true, false, false, true, false, false, false, true, false, true, true, false, false, false, false, true, false, true, false, false, true, true, true, false, true, true, true, true, false, true, false, true, true, true, false, true, true, false, false, true, true, true, false, true, true, false, false, false, false, false, true, true, false, false, true, false, true, true, false, true, false, true, false, true, true, false, false, true, true, false, false, true, true, false, false, false, true, false, true, false, false, true, false, true, false, false, true, false, true, true, true, false, false, true, false]
def ordSlopes : List Int := [8858842858471144062331262387151666203918307921945614219585344917679900808170212843923625889334734133933313673772511, 7109104342236609320238127310982783812856859341935727897411804600206190907901433187920814581825136883215782543970557, 20590956498984373688705903497760653117129689471332473686220510113577503369506072467909041716296952770988746508164185, 30103774778795941415073809073706888286306045432906745163509439884510887628032802502049517073979552625851800868520045, 3354918849260294048728264271200930420995689760791774555569627453269993889649844683537144057544653673594832970426462, 28624053560730596840553832462786954759621521941114731308774346564096341078830355438319997965029044200566999163425149, 38886546409079646831399351654321238291202204525571768292563977626553704278259531611303848170620386536147112486792439, 4339021123132810202208058425508046969588541076480156658274265177599767335687018766185598381322799578665140256675625, 3094502205714308724835669596579460488988165396138748173089925247032291144972922055248298339189318590491902431766790, 34227447412343926627748119495360893537622451449571500639612126588354812933170137346667483456879047201271073869934556, 138929043871688382233005781832456963494260858121222254521428795844967452542972445011728481013828274874226374032044, 31274532636386976665826026630867995715859530184024196387085816638876369101318840904199637431097696829902846216418388, 7477722376498370865757525504538329984283763324084119598685289622665139752024988104192201374188250641167047846515934, 22905172906578432194677176758457650343133273155317297451328807386445288358393443839663048709580868701562600889728099, 15627173403670620584229226543641029725516763556742737267883246280212036649478294285226142961282235740451099281190440, 13980026780125795041267209741912098035953262125972157974707013174989810795709347230504457441575830177517028133365809, 31185409540473720763356188244729197761669023096623343169739501200800501278405477311453694001619582876939962561847318, 15126209683384163930493619694923207642476037100917867765030597039497492809868669695176370760344700524941807861662356, 18515622666218721141068569777440163998394935667963246513543984197579436834052767717211290011687498201565504820495160, 18076410575098360053918491390522408846349012574862953920371619295787414338488949797023074819820067179694113864267986, 12943609443116478719014796414750762507766313711771126628494414056987197538444838097871939060289482347275938267481782, 37953871540461554094438402111714451211777715457929477751811949841634475661845005694371780979496666115272853754324911, 22871749990233535863171283355786490581106573051656039465688250985804241893791241614673526554499786801410640327207897, 4037762632446811641628063261699425220690895480200539049776249472741717201703716367743241286280540141662103431071233, 35219165291448697616446859369760345071190334357529304029695260000435889687474269489876505250622870278246428170138959, 1975802821549056578464339763284473036327293568837340276994557271727612377125953047734142792384601846998711233414608, 25970255198114399644688556546298837803834729301424809388670207965211933761251027276308170247105504777262152168733693, 32117666154567430266245423277966052678323045838903586231474554648470752426928526338679486951535034253280837939593733, 18283383047239564047910660880898651011130095952318524756450257204489624950356879674229302378225470433768211719547852, 4288116595587598188634950267450965752892937848321475873757647047005035935856134667669201938514128969055439173320753, 16111781078183838779114936804359130738607883020216186656014265435316611375261654239247351294386487074928019540950557, 12475511578886850242532542958749661397801323727580774382109664867266268019346911657467204884856227039084863949622979, 34474578071832833068699623082767157178453501152974862090339713533312437230281918368679431033496932339503808942762648, 35569676487520859322804428821148687460753880991998792499971836723320164497888430223235230103955117545931355056149215, 14091017013706053112069831092629618686788956939677114132958677157949471079694766419333244818591825389451472821973266, 4633996484943548548817975614743286386679409450608215843760854466102331792669203798672142630223098640358856443258651, 19973357931541483365769262925890049759404763830896837792323813706342257371874819386656642245399427232422729269967580, 24491012992710367910028481283691878166339994185768276145579507197401054426181393449699903639708797594562122842635942, 9339838076658215874832918454116292915531399012954873823761421381305910454906925002037577536082513489062228141446842, 30202893557519739589296488419927422705165517342288318541366687348685731708891838045213020574546065629842288639439476, 5242436864139422560650317561202013605471827355345424297780645321012417639475493306142365131045851188127874446934039, 25074414788129714563729930755641038279723285387074650291780278696670423460421323214498633816253977656969917291605753, 27241444318347934310701107620488097737798901238757521371555073157757270485126539720235636015454319134607749407466727, 30985273117165364183947674893223829884718879588207580166050053821486957931008091538757592526964967828849213615246329, 8655183266115734453635762243578485322021008414642759159445514218189167712667031539840825612737055946100792205360931, 24248012452328302128643977955457627462198208658351368755557909749946550244112395879197409281714224401492808362192281, 26858082145253059774039283724850654796706002102149066796329966643128575330698708848265348467062904741469901999278540, 1148561647184831689805554424802424049635596681674376909080567406253713490934795813823515856444931077275224587740276, 38938552475427047947622665183115768782446223034603247857710870426219521097807290518321329225766955501823504438914032, 17996490654109783603720993358598887427453063698589647966872854370777537852354996569017425691336426621098123453657443, 10370517720641041948967726270007711874012502912055701783141094368202841798694333434908771369538576134818844214411568, 3971875199781766144905367150643543217252400158383716956424762714811224177633234737222998320101821681573659188862090, 13143274895196014162983869891786758749183766028886551537788417247063950478010614128596032053614647024384910284437082, 27091539115270531251838843580554143831451789292851846849348216236012899226728447780757609256640144133884371455176270, 23666126404558873938513549164915520400382170354181977642043558284051356409276341491057397347084809635452919065457565, 33092788669847225098050928386151639824540466559914339154560747349376650456478490576815229935284284412537267236438854, 28477803707725771396029249679582714034485617716873181663724343786840080156777012023021886129772693913629459480478431, 19508259088012428837872448667447470916052197675153759186180743481230889418515585372347326757003945996150407955317477, 30642734326566713262229291148753160909206097512993019053650987968459499873862154338955662798419806170434977654269005, 7908552670400469236397634363928204327909045606578171888344650640258099742574299640870130120203547187167544702734636, 5463810777936094875750201192774821808233058197408313313043905137193019083003623995295610794456667409983204574632399, 24195292770963121473849226066513831735005014878990708757002183209175438234961391742391459689926168094981873182856048, 1547221355009032755451064710823083084291868889788528609329003505340570212836767383950038855499702260532382586637531, 18104299022564242731152502093486477946263490442536033080992109378208517026950496424366684017273589705576892187924922, 36693064194560380847437202204241993792072188570806480294203730017552999587146878995301763792076616158851444457261152, 8929598453861074433580088911194038395844807305245707615861803929188982996671145788557161897780617771205290817603977, 8474580691445954286956559906563783293360310406882738165202984805981848182896939314123541852559327103546822569186658, 26131490652795074228258720279891455436812929590367601787039942150775092984474995229902533475222476465877463010500715, 7110982503085691666689161940528358081163057809388488721130821885796341270346347558475753994826490381754597964477216, 20899333748983252328281931116131394155574618730816154576181250031624417504628848976597499162338833598797949089163221, 19634750793382315133217122868589237833421084675045431155847547846758221644987345142545473538464240487845036386791518, 29349130229471354135464184320509159909892732221189894147263635648629306250137979801894821969744721250727929924920891, 501253789726750999253285811906342245126533044296714834939257120627443666511506682497477627256894407108100956308974, 23864733036715820988558744608306185173455699344826571404273509288148725792376226626701215539501923543907602918091422, 38352790797092809068362378322579861807877864818031076041830629127023021993307896108173548014995408795038281795836510, 16722513294674142063909947784267647225347524945729479567586546842154450414446049084565523312390476387823046184264587, 28997211683840396006277247875710360688253676461548862778526125195305897455930668863682914003249958331495004474549579, 30031265545661242084237980885659412603466977040614083327006200847837422379923599717210018290955078295301125337181406, 31864853980626070927237114678660394683026667074322078398798523706978732806294697878924713617979593133096361653736624, 10979608296804037240190728838784620671134032991397488787316282272103300253829501248196973950098390843433512974913025, 6328682235613273845218680076729795172509184939728591753269174665237957540170215277840986337668867050485697449830899, 33234271277214738438366568119593675700874877304116609812048628279822766588169364590258179445698357610245880759595546, 18941357584803838579585291501684706825751402000464545064283345652232049769042898680234852201251373332940253285973363, 31731857718216725816648142050865791336780096771942172497868938597596525665268171722563819512731516036511778361751560, 1076704508842042738596948218320898936067734490959869604023522412470563041356772950084349730188580654910601091901615, 6718668519604067168256111305935247107056118016184575989501228301189992226907292202998052441158044973918465961504577, 33818668852126545472368427992211747824180949689655281307977450872276331306090168012212648441812442274747033375499080, 17142285302399497578517077406495848169209511568216836591007425148378317654652893159653158081432739098238998171300372, 29244651834966339454323356524308274769955485047435474748311763326571105692264531999114418451618880172695101508200511, 24767821278972529482127858703558881495086491778387481354811731204663483519593966529414298481966519003848525841242364, 31980195822195849651300419165114974712524750944013892317652583114788514335753702119288104800731019459663742627485186, 7726052702564743661723116826122707675606691944247074074727520388926045139174377374486440099569382626356391726010238, 1567868416717802525994348874373889246071419785353811976318494768512709316190030457352750981673132949964680270189134, 17632049123566019782162527886288105440900471777750289974952478024065825087686051262605719557232709672497981817071313, 4290761511661717930386650477074638445092791231502102171777130078411043274132837197443985943475866800833893426066544, 4255931716873516277795865906464963145559315817878204970958951394819652125670361254334876975375038943441727102706163, 1942631704870056193724973088234818792891123167225569743477665077983417149997773585571162560474933152782026131869642, 14637619607167885636412462917447387552387615482375298521643140446022231092361981148186771844717111564505761067482415, 11045019946918457484423332053479317478208697226913178794481661362653659886946186191543948829277573046914385710623159, 1287320249848604884426144893342363931806861469750677123598218485641323945278722578104738272238170298030478627068140, 16494512237401900725458347631163425810316741331995368845126965981094692632918180022486047348233707717442814308128232, 20562481665256864382194834677936134178857921365460782624224247763908096415879237059882320345544485433273543330776125, 33836790568831424790323801723025519259916813099444009578710852942133496842526786353162198471793333065444624463442086, 1481629017192310762880963579479598202783907985512224242344455863487554953553056519215203847213647073176619929991021, 12878911200303446272601978786229031299102996197686784574013440528634330699233256582630275021109280102450446929686645, 30009450880632995236459732224239931577532966904107025895426049083579482592637767705790202390230969689209523401454625, 24724766090884657076520069194686044240046146482764230378836034099158620023357961481079775490715197989052391344373321, 16312640145122256482526633993885627843338681035420134918334679982114338591271624048541888748035533009109205924704723, 23093079920670021682916481902606871318885436269187719676115357585094550732261765188273248224682074890856796719555704, 29318722533276242679516095121650650666179997747113003947742028505691280814152850281753041036107223443638029022076003, 21722814273830884888232287363667844771025418670219436483718742937259313315568937676592248651856527321186080642265666, 8300306341193792045314423133142723311415229110392218774390336112201018055606998229403780198694223784872209821310214, 5139278308004853676551764907648310272160364678192134624122011344251829240682326353877145621729207691839368397798548, 14176797948174229871732105734827944566038346169806270464044174176224416025397818922463931186333120546522751880821469, 29570973569663376196785991856505096871166785710286288743566549046521860144600568519705302252407631051603545159793836, 37191699770315460336866918373620722274011407625322768724847246170247527926719586688107038287253437834902421073802207, 28839638354406987207927674963106079913399500550046007647066428447641893891289262880996429933255184997256793060573644, 28102731838584601499123735322716109879568357284221495959046336091152445564838131341726720312229932771722582454613626, 34006998891433744282678529981394308671710082035268311083782150917126622745508767460215668646394093802364848152929639, 39130038213136706193079839516520853782998718843604899951310284221306803245351168769236033012370939786788886901626674, 33863930492567309901549761408822568441509987557135500572947988229794512152046353869142003173988256546717999434678352, 17177415774781176126514202621985623584166483144312700937200242913306857289395570505234160943266892425088808181452256, 28026899914586889651234516196026493278390253520245680047295114873150231164371143056065113822676604179079712551417316, 18978593962005622209483923042888481118750742214262809044372628431705678840002617852624376251709893004029171303601645, 17120461394733032330016010276268461611779965270576010043153352059972318788768062639555666934912415357889511140592005, 34176610554875786916907279777628135027213402345402109629454572355318902907076863389572058141051161644743061600785756, 29277984866569385465375903671907672512369700444739519059508321949475714119998917708848940191899382295996734546371756, 14220085487667022183511358386511276847460631253365304770499267274764881320925714350712311380269020784709902028291360, 14201945554127692404684505386431358463642838730749609800647651591742879463330285318393966225894317906205457693408680, 32391492905095318644184300270438975346281360868671137422281447744654029701025755435635472238229068678233332379972993, 22918471704129301385986175198190291938148545113972285706414120095058157462523222996651151023538647113388332288732867, 14054623448297702638186175551803346821154740982947391320143532260314559473819414152062088360809957830118777273393463, 22589276949223455450194327340669769802738688988910167020913252386732243095165963784432814669563611862898026198756517, 12614753082814639142540356707258890911091633427054089476594455630100952676827196475926847699080652801177225451515297, 12494669500502570206063542821985693216251435814873494034457561291677402855953505053079548487157137136061774328035094, 23678565026825532734370405305954991128642715277355246764557190819818962083622394924825518961003576785645822764232741, 35360953355798478714287966812990301874758117719829821016837986426566305640483875376725845125721353669300667425440320, 34008264903014267720749860135643275190677632565374535146323558963488828299810038350431402476951490453013376327276453, 38266949580391188940062228431056418486776971012190586774400799238791471887288798602178411571656852085873758121133047, 25494451827139503080874156113098273264749153753271384069618980518061115987113826968970375977934930238631245809931952, 33748931716338600223346815193751311715357541589899166650581980455815046726607856591404339416798692458027713567807854, 33459962260096086087277614461588385165031390714381037492904470287575945751777375043664022766286397010015606237768233, 5344831596747913169654753716213764634289227474447654500513100058098617560872085557306451960825516011491926459353317, 29138991092888953502259717866350545270961951382032658303572021004180013054421666417637439048813047194439976149042843, 2261383065058520920477547575867989422009561644732798366129264636059659758968374515035343966978018263530709825435056, 35693486005328334319335973529368679801557565360697802510204705753303866971620855426085747227444298910617827289937657, 22982829368885165101160945997238908576077587434630917323279480457724758527800629462685146422780034264357855573367623, 7983999955432980906936542695381158436799538335510320696723701216913142040853361243329461679714436379465191133653532, 9797464509991198536450945832380888394543268065572032643991685632271532216493771327711532321468290527861215670176834, 26648253336088650344353256099835250060658251461538680006613621752386979710463837419361145318440430697575244338747276, 27950627201310943642890617503138427654510310436395175768090484624284056389402717355312240606928203716181882172083295, 7684257123618790715828486937236801376666096074285800712856874000018382326460454204147933684756658207855709595826375, 5591856725600763253865786203458890652630568289559519181141256533090672080504233099491117531815213548890974209054624, 29214454432211798320574277021841582838510682580801616426856577069706599434888919337268781908897805553772669546897466, 5415305954522388396635852483667987120791039382855199320696159763843063315289566608111047869656504331483413221361824, 18511360391825869826913423164580692610030066441814980117305463754784841830755361471228279563752365559490576058005225, 12953388217120576651030858369735616686169610771159732444902797926226035190997587569336549722088869467887973651672276, 20195123800720503006949735651401032589320712292062343883222601005222270938654181513911473253492803958165193754304886, 718959204317052012069583592286176291871498824703575999137051845594581030778382236970071250437450384275761994693002, 5554358890155909678796075514623974144524336483853048329892955400139761728869053474382203889390968500003123525214396, 28232506141050250412935597748948213048110355577169940393220291878872341553510717592348316108628472156356161090560141, 35281288235789215896112965779224209443043898560189671003238725138973627692296161313532895656110322851341136591081456, 12257684313529952979025438198058116463139235369463638388470014272290807575530574638610192784903523616435549034068838, 22961507689242843083450725761903420733164843913248448009708816457818757813403960350219769239644192045710951817049015, 4518789852274771035366322372720859569927221574867878422025770575628638874433801767360365308691816164401904259701491, 22837891165613199985564270290503072697460572582149517627830409533581070129857664617897278101004304991090175512313018, 29369962858712662212222614063651838260477758199580789343549143268895097562855311937257958284360374932073535519378095, 11307825914276015987055386862684943730540941462834801674291601055961836217640442852597114372280854902321047259151642, 16632092012971065504994484473995453472610315237008326758026659092932066217822565220811839316255413195411745249428130, 27792156493773862036207220571535534346531581643032116750243322771990890487672269541933330414046262349271422117267717, 37204394950253225899809867651895390949777119671722853109913816398918172077514640428717475867050636447641820523638103, 3255344048150761013481669754815166021831683858580041839663902494789707290630724861623656639508148993926032018547505, 13055027455658987153266031724219528478976721302456701317490995125508840251200952697120128757107405136644025749221162, 12015168742700415385156309800233368437747652282797110540067842264249313444492347101176228035097663624438354236643572, 20734120515713906250878414298628982818079046219028947470306531071715338959924794113721081352083134909379876011374972, 34405953349237136287968069821652188951695077407193993263337719405431782876435095815603633426597108644886266698182814, 32706409581565520504881098366183876368925778812644452521626444523627255376441385961828693691933242925936228615511679, 18494709251116830357286417144147032671903464597858478937994120076629385905022207402447433816050504415938080557141921, 4997001999205452593222321533847624377005560963506462284854256134679541269274273309504776963984001507490182646813940, 26146368561039164821447239618389523782145149005598842741948853812252793869785127556969068229041053784515171361475283, 9077007498913214513452958560303450279317224979426408378737765817638487469269178493301281882612994985369631295664033, 26103818936650993260417964453796412046440334627289719845941600276180971459489706891862371960016076001651693402013100, 15565895845291421380012002724136678268834018300110033435116205757391959550559263076365544801992270267079873785654050, 35149025730127738352933572986970037781850111694119899268046648106313290596125873561386657008090602380271056123102613, 18289310453374593113279664938609127488495983300704903545114598961185208447103323816293018570880260878848841099235521, 24257886687102913057390375286922118348727968488676784187140036801322114119608562306172525623541523246502277325471510, 9666516941928254242790782389287005823963718213334252605909469744908308075733053659442069478073607689160704466409722, 18659380042630851184815433018914142450660462950476666466344434950011075859090524120345741609502764716763702036430283, 30054156551615522225823407950719686210075719305364896060925292067682548896238925037175096034931178807821456776755069, 21626474440428007759277058312843834663116275449360196374192050189168828526590204394852858065918836376158491490871735, 38559047292725558077896525812896711057457262475764990170563090870226824434619748607620172022230550581330686465302749, 10221486425017558044258471695597879077310334311513463580518678847032209305913681859619717324949340007087677838713976, 26341395163458213984707188825502896059022212819883333020484307865149599484334997458387716742410549155021003746509618, 27685254179003756527122993257153546416565440271286080695087528667210233025070335941270564803758912773054243638873306, 2545408353915106123396691927375337474860357644647945338029386468668401325759048732938205602525735349066524195049709, 1166137064685354899013141372861033216936442073265080856611229763446466675852212751187393002555866831593812001176292, 32486556149544108132906926589382598763196604464275936684549734972893020982856240046768260912993863757226500618727939, 34183866214449998438029434456233384222826998629797096889273721526495912547724474761500519464611439240946441737873932, 4492422642381759416380337275371189785842804689051888841444650024002052413811330673274210273615924988860260791042163, 11842512305017946522472638329541299873834432525112758765133884812948531688157214738590219204051891228480608290999635, 32549053846009137320453699557140350502420007583058023165096025159652844807640607332662858979435552807807022781435704, 35146360460235861413771505992140652852643316290825856042773329200851390491423969296369389037022274476903433307622864, 6055723314316528536451768459422072023668989478554922907999113543925109413987573747013357946407879111995300273894843, 21934919721175903876236576149990147406212342120460792986187673523474085842638504398856141127897064889201983412312437, 37538664584372985754371010400063600612752230478418224229909218475992821829930938004345337369446142667128232300677800, 13859013324888633113005015750612344236665315743637603485815048723615093057026069950074431230977630950389720130171470, 9313650432181436035072948195394248707031533945091433946232728464461244903917149101196381181526163740653890107031867, 37667707519762068186518295422467992784647247678974262998081468334438627112485966640677208004223300410878365846190071, 23837557481040648616883038680121527040123267583278037830903652777725806268727005596463786888388038296688147891232771, 8108099505415572256601405512227190496623025049343695389396416704677351952748795571844315335940859649442097702550174, 8147377844197924861323464545378849346573730477115718243365311142882893937566624469111038901452448112588878594663265, 35906835033772129648144964252978605399582368757610020832253617267793558886720985305667580788797930777561046738010603, 7386745486430301492386802593237317812556245305295213678652983196179274946832399459177595428166129135089113709483309, 30406392292883184793937206503237221300575207482138884444737500900804871830052084098702136966275929313887480913435332, 1497907947994248459767038795592146365853469122823686904871037465069631995265019890017435983311553090619273104858430, 8848043314441828169184341168708228770070326062667522538323077544459912939260725914805119503043605032278600785012289, 1875854649053048640849000354330204607869352294833915000226383183638126944632849760343619045602101108995766416536620, 38577927701894770961373711356743280610102862993985913959825751682353881246415779113584198029779617888678439634581005, 24399334067689603197617640499396202443946203942328209173606993052979374996323927300022148492593472725554936920701074, 10162859576980639252695049122925292147911488063694114410363520358923467371578119066096022711505864894428008022155338, 11473735612151348807015306621022489258511797058791575693909588065335803538985455888455733692392241994710734390113227, 10824712238397341034831688210983021129577371759191816997667556602097709135189156737746985223018365671504693032441976, 38977020413845984408320783307523379421747544932641648210950656260241132844740278757284923115532699504850914507307395, 20612373448011561830008755837956383117012521392119960990929541272233537163886551580667088438652390123259882280975964, 14807685525581362456477796276607435915373480497767587814827332415447226482464482005429608830716009253201638391475732, 29179973933559065774860319843330127275005393896824719717467271264747226697085499143024657795978823409827270102662111, 11567435505356043207443679367196162120710309942327173632216652759092710928758193462907939623254115274191616680176022, 27105243661426325914965186479537075245703509401244680245641205573578229756376326259149808098967740713697692751834503, 5955989322539694298827898445392039800419444059918072634827140701018804022304423745845230697136858411881023260708962, 14652514247173316338607431038790604511009134057472162009831061140752983652617603690472623754484076172157346303108981, 36434487664989323541198393749395017457711855946212551326956274863454383435843328659091083436304103095589158783561093, 27225361653974619205628521765604430544306652684035530161694352341934261508114740226904321783467155140935660972436488, 13407583279689139018495471107201234045350799474026645125535738685050695932877885664187688787747655643127505895707911, 18976062581615643043677600814648183846667181215673922111632027115302673423299973041582974556186051022316328476755989, 12467604392624421822202065933481684949292657639069794360435216296134236230040977623591989550965848213085394510538862, 14672691555219961679424647020140420275330214673279550607094089151121358666143859262128120260788774675207816223681575, 24191745444905783009283362521396213898675056808477305013433245864988550353483829274034180791949651098249144132932060, 19910027164433448317296937020439205658953912218937451265376811205467011698495374067068277202917530075334034453898455, 882355922645002466812579355973280401535160928248919025017847614968852403030572293357963110381899167350392715919925, 17519016580791079301940370964328968028989583069348325443288280734902131141479880443390178338484466308723331287404950, 6012403851029726772931125963441884409322415604516312049821364181106450486755298958177646093239051331293062528612358, 8318267564823504155702234344344199517024217566446045472601516586802641498979126195421436080273205745264972603391598, 35267868577404404817365890261722515232257598213968880485618948572804831882115634344453527489964989171423692023737013, 19830600792620264267514512102499545295311766601878716168845692225961964660548341925896639440451300723996656273570961, 38606628738048466615921089090290019984890857212579454408414132644432126410190766471277237899600447659347844003036245, 15014509959086013247293181890770595423232210278328565128765458153788106928510180625073360845571130513954578897505218, 1598431539863146417931150589919819656530388361046206792574072381355247430684816413507131753064435076198910352335500, 9409236113171266854649738637609966602045455051883427093064356326757866430222570092035815040498205483731937773150875, 14216826613285989266747629650004436278577222083643485152487237463557240176143600969814805431437824337063670563060577, 12997659014599790477799690199421985280670639930459236741359802664976051731660610060558314103820758525413359286345009, 18235640428373418581871559114576608686861379073501586255522466373769951586663116223659146310117500615611129563788749, 28137367717626852435693955901803139527292399017575879564572520373466916414759242251123740620521917515223619273481295, 18786268164276167555949435784041460427483779802000726707170771559383083190808845558649481563421422537030457317410909, 26266460719480158858580436321387638143079450822725857910458623375877290881595493401220154624267051123739919778798735, 37063790262947708836697989560557040027726093651985330168722193192265467956826799151835730533915134170022757140046364, 29879723495889135343046491445810974215937334741660833294439114441401152700467860213150520400092555909211479469286819, 22174816607723972352799584708814490985969623094336547485628415090561054892754442191210254893983069208340297854194779, 13845865430644501169835409106050761335524922102529483565123077000360911781879648423332247142713950527019073466715940, 28107739210691420202230757859842159255526147976818649095459007673813501118705165113308911823693871870442078421523488, 1401632736827768408490405474889674569546129509166717606712880745009611779102859364601544176241005731175258126583043, 34192764313461678411419254304377338471970545927246268437799051673158291165738420754914377502945769681511139959724435, 28122587877817481537755844487256526326975940582673432872418154011538421849088864888294959072195332985161395874989667, 38565131766478364499383268791860317974969894089210276889268092382787624514831199537861667292374004572849466837852613, 36872967592608397698336115421586620993856041544757000469447329194985932359315644766284170150640420372755611029774037, 2737727800279594920523063422816237307810320999416561746276547709358748106207933551269710536755622451275072140152537, 34875523898821530519142509072347978885149348715923609825467008071200952540361601327604360697861333302902431567332953, 34218778163046251682875252928327072356658501955599159906098066911554056130320709437024080752723977828248499551095433, 2492946608880891219267214661045419807705010148942066828237335004225995862808822265442398170345172364837977632341467, 7689063258415942934096065978134451341804072073398816840861521534872850233570427109021909995169060016552384528836818, 21185153700351209498327326436332175137555271829209685275648269654611689031266166444574985663120726399349008317127816, 11243576044116662832067826149285678088762960926386360439944567624197873219302294402866877988390887358208182113060547, 386287314997517846890508407616028180269676821954278019258531258481021584575411537903942406566016767946446367087373, 4027380801987592010400052572586890870566270751885053991834658432708320994748542640534729161222425038757390144104971, 20999272383683092423932996945046618931941169262049218923509574436979198901889611313227489439286243732398962112494803, 27064805867420615059256536475074238175449721484335783816380268775531549277708213695357903235249014528183700512720792, 34869668568180240328898001210635041738894348545248322503656939895913648314256307241424689631092213606151251518380525, 29262943614730816584989743797830341568869693155751397743667739204492550855678699733553434341820154641338165250171705, 22273183298628938062168781566390988040593778649543757336506747659112920997518897341640107787891473176097369701687972, 6228975179624208421872734282352834096051054793057887404748252147022956498598048377764672549896024300038646143731067, 7153999695041514440256131514896097730130356305417331848940992424859563629449258768930207634433788971439461214474742, 16386670119563113862251785611747328999030508130315532383967648023911749132899588203109049471435141942176053770810380, 34132933164550201620504100276662114105955586573038683160684563160789991475601046135776397352473455319527354497940259, 28055435420469627695433785826366962587928378091844792002972784897803586077073951695192336654625193818638934970594295, 30192751997232211441296017683672755357128955886908723275892835804849414754818187833985266609564271460569322219137606, 14630917517128761531994279817944644865051043749506699937171157164605580783281745038829362834595434898660158055635074, 5584978369418093486734938278239110520070219404650602184268324373438001691066982894854526815287998684392812586333907, 8589451848920937346387003560836157173913060119973648900038817901992911233623485628962002391886910229005591940955343, 32299052252318209257712266461695726411080830680315752471567375306006008743765181697417229688091382668133952201502057, 33126993352052750593744614517273247467098097095001389331790935753541760605840693256582090563112069944806068118235322, 7751483221138894389323959076220800237623425971319637659126419289631910277958414066738590826545475688901125430554735, 16072765452519413445804315417960102336631949451112679836618116756192048875911656092578383863720414636193385517407660, 25968922489634721581858347368871892283521410199428999967747916750967863264768028360904872881778994282177640111029007, 19705766116228446829333624257848533062879390630443978852390396751985385247366950821146216862528098136665100598897822, 22642171354211828112805436307288963906569771425215290472015909678639133196789509814744240156331379970964518129802346, 26504006605773279571625651120555987287522269862025256087886499894031195577265112882038373011824118136091555890791819, 27970109887204738145251569298360891199442561525281927897563893822153019606035191122242207670593384553114597651022541, 3283095791112526492278214088945510557123779990861099423655571330659240504847783942067460581906590267785179673918329, 16627928310325883273056397153258448957410702320310232962822119579585835080234608022254227184363456663959409909145448, 710085994575841460665240849642072683573103646510248351721035263136580979164492227018403043810034294150060206111366, 20770651991772584026460174357486192072991699229779058063596675778231693067125266638592501219189903089812629014335923, 35781226442768426255295961383519540589375957769800934038108724594759919631005508822117025505299866547213470941996642, 34309094258233561477786145006256575449038266063653364768287586190283740791300461221239773019562928865208420936410656, 2739439590999829323506044156536533603595726389232620994917131456873518825282560536974824294577924330779213759982990, 15222014609178105507040203716170519431706303578866244884146000445859310495819399735029408143193254600995931497089096, 38137549209831814431052367367458135877270579877083954332855583198365077975155533303173737050826402415478893066579112, 4820349350051470383986245676207328542175742620292243624827644588938724213235882237848466458281710762893927973880, 20329116888241413326932891535400460863221309209011618316972318138417736259077490034439932974521452230223924506724419, 25381080707355364249989139370340980350374465292130868519965534075895977784710092774221732751639892843916064074382811, 18292351552392015370523315808154660969196303481265185186832770661561224186763275083154861449926409808122357473612987, 21718313349358972960646863587909278892062810242792083257048818384301316658548712480793292257305691035316501197477357, 25886557147932665454241809620130859524129944399552784653854214273670125403310044303956892627225624520262731197682036, 660853167919113479117339971562660738274262628646894233901773275361787882023217617505795229287746930110529368304022, 17554281284897829651543332253360938338895591367264239991421492025587591671571558991364458584563347629989858232667064, 31480467946111711778859790886080431032379527858002037111339741544505237190164234187255976573044149998361819648340877, 16920632722617881695662442542835939082276110931175119954808719639929239148759334930250419919263924788208518720592569, 17509539925499161331055387303718307543001762822105488269557430751544741917916409626619385157980227825783371265188653, 32718726444167438050542086294321742216880123004256821994410828811059017196599501977426680398315145905125652913138417, 11037177131226253238896735255275480722335367684355888279210215603797887415828961967840401460201870699287597931625554, 10203561689880481522906359864849826881399318373801485585880353422083830596827389273813310252610517042470684957958761, 33226866587134932658503944731141897254667185296287722388334622112935155099032025479782456221778445730319208216631051, 28993387002914700703793310799686145741724852486475132491809086610564455497527889319422749714933919872415992238128010, 26683111526103689418082318239427576660179964765282535092306312610359785133132240459681263582962267518759421094195399, 38087266357338264858690421939216352894122727103656295830222935448378153866634681739779335661731065511896050030818765, 24874279503064403534549636481680937804635777389176983960780444780849206740466160796583865760486995688604941472923677, 20467213401262568386960347224935655245322796951155233673536924614521886746945264006449751526675894026844359791865660, 26980173312717099292808196920717317632078379511225409410659052559270752731615882151129827116564710680641224727338616, 6951716972871304837676028812641819372101652681730267241754298047645357349885440735792704324339128457327001703594104, 28013927257181457760370600408151789337349414938215023151377034922379403345194028945721165506405229853695669085748054, 7102589321809157019643517234989780299937155440146425989140959943513778861235888002895548028942725758900865017407220, 29771942635878015062948989798842672360089835933031531748606625485573638306587217853114427014134307756577014572452226, 5781371707076355934465922153163489583909509367431820530653416600779499467283444921581947086678016181787633048037110, 12262955953767697849486207961021346008469344370703082763485064588153560580214207128821539241344214887978794199154157, 6388665588568725917054631936853073497107604790715418775930137638145168266594646331676211018028423401027772642889886, 3320860429144046334492937574146103488330539865226164145989930703927702512191902247320195304432056765675478573793568, 11164132379445962188055570389902757759793636200588288808087797954016901084734069806406078564648958910579799248917851, 34854391629071266710835896179321853866132034679237370362497099674529982534913970518596317586172508682827202256359059, 34562016327361421537431121677744228162066580330384912212203647489541472831420772572932210660694098432330547441618458, 18244914715574070400424517664600101793629153529908496286831770539770769872963275063143879554990841931364266528547047, 37700573208272895199180744623326741542848751741933923693915080024533464620347391526585272997415297569915362273178873, 36621796184646016984957183763088741355173860426933631875343907858722236584373710192811945077478086463533226278257513, 19186605660867130921684477623610961461020126951704868334693809866857160248617788611366502451201043738701039282012740, 5053304419782398719332816008096449164700248006501170741194028135320024988159865562920246521721111543924469996065750, 29186129093946439921001432044499438601706465056650440664333051394823692772896891870921704107094707549280725646649430, 5239003406883179829305877106263931022237287733170840927944515465242700848467979321508388502872757154186947416126623, 352252903210046610540254201992361044803119033276465504837170340486724569340856223959045267345595548652363296537665, 2395939855916833156496706202748430759191934559335392950313367467125940074560539522628227030496048098099533595479147, 36306016344359829984469414841705238696297023396943390031103432803319507339468231660489728480869239447440608094643728, 2146763833088988076368929600591678023084684409994739477318377328940983854861276356414948708196321245858512022236546, 11227808184255546269990587778987621453288770214183777727706972661008907004941974609595784529240660703205319593708778, 14848398695570613007533076679763327128500129050058461336948785082574808763488130865484143327661803082372889522846629, 20260372824781170832762703255714122870307179674362387479439089676643712004259001533821998425165058322207975863318030, 5519013782155012072992487073193751098182476037838747270515719535762527447583226350233683959360992440457604894029928, 9508531386321222251255285179986140884171569466419922312277640850602600935434136823995014618181706619918407142964239, 29648314941401792785380235117904191956144668427996652553812597448536803461643564374458311493037557177014889880864835, 6261372020585981893037947076160117409934419210102821823963850680374037084419596043535486787526465909839622290778750, 33438217048976846768346651126287297476417028209168133377026469464977012756777353765550639428363055949744033651612087, 13456571323587713826749992450145174433416537273693309504293231666428900843915479345079312330884390646741875018867513, 416415035200596803480868922773223796465610908254647785952170863524744029475945794627978659947643166142989382144310, 11962386441315593913664089687471434209020044671143784223691823750447552758873677118472003059275810429582882867276579, 4931181503122011364634265805508065980210702295405704010151738540687614157941005751770648515629567206291912058083075, 9135633212229823451936808013578988533923569844455686266569325254398418600561825010110416730667378997068730751297252, 22595441547218782569155623566765114321886276098336856233461620727921037226511272125092955774497541325420797312653627, 14413446938389889537800126578023829703365193585701386119149707990225652796830002021791763584001898586315496614344949, 13671600681473129991559259427920364425484054690477196903952748624574947924586172014381178417020087573891424884335681, 12004700635423750523858059339757882844241006481514907624551287668873092023359170624360854418172830247263206452014541, 7976754461691254169147128893294917347959038065586664366124661314862901674511435975027136943114939826297011622422988, 28160025420133842827876508636751555985167644538061674001727495458823490689059545536277284036798508222836254433204576, 7252287944348054110965865021175061961159604908272407547955940065118158300494323309563844300288297723152192037463388, 18810041410899006073812311034469934496326089401129189400484888974252089803047498484015815487973562609231665680756474, 30324112772352104604166101784935834234264159382426686676225053743139571596177058640349560639494552916573910968000340, 21973659082356232602797677389763590324626846661226992963192022278579549198960135404157240600486143868214067978947919, 19044685231711618468540919215809387441870565271154927814556978083055393046366608734918141224701355597698224856450416, 13157109369140172220216308984905235772930845224193158221300125976375256098045041697054691445169950864362962093782905, 26556934337828191492993008383083367406641839200635730823730830782092400043864846122832589162288312932746293508307211, 29219271679875684211688974620570507275601132485702160138263543127279495873369165220808853185884183298541017624400316, 4927397880940999381393735317204806506551736311423392997239109649421812186821498241551374980032659968147903879472151, 5001546655365999491088392507181375072515012072684236704376651761816541491878719989005429861767416367471408681138930, 13937134859622453865212453656679260737597261187267044700314672685627436068934532554325930521018669317551502430344578, 35327142743737870121171855775628736669035853669003235552598591705460754258465718885164417322264997539167879411509411, 5537607583202895475839399499732415081371014923206277964155427129821994579113720389885101507289271148289920984439086, 27310527291625120836047636814471661787952547962893569071666789401145426279903119445938825395098044837988955808736267, 3773980591000030068763392463992591368087400141818914082578482759577199930720824761558682429093894743113328823514744, 9813316135667437129464191691013473808178514362332399022271380880802632153635980203847145905715281092055982261693845, 28011333583804473515624202617321173641056977062616484608695270855172224059567791395298900805306093534146864042929086, 30087016754424011939178891024150754463759653521415422385333263891549933388620512287667604688243912668380240521363846, 4031823721931657989756486067822076645476310370669535878504225724612465518422799151251811808720620447874894261809105, 20824816760701867577811802749588236959644600064595028370429907468775731631371332623327432606116721640913809871527499, 15487283043645889307005867749654272357046709919354596661648318606536896936178407875380925400158180107843408483616196, 20383633290015431617626193848348149895643228992335395310274615673219863973766188625073436929642994045494012684703454, 16362757246511482912561741387154369867620503899046834064347176202094608929443650645277482826376942370494527284866653, 26359828272771585177683241260030940749343982191169073388771716793554419616134435325032176073203218203433527160806736, 14953175269038360961538416256825979499192508801374184510534845172146571402485924604065409103718961203338581976706230, 30705836043604437498051134719693522868424937330626654234138817033702716128836001053164427136923041100719566377429395, 21599533396181653252703437991874814125451173703924994712501505414940493443537041483060038444678947611395573970834797, 4773304233544583391720203120757903799870498894904309549360697216870703494017980023080075111854319599165348338827096, 38837927529810849413229874101746192272984435430481602165860227800854856685344274100639014549632402226196419394440242, 13922704349797920319560294189395978400846973987496496727635220502556132777750790416817984500232776999123379895805579, 31279492367215931812097611420094815279963668133229454554246858170437473930671574295676501429863602289502362280140953, 35665392584628012719582343519311405448184281087805473533461312023594608149977744011528705787531479803589273340470530, 493534803959551731702025692914419230730205384471569222859461158181597234043956454351047037512579528447148949614670, 28248442678541025780689987920206864279046317524312929533147103992339264353801052166679440537541061606893842450450247, 32600749895135539646918345213015084905732015264082209844555081463731381316173447625896868426612063005758248339856338, 12165531293849598171496302820668090622047496837284749631101309323414961538824897205698979556921548440766658809419316, 33363711816756182280024577516500878601334859113157054259258797462535386808368303605726285348119392329649883640127688, 26967099522710086689691012277246122388467372993695792120328354281629823201406069396121935023452232865916635216402007, 21637337599426980889595709433111721010514992249403181880820650479454507534981652776842971875091858947263165191771389, 6713518744222826052669009201038314844345328987145868137447303972417466496667424630675847917529178193387799173583996, 31064232108045261242033517393752696858441220177746037386322031373361762250219909474023397139527588026195814200839543, 9689724087868656340510607908040161039580879854231446917158832858708806182534332563842835790376329878383619731344259, 25180499784309489315516836756121575126743260240648395844708012579980415359335327693196681464826629349365083849102197, 30596889647039179536785431787122012554775179230740703747513009963431138099925316875195282721814354151751761932279383, 10806585408376051668283273683729574552618997689437154628821691146373033865329129258857404691667584600823967266251412, 9110132167582358777921799691298545484331243533048778092730038096709770501799912691159912630471510905314991764748635, 1500926612974236256547635194814109676255009865577413601468673426926797714174497742562798235859917190694700756524987, 19282853442799127343453089818278825603349197451998566050006895456842070113000521186255738945181785362308971584701258, 3330971215800515926037755754819405248280228848058426354630775886447614562798867930608684891303777752801415279969113, 20506471383062215590265753374272337573988881197197223310785680826227394945516874334781364281138134285055315901924732, 8922480188024102329429790486225675807456046217774080630006558332595190049554925086923957397648504795884647525138432, 5312229615917728203839225945614734052612666208885121245681222124570335103132953807237835140745001190774053364412447, 35919996792611816752642831413447722388491316190268208873586695805652229997377528716336464677454375919993863594936525, 414523738720398159007658377467676203121531153267221694977645317715605729119941425202248936801772532088351982139230, 4419020426562500698342603035856617049329989779024679105415581587118870303920439367905786113842790446112945510564968, 25307755743276024043825080132183576207805417281553261983604031553972478406852600899874426876259424322839827239613560, 13227335999381354810172205753883383235476507932969762024671426588881875354041504195735087492899756969232160204452073, 12524036363412000333627032057134662252450704842193410820736392876975941195043257317941330256504385290009377317663545, 33622537637069566368703328989470889626649118960029623116725801244603974085888205266353206579002382839702187350471884, 35574726745844792478455546180976230197417522305623703282345457715049024530071562597929336458344193736765894695497062, 10888281577190410554580537017839846293329180308398632197077521534742069979758871018074576667412277495502046433055955, 13621827254992915997015383391693029076220670496874094954412557001905060693925845461207477494700927200521362476007348, 16322528651712436648582249703148036123972519142599931423105545189723874304969475052580048526593792631906325275836520, 7546472578645101871168013403929509973624082579803264858119457695038255181049214772883285340244407270716584161966599, 11149804954073346043908219205826866913819019912295184904695368951365385078229612359954184430683292169569070268947353, 6682593599567574881170514275853022930278156077054529733382924914437010764278444390726250376199732086551910550380631, 39173402578536694387452515387865703179383158445005950981080081770960796263827388663280206376757021175334959458186287, 6586739092476399772579426452262441551367821011853665437690978870319886757778016244363177396380209619139183986009042, 21948649246655082401735407848853043881202929517685093427988471635879746524296776762226440011206563583441923628650976, 3384545846126947376471629162464258890247835627169772790756540127223184376883903687484787317175095870422487162476128, 27768945050820195879249960156580785079120432131257081686879773367215537405863278581582990484882990246446759185283787, 2419377913510088317009796781119387353992028955050811103152367075263607522735766377572170215106389455175850145563379, 13079991082421576028842072016030084092331364831263362869698812441760565612398161973200964523882509555365449117093780, 467658588473557870874722070819037576226983770947415038867078398199272546646878939997619132722342671748386446626339, 23752425442658733714456417344328068428343620113097473835557846072602088757849783226954066620491227721812187928280463, 25402416111950084941835950717247112754905806236379247741966760303248429553559354678403087312478782389198187901319146, 7888439343182769347505061396157790540965602333151811705947430108890569119615027454646387094879583650171476746908255, 38329629984196285127617487649001219293718908780616381614837477808824081008277845640684429468446819583812089991484406, 6101114860111898053412893731454107751433416255966047530655551407793499441600748204036060396796585380724942471509186, 12184561188643400329220134248871983008284978784859349922821502439621629768181419386136231003988536002294821981610943, 30196937379695627413595649941543649562637057544782754173071246970904611010588169578248346345343151423946904114928966, 23889778115684195606935682221347023273741081227252411744562209686532025411777947428682783612011981675927901950368729, 26792756291879157639719691946191342869893903314183859786481378727000190714428701789427208737345575400219849530615938, 4005541117164701249925629375630988235773891706791485278965015114640356428647745561873307029042251807262358044856205, 1186209265670502157902950812808754490682219521208154108896633588216157421561832551811774169779369159984418604884426, 39351177736416450737561786917534601121403371930962870598255038550377064175057850265730885893073161326986768666335862, 36816055518515269271919688869698550942297708295539950820508100781020048167167848019019387671720713124855121685591270, 3711017304303760908372000052875414383843088500059017016842549825304509056784352567860456530771976717847886724480789, 11568567303060956818516524282998555640761456173979517337452800119717727496136711724875981049287657597879823167722105, 37468628074452446923688476201054224279715553368522994481762562636255797694102724326792111733044644323182928747217521, 26180194674497750346327228966580530312689359751507950113924805351523431936654742582743226945262027224039771993949482, 37413996808057319440865983887836929988739626981515147860827049144545606763167768009099912813797875262200834502844669, 27505356516465518284235247822219174729665940026750045172781059730996551439389618332562753135940051173501167738399494, 38580710511120971029851636884287283450245727112265445790211868530882431339356379488388617737030637366527796257423492, 32650722181253223841389808673816555124680024490988498753300820304957467609867325884908519777906606523029501053930676, 2135241632963067474000457856923624846934956996599699038463417306920859075344345705719911444269006464246644238631401, 29731896813404979696170312748891294907153843505293223784418061276138450654477656465580640316888489183299598132188068, 29734305520890194709189832187303716464458188910111813500728007980181334188567356437935810174292445913304532088263708, 36147000987587244113180867859428721183095854654735938572397618068901706852600771931432437685836481443427653904937392, 11871588525705854396006322067103747945046818219795352498203496042516765337864738906026365685640051199344122286309540, 27265863445085245460970932176824631253906244199386988775487340383533347679466396101655763366620378575547816323609380, 9116313931470108920738398894321998071910239507775312854560194180468202643753531348854313068908183934332709837843817, 7436761213642257902675527138306611555336731735379125859781280004232109337695790585704417573635760169970818667704505, 15613065445445279744339456132273651044917065024917840018222322053346690550632273633193277256727229589926150487303790, 11607894522470172037944881836347585029486834496435085825402951579199501054078256513614115572030396661569923151460305, 26567031856958635838714138108936787527339093583919349170983435463135715441459820201769876725862196593733884549592428, 28314693066662540221658142328264710808814419922287285902364114374151295692202696915807150379900947184878170706087145, 4068830832128386207621406306729680443866486874475551869722813053656054852157068110491347713339488062340772179614810, 3413311597518135487620837672391142368236780268151918005026135493355361680296602593566499632620527694084073270285689, 18025205494167900689956716394422508802212961946270024915781689088311034972735262800207368870806179702580142402217142, 36676720206015636139676551481035233316478200037640190185133780644973907743620262762762619008967385137263589795330258, 33717071364172451301524712259379621077156932197939367146526608470899135595232075240057440826889673265589358074137592, 889303462494760998299124409665675784327317181072116917713546482810546206735056802536877910158406967897443482499176, 14592437950895075687898387193476746644525054224832044701708634293420526889833915509126346278442149647329024907702317, 5268791794557012600558347828459851219891010315305491281526694949989670033600162469242062636464635766546875483119370, 24967288983811844100329138790382500060932864899604723449479746072765090515347982772494208731953217362166800350829052, 23051190973691188776367806672790816358426845443683619191400963501417238800697031969307296950517140812468602804480497, 4001111170278100779743523073065701562071060507169733621168653229810270957196651390841273439691038601081328721388286, 21250797106636148994518015447791263090294813672722451774943991212096531610959331002886493321090398596716951525940176, 5695355699574428189362861431227686012622246199749125155055271507980468269225250063244001316267926876603294673847571, 39377464432502783607993534413041921526123897352198993520454815288743812048859348524983303949679467067698178313746311, 3816745406164876852249795509168509731276159599135241414125944847546996574173128055888991622131209498788431726970214, 34156780872909767340117906761392466848973029863583729638898008811082464173649701894792011478745094168722933794812929, 10977861456467401159929693008070985413704228835763696339391642803905645812497607513207829827128347184158932944561328, 11333390313868591082805190475206186058442020316968354239990358735013338374285618793298878975219409270727760334329322, 32725226340446746035247661760060303664443954724046902033757639180695230324897526383290452965527786865053315316231283, 20134276430983438022520161717098337379710874772619038296454198988140497064988585393080295521244947219803012780773948, 32001880955603342599012177219349524726522966301484588578545183076306539608663587689101862705455924018803177948263039, 21905229466767655705720474216284998421966728886352175945655254553510418158246203653799585566573380544889332532728749, 19103710708574310954925391583064773132312768099257356760545818610165733812658474942714353973943182613931443249684812, 31771928921719861705763204326953405469308410234819061642432473225767720843699512842098388100515901331323312086871479, 31571463543532695272174180670354298028958660628682890795221810902718924239002854091007689676548405938221633277909669, 27804774869184084911264070907259284847296389010689309935577413878135283449266693743005391975827632962942425930237027, 4503858614339754908968065649478233578128285036481261446844727191961871059945417907084396657977917089792805313316732, 37962948344384858258029905388217334691379667494967908111645548051832544514875947668230053915701094499298970409231463, 15712083653369786760111434044384842329416964680317477205761726869763012280697457154128677611830000428799594823765683, 30856588790878580715677137058608763766518967290070667101904470721550596258030726550218520088224764377167814910195322, 24086425455060313062413215996613389629616403859335562971649149227782040096505865570184471548727506197638275325497936, 29797330971016007988902279444690426960894274184678423577993238155650078341958646482940002903926270514714053050554324, 5952207068062350544916880025211890581871749985979541906244334813554745308748026173121334175502327755836033606139806, 6013950088616230732119470325006318990267022461696194005106550373488854161182111860333023646566955505556389202025282, 9452052100843833858246405155356520557527302554893810253987828354930866466923863119908490278197754548713025615509430, 19215531412959323749427616679982815529168262450113942464272457427191296994867314608575514141702512339910669162641204, 29243460160212202495005343465916372352401571637544896154424429146426916242338452722766973443013085314240652947915465, 12371766099958681931021305675656453171315102291301179630570846994383333271511682282915627107476115725542647424478651, 30814223651268108517488432984776225862008494591644490274326301000064769290573415946219048230481030930556705421191464, 12928935622247127936054876335427433780190537179025785066789264298116389477471995163578767733575912347471661878948876, 22403758506089431197267777242514916892002824941572100518950467132331273044909585189462105454863106937784757298382273, 29738979954611992681014970351952530902060524399575851592955048751800017463670444018924715554511607871022973241114809, 8051389551375872533999572922080834220038265378274700337880763875373578535477765564752057985387887579577980953613334, 32157519693400033476293751304909294330786461794216244515191395675100701843930712597496409513901477539336323679457558, 10569661052412754622629366676576204921025400440060867146509511879914808653960934953253524120233527106361707348624311, 37005584747764502945537813541843508799123796093237385477092609606549258850594239239878487479113185110214891308851500, 5237861624515606054084403724395995119921912584297687294183487440644880517795827337560537673191357604484577741010324, 15168892758275770590064126548302402521684254233178880925097821925474482293398510947759072758609298559336656405576159, 10422820332769819713156998423983884649999208531228005233287794559190875758064791286230038830547452092640938048288298, 8478875945135956696834506425417169904538970581777991720907557625990586213891656769434195493358310449212997751242610, 18462151585510827660946904930633098545934959633728278118922694899751388359014959747519516758528123624893059477303802, 37106574181360087173207443067872989182742468442346907260361076848079067555342795185288382445262492758182921889220939, 4586740899732897932926380798934437656699930719007409428805197589490460369446866588890404409345374064758148038829823, 20015910628957395600567386783841911438294721603057724921794224086430552917702254489029073670897833188014088657164176, 14241877704040748708484033270141404104783125375813747466318562829228721649616709002063150852176413892577434969526012, 11414527607753731034096170549671670650325724391314978717647651684891825117789898117771085063406150738770840877472042, 24319467570097283398786812609007452181627047204113041870584018332543672137638167173313592353191398818794465828460, 27297794218575072922660711585641269333035989563723954641093678324908914852851579724750472024504746669028956770536599, 21449217744165961332823375816598868073505434111860641905818280556786970926012474048195371387854961912351943573600255, 4880560402323763000733650936863354887382614369103327212047028876297212823650564221920559842804393243991136256492773, 4854159217334801276109327236023575145008287875367767838734342123159222998246247898896040946144648033545162184422381, 33581376671608826675187922506659568878300909418336294506082276606648015095013615640777541001655065598655342164011037, 20030661433487817742776782400213146399516322739268642384581178307970906526002667670245632036020904744879233332209897, 31646174541429462205982534317471443816213500401117125647737435087024583445737536950595866242812765824043887711867814, 16452349616338065602606729768852255297456211842731333373908625534654074979052353026407198095212754588902712078932237, 13547982741396334354200236320807543699442139600114270761816608006947376897467442459237802503414807465532324348700430, 17979795122879737320460218503419461773601395577827560386027867228154360774108678170027919383825340966693209526568568, 22113737979347492443211920884951055859140106622947167552999177341474889927192896885443074694794099261144448162425652, 7055387823593335737270115382786942740581885940932615962528375888611995432109787297990478377854186748228075819861392, 39053652224367425129713349436743098989138174344721340941576341359173527527024888705971785519157838652269018991936408, 7289043748050135044291581891857003741716775772168276314826427235473307648537785285511917246921678663718638754405889, 23943516229960707115124020439744232445084588409423266106072824927914711631538595687628094433130885064324529589849644, 29491105179123322964081778707066134206043961532135428577038145639885203344598973146551524819634830595902341314753404, 35299120487256747426377649033918664285109707220289960776961369861045709285663238157788122504716812505173452823771810, 3585878656545979414532734035562023408964752357959209012753675844783257271931122089548014793087290446603715674861212, 23414100814856659970516175448627689943656509132209528081612441935490462495790872133014721068541869506217271076512214, 29534917739868117321879200312450027309657818538611553158761501212068279608150394844328313932037677016935760438496854, 7898100063053831842878315771491567487838095526246552817670230725288621051920038352673566079075817363047694646924929, 32322728907491462725222754933076560200374271459326136013874273967094011933538306801043770817010647628986933398485185, 4470229331619492764930639952887308217656423979312832680925801234164270234270960832633935670874186343287860537998651, 21950051963230604643561183900730493214663594836168928232939066987538061570385766552475020874362952644649514618634185, 31124406634304884793251322634701893590149483709373482398696324420444659123280552817651505705953962995553486002110371, 8950925088369364522702595327411585976280750623902337915866898534276359271279092983795825362937664754948551396917997, 27390787009920290515511466139573134064306332713737442179216779226474064429347204286119622457105449070720240688388728, 36033682291606095326895054764405426226547840814350144292360577910385901781162507482984884150642770697490254687785201, 15854583058446918726602074990538443406860724522775061851299685323888945738575207619270023004370041843131396272262118, 26505364100674426747227301821606202203055976641685887671802928601477903734088036499045986681945162597702063108633697, 17143310318380439569639368078449382958314769767546279258524600548452587685609838011537825475071106614082109140122941, 32891491937057852401283723119073972387291823182363959888104541853501854159325157181555223124886764911904153061421, 28161786670476105585563558113114739237988704388491215002372887838252156978138903325884996241340784086264500502083812, 16687132222116773179556009114186241624697654721008807700964700940194453019274831001417978461460136414232873499541137, 9087468651552622779106211533112676190902416959337441880553068426943734723786590293853849898185566806046360429505755, 33179467796507627269519686311763536615484613659774698676340093528676934426220274611858271167552213649017413091040767, 33577521986809729259517312701819233130517019833521873329423729745764239754414890143016070081617887200969818692699905, 22290160350165253416607491614875787551886268053093402903361189257180694091515630563239420884431783730147182172246173, 35978289049361091252699129633235092157345213591264886202260677295902294337610328004594434383835052708655616305375488, 30989542622583473321076653108123482272032905238021580981690339470955755120600096453089799072805916990696077488596784, 9650596664901451838897454748737800973379990326342477015045036703285310221925981954620534914657327890364491475415411, 27578542319964690810767220608212801248003231690510403990843289815661061089994876336410401045056111171872042189958975, 26242803903507418415088806854601832720188760479054295703824842232885557220596986903792619896418920192549539361340050, 17661507887167600139864285931858269360118813343987026512312831213286430756232037065436450699302687881425899261942276, 17442976473531396089290832600577310696453419850690469616957351467255325223035498092760686319319518823331796130956610, 16021903930680493830772281391088718495657587133863804718452877113190818789085056856953759906499266797176669239636308, 26020887630936968041893997380213839440679060563151809899173933778958393501969848511452671080577720329246304684867939, 22102640602375428415063869266879261207431366685526445408364989223842763211173742985048552618346860447035895746699400, 30855305387604092519334913965628456133839601266525981451080049249786962377236598639586347714058177588261889128653120, 3347330303617898913566116706136710773245373509509822570164236678390490350380739842256936781459792161117802146339431, 37331942612933166776683713831542541605948157546988059685516279065304775930679474557181203087329662237935806284123664, 24606429720920967041247951754022368987377586642355980034297304636474944194294919414333573530931796810093631497967913, 25509964658695310958020749462814642252423182403296515457451943764430081287419330348509409845153990817592056592065839, 23182968533035164609325223327989299716096117984090126204345616047612056243484316478574912554609798201150048634025932, 29765667553536947748806038316162778149966917874563313559944325522380207993893747475266114268868098009002675882156026, 16110822232050827079062253705495992997213017567912711212278359501871905090300486597729661952177077378852156835798149, 5468035873592107479820494026423858239264066027702856216750045155603420934595244135059341040728526171198205131741551, 6109883060734280172359080204807716170695861655757979390430853931353567498424491260544632871950793554545667869583978, 19851238923477932275341445417105695655056358782623981354493492108621912079276168132626868849353472689741425898537642, 2248695111044328086257573469109194415295254263306773332355540645527041845360678840749354820254187945031813617850330, 15218354025979806198834912246452889417272042207556741341904420700454936217673051407214118731996413578238782396577013, 18766303762030514585542524750796542616477855886761743122884696477188110960414171708426192568781072599586772153352186, 25748116069043725674434871103164727709143553920099392611728597513271711156567209462939563127006107923901858930178531, 12700533277678697382581327724655481238836954622186579932111747817360105409977555557251492383542078609816976854466544, 24881285395201082522150134201390092039504251927161858449581234635145855819090325944710806391664688487246961677401521, 12635444017647751857124462718484995153640575169524551289101331319463380118805494425124128790891577671628287111406887, 27812895445337533983204843854966118569496106427947379541237965716815891852256063992734131677485118273948391016736348, 15673999877253030004181654021551333953095679583122422644943812045150561603357665653451185932514879250720211609357659, 18033400173253945451898728751679162723013761279713250723236382337342515571344825083975848842461700027299322120546356, 8493383696190491195865866282415916841535718570631944438766587809651381099396275977780831645906377457418218848788655, 14062416189102494357162112151111395843787972218420275436776068966728790053710339848637297629752807587618118610270550, 29307887563005095846789178365903532522373066871334753659059829863236981147992903519840898447402114777361294414149392, 20878937190458450097246021917055938842723883736829584003575978142154050025793967291096999414231218829482579441046370, 4412810228621926165105639845683720988762761193879197164129542729612012809292193193696117185429914740535877856448672, 3230669621718429557860904456307738158501949940836712235446945473976083153310150169648291349741294314487124895874125, 24705775269924774300811436081472711855654377946279036568184944667949694812447783018354580498046783596716139715517575, 11206153837053066601943801672594279598481617535176771935132251993140594803650110549757807791634290278996207308585210, 21624683787531534830658309404475002002830611604912159609485780232573845139172556354463362906945246832411668130233912, 5478656940801019172256347365592848244028734249620729289777744917854156853565224466968380004931486004726349500300369, 7837387419365188685266436522497412266068756585928640077052980318761565522830774452413917584129771833477783528726191, 23828323546777334012485370723530057471145020917868557211071268780513201564555445419778235860080093670786308634753522, 9131947155832476876533026939600456556846346595633417663587677199623153619756187566818231346100783863316539586213711, 22642315325866396429177431876938431382151620329449422915491637352082610481484342696680634921517903135407862945302096, 217672966716251712183586487192780524732952571442963706921603052205874857941363744281063539803514554327067157104967, 4702641388207160417810833759144666761680602152502026534362577877165291278788700941149906059144670062985694632790837, 10556747463682750615238756522801454510735420676778072872969455248376035100085302191463593529114515313131717019610656, 6381768691793409940289965279202025176523334911338484514414237474866803274594275546259739344661142088518387239563010, 10163890322287997889352867967029862956325197042884002693678046882608009124394064365302799482675741357384775073719171, 21403215183965922760797869301225091033184024175971669022969663737527310300162568741710615357687694856422042527231173, 12561355347608962409846125005103140128561711308972422503689569799051610325002455866812546654139358154437056946099622, 10251866476391026451565629748078059161521508342712990997280683625274900549818960632930778049575538953713712561187970, 35483388980802989325934748916897407759401422558190144125422301037150826298033062864929290519906831761665697295108510, 10216702791161214477241628677780311012936610733737048661886989830719248773850391228289266380364193457802910487765116, 36986954112509556291770296105153912343723552100937554304632574213179471769796934574679336435002973489405063499082126, 22283747211310303042072934204077427183953803078747332927145874167475768707375218286320029687213032924153846849172191, 7178907690817557175057943238148476590094105891040014267147069716176752386205051227608412224603950115118328055009713, 36824550571053009439503975110720139471303033908712978091025067398498137842276351099315164561315448917631753134874167, 3645234373409857184020095195133723826732249642711348634839570524423648420881441230464957440685810526005081992074884, 4235047662060316984357135337067117471394157962071719447834936408426050488386895994827765299508330167979099197531235, 26633914667573618604779302493229698810871146007084428419916361733071310724452185745219021497128038486843202569060396, 27097081948037765282007093163778207009043008097452053011989475112784510850821861533161863682087060091880746056440313, 29465313662585126055706470686303392081357367563887843718964854953826907609831557186902902356805477191984346876149419, 23220567639848156639729583313677810181927543537215531668536342122717326275182389802402667337280671685162778962637093, 36856729414676896669158561766990743816658402671596283423148541112085877656467648885096314154420871938314519829425120, 27943809714617480606120726185054936306785338545925251719071524934902169993834979451905294061689581864319393546872448, 2918228937844885089274816513419889293768769106377226403790941576623647804157007728120709305122367533748719753082346, 14471678005375318736158526173114425223224767361970452661478823082871015107506817584965171566940142218772458920047817, 36424133338853436089475380153476345128199631555843196478358388854303993354022783383477796927858509122335159264172123, 4125559279991737528448559419665569168857860855620360966251633112662545255336919764513201865882036299839902700128889, 18778396219515462627665428670255044343109052979145611462291160952165684848981244894135544333974965295367495798312192, 5562867899930310681378669445215726434327893327916221990596308570076994260927157779483752214687701724647466038017221, 20577350282391657489444054424999318177077232140259582475514819309614281305325008530948986940175694385405565563463438, 5634466221743120946381637830266656098523106681082717923648067147185760247616696487723262824025256050167441516961844, 5916033413386237359085480274363843602380370856840162333642097835677636635288304468444168280498648990111736781286201, 6261742482966572654532955834249813330534972948880044409260312007871900246298096503106501696024160273939774614632244, 25833391582704592018421509258020463645921768311556302622478155127448164882149451701297657585669374631902936357661942, 27603404066224391533158291422949861241966167002703997018165121855741486676927048064033932757777975293999281478303723, 29334273634531427871431373176838624198651496124213506448251712238180136755144520247286267102694308871048631435221082, 30382647828697544796744058267203670488920017059144168437339429701196541041739660791775166918808486219117865008129752, 11105351598626086310063890662295943124829139342367591526949808437296860150187949972333459936696994569712345342780603, 757420888347716366680817376118064732082306030145018803871287035143115087066126305784484194986207042768646676229205, 21754757205407668360633399850215129849206107881514596595518607014410735345684260574827837740808260003408491155601543, 24120613069175987621313890563583236931852567839222680554667526032203494238159197671618089291978426106319765554846978, 6823287813095613434830116451272686199092173702398111846673801957063905543219009472903792788199514941512715894991026, 20485985351925081819639434414322481485538261414393241545136664076909143163941389014693606817042957975602334623719820, 28361076106119198508876160961212635215743288547238435378544609231330856917618497035782492465812017998541073326501609, 16170903286743416894164085204713911899743356039081314800762157229126437812251024756672058121885813975710029177242849, 32864560777763141156738227926936678089072561477898732649671727070512293630390242351027301347290238508257688700762010, 29605829661450745746393435208632039334401917149123314788434021096048210864148695873837480628124086879652555202945380, 290968645955779168775363069520627079005568317608231497889642606099442601623543363212619244265611131960509630305076, 9063707446247527283520599761979484759053601470108214626235618357686677471531632780289070883289045240531325510904788, 30407574205233039134060045661836641019662736575354467525067383835148171756977710137317536558886110344206247147138778, 36039005476972422723190940671112827187840976334804434045447486759181045582824946531175463734446180817167354853447822, 18867762996414701654051768328038558375249048712790927635653938438180418761858597348365304577599369882527182545603361, 20260484869819604337351979492547593534298616855888548531565838919141014292606637650569535388044586294723060788495701, 13369110489634729581340855229693761929807151967534728291878988335741279967405697465707905512014763660458410684916108, 30148369066704167403916686016642906678100793125470515960994307056645676221602141966839139124808875277744053563155253, 6513592752876047089430438375590078845715323504482669907212372251795916399138531541066456519153131804120462677102873, 14085321800705555511682265559244403258193843506620012575076748734001000695379496076166295506076228753735478656637520]

theorem ord_val : valB ordBits 1 = 39402006196394479212279040100143613805079739270465446667946905279627659399113263569398956308152294913554433653942642 := by decide +kernel
theorem ord_run : runS (GX, GY) ordBits ordSlopes (GX, GY) = some (GX, (0 - GY) % PP) := by decide +kernel

/-- one time less than the order it is the opposite -/
theorem ord_less : cmul 39402006196394479212279040100143613805079739270465446667946905279627659399113263569398956308152294913554433653942642 GG = cneg GG := by
  have h := (runS_ok (g := (GX, GY)) aff_G ordBits ordSlopes (GX, GY) _ 1 aff_G (cmul_one _) ord_run).1
  rw [ord_val] at h
  exact h

theorem ord_none : cmul 39402006196394479212279040100143613805079739270465446667946905279627659399113263569398956308152294913554433653942643 GG = none := by
  show cadd (cmul 39402006196394479212279040100143613805079739270465446667946905279627659399113263569398956308152294913554433653942642 GG) GG = none
  rw [ord_less, add_comm' (on_neg on_G) on_G]
  exact add_neg
end Go.Proofs.YtjpnbbhpgchbpaaDoor

namespace Go.Proofs.YtjpnbbhpgchbpaaDoor

/-- the order of the base point -/
def NNn : Nat := 39402006196394479212279040100143613805079739270465446667946905279627659399113263569398956308152294913554433653942643

theorem cmul_mod {P : Pt} (h : OnC P) {N : Nat} (hN : cmul N P = none) (n : Nat) : cmul (n % N) P = cmul n P := by
  have e := Nat.div_add_mod n N
  have k : cmul n P = cmul (N * (n / N) + n % N) P := by rw [e]
  rw [k, cmul_add h, Nat.mul_comm, cmul_mul h, hN, cmul_none, none_cadd]

theorem ord_mod (n : Nat) : cmul (n % NNn) GG = cmul n GG := cmul_mod on_G ord_none n

theorem half_step (E k : Nat) : E / 2 ^ k = 2 * (E / 2 ^ (k + 1)) + E / 2 ^ k % 2 := by
  rw [Nat.pow_succ, ← Nat.div_div_eq_div_mul]; omega

theorem times_top {P : Pt} {E n : Nat} (h : E < 2 ^ n) : cmul (E / 2 ^ n) P = none := by rw [Nat.div_eq_of_lt h]; rfl

theorem times_bit0 {P : Pt} (h : OnC P) {E k : Nat} (hb : ¬ E / 2 ^ k % 2 = 1) : cadd (cmul (E / 2 ^ (k + 1)) P) (cmul (E / 2 ^ (k + 1)) P) = cmul (E / 2 ^ k) P := by
  rw [← cmul_bit h, half_step E k]
  congr 1; omega

theorem times_bit1 {P : Pt} (h : OnC P) {E k : Nat} (hb : E / 2 ^ k % 2 = 1) : cadd (cadd (cmul (E / 2 ^ (k + 1)) P) (cmul (E / 2 ^ (k + 1)) P)) P = cmul (E / 2 ^ k) P := by
  rw [← cmul_bit1 h, half_step E k]
  congr 1; omega

/-- the order times a multiple of the base point -/
theorem ord_times (k : Nat) : cmul NNn (cmul k GG) = none := by
  rw [← cmul_mul on_G, Nat.mul_comm, cmul_mul on_G]
  rw [show cmul NNn GG = none from ord_none, cmul_none]

theorem ord_opp (k : Nat) : cmul (NNn - 1) (cmul k GG) = cneg (cmul k GG) := by
  have o := on_cmul on_G k
  rw [cmul_sub o (by unfold NNn; omega), ord_times, none_cadd, cmul_one]

theorem mul_order (k l : Nat) : cmul ((k * l) % NNn) GG = cmul l (cmul k GG) := by
  rw [ord_mod, Nat.mul_comm, cmul_mul on_G]
theorem mul_swap (k l : Nat) : cmul k (cmul l GG) = cmul l (cmul k GG) := by
  rw [← cmul_mul on_G, ← cmul_mul on_G, Nat.mul_comm]
theorem add_order (k l : Nat) : cmul ((k + l) % NNn) GG = cadd (cmul k GG) (cmul l GG) := by
  rw [ord_mod, cmul_add on_G]
end Go.Proofs.YtjpnbbhpgchbpaaDoor
