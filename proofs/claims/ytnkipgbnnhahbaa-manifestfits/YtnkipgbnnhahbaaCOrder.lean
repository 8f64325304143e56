/- The order times the base point is the one at infinity: plain facts on numbers. -/
import Derived.Test.YtnkipgbnnhahbaaCTimes
namespace Go.Proofs.Ytnkipgbnnhahbaa
/-- the base point -/
def GX : Int := 26247035095799689268623156744566981891852923491109213387815615900925518854738050089022388053975719786650872476732087
def GY : Int := 8325710961489029985546751289520108179287853048861315594709205902480503199884419224438643760392947333078086511627871
def GG : Pt := some (GX, GY)
theorem lo_GX : Lo GX := by unfold Lo; decide +kernel
theorem lo_GY : Lo GY := by unfold Lo; decide +kernel
theorem aff_G : Aff GX GY := ⟨lo_GX, lo_GY, nu_iff.2 (by decide +kernel)⟩
theorem on_G : OnC GG := aff_G
/-- a sum by a slope that is told -/
def stp (p q : Int × Int) (l : Int) : Option (Int × Int) :=
  if (p.2 - q.2 - l * (p.1 - q.1)) % PP = 0 ∧ (l * (p.2 + q.2) - (p.1 * p.1 + p.1 * q.1 + q.1 * q.1 - 3)) % PP = 0 ∧ ¬ (p.1 = q.1 ∧ (p.2 + q.2) % PP = 0) then
    some ((l * l - p.1 - q.1) % PP, (l * (p.1 - (l * l - p.1 - q.1) % PP) - p.2) % PP)
  else none
theorem stp_ok {p q r : Int × Int} {l : Int} (hp : Aff p.1 p.2) (hq : Aff q.1 q.2) (h : stp p q l = some r) : cadd (some p) (some q) = some r ∧ Aff r.1 r.2 := by
  obtain ⟨x1, y1⟩ := p
  obtain ⟨x2, y2⟩ := q
  unfold stp at h
  by_cases c : (y1 - y2 - l * (x1 - x2)) % PP = 0 ∧ (l * (y1 + y2) - (x1 * x1 + x1 * x2 + x2 * x2 - 3)) % PP = 0 ∧ ¬ (x1 = x2 ∧ (y1 + y2) % PP = 0)
  · simp only at h
    rw [if_pos c] at h
    obtain ⟨c1, c2, c3⟩ := c
    have S : SlR x1 y1 x2 y2 l := ⟨nu_iff.2 c1, nu_iff.2 c2⟩
    have hx := nu_emod (l * l - x1 - x2)
    have lx := lo_emod (l * l - x1 - x2)
    generalize (l * l - x1 - x2) % PP = x at *
    have hy := nu_emod (l * (x1 - x) - y1)
    have ly := lo_emod (l * (x1 - x) - y1)
    generalize (l * (x1 - x) - y1) % PP = y at *
    obtain rfl : (x, y) = r := Option.some.inj h
    exact ⟨add_is hp hq c3 S lx ly hx hy, ⟨lx, ly, on_line hp.cu S hx hy⟩⟩
  · simp only at h
    rw [if_neg c] at h
    exact absurd h (by simp)
def PPn : Nat := 39402006196394479212279040100143613805079739270465446667948293404245721771496870329047266088258938001861606973112319
/-- what makes 1 of a number, by Euclid -/
def eucl : Nat → Nat → Nat → Nat → Nat → Nat
  | 0, _, _, t, _ => t
  | n + 1, r, s, t, u => match s with
    | 0 => t
    | s + 1 => eucl n (s + 1) (r % (s + 1)) u ((t + PPn - r / (s + 1) * u % PPn) % PPn)
/-- the slope of two places -/
def slp (p q : Int × Int) : Int :=
  if p.1 = q.1 then (3 * (p.1 * p.1) - 3) * (eucl 800 PPn ((p.2 + p.2) % PP).toNat 0 1 : Nat) % PP else (q.2 - p.2) * (eucl 800 PPn ((q.1 - p.1) % PP).toNat 0 1 : Nat) % PP
/-- doubled and added, by bits -/
def runS (g : Int × Int) : List Bool → Int × Int → Option (Int × Int)
  | [], a => some a
  | b :: bs, a => match stp a a (slp a a) with
    | none => none
    | some d => match b with
      | false => runS g bs d
      | true => match stp d g (slp d g) with
        | none => none
        | some e => runS g bs e
def valB : List Bool → Nat → Nat
  | [], k => k
  | b :: bs, k => valB bs (2 * k + b.toNat)
theorem runS_ok {g : Int × Int} (hg : Aff g.1 g.2) : ∀ (bs : List Bool) (a r : Int × Int) (k : Nat), Aff a.1 a.2 → cmul k (some g) = some a → runS g bs a = some r → cmul (valB bs k) (some g) = some r ∧ Aff r.1 r.2
  | [], a, r, k, ha, hk, h => by
    obtain rfl : a = r := Option.some.inj (by simpa [runS] using h)
    exact ⟨hk, ha⟩
  | b :: bs, a, r, k, ha, hk, h => by
    unfold runS at h
    cases hs : stp a a (slp a a) with
    | none => rw [hs] at h; simp at h
    | some d =>
      rw [hs] at h
      simp only at h
      obtain ⟨e, hd⟩ := stp_ok ha ha hs
      cases b with
      | false =>
        refine runS_ok hg bs d r (2 * k + 0) hd ?_ h
        rw [Nat.add_zero, cmul_bit (show OnC (some g) from hg), hk, e]
      | true =>
        simp only at h
        cases ht : stp d g (slp d g) with
        | none => rw [ht] at h; simp at h
        | some f =>
          rw [ht] at h
          obtain ⟨e2, hf⟩ := stp_ok hd hg ht
          refine runS_ok hg bs f r (2 * k + 1) hf ?_ h
          rw [cmul_bit1 (show OnC (some g) from hg), hk, e, e2]
def ordBits : List Bool := [true, true, true, true, true, true, true, true, true, true, true, true, true, true, true, true, true, true, true, true, true, true, true, true, true, true, true, true, true, true, true, true, true, true, true, true, true, true, true, true, true, true, true, true, true, true, true, true, true, true, true, true, true, true, true, true, true, true, true, true, true, true, true, true, true, true, true, true, true, true, true, true, true, true, true, true, true, true, true, true, true, true, true, true, true, true, true, true, true, true, true, true, true, true, true, true, true, true, true, true, true, true, true, true, true, true, true, true, true, true, true, true, true, true, true, true, true, true, true, true, true, true, true, true, true, true, true, true, true, true, true, true, true, true, true, true, true, true, true, true, true, true, true, true, true, true, true, true, true, true, true, true, true, true, true, true, true, true, true, true, true, true, true, true, true, true, true, true, true, true, true, true, true, true, true, true, true, true, true, true, true, true, true, true, true, true, true, true, true, true, true, true, true, false, false, false, true, true, true, false, true, true, false, false, false, true, true, false, true, false, false, true, true, false, true, true, false, false, false, false, false, false, true, true, true, true, true, false, true, false, false, false, false, true, true, false, true, true, true, false, false, true, false, true, true, false, true, true, true, false, true, true, true, true, true, false, true, false, true, true, false, false, false, false, false, false, true, true, false, true, false, false, false, false, false, true, true, false, true, true, false, true, true, false, false, true, false, false, true, false, false, true, false, false, false, true, false, true, true, false, false, false, false, true, false, true, false, false, true, true, true, false, true, true, true, true, false, true, false, true, true, true, false, true, true, false, false, true, true, true, false, true, true, false, false, false, false, false, true, true, false, false, true, false, true, true, false, true, false, true, false, true, true, false, false, true, true, false, false, true, true, false, false, false, true, false, true, false, false, true, false, true, false, false, true, false, true, true, true, false, false, true, false]
theorem ord_val : valB ordBits 1 = 39402006196394479212279040100143613805079739270465446667946905279627659399113263569398956308152294913554433653942642 := by decide +kernel
theorem ord_run : runS (GX, GY) ordBits (GX, GY) = some (GX, (0 - GY) % PP) := by decide +kernel
/-- one time less than the order it is the opposite -/
theorem ord_less : cmul 39402006196394479212279040100143613805079739270465446667946905279627659399113263569398956308152294913554433653942642 GG = cneg GG := by
  have h := (runS_ok (g := (GX, GY)) aff_G ordBits (GX, GY) _ 1 aff_G (cmul_one _) ord_run).1
  rw [ord_val] at h
  exact h
theorem ord_none : cmul 39402006196394479212279040100143613805079739270465446667946905279627659399113263569398956308152294913554433653942643 GG = none := by
  show cadd (cmul 39402006196394479212279040100143613805079739270465446667946905279627659399113263569398956308152294913554433653942642 GG) GG = none
  rw [ord_less, add_comm' (on_neg on_G) on_G]
  exact add_neg
end Go.Proofs.Ytnkipgbnnhahbaa
