/- The reference's From: the number of bytes, the highest first. -/
import Derived.Test.YtjpnbbhpgchbpaaGreatDoorRows
import Derived.Test.YtjpnbbhpgchbpaaGreatDoorFrom
import Derived.Test.YtjpnbbhpgchbpaaGreatDoorRefA
import Derived.Deep.OwnRows
namespace Go.Proofs.YtjpnbbhpgchbpaaGreatDoor
open Go.RowKit

theorem info_from : (Tryz.prog.info? 22).map (fun i => (i.zero, i.size, i.bytes)) = some (some (.int .u64 0), 1, 8) := by kernel_rfl

theorem made_noughts (n : Nat) : madeCells #[.int .u64 0] n = (us (List.replicate n 0)).toArray := by
  apply Array.ext
  · simp [madeCells]
  · intro i h1 h2
    simp [madeCells, Nat.mod_one]

/-- what digit j holds behind i bytes, the lowest first -/
def segR (R : List Int) (i j : Nat) : List Int := (R.take (min i (4 * j + 4))).drop (4 * j)

def digs (R : List Int) (i : Nat) (P : List Int) : Prop := ∀ j, P.getD j 0 = pv 256 (segR R i j)

theorem segR_here (R : List Int) (i : Nat) (hi : i < R.length) : segR R (i + 1) (i / 4) = segR R i (i / 4) ++ [R.getD i 0] := by
  unfold segR
  have e1 : min (i + 1) (4 * (i / 4) + 4) = i + 1 := by omega
  have e2 : min i (4 * (i / 4) + 4) = i := by omega
  rw [e1, e2, take_snoc R i hi, List.drop_append_of_le_length (by simp; omega)]

theorem segR_else (R : List Int) (i j : Nat) (hne : i / 4 ≠ j) : segR R (i + 1) j = segR R i j := by
  unfold segR
  by_cases h : i < 4 * j
  · rw [List.drop_eq_nil_of_le (by simp; omega), List.drop_eq_nil_of_le (by simp; omega)]
  · have e1 : min (i + 1) (4 * j + 4) = 4 * j + 4 := by omega
    have e2 : min i (4 * j + 4) = 4 * j + 4 := by omega
    rw [e1, e2]

theorem segR_get (R : List Int) (hR : ∀ j, 0 ≤ R.getD j 0 ∧ R.getD j 0 < 256) (i j t : Nat) : 0 ≤ (segR R i j).getD t 0 ∧ (segR R i j).getD t 0 < 256 := by
  unfold segR
  by_cases h : 4 * j + t < min i (4 * j + 4)
  · have : ((R.take (min i (4 * j + 4))).drop (4 * j)).getD t 0 = R.getD (4 * j + t) 0 := by
      simp only [List.getD_eq_getElem?_getD, List.getElem?_drop, List.getElem?_take, h, if_true]
    rw [this]; exact hR _
  · have : ((R.take (min i (4 * j + 4))).drop (4 * j)).getD t 0 = 0 := by
      simp only [List.getD_eq_getElem?_getD, List.getElem?_drop, List.getElem?_take, h, if_false]
      rfl
    rw [this]; decide

theorem pow256_le (n m : Nat) (h : n ≤ m) : (256 : Int) ^ n ≤ 256 ^ m := by
  obtain ⟨c, rfl⟩ : ∃ c, m = n + c := ⟨m - n, by omega⟩
  have p : (0 : Int) < 256 ^ c := Int.pow_pos (by decide)
  have q : (0 : Int) < 256 ^ n := Int.pow_pos (by decide)
  have := Int.mul_le_mul_of_nonneg_left (show (1 : Int) ≤ 256 ^ c by omega) (Int.le_of_lt q)
  rw [Int.pow_add]
  omega

theorem segR_bound (R : List Int) (hR : ∀ j, 0 ≤ R.getD j 0 ∧ R.getD j 0 < 256) (i j : Nat) : 0 ≤ pv 256 (segR R i j) ∧ pv 256 (segR R i j) < 4294967296 := by
  have b := pv256_bound _ (segR_get R hR i j)
  have hl : (segR R i j).length ≤ 4 := by unfold segR; simp; omega
  have p := pow256_le _ _ hl
  have e : (256 : Int) ^ 4 = 4294967296 := by decide
  omega

theorem digs_step (R P : List Int) (i : Nat) (x p : Int) (hi : i < R.length) (lP : i / 4 < P.length) (hx : R.getD i 0 = x) (hp : P.getD (i / 4) 0 = p) (h : digs R i P) : digs R (i + 1) (P.set (i / 4) (p + x * 256 ^ (i % 4))) := by
  intro j
  by_cases hj : i / 4 = j
  · have h0 := h (i / 4)
    have hl : (segR R i (i / 4)).length = i % 4 := by unfold segR; simp; omega
    rw [← hj, getD_set_same _ _ _ lP, segR_here R i hi, pv_append, hl, ← h0, hp, hx]
    simp only [pv]
    grind
  · have : (P.set (i / 4) (p + x * 256 ^ (i % 4))).getD j 0 = P.getD j 0 := by simp [List.getD_eq_getElem?_getD, hj]
    rw [this, segR_else R i j hj]
    exact h j

theorem digs_end (R P : List Int) (hl : R.length < 4 * P.length) (h : digs R R.length P) : v32 P = pv 256 R := by
  have key : ∀ n, n ≤ P.length → pv 256 (R.take (4 * n)) = pv 4294967296 (P.take n) := by
    intro n
    induction n with
    | zero => intro _; simp [pv]
    | succ n ih =>
      intro hn
      have h1 := h n
      by_cases hc : 4 * n < R.length
      · have e0 : segR R R.length n = (R.take (4 * n + 4)).drop (4 * n) := by
          unfold segR
          by_cases hq : 4 * n + 4 ≤ R.length
          · rw [show min R.length (4 * n + 4) = 4 * n + 4 by omega]
          · rw [show min R.length (4 * n + 4) = R.length by omega, List.take_of_length_le (Nat.le_refl _), List.take_of_length_le (by omega)]
        have e1 : R.take (4 * (n + 1)) = R.take (4 * n) ++ segR R R.length n := by
          rw [e0, show 4 * (n + 1) = 4 * n + 4 by omega]
          have := List.take_append_drop (4 * n) (R.take (4 * n + 4))
          rw [List.take_take, show min (4 * n) (4 * n + 4) = 4 * n by omega] at this
          exact this.symm
        rw [e1, pv_append, ih (by omega), pv_take _ _ n (by omega), h1]
        have e2 : (R.take (4 * n)).length = 4 * n := by simp; omega
        rw [e2, Int.pow_mul]
        have e3 : (256 : Int) ^ 4 = 4294967296 := by decide
        rw [e3]
      · have e0 : segR R R.length n = [] := by unfold segR; exact List.drop_eq_nil_of_le (by simp; omega)
        rw [e0] at h1
        rw [pv_take _ _ n (by omega), h1, ← ih (by omega), List.take_of_length_le (by omega), List.take_of_length_le (by omega)]
        simp [pv]
  have := key P.length (Nat.le_refl _)
  rw [List.take_of_length_le (by omega), List.take_of_length_le (Nat.le_refl _)] at this
  exact this.symm

theorem x_bound (x : Int) (j : Nat) (hx : 0 ≤ x ∧ x < 256) (hj : j ≤ 3) : 0 ≤ x * 256 ^ j ∧ x * 256 ^ j < 4294967296 := by
  have p := pow256_le j 3 hj
  have q : (0 : Int) < 256 ^ j := Int.pow_pos (by decide)
  have e : (256 : Int) ^ 3 = 16777216 := by decide
  have a := Int.mul_nonneg hx.1 (Int.le_of_lt q)
  have b := Int.mul_le_mul (show x ≤ 255 by omega) (show (256 : Int) ^ j ≤ 16777216 by omega) (Int.le_of_lt q) (by decide)
  omega

set_option maxRecDepth 100000 in
set_option maxHeartbeats 1000000 in
theorem rfrom_any (v : Value) (bs : List Int) (w : World) (h : Bs w v bs) (hB : byt bs) (hn : bs.length ≤ 1048576) :
    Calls Tryz.prog 31 #[v] w fun e w' => ∃ v', e = .returned v' ∧ NumIs w' v' (beN bs) ∧ Below w.heap.size w w' := by
  obtain ⟨ao, cap, rfl, h2, h3, h4⟩ := h
  unfold maxLen at h2
  obtain ⟨n, hl⟩ : ∃ n, bs.length = n := ⟨_, rfl⟩
  obtain ⟨R, hR⟩ : ∃ R, bs.reverse = R := ⟨_, rfl⟩
  have lR : R.length = n := by rw [← hR]; simpa using hl
  have bR : Hid (∀ j, 0 ≤ R.getD j 0 ∧ R.getD j 0 < 256) := fun j => hR ▸ byt_rev hB j
  have gR : Hid (∀ j, j < n → R.getD (n - 1 - j) 0 = bs.getD j 0) := fun j hj => by
    have := rev_get bs j (by omega)
    rw [hl, hR] at this
    exact this
  have HN : Hid (pv 256 R = beN bs) := by unfold beN; rw [hR]; rfl
  obtain ⟨N, hN⟩ : ∃ N, beN bs = N := ⟨_, rfl⟩
  rw [hN] at HN ⊢
  rw [hl] at hn h3 h4 ⊢
  clear hN hR hl
  have hmk := run_make_row' 56 22 (.int .u64 0) 8 Tryz.underlying56 info_from rfl .i64 .i64 (n / 4 + 1) (by omega) (by omega)
  rw [made_noughts] at hmk
  have ec : ((n / 4 + 1 : Nat) : Int) = (n : Int) / 4 + 1 := by omega
  rw [ec] at hmk
  have B0 := Blk.new w (us (List.replicate (n / 4 + 1) 0)) 22 w.heap.size rfl
  have bel0 : Below w.heap.size w (w.alloc (.cells (us (List.replicate (n / 4 + 1) 0)).toArray 22)) := (Below.refl _ _).alloc (Nat.le_refl _) _
  have d0 : digs R 0 (List.replicate (n / 4 + 1) 0) := by
    intro j
    rw [getD_rep]
    unfold segR
    simp [pv]
  generalize (us (List.replicate (n / 4 + 1) 0)).toArray = cs at hmk B0 bel0
  go_enter Tryz.func31, Tryz.ntmps31
  go_wp2
  clear hmk ec
  generalize w.alloc (.cells cs 22) = W at *
  go_loopw [4] (fun iv wr => ∃ (i : Nat) (P : List Int), i ≤ n ∧ iv = .int .i64 i ∧ P.length = n / 4 + 1 ∧ Hid (digs R i P) ∧ Blk wr w.heap.size (us P) ∧ Below w.heap.size w wr)
    (fun i _ => n - (intOf i).toNat)
  case atStart => exact ⟨0, List.replicate (n / 4 + 1) 0, by omega, rfl, by simp, d0, B0, bel0⟩
  case round =>
    obtain ⟨i, P, hi, rfl, lP, hJ, hS, hbel⟩ := hrel
    clear B0 bel0 d0
    by_cases hlt : i < n
    · obtain ⟨b, o, rfl, hb, hc⟩ := h4 (by omega)
      clear h4
      obtain ⟨x, hx⟩ : ∃ x, bs.getD (n - 1 - i) 0 = x := ⟨_, rfl⟩
      have xr : R.getD i 0 = x := by
        have := gR.out (n - 1 - i) (by omega)
        rw [show n - 1 - (n - 1 - i) = i by omega] at this
        rw [this, hx]
      have bx : 0 ≤ x ∧ x < 256 := hx ▸ hB _
      have x1 := (hbel.cell (p := ⟨b, o + (n - 1 - i), none⟩) hb).trans (hc (n - 1 - i) (by omega))
      rw [hx] at x1
      obtain ⟨p, hp⟩ : ∃ p, P.getD (i / 4) 0 = p := ⟨_, rfl⟩
      have bp : 0 ≤ p ∧ p < 4294967296 := by
        have := hJ.out (i / 4)
        rw [hp] at this
        rw [this]; exact segR_bound R bR.out i _
      have J : Hid (digs R (i + 1) (P.set (i / 4) (p + x * 256 ^ (i % 4)))) := digs_step R P i x p (by omega) (by omega) xr hp hJ.out
      have x2 := hS.cell (i / 4) _ (us_get P _ (by omega))
      rw [hp] at x2
      have fz := hS.frozen (i / 4)
      have bx0 := bx.1
      have bx1 := bx.2
      have bp0 := bp.1
      have bp1 := bp.2
      have g1 : (i : Int) < (n : Int) := by omega
      have g2 : (0 : Int) ≤ (n : Int) - 1 - (i : Int) := by omega
      have g3 : (n : Int) - 1 - (i : Int) < (n : Int) := by omega
      have g4 : ((n : Int) - 1 - (i : Int)).toNat = n - 1 - i := by omega
      clear hx xr hp hc hJ bp
      go_wp2
      obtain ⟨wo, hwo⟩ : ∃ wo : World, wo = wr := ⟨_, rfl⟩
      go_loop [6, 7] (fun vv jv => ∃ j : Nat, j ≤ i % 4 ∧ jv = .int .i64 j ∧ vv = .int .u64 (x * 256 ^ j)) (fun _ jv => 4 - (intOf jv).toNat)
      case atStart => exact ⟨0, by omega, rfl, by simp⟩
      case round =>
        obtain ⟨j, hj, rfl, rfl⟩ := hrel
        by_cases hjl : j < i % 4
        · have xb := x_bound x j bx (by omega)
          have xn := x_bound x (j + 1) bx (by omega)
          have xe : x * 256 ^ j * 256 = x * 256 ^ (j + 1) := by rw [Int.pow_succ, Int.mul_assoc]
          obtain ⟨y, hy⟩ : ∃ y, x * 256 ^ j = y := ⟨_, rfl⟩
          obtain ⟨z, hz⟩ : ∃ z, x * 256 ^ (j + 1) = z := ⟨_, rfl⟩
          rw [hy] at xb xe ⊢
          rw [hz] at xe xn
          have HZ : Hid (y * 256 = x * 256 ^ (j + 1)) := by show _ = _; rw [hz]; exact xe
          have b1 := xb.1
          have b2 := xb.2
          have g5 : (j : Int) < (i : Int) % 4 := by omega
          clear hy hz xe xb xn
          go_wp2
          go_round
          case rel => exact ⟨j + 1, by omega, by go_num, by rw [HZ.out]⟩
          case measure => simp [intOf]; omega
        · have g5 : ¬ (j : Int) < (i : Int) % 4 := by omega
          have hje : j = i % 4 := by omega
          rw [hje]
          have xb := x_bound x (i % 4) bx (by omega)
          obtain ⟨y, hy⟩ : ∃ y, x * 256 ^ (i % 4) = y := ⟨_, rfl⟩
          rw [hy] at xb J ⊢
          have b1 := xb.1
          have b2 := xb.2
          have g6 : (0 : Int) ≤ (i : Int) / 4 := by omega
          have g7 : (i : Int) / 4 < ((n / 4 + 1 : Nat) : Int) := by omega
          have g8 : (i : Int) / 4 < (n : Int) / 4 + 1 := by omega
          clear hy xb
          go_wp2
          go_roundw
          case rel => exact ⟨i + 1, P.set (i / 4) (p + y), by omega, by go_num, by simpa using lP, J, hS.setu _ _, hbel.setCell (by simp) _⟩
          case measure => simp [intOf]; omega
    · have h6 : (n : Int) ≤ (i : Int) := by omega
      have hin : i = R.length := by omega
      have dP : dig P := fun j => by
        have := hJ.out j
        rw [this]; exact segR_bound R bR.out i j
      have HQ : Hid (v32 P = N) := by
        have e := hJ.out
        rw [hin] at e
        show _ = _
        rw [digs_end R P (by omega) e]; exact HN.out
      have hSl : Sl wr (.slice (some ⟨w.heap.size, 0, none⟩) (n / 4 + 1) (n / 4 + 1)) P := .inr ⟨w.heap.size, n / 4 + 1, by rw [lP], by omega, by unfold maxLen; omega, hS.lt, fun j hj => hS.cell j _ (us_get P j hj)⟩
      clear hJ hin h4
      go_wp2_with fail
      refine (trim_any _ P _ hSl).mono ?_
      rintro e w' ⟨v', rfl, ht, hw⟩
      obtain rfl := hw.symm
      have hQ := ht.num dP
      rw [HQ.out] at hQ
      go_wp2_with fail
      go_ret
      exact ⟨v', rfl, hQ, hbel⟩
end Go.Proofs.YtjpnbbhpgchbpaaGreatDoor
