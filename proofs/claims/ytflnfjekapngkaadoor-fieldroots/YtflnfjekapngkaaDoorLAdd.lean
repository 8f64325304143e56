/- limb.Add: the sum, and the bit that is carried. -/
import Derived.Test.YtflnfjekapngkaaDoorRows
import Derived.Test.YtflnfjekapngkaaDoorBase
import Derived.Laws.Externs
import Derived.Deep.RegionHeld3
namespace Go.Proofs.YtflnfjekapngkaaDoor
open Go.RowKit

theorem add64_run (x y c : Int) (hx : 0 ≤ x) (hy : 0 ≤ y) (hc0 : 0 ≤ c) (hc : c ≤ 1) (w : World) :
    (callFunc 65 #[.int .u64 x, .int .u64 y, .int .u64 c]).run Tryd.prog w =
      .ok (.value (.tuple #[.int .u64 ((x + y + c) % 18446744073709551616), .int .u64 ((x + y + c) / 18446744073709551616)])) w := by
  rw [run_callFunc_extern Tryd.func65 (by kernel_rfl) (by kernel_rfl) (by kernel_rfl) (e := add64Entry) (by kernel_rfl), run_add64 x y c hx hy hc0 hc]
  rfl

/-- a round of the sum -/
theorem add_step (A B S : List Int) (k : Nat) (n a b : Int) (lA : A.length = 6) (lB : B.length = 6) (lS : S.length = 6) (hk : k < 6) (ha : A.getD k 0 = a) (hb : B.getD k 0 = b)
    (h : v64 (S.take k) + n * 18446744073709551616 ^ k = v64 (A.take k) + v64 (B.take k)) :
    v64 ((S.set k ((a + b + n) % 18446744073709551616)).take (k + 1)) + (a + b + n) / 18446744073709551616 * 18446744073709551616 ^ (k + 1) = v64 (A.take (k + 1)) + v64 (B.take (k + 1)) := by
  have e := Int.mul_ediv_add_emod (a + b + n) 18446744073709551616
  simp only [v64] at *
  rw [pv_take _ _ k (by simp; omega), pv_take _ A k (by omega), pv_take _ B k (by omega), take_set_same, getD_set_same _ _ _ (by omega), ha, hb, Int.pow_succ]
  generalize (a + b + n) / 18446744073709551616 = q at *
  generalize (a + b + n) % 18446744073709551616 = r at *
  generalize (18446744073709551616 : Int) ^ k = p at *
  have e' : a = 18446744073709551616 * q + r - b - n := by omega
  subst e'
  grind

set_option maxRecDepth 100000 in
set_option maxHeartbeats 1000000 in
theorem add_any (A B : List Int) (w : World) (lA : A.length = 6) (lB : B.length = 6) (hx : fits A) (hy : fits B) :
    Calls Tryd.prog 58 #[.agg (us A).toArray, .agg (us B).toArray] w fun e w' => ∃ (S : List Int) (n : Int), e = .returned (.tuple #[.agg (us S).toArray, .int .u64 n]) ∧ S.length = 6 ∧ fits S ∧ 0 ≤ n ∧ n ≤ 1 ∧
      v64 S + n * 18446744073709551616 ^ 6 = v64 A + v64 B ∧ Below w.heap.size w w' := by
  have b0 := (((Blk.new w (us A) 24 w.heap.size rfl).alloc (.cells (us B).toArray 24)).alloc (.cells (us [0, 0, 0, 0, 0, 0]).toArray 24)).alloc (.cells (us [0, 0, 0, 0, 0, 0]).toArray 24)
  have b1 := ((Blk.new (w.alloc (.cells (us A).toArray 24)) (us B) 24 (w.heap.size + 1) (by simp)).alloc (.cells (us [0, 0, 0, 0, 0, 0]).toArray 24)).alloc (.cells (us [0, 0, 0, 0, 0, 0]).toArray 24)
  have b2 := (Blk.new ((w.alloc (.cells (us A).toArray 24)).alloc (.cells (us B).toArray 24)) (us [0, 0, 0, 0, 0, 0]) 24 (w.heap.size + 1 + 1) (by simp)).alloc (.cells (us [0, 0, 0, 0, 0, 0]).toArray 24)
  have b3 := Blk.new (((w.alloc (.cells (us A).toArray 24)).alloc (.cells (us B).toArray 24)).alloc (.cells (us [0, 0, 0, 0, 0, 0]).toArray 24)) (us [0, 0, 0, 0, 0, 0]) 24 (w.heap.size + 1 + 1 + 1) (by simp)
  have hbel : Below w.heap.size w ((((w.alloc (.cells (us A).toArray 24)).alloc (.cells (us B).toArray 24)).alloc (.cells (us [0, 0, 0, 0, 0, 0]).toArray 24)).alloc (.cells (us [0, 0, 0, 0, 0, 0]).toArray 24)) := ((((Below.refl _ _).alloc (Nat.le_refl _) _).alloc (by simp) _).alloc (by simp; omega) _).alloc (by simp; omega) _
  go_enter Tryd.func58, Tryd.ntmps58
  go_wp2
  go_loopw [7, 9] (fun o i wr => ∃ (k : Nat) (n : Int) (S : List Int), k ≤ 6 ∧ i = .int .i64 k ∧ o = .int .u64 n ∧ 0 ≤ n ∧ n ≤ 1 ∧ S.length = 6 ∧ fits S ∧ v64 (S.take k) + n * 18446744073709551616 ^ k = v64 (A.take k) + v64 (B.take k) ∧
      Blk wr w.heap.size (us A) ∧ Blk wr (w.heap.size + 1) (us B) ∧ Blk wr (w.heap.size + 1 + 1) (us [0, 0, 0, 0, 0, 0]) ∧ Blk wr (w.heap.size + 1 + 1 + 1) (us S) ∧ Below w.heap.size w wr)
    (fun _ i _ => 6 - (intOf i).toNat)
  case atStart => exact ⟨0, 0, [0, 0, 0, 0, 0, 0], by omega, rfl, rfl, by omega, by omega, rfl, fits_zero 6, by simp [pv], b0, b1, b2, b3, hbel⟩
  case round =>
    obtain ⟨k, n, S, hk, rfl, rfl, hn0, hn1, lS, fS, hv, hSA, hSB, hSZ, hSS, hbel⟩ := hrel
    clear b0 b1 b2 b3
    by_cases hlt : k < 6
    · obtain ⟨a, hA⟩ : ∃ a, A.getD k 0 = a := ⟨_, rfl⟩
      obtain ⟨b, hB⟩ : ∃ b, B.getD k 0 = b := ⟨_, rfl⟩
      obtain ⟨s, hS⟩ : ∃ s, S.getD k 0 = s := ⟨_, rfl⟩
      have ha := hSA.cell k _ (us_get A k (by omega))
      have hb := hSB.cell k _ (us_get B k (by omega))
      have hs := hSS.cell k _ (us_get S k (by omega))
      rw [hA] at ha
      rw [hB] at hb
      rw [hS] at hs
      have hf := hSS.frozen k
      have hax : 0 ≤ a ∧ a < 18446744073709551616 := hA ▸ hx k
      have hbx : 0 ≤ b ∧ b < 18446744073709551616 := hB ▸ hy k
      have hadd := add64_run a b n hax.1 hbx.1 hn0 hn1
      have st : Hid _ := add_step A B S k n a b lA lB lS hlt hA hB hv
      have q0 : 0 ≤ (a + b + n) / 18446744073709551616 := by omega
      have q1 : (a + b + n) / 18446744073709551616 ≤ 1 := by omega
      have r0 : 0 ≤ (a + b + n) % 18446744073709551616 := by omega
      have r1 : (a + b + n) % 18446744073709551616 < 18446744073709551616 := by omega
      clear hA hB hS hv
      have h1 : (k : Int) < 6 := by omega
      have h2 : (0 : Int) ≤ (k : Int) := by omega
      go_wp2
      go_region_held3 (fun w' => w'.cell? ⟨w.heap.size, k, none⟩ = some (.int .u64 a) ∧ w'.cell? ⟨w.heap.size + 1, k, none⟩ = some (.int .u64 b)) (first | exact ⟨ha, hb⟩ | (refine ⟨?_, ?_⟩ <;> (rw [World.cell?_drew, World.cell?_setCell_far _ _ _ _ (by simp <;> omega)]; assumption))) (fail)
      all_goals go_wp2
      all_goals go_roundw
      case rel => exact ⟨k + 1, _, S.set k ((a + b + n) % 18446744073709551616), by omega, by go_num, rfl, q0, q1, by simpa using lS, fits_set fS k _ r0 r1, st.out, (hSA.other _ _ (by simp <;> omega)).drew, (hSB.other _ _ (by simp <;> omega)).drew, (hSZ.other _ _ (by simp)).drew, (hSS.setu k _).drew, (hbel.setCell (by simp <;> omega) _).drew⟩
      case measure => simp [intOf]; omega
    · have h6 : (6 : Int) ≤ (k : Int) := by omega
      obtain ⟨s0, s1, s2, s3, s4, s5, rfl⟩ := six lS
      have c0 := hSS.cell 0 _ rfl
      have z0 := hSZ.cell 0 _ rfl
      have f0 := hSZ.frozen 0
      have c1 := hSS.cell 1 _ rfl
      have z1 := hSZ.cell 1 _ rfl
      have f1 := hSZ.frozen 1
      have c2 := hSS.cell 2 _ rfl
      have z2 := hSZ.cell 2 _ rfl
      have f2 := hSZ.frozen 2
      have c3 := hSS.cell 3 _ rfl
      have z3 := hSZ.cell 3 _ rfl
      have f3 := hSZ.frozen 3
      have c4 := hSS.cell 4 _ rfl
      have z4 := hSZ.cell 4 _ rfl
      have f4 := hSZ.frozen 4
      have c5 := hSS.cell 5 _ rfl
      have z5 := hSZ.cell 5 _ rfl
      have f5 := hSZ.frozen 5
      go_wp2
      have hk6 : k = 6 := by omega
      subst hk6
      rw [List.take_of_length_le (by omega), List.take_of_length_le (by omega), List.take_of_length_le (by omega)] at hv
      exact bodyPost_ret (v := .tuple #[.agg #[.int .u64 s0, .int .u64 s1, .int .u64 s2, .int .u64 s3, .int .u64 s4, .int .u64 s5], .int .u64 n]) (by simp [results, Tryd.results58, go_sem, z0, z1, z2, z3, z4, z5]) rfl
        ⟨[s0, s1, s2, s3, s4, s5], n, rfl, rfl, fS, hn0, hn1, hv, (((((hbel.setCell (by simp; omega) _).setCell (by simp; omega) _).setCell (by simp; omega) _).setCell (by simp; omega) _).setCell (by simp; omega) _).setCell (by simp; omega) _⟩

theorem add6 {x0 x1 x2 x3 x4 x5 y0 y1 y2 y3 y4 y5 : Int} {w : World} (hx : fits [x0, x1, x2, x3, x4, x5]) (hy : fits [y0, y1, y2, y3, y4, y5]) :
    Calls Tryd.prog 58 #[.agg #[.int .u64 x0, .int .u64 x1, .int .u64 x2, .int .u64 x3, .int .u64 x4, .int .u64 x5], .agg #[.int .u64 y0, .int .u64 y1, .int .u64 y2, .int .u64 y3, .int .u64 y4, .int .u64 y5]] w fun e w' => ∃ s0 s1 s2 s3 s4 s5 n : Int, e = .returned (.tuple #[.agg #[.int .u64 s0, .int .u64 s1, .int .u64 s2, .int .u64 s3, .int .u64 s4, .int .u64 s5], .int .u64 n]) ∧ fits [s0, s1, s2, s3, s4, s5] ∧ 0 ≤ n ∧ n ≤ 1 ∧
      v64 [s0, s1, s2, s3, s4, s5] + n * 18446744073709551616 ^ 6 = v64 [x0, x1, x2, x3, x4, x5] + v64 [y0, y1, y2, y3, y4, y5] ∧ Below w.heap.size w w' := by
  refine (add_any [x0, x1, x2, x3, x4, x5] [y0, y1, y2, y3, y4, y5] w rfl rfl hx hy).mono ?_
  rintro e w' ⟨S, n, rfl, lS, fS, h0, h1, hv, hb⟩
  obtain ⟨s0, s1, s2, s3, s4, s5, rfl⟩ := six lS
  exact ⟨s0, s1, s2, s3, s4, s5, n, rfl, fS, h0, h1, hv, hb⟩
end Go.Proofs.YtflnfjekapngkaaDoor
