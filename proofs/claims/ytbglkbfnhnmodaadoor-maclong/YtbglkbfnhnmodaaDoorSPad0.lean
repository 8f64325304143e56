/- The program's padding. -/
import Derived.Test.YtbglkbfnhnmodaaDoorRows
import Derived.Test.YtbglkbfnhnmodaaDoorSPad
import Derived.Test.YtbglkbfnhnmodaaDoorSWord
import Derived.Test.YtbglkbfnhnmodaaDoorSpread
import Derived.Deep.WholeRow
import Derived.Deep.RegionHeld3
import Derived.Deep.DeepCutAuto
import Derived.Deep.DeepFit
namespace Go.Proofs.YtbglkbfnhnmodaaDoor
open Go.RowKit

theorem pad_of {n z : Nat} (hz : zsN n = z) (hn : n ≤ 1125899906842624) : PadIs n ((128 :: List.replicate (z + 8) 0) ++ be8 (8 * (n : Int)) ++ []) := by
  have hw : w64 (8 * (n : Int)) := ⟨by omega, by omega⟩
  refine ⟨List.replicate 8 0 ++ be8 (8 * (n : Int)), rfl, ?_, ?_, ?_⟩
  · apply byt_of
    intro j hj
    by_cases h8 : j < 8
    · rw [List.getD_eq_getElem?_getD, List.getElem?_append_left (by simpa using h8), ← List.getD_eq_getElem?_getD, getD_rep]
      exact ⟨by decide, by decide⟩
    · rw [List.getD_eq_getElem?_getD, List.getElem?_append_right (by simpa using h8), ← List.getD_eq_getElem?_getD]
      exact be8_byt _ _
  · have e := be8_num hw
    have e2 : beN (List.replicate 8 0 ++ be8 (8 * (n : Int))) = beN (be8 (8 * (n : Int))) := by
      show pv 256 ((be8 (8 * (n : Int))).reverse ++ List.replicate 8 0) = pv 256 (be8 (8 * (n : Int))).reverse
      rfl
    rw [e2, e]
  · rw [hz, List.append_nil, List.cons_append, ← List.append_assoc, List.replicate_append_replicate]
theorem pad_zero (z : Nat) : (List.replicate (17 + z) (0 : Int)).set 0 128 = (128 :: List.replicate (z + 8) 0) ++ [0, 0, 0, 0, 0, 0, 0, 0] ++ [] := by
  rw [show 17 + z = (z + 8 + 8) + 1 by omega, List.replicate_succ, List.set_cons_zero, List.append_nil, List.cons_append]
  show 128 :: List.replicate (z + 8 + 8) 0 = _
  rw [← List.replicate_append_replicate (n := z + 8)]
  rfl

set_option maxRecDepth 100000 in
set_option maxHeartbeats 1000000 in
theorem con_padding {n : Nat} {w : World} (hn : n ≤ 1125899906842624) :
    Calls Tryd.prog 22 #[.int .i64 (n : Int)] w fun e w' => ∃ (g q : Nat) (P : List Int), e = .returned (.slice (some ⟨g, 0, none⟩) q q) ∧ PadIs n P ∧ P.length = q ∧ Blk w' g (u8s P) ∧ w.heap.size ≤ g ∧ Below w.heap.size w w' := by
  obtain ⟨z, hz⟩ : ∃ z, zsN n = z := ⟨_, rfl⟩
  obtain ⟨q, hq⟩ : ∃ q, 17 + z = q := ⟨_, rfl⟩
  have zl : z < 128 := by rw [← hz]; unfold zsN; omega
  have HZ : Hid (zsN n = z) := hz
  have HQ : Hid (17 + z = q) := hq
  have hmk := run_make_row' 22 5 (.int .u8 0) 1 Tryd.underlying22 info_b8 rfl .i64 .i64 q (by omega) (by omega)
  rw [made_u8] at hmk
  have b1 := Blk.new w (u8s (List.replicate q 0)) 5 w.heap.size rfl
  have bel : Below w.heap.size w (w.alloc (.cells (u8s (List.replicate q 0)).toArray 5)) := (Below.refl _ _).alloc (Nat.le_refl _) _
  generalize (u8s (List.replicate q 0)).toArray = cs at hmk b1 bel
  replace hmk : ∀ w : World, (Instr.makeSlice 22 (.int .i64 (q : Int)) (.int .i64 (q : Int))).run Tryd.prog w = .ok (.slice (some ⟨w.heap.size, 0, none⟩) q q) (w.alloc (.cells cs 5)) := hmk
  obtain ⟨m, hm⟩ : ∃ m, n % 128 = m := ⟨_, rfl⟩
  have m1 : m < 128 := by omega
  have t1 : (n : Int).tmod 128 = (m : Int) := by rw [Int.tmod_eq_emod_of_nonneg (by omega)]; omega
  have t2 : (239 - (m : Int)).tmod 128 = (z : Int) := by rw [Int.tmod_eq_emod_of_nonneg (by omega), ← hz]; unfold zsN; omega
  have w1 : IntKind.i64.wrap (239 - (m : Int)) = 239 - (m : Int) := by rw [IntKind.wrap_i64]; omega
  have w2 : IntKind.i64.wrap (1 + (z : Int)) = 1 + (z : Int) := by rw [IntKind.wrap_i64]; omega
  have w3 : IntKind.i64.wrap (1 + (z : Int) + 16) = (q : Int) := by rw [IntKind.wrap_i64]; omega
  have q1 : 17 ≤ q := by omega
  have q2 : q < 145 := by omega
  clear hz hq hm m1 zl
  go_enter Tryd.func22, Tryd.ntmps22
  go_upto_region 3 with fail
  clear hmk
  generalize w.alloc (.cells cs 5) = W at *
  have lt := b1.lt
  have fz := b1.frozen 0
  have c0 := b1.cell 0 _ (u8s_get (List.replicate q 0) 0 (by simp; omega))
  have g0 : (0 : Int) < (q : Int) := by omega
  have w4 : IntKind.i64.wrap ((q : Int) - 8) = (q : Int) - 8 := by rw [IntKind.wrap_i64]; omega
  have w5 : IntKind.u64.wrap (n : Int) = (n : Int) := by rw [IntKind.wrap_u64]; omega
  have w6 : IntKind.u64.wrap ((n : Int) * 8) = 8 * (n : Int) := by rw [IntKind.wrap_u64]; omega
  have g1 : (0 : Int) ≤ (q : Int) - 8 := by omega
  have g2 : (q : Int) - 8 ≤ (q : Int) := by omega
  have g3 : ((q : Int) - 8).toNat = q - 8 := by omega
  have g4 : ¬ q = q - 8 := by omega
  have g5 : q - (q - 8) = 8 := by omega
  go_wp2_with fail
  have b2 : Blk (W.setCell ⟨w.heap.size, 0, none⟩ (.int .u8 128)) w.heap.size (u8s ((128 :: List.replicate (z + 8) 0) ++ [0, 0, 0, 0, 0, 0, 0, 0] ++ [])) := by
    rw [← pad_zero z, HQ.out]
    have e := b1.set 0 (.int .u8 128)
    rwa [show (u8s (List.replicate q 0)).set 0 (.int .u8 128) = u8s ((List.replicate q 0).set 0 128) by simp [u8s, List.map_set]] at e
  have bel2 : Below w.heap.size w (W.setCell ⟨w.heap.size, 0, none⟩ (.int .u8 128)) := bel.setCell (Nat.le_refl _) _
  clear b1 bel lt fz c0
  generalize W.setCell ⟨w.heap.size, 0, none⟩ (.int .u8 128) = W1 at *
  refine (con_put b2 (Nat.le_refl _) (by simp; have := HQ.out; omega) ⟨by omega, by omega⟩).mono ?_
  rintro e w' ⟨rfl, P1⟩
  rw [puts_is _ _ _ _ _ _ _ _ _ _ _ _ (by simp; have := HQ.out; omega)] at P1
  clear b2
  go_wp2_with fail
  go_ret
  refine ⟨_, _, _, rfl, pad_of HZ.out hn, ?_, P1.1, Nat.le_refl _, P1.2.2.1 _ _ (Nat.le_refl _) bel2⟩
  have := HQ.out
  simp [be8_len]
  omega
end Go.Proofs.YtbglkbfnhnmodaaDoor
