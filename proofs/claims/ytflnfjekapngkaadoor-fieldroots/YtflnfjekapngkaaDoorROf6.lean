/- The reference's Of6: 6 limbs as digits. -/
import Derived.Test.YtflnfjekapngkaaDoorRows
import Derived.Test.YtflnfjekapngkaaDoorROf
namespace Go.Proofs.YtflnfjekapngkaaDoor
open Go.RowKit

set_option maxRecDepth 100000 in
set_option maxHeartbeats 1000000 in
theorem of6_any (A : List Int) (w : World) (lA : A.length = 6) (hf : fits A) :
    Calls Tryd.prog 31 #[.agg (us A).toArray] w fun e w' => ∃ v', e = .returned v' ∧ NumIs w' v' (v64 A) ∧ Below w.heap.size w w' := by
  obtain ⟨i0, hi0, hz0, hz1, hz2⟩ := info_parts info_num
  have B0 := Blk.new w (us A) 23 w.heap.size rfl
  have bel : Below w.heap.size w (w.alloc (.cells (us A).toArray 23)) := (Below.refl _ _).alloc (Nat.le_refl _) _
  have sz0 : (w.alloc (.cells (us A).toArray 23)).heap.size = w.heap.size + 1 := by simp
  go_enter Tryd.func31, Tryd.ntmps31
  go_wp2
  generalize w.alloc (.cells (us A).toArray 23) = W at *
  go_loopw [3, 4] (fun o i wr => ∃ k : Nat, k ≤ 6 ∧ i = .int .i64 k ∧ wr.ownsRow (w.heap.size + 1) 22 1 o k (us (A.take k)) ∧ Below (w.heap.size + 1) W wr)
    (fun _ i _ => 6 - (intOf i).toNat)
  case atStart => exact ⟨0, by omega, rfl, World.ownsRow_nil _ _ _ _, Below.refl _ _⟩
  case round =>
    obtain ⟨k, hk, rfl, hown, hbel⟩ := hrel
    have hsz := hbel.size
    by_cases hlt : k < 6
    · obtain ⟨a, ha⟩ : ∃ a, A.getD k 0 = a := ⟨_, rfl⟩
      have hc := (B0.below hbel (by omega)).cell k _ (us_get A k (by omega))
      rw [ha] at hc
      have HT : Hid (us (A.take k) ++ [.int .u64 a] = us (A.take (k + 1))) := by
        rw [← ha]; exact us_take A k (by omega)
      clear ha
      have g0 : (0 : Int) ≤ (k : Int) := by omega
      have g1 : (k : Int) < 6 := by omega
      go_wp2_with (first
        | (at_builtin; refine wpList_append_lies _ (by rfl) _ _ _ (by rfl) (w.heap.size + 1) 22 i0 _ 1 8 Tryd.underlying27 hi0 hz0 hz1 hz2 rfl (by omega) _ _ _ (by rfl) (hown.alloc _) ⟨wr.heap.size, 0, none⟩ 1 1 [.int .u64 a] (by rfl) (by rfl) (World.news_of_block (cs := #[.int .u64 a]) (t := 22) (fr := (0, 0)) (heap_alloc_new wr _)) (by simp [Value.oneCell']) (by omega) (by unfold maxLen; omega) (by omega) (by simp; omega) (wr.heap.size + 1) (by simp) ?_; intro gg cap1 w1 hown1 hgrow hat hlt1))
      go_roundw
      case rel => exact ⟨k + 1, by omega, by go_num, by rw [HT.out] at hown1; exact hown1, hbel.trans (Below.grown ((Below.refl _ _).alloc (by omega) _) hgrow (by simp; omega) (fun j hj => own_ge hown hj))⟩
      case measure => simp [intOf]; omega
    · have g1 : (6 : Int) ≤ (k : Int) := by omega
      have hk : k = 6 := by omega
      rw [hk, List.take_of_length_le (by omega)] at hown
      go_wp2_with fail
      refine (of_any _ A _ (Sl.of_own hown) (by omega) (by omega) hf).mono ?_
      rintro e w' ⟨v', rfl, ht, hb⟩
      go_wp2_with fail
      go_ret
      exact ⟨v', rfl, ht, (bel.trans (hbel.mono (by omega))).trans (hb.mono (by omega))⟩
end Go.Proofs.YtflnfjekapngkaaDoor
