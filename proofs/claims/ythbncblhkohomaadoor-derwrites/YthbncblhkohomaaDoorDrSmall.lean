/- The law's small. -/
import Derived.Test.YthbncblhkohomaaDoorRows
import Derived.Test.YthbncblhkohomaaDoorDrUp
import Derived.Test.YthbncblhkohomaaDoorDrFine
import Derived.Deep.WholeRow
import Derived.Deep.RegionHeld3
import Derived.Deep.DeepCutAuto
import Derived.Deep.DeepFit
namespace Go.Proofs.YthbncblhkohomaaDoor
open Go.RowKit

mutual
theorem litT_len : ∀ (T : Tl) (n : Int) (d : Nat), 0 ≤ litT T n d → 5 * litT T n d + ((bytesT T).length : Int) ≤ 5 * n ∧ litT T n d + (szT T : Int) ≤ n
  | .mk c t m b ks, n, d, h => by
    rw [litT] at h ⊢
    split at h
    · omega
    · rename_i hc
      rw [if_neg hc]
      have := litL_len ks (n - 1 - b.length) (d - 1) h
      have l4 := lenB_len (b ++ bytesL ks).length
      rw [bytesT_len, szT]
      rw [List.length_append] at l4 ⊢
      omega
theorem litL_len : ∀ (ks : List Tl) (n : Int) (d : Nat), 0 ≤ litL ks n d → 5 * litL ks n d + ((bytesL ks).length : Int) ≤ 5 * n ∧ litL ks n d + (szL ks : Int) ≤ n
  | [], n, d, _ => by rw [litL, bytesL, szL]; simp
  | k :: ks, n, d, h => by
    rw [litL] at h ⊢
    split at h
    · omega
    · rename_i hc
      rw [if_neg hc]
      have h1 := litT_len k n d (by omega)
      have h2 := litL_len ks (litT k n d) d h
      rw [bytesL, List.length_append, szL]
      omega
end
set_option maxRecDepth 100000 in
theorem con_small {T : Tl} {cs : List Value} {w : World} (h : TlAt w T cs) :
    Calls Tryd.prog 15 #[.agg cs.toArray] w fun e w' => e = .returned (.bool (decide (0 ≤ litT T 20000 200))) ∧ Below w.heap.size w w' := by
  have HT : Hid (TlAt w T cs) := h
  have HL : Hid (cs.length = 5) := h.five
  have B0 := Blk.new w cs 26 w.heap.size rfl
  have bel : Below w.heap.size w (w.alloc (.cells cs.toArray 26)) := (Below.refl _ _).alloc (Nat.le_refl _) _
  clear h
  go_enter Tryd.func15, Tryd.ntmps15
  go_upto_region 1 with fail
  generalize w.alloc (.cells cs.toArray 26) = W at *
  have l0 := B0.lt
  go_wp2_with (first | (refine wpList_load_run (by rfl) (by rfl) (by rfl) (B0.load Tryd.underlying26 rfl size_tlv HL.out) ?_) | fail)
  refine (r12_Light (szT T) T 20000 200 _ _ (Nat.le_refl _) (by decide) (by decide) (HT.out.later bel)).mono ?_
  rintro e w1 ⟨rfl, hb⟩
  replace bel := below_stepD bel hb
  obtain ⟨z, hz⟩ : ∃ z, litT T 20000 200 = z := ⟨_, rfl⟩
  have HZ : Hid (litT T 20000 200 = z) := hz
  rw [hz]
  clear hz
  go_wp2_with fail
  go_ret
  exact ⟨by rw [HZ.out]; rfl, bel⟩
end Go.Proofs.YthbncblhkohomaaDoor
