/- The program's Hash, beside its Mul and Whole. -/
import Derived.Test.YtpfmoakapdfdaaaRows
import Derived.Test.YtpfmoakapdfdaaaGhCodeW
import Derived.Deep.WholeRow
import Derived.Deep.RegionHeld3
import Derived.Deep.DeepCutAuto
import Derived.Deep.DeepFit
namespace Go.Proofs.Ytpfmoakapdfdaaa
open Go.RowKit

set_option linter.unusedSimpArgs false in
set_option maxRecDepth 100000 in
set_option maxHeartbeats 1000000 in
theorem con_Hash {H B : List Int} {v : Value} {w : World} (lH : H.length = 16) (bH : byt H) (hv : Bs w v B) (bB : byt B) (l : B.length ≤ 1099511627776) :
    Calls Try.prog 13 #[.agg (u8s H).toArray, v] w fun e w' => e = .returned (.agg (u8s (hashB H B)).toArray) ∧ Below w.heap.size w w' := by
  have HHb : Hid (byt H ∧ H.length = 16) := ⟨bH, lH⟩
  have HBb : Hid (byt B) := bB
  have HL : Hid (B.length ≤ 1099511627776) := l
  have HV : Hid (Bs w v B) := hv
  clear lH bH bB l hv
  have hz := zero_16.out
  rw [hash_add]
  obtain ⟨FH, hFH⟩ : ∃ F, u8s (H) = F := ⟨_, rfl⟩
  have FHh : Hid (u8s (H) = FH) := hFH
  have FHl : Hid (FH.length = 16) := by show _ = _; rw [← hFH, u8s, List.length_map]; exact HHb.out.2
  have FHo : Hid (FH.toArray.all (·.oneCell') = true) := by rw [← hFH]; exact u8_ones _
  clear hFH
  rw [FHh.out]
  obtain ⟨E, hE⟩ : ∃ F, u8s (addB H (List.replicate 16 0) B) = F := ⟨_, rfl⟩
  have Eh : Hid (u8s (addB H (List.replicate 16 0) B) = E) := hE
  have El : Hid (E.length = 16) := by show _ = _; rw [← hE, u8s, List.length_map]; exact addB_len List.length_replicate
  have Eo : Hid (E.toArray.all (·.oneCell') = true) := by rw [← hE]; exact u8_ones _
  clear hE
  rw [Eh.out]
  have B0 := (Blk.new w FH 22 w.heap.size rfl).alloc (.cells (u8s (List.replicate 16 0)).toArray 22)
  have R0 := Blk.new (w.alloc (.cells FH.toArray 22)) (u8s (List.replicate 16 0)) 22 (w.heap.size + 1) (by simp)
  have bel : Below w.heap.size w ((w.alloc (.cells FH.toArray 22)).alloc (.cells (u8s (List.replicate 16 0)).toArray 22)) := (((Below.refl _ _).alloc (Nat.le_refl _) _).alloc (by simp) _)
  obtain ⟨Z, hZ⟩ : ∃ Z, (u8s (List.replicate 16 0)) = Z := ⟨_, rfl⟩
  have HZl : Hid (Z.length = 16) := by rw [← hZ]; rfl
  rw [hZ] at hz B0 R0 bel
  clear hZ
  go_enter Try.func13, Try.ntmps13
  go_upto_region 1 with fail
  generalize ((w.alloc (.cells FH.toArray 22)).alloc (.cells Z.toArray 22)) = W at *
  clear hz
  go_wp2_with (first | (refine wpList_load_run (by rfl) (by rfl) (by rfl) (B0.load Try.underlying22 rfl size_16 FHl.out) ?_) | fail)
  refine (con_addedL FHh.out (Y := List.replicate 16 0) rfl Eh.out HHb.out.2 HHb.out.1 List.length_replicate (byt_zeros 16) (HV.out.later bel) HBb.out HL.out).mono ?_
  rintro e w1 ⟨rfl, hb⟩
  replace R0 := R0.later hb
  replace bel := below_step bel hb
  clear hb B0
  obtain ⟨tR, hR⟩ := R0
  have HR : Hid _ := hR
  clear hR
  go_wp2_with (first
    | (refine wpList_store_row rfl 22 _ _ rfl (w.heap.size + 1) E.toArray rfl rfl tR Z.toArray HR.out (by rw [size_16, List.size_toArray, El.out]) (by rw [List.size_toArray, List.size_toArray, El.out, HZl.out]) Eo.out ?_)
    | fail)
  exact bodyPost_ret (results_cell_row Try.results13 _ _ (w.heap.size + 1) tR E.toArray (0, 0) _ rfl (setRow_heap _ _ _ _ _ _ HR.out) Try.underlying22 rfl (by rw [size_16, List.size_toArray, El.out])) rfl ⟨rfl, below_setRow bel (by omega) _⟩
end Go.Proofs.Ytpfmoakapdfdaaa
