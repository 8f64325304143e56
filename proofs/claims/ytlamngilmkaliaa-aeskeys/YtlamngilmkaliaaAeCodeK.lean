/- The program's Keys. -/
import Derived.Test.YtlamngilmkaliaaRows
import Derived.Test.YtlamngilmkaliaaAeCodeR
import Derived.Deep.WholeRow
import Derived.Deep.RegionHeld3
import Derived.Deep.DeepCutAuto
import Derived.Deep.DeepFit
namespace Go.Proofs.Ytlamngilmkaliaa
open Go.RowKit

set_option linter.unusedSimpArgs false in
set_option maxRecDepth 100000 in
set_option maxHeartbeats 1000000 in
theorem con_Keys {kv : Value} {K : List Int} {w : World} (hk : Bs w kv K) (bK : byt K) (l : K.length = 32) :
    Calls Try.prog 17 #[kv] w fun e w' => ∃ v' : Value, e = .returned (.tuple #[v', .nilIface]) ∧ KeysAt w' v' K ∧ Below w.heap.size w w' := by
  have HK : Hid (Bs w kv K) := hk
  have HB : Hid (byt K) := bK
  have HL : Hid (K.length = 32) := l
  have hz := zero_240.out
  obtain ⟨Z, hZ⟩ : ∃ Z, u8s (List.replicate 240 0) = Z := ⟨_, rfl⟩
  have HZl : Hid (Z.length = 240) := by show _ = _; rw [← hZ, u8s, List.length_map, List.length_replicate]
  rw [hZ] at hz
  clear hZ
  obtain ⟨ao, cap, rfl, h1, h2, h3⟩ := hk
  clear h3
  rw [l] at h2 HK ⊢
  clear bK l
  go_enter Try.func17, Try.ntmps17
  go_wp2_with fail
  refine (con_roundKeys HK.out HB.out HL.out).mono ?_
  rintro e w1 ⟨rfl, bel⟩
  obtain ⟨G, hG⟩ : ∃ G, u8s (allN K 15) = G := ⟨_, rfl⟩
  have HG : Hid (u8s (allN K 15) = G) := hG
  have HGl : Hid (G.length = 240) := by show _ = _; rw [← hG, u8s, List.length_map]; exact allN_len K 15
  have HGo : Hid (G.toArray.all (·.oneCell') = true) := by rw [← hG]; exact u8_ones _
  rw [hG]
  clear hG
  have B := Blk.new w1 G 48 w1.heap.size rfl
  replace bel := below_alloc (o := .cells G.toArray 48) bel
  go_upto_region 4 with (first
    | (refine wpList_store_row rfl 48 _ _ rfl w1.heap.size G.toArray rfl rfl 48 Z.toArray (heap_alloc_last _ _) (by rw [size_240, List.size_toArray, HGl.out]) (by rw [List.size_toArray, List.size_toArray, HGl.out, HZl.out]) HGo.out ?_; rw [World.setRow_alloc_new])
    | fail)
  clear hz
  go_wp2_with fail
  refine bodyPost_ret (results_tmp2 rfl _ _ _) rfl ?_
  refine ⟨_, rfl, ⟨w1.heap.size, 15, rfl, Nat.le_refl _, by decide, B.lt, fun i k hi hk => B.cell _ _ ?_⟩, bel⟩
  rw [← HG.out, u8s_get _ _ (by rw [allN_len]; omega), allN_get hk hi]
set_option maxRecDepth 100000 in
theorem con_KeysBad {kv : Value} {K : List Int} {w : World} (hk : Bs w kv K) (l : ¬ K.length = 32) :
    Calls Try.prog 17 #[kv] w fun e w' => ∃ (ao : Option Addr) (cap : Nat), e = .returned (.tuple #[.slice ao 0 cap, .iface 35 (.int .i64 1)]) ∧ Below w.heap.size w w' := by
  obtain ⟨ao, cap, rfl, h1, h2, h3⟩ := hk
  clear h3
  have g1 : ¬ ((K.length : Nat) : Int) = 32 := by omega
  go_enter Try.func17, Try.ntmps17
  go_wp2_with fail
  refine bodyPost_ret (results_tmp2 rfl _ _ _) rfl ?_
  exact ⟨_, _, rfl, Below.refl _ _⟩
end Go.Proofs.Ytlamngilmkaliaa
