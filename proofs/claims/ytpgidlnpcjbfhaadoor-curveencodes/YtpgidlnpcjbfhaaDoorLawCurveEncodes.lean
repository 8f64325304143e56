/- The law CurveEncodes answers true: any point's bytes, or that it is none. -/
import Derived.Test.YtpgidlnpcjbfhaaDoorRows
import Derived.Test.YtpgidlnpcjbfhaaDoorCUp
import Derived.Test.YtpgidlnpcjbfhaaDoorCOn
import Derived.Test.YtpgidlnpcjbfhaaDoorCOf
import Derived.Test.YtpgidlnpcjbfhaaDoorCEnc
import Derived.Test.YtpgidlnpcjbfhaaDoorCEncC
import Derived.Test.YtpgidlnpcjbfhaaDoorRBytes
import Derived.Deep.WholeRow
import Derived.Deep.RegionHeld3
import Derived.Deep.DeepCutAuto
import Derived.Deep.DeepFit
namespace Go.Proofs.YtpgidlnpcjbfhaaDoor
open Go.RowKit

set_option maxRecDepth 100000 in
set_option maxHeartbeats 4000000 in
theorem enc_none (x0 x1 x2 x3 x4 x5 y0 y1 y2 y3 y4 y5 : Int) (w : World) (G : GlsC w) (fX : fits [x0, x1, x2, x3, x4, x5]) (fY : fits [y0, y1, y2, y3, y4, y5]) (b : Bool) (hb : b = true ↔ IsOn true (v64 [x0, x1, x2, x3, x4, x5]) (v64 [y0, y1, y2, y3, y4, y5])) :
    Calls Tryd.prog 7 #[.agg #[.int .u64 x0, .int .u64 x1, .int .u64 x2, .int .u64 x3, .int .u64 x4, .int .u64 x5, .int .u64 y0, .int .u64 y1, .int .u64 y2, .int .u64 y3, .int .u64 y4, .int .u64 y5, .bool true]] w fun e w' => e = .returned (.bool true) ∧ Below w.heap.size w w' := by
  have HB : Hid (b = true ↔ IsOn true (v64 [x0, x1, x2, x3, x4, x5]) (v64 [y0, y1, y2, y3, y4, y5])) := hb
  clear hb
  have B0 := Blk.new w [.int .u64 x0, .int .u64 x1, .int .u64 x2, .int .u64 x3, .int .u64 x4, .int .u64 x5, .int .u64 y0, .int .u64 y1, .int .u64 y2, .int .u64 y3, .int .u64 y4, .int .u64 y5, .bool true] 26 (w.heap.size) rfl
  have bel : Below w.heap.size w (w.alloc (.cells [.int .u64 x0, .int .u64 x1, .int .u64 x2, .int .u64 x3, .int .u64 x4, .int .u64 x5, .int .u64 y0, .int .u64 y1, .int .u64 y2, .int .u64 y3, .int .u64 y4, .int .u64 y5, .bool true].toArray 26)) := ((Below.refl _ _).alloc (Nat.le_refl _) _)
  go_enter Tryd.func7, Tryd.ntmps7
  go_upto_region 1 with fail
  try simp only [us, List.map_cons, List.map_nil] at bel
  generalize (w.alloc (Obj.cells #[.int .u64 x0, .int .u64 x1, .int .u64 x2, .int .u64 x3, .int .u64 x4, .int .u64 x5, .int .u64 y0, .int .u64 y1, .int .u64 y2, .int .u64 y3, .int .u64 y4, .int .u64 y5, .bool true] 26)) = W at *
  have Bp := B0
  clear B0
  go_wp2_with fail
  refine (up_any (G.below bel)).mono ?_
  rintro e w1 ⟨rfl, hb⟩
  replace Bp := Bp.later hb
  replace bel := below_step bel hb
  clear hb
  have ltp := Bp.lt
  have cp0 := Bp.cell 0 _ rfl
  have cp1 := Bp.cell 1 _ rfl
  have cp2 := Bp.cell 2 _ rfl
  have cp3 := Bp.cell 3 _ rfl
  have cp4 := Bp.cell 4 _ rfl
  have cp5 := Bp.cell 5 _ rfl
  have cp6 := Bp.cell 6 _ rfl
  have cp7 := Bp.cell 7 _ rfl
  have cp8 := Bp.cell 8 _ rfl
  have cp9 := Bp.cell 9 _ rfl
  have cp10 := Bp.cell 10 _ rfl
  have cp11 := Bp.cell 11 _ rfl
  have cp12 := Bp.cell 12 _ rfl
  go_wp2_with fail
  refine (con_EncBad (G.below bel) fX fY (Or.inl rfl)).mono ?_
  rintro e w2 ⟨rfl, hb⟩
  clear ltp cp0 cp1 cp2 cp3 cp4 cp5 cp6 cp7 cp8 cp9 cp10 cp11 cp12
  replace Bp := Bp.later hb
  replace bel := below_step bel hb
  clear hb
  have ltp := Bp.lt
  have cp0 := Bp.cell 0 _ rfl
  have cp1 := Bp.cell 1 _ rfl
  have cp2 := Bp.cell 2 _ rfl
  have cp3 := Bp.cell 3 _ rfl
  have cp4 := Bp.cell 4 _ rfl
  have cp5 := Bp.cell 5 _ rfl
  have cp6 := Bp.cell 6 _ rfl
  have cp7 := Bp.cell 7 _ rfl
  have cp8 := Bp.cell 8 _ rfl
  have cp9 := Bp.cell 9 _ rfl
  have cp10 := Bp.cell 10 _ rfl
  have cp11 := Bp.cell 11 _ rfl
  have cp12 := Bp.cell 12 _ rfl
  go_wp2_with fail
  refine (r5_On (b := b) fX fY HB.out).mono ?_
  rintro e w3 ⟨rfl, hb⟩
  clear ltp cp0 cp1 cp2 cp3 cp4 cp5 cp6 cp7 cp8 cp9 cp10 cp11 cp12
  replace Bp := Bp.later hb
  replace bel := below_step bel hb
  clear hb
  have q1 := iface_eqC 4
  have ltp := Bp.lt
  have cp0 := Bp.cell 0 _ rfl
  have cp1 := Bp.cell 1 _ rfl
  have cp2 := Bp.cell 2 _ rfl
  have cp3 := Bp.cell 3 _ rfl
  have cp4 := Bp.cell 4 _ rfl
  have cp5 := Bp.cell 5 _ rfl
  have cp6 := Bp.cell 6 _ rfl
  have cp7 := Bp.cell 7 _ rfl
  have cp8 := Bp.cell 8 _ rfl
  have cp9 := Bp.cell 9 _ rfl
  have cp10 := Bp.cell 10 _ rfl
  have cp11 := Bp.cell 11 _ rfl
  have cp12 := Bp.cell 12 _ rfl
  go_wp2_with fail
  go_ret
  exact ⟨rfl, bel⟩

set_option maxRecDepth 100000 in
set_option maxHeartbeats 4000000 in
theorem enc_bad (x0 x1 x2 x3 x4 x5 y0 y1 y2 y3 y4 y5 : Int) (w : World) (G : GlsC w) (fX : fits [x0, x1, x2, x3, x4, x5]) (fY : fits [y0, y1, y2, y3, y4, y5]) (hn : ¬ IsOn false (v64 [x0, x1, x2, x3, x4, x5]) (v64 [y0, y1, y2, y3, y4, y5])) :
    Calls Tryd.prog 7 #[.agg #[.int .u64 x0, .int .u64 x1, .int .u64 x2, .int .u64 x3, .int .u64 x4, .int .u64 x5, .int .u64 y0, .int .u64 y1, .int .u64 y2, .int .u64 y3, .int .u64 y4, .int .u64 y5, .bool false]] w fun e w' => e = .returned (.bool true) ∧ Below w.heap.size w w' := by
  have HB : Hid (¬ IsOn false (v64 [x0, x1, x2, x3, x4, x5]) (v64 [y0, y1, y2, y3, y4, y5])) := hn
  clear hn
  have B0 := Blk.new w [.int .u64 x0, .int .u64 x1, .int .u64 x2, .int .u64 x3, .int .u64 x4, .int .u64 x5, .int .u64 y0, .int .u64 y1, .int .u64 y2, .int .u64 y3, .int .u64 y4, .int .u64 y5, .bool false] 26 (w.heap.size) rfl
  have bel : Below w.heap.size w (w.alloc (.cells [.int .u64 x0, .int .u64 x1, .int .u64 x2, .int .u64 x3, .int .u64 x4, .int .u64 x5, .int .u64 y0, .int .u64 y1, .int .u64 y2, .int .u64 y3, .int .u64 y4, .int .u64 y5, .bool false].toArray 26)) := ((Below.refl _ _).alloc (Nat.le_refl _) _)
  go_enter Tryd.func7, Tryd.ntmps7
  go_upto_region 1 with fail
  try simp only [us, List.map_cons, List.map_nil] at bel
  generalize (w.alloc (Obj.cells #[.int .u64 x0, .int .u64 x1, .int .u64 x2, .int .u64 x3, .int .u64 x4, .int .u64 x5, .int .u64 y0, .int .u64 y1, .int .u64 y2, .int .u64 y3, .int .u64 y4, .int .u64 y5, .bool false] 26)) = W at *
  have Bp := B0
  clear B0
  go_wp2_with fail
  refine (up_any (G.below bel)).mono ?_
  rintro e w1 ⟨rfl, hb⟩
  replace Bp := Bp.later hb
  replace bel := below_step bel hb
  clear hb
  have ltp := Bp.lt
  have cp0 := Bp.cell 0 _ rfl
  have cp1 := Bp.cell 1 _ rfl
  have cp2 := Bp.cell 2 _ rfl
  have cp3 := Bp.cell 3 _ rfl
  have cp4 := Bp.cell 4 _ rfl
  have cp5 := Bp.cell 5 _ rfl
  have cp6 := Bp.cell 6 _ rfl
  have cp7 := Bp.cell 7 _ rfl
  have cp8 := Bp.cell 8 _ rfl
  have cp9 := Bp.cell 9 _ rfl
  have cp10 := Bp.cell 10 _ rfl
  have cp11 := Bp.cell 11 _ rfl
  have cp12 := Bp.cell 12 _ rfl
  go_wp2_with fail
  refine (con_EncBad (G.below bel) fX fY (Or.inr HB.out)).mono ?_
  rintro e w2 ⟨rfl, hb⟩
  clear ltp cp0 cp1 cp2 cp3 cp4 cp5 cp6 cp7 cp8 cp9 cp10 cp11 cp12
  replace Bp := Bp.later hb
  replace bel := below_step bel hb
  clear hb
  have ltp := Bp.lt
  have cp0 := Bp.cell 0 _ rfl
  have cp1 := Bp.cell 1 _ rfl
  have cp2 := Bp.cell 2 _ rfl
  have cp3 := Bp.cell 3 _ rfl
  have cp4 := Bp.cell 4 _ rfl
  have cp5 := Bp.cell 5 _ rfl
  have cp6 := Bp.cell 6 _ rfl
  have cp7 := Bp.cell 7 _ rfl
  have cp8 := Bp.cell 8 _ rfl
  have cp9 := Bp.cell 9 _ rfl
  have cp10 := Bp.cell 10 _ rfl
  have cp11 := Bp.cell 11 _ rfl
  have cp12 := Bp.cell 12 _ rfl
  go_wp2_with fail
  refine (r5_On (b := false) fX fY ⟨fun h => absurd h (by simp), fun h => absurd h HB.out⟩).mono ?_
  rintro e w3 ⟨rfl, hb⟩
  clear ltp cp0 cp1 cp2 cp3 cp4 cp5 cp6 cp7 cp8 cp9 cp10 cp11 cp12
  replace Bp := Bp.later hb
  replace bel := below_step bel hb
  clear hb
  have q1 := iface_eqC 4
  have ltp := Bp.lt
  have cp0 := Bp.cell 0 _ rfl
  have cp1 := Bp.cell 1 _ rfl
  have cp2 := Bp.cell 2 _ rfl
  have cp3 := Bp.cell 3 _ rfl
  have cp4 := Bp.cell 4 _ rfl
  have cp5 := Bp.cell 5 _ rfl
  have cp6 := Bp.cell 6 _ rfl
  have cp7 := Bp.cell 7 _ rfl
  have cp8 := Bp.cell 8 _ rfl
  have cp9 := Bp.cell 9 _ rfl
  have cp10 := Bp.cell 10 _ rfl
  have cp11 := Bp.cell 11 _ rfl
  have cp12 := Bp.cell 12 _ rfl
  go_wp2_with fail
  go_ret
  exact ⟨rfl, bel⟩

theorem info_b8 : (Tryd.prog.info? 5).map (fun i => (i.zero, i.size, i.bytes)) = some (some (.int .u8 0), 1, 1) := by kernel_rfl
theorem v12_lt {x0 x1 x2 x3 x4 x5 : Int} (fX : fits [x0, x1, x2, x3, x4, x5]) : v64 [x0, x1, x2, x3, x4, x5] < 4294967296 ^ 12 := Int.lt_of_lt_of_le (v6_bound _ rfl fX).2 (by decide)

set_option maxRecDepth 100000 in
set_option maxHeartbeats 8000000 in
theorem enc_ok (x0 x1 x2 x3 x4 x5 y0 y1 y2 y3 y4 y5 : Int) (w : World) (G : GlsC w) (fX : fits [x0, x1, x2, x3, x4, x5]) (fY : fits [y0, y1, y2, y3, y4, y5]) (hA : Aff (v64 [x0, x1, x2, x3, x4, x5]) (v64 [y0, y1, y2, y3, y4, y5])) :
    Calls Tryd.prog 7 #[.agg #[.int .u64 x0, .int .u64 x1, .int .u64 x2, .int .u64 x3, .int .u64 x4, .int .u64 x5, .int .u64 y0, .int .u64 y1, .int .u64 y2, .int .u64 y3, .int .u64 y4, .int .u64 y5, .bool false]] w fun e w' => e = .returned (.bool true) ∧ Below w.heap.size w w' := by
  obtain ⟨i0, hi0, hz0, hz1, hz2⟩ := info_parts info_b8
  have HA : Hid (Aff (v64 [x0, x1, x2, x3, x4, x5]) (v64 [y0, y1, y2, y3, y4, y5])) := hA
  clear hA
  have X12 : Hid _ := v12_lt fX
  have Y12 : Hid _ := v12_lt fY
  have B0 := Blk.new w [.int .u64 x0, .int .u64 x1, .int .u64 x2, .int .u64 x3, .int .u64 x4, .int .u64 x5, .int .u64 y0, .int .u64 y1, .int .u64 y2, .int .u64 y3, .int .u64 y4, .int .u64 y5, .bool false] 26 (w.heap.size) rfl
  have bel : Below w.heap.size w (w.alloc (.cells [.int .u64 x0, .int .u64 x1, .int .u64 x2, .int .u64 x3, .int .u64 x4, .int .u64 x5, .int .u64 y0, .int .u64 y1, .int .u64 y2, .int .u64 y3, .int .u64 y4, .int .u64 y5, .bool false].toArray 26)) := ((Below.refl _ _).alloc (Nat.le_refl _) _)
  go_enter Tryd.func7, Tryd.ntmps7
  go_upto_region 1 with fail
  try simp only [us, List.map_cons, List.map_nil] at bel
  generalize (w.alloc (Obj.cells #[.int .u64 x0, .int .u64 x1, .int .u64 x2, .int .u64 x3, .int .u64 x4, .int .u64 x5, .int .u64 y0, .int .u64 y1, .int .u64 y2, .int .u64 y3, .int .u64 y4, .int .u64 y5, .bool false] 26)) = W at *
  have Bp := B0
  clear B0
  go_wp2_with fail
  refine (up_any (G.below bel)).mono ?_
  rintro e w1 ⟨rfl, hb⟩
  replace Bp := Bp.later hb
  replace bel := below_step bel hb
  clear hb
  have ltp := Bp.lt
  have cp0 := Bp.cell 0 _ rfl
  have cp1 := Bp.cell 1 _ rfl
  have cp2 := Bp.cell 2 _ rfl
  have cp3 := Bp.cell 3 _ rfl
  have cp4 := Bp.cell 4 _ rfl
  have cp5 := Bp.cell 5 _ rfl
  have cp6 := Bp.cell 6 _ rfl
  have cp7 := Bp.cell 7 _ rfl
  have cp8 := Bp.cell 8 _ rfl
  have cp9 := Bp.cell 9 _ rfl
  have cp10 := Bp.cell 10 _ rfl
  have cp11 := Bp.cell 11 _ rfl
  have cp12 := Bp.cell 12 _ rfl
  go_wp2_with fail
  refine (con_Enc (G.below bel) fX fY HA.out).mono ?_
  rintro e w2 ⟨b1, o1, cap1, XB, YB, rfl, SE, lX, lY, yX, yY, hX, hY, hb⟩
  clear ltp cp0 cp1 cp2 cp3 cp4 cp5 cp6 cp7 cp8 cp9 cp10 cp11 cp12
  replace Bp := Bp.later hb
  replace bel := below_step bel hb
  clear hb
  have HX : Hid _ := hX
  have HY : Hid _ := hY
  have LX : Hid _ := lX
  have LY : Hid _ := lY
  clear hX hY lX lY
  have ltp := Bp.lt
  have cp0 := Bp.cell 0 _ rfl
  have cp1 := Bp.cell 1 _ rfl
  have cp2 := Bp.cell 2 _ rfl
  have cp3 := Bp.cell 3 _ rfl
  have cp4 := Bp.cell 4 _ rfl
  have cp5 := Bp.cell 5 _ rfl
  have cp6 := Bp.cell 6 _ rfl
  have cp7 := Bp.cell 7 _ rfl
  have cp8 := Bp.cell 8 _ rfl
  have cp9 := Bp.cell 9 _ rfl
  have cp10 := Bp.cell 10 _ rfl
  have cp11 := Bp.cell 11 _ rfl
  have cp12 := Bp.cell 12 _ rfl
  go_wp2_with fail
  refine (r5_On (b := true) fX fY ⟨fun _ => Or.inr ⟨rfl, HA.out⟩, fun _ => rfl⟩).mono ?_
  rintro e w3 ⟨rfl, hb⟩
  clear ltp cp0 cp1 cp2 cp3 cp4 cp5 cp6 cp7 cp8 cp9 cp10 cp11 cp12
  replace Bp := Bp.later hb
  replace SE := SE.later hb
  replace bel := below_step bel hb
  clear hb
  have ltp := Bp.lt
  have cp0 := Bp.cell 0 _ rfl
  have cp1 := Bp.cell 1 _ rfl
  have cp2 := Bp.cell 2 _ rfl
  have cp3 := Bp.cell 3 _ rfl
  have cp4 := Bp.cell 4 _ rfl
  have cp5 := Bp.cell 5 _ rfl
  have cp6 := Bp.cell 6 _ rfl
  have cp7 := Bp.cell 7 _ rfl
  have cp8 := Bp.cell 8 _ rfl
  have cp9 := Bp.cell 9 _ rfl
  have cp10 := Bp.cell 10 _ rfl
  have cp11 := Bp.cell 11 _ rfl
  have cp12 := Bp.cell 12 _ rfl
  go_upto_region 6 with fail
  clear ltp cp0 cp1 cp2 cp3 cp4 cp5 cp6 cp7 cp8 cp9 cp10 cp11 cp12
  have OW : Own (w3.alloc (.cells [.int .u8 4].toArray 5)) w.heap.size (.slice (some ⟨w3.heap.size, 0, none⟩) 1 1) 1 [4] := own_made w3 [.int .u8 4] 5 1 w.heap.size rfl bel.size (by unfold maxLen; omega)
  have lt1 : b1 < w3.heap.size := SE.lt (by omega)
  have ltq9 : w.heap.size < w3.heap.size := Bp.lt
  have hlw : w.heap.size ≤ w3.heap.size := bel.size
  replace Bp := Bp.alloc (.cells [.int .u8 4].toArray 5)
  replace SE := SE.alloc (.cells [.int .u8 4].toArray 5)
  have Bf := Blk.new w3 [.int .u8 4] 5 w3.heap.size rfl
  replace bel := below_alloc (o := .cells [.int .u8 4].toArray 5) bel
  have lwf : ∀ z, z < w3.heap.size → z ≠ w3.heap.size := fun z h => Nat.ne_of_lt h
  have ltp := Bp.lt
  have cp0 := Bp.cell 0 _ rfl
  have cp1 := Bp.cell 1 _ rfl
  have cp2 := Bp.cell 2 _ rfl
  have cp3 := Bp.cell 3 _ rfl
  have cp4 := Bp.cell 4 _ rfl
  have cp5 := Bp.cell 5 _ rfl
  have cp6 := Bp.cell 6 _ rfl
  have cp7 := Bp.cell 7 _ rfl
  have cp8 := Bp.cell 8 _ rfl
  have cp9 := Bp.cell 9 _ rfl
  have cp10 := Bp.cell 10 _ rfl
  have cp11 := Bp.cell 11 _ rfl
  have cp12 := Bp.cell 12 _ rfl
  go_wp2_with fail
  obtain ⟨bf, hbf⟩ : ∃ b, b = w3.heap.size := ⟨_, rfl⟩
  clear lwf
  generalize w3.alloc (Obj.cells #[.int .u8 4] 5) = Wf at *
  rw [← hbf] at Bf OW lt1 ltq9 hlw ⊢
  clear hbf
  refine (of6z fX).mono ?_
  rintro e w4 ⟨vx, rfl, NX, hb⟩
  clear ltp cp0 cp1 cp2 cp3 cp4 cp5 cp6 cp7 cp8 cp9 cp10 cp11 cp12
  replace Bp := Bp.later hb
  replace Bf := Bf.later hb
  replace SE := SE.later hb
  replace OW := OW.later hb
  replace bel := below_step bel hb
  clear hb
  go_wp2_with fail
  refine (rbytes_any _ _ _ NX X12.out).mono ?_
  rintro e w5 ⟨g1, XR, rfl, BG, lR, yR, hR, hb⟩
  replace Bp := Bp.later hb
  replace Bf := Bf.later hb
  replace SE := SE.later hb
  replace OW := OW.later hb
  replace bel := below_step bel hb
  clear hb NX
  obtain rfl : XB = XR := be_inj (by rw [LX.out, lR]) yX yR (by rw [HX.out, hR])
  clear hR yR lR
  have hsz := bel.size
  have own0 := OW
  go_upto_region 7 with (first | (at_builtin; refine wpList_append_lies _ (by rfl) _ _ _ (by rfl) w.heap.size 5 i0 _ 1 1 Tryd.underlying48 hi0 hz0 hz1 hz2 rfl (by omega) _ 1 _ (by rfl) own0 ⟨g1, 0, none⟩ 48 48 (u8s XB) (by rfl) (by simp [u8s, LX.out]) (fun j u hu => by rw [add_flat g1 j]; exact BG.cell j u hu) (by intro u hu; simp [u8s] at hu; obtain ⟨z, -, rfl⟩ := hu; rfl) (by omega) (by unfold maxLen; omega) (by omega) hsz w5.heap.size rfl ?_; intro gq capgq w6 hown hgrow hat hlt) | fail)
  have hne : b1 ≠ bf := Nat.ne_of_lt lt1
  have hgq : bf ≤ gq := by
    rcases hat with h | h
    · simp [Value.ownBlock] at h; omega
    · have := Bf.lt; omega
  replace SE := SE.grown hgrow hne
  replace Bp := Bp.grown hgrow (Nat.ne_of_lt ltq9)
  replace bel := Below.grown bel hgrow bel.size (fun j hj => by simp [Value.ownBlock] at hj; omega)
  have OW2 : Own w6 w.heap.size (.slice (some ⟨gq, 0, none⟩) (1 + 48) capgq) (1 + 48) (4 :: XB) := hown
  clear OW own0 hown hgrow hat BG Bf hne hsz
  have ltp := Bp.lt
  have cp0 := Bp.cell 0 _ rfl
  have cp1 := Bp.cell 1 _ rfl
  have cp2 := Bp.cell 2 _ rfl
  have cp3 := Bp.cell 3 _ rfl
  have cp4 := Bp.cell 4 _ rfl
  have cp5 := Bp.cell 5 _ rfl
  have cp6 := Bp.cell 6 _ rfl
  have cp7 := Bp.cell 7 _ rfl
  have cp8 := Bp.cell 8 _ rfl
  have cp9 := Bp.cell 9 _ rfl
  have cp10 := Bp.cell 10 _ rfl
  have cp11 := Bp.cell 11 _ rfl
  have cp12 := Bp.cell 12 _ rfl
  go_wp2_with fail
  refine (of6z fY).mono ?_
  rintro e w7 ⟨vy, rfl, NY, hb⟩
  clear ltp cp0 cp1 cp2 cp3 cp4 cp5 cp6 cp7 cp8 cp9 cp10 cp11 cp12
  replace Bp := Bp.later hb
  replace SE := SE.later hb
  replace OW2 := OW2.later hb
  replace bel := below_step bel hb
  clear hb
  go_wp2_with fail
  refine (rbytes_any _ _ _ NY Y12.out).mono ?_
  rintro e w8 ⟨g2, YR, rfl, BG, lR, yR, hR, hb⟩
  replace Bp := Bp.later hb
  replace SE := SE.later hb
  replace OW2 := OW2.later hb
  replace bel := below_step bel hb
  clear hb NY
  obtain rfl : YB = YR := be_inj (by rw [LY.out, lR]) yY yR (by rw [HY.out, hR])
  clear hR yR lR Bp
  have hsz := bel.size
  have own0 := OW2
  go_upto_region 8 with (first | (at_builtin; refine wpList_append_lies _ (by rfl) _ _ _ (by rfl) w.heap.size 5 i0 _ 1 1 Tryd.underlying48 hi0 hz0 hz1 hz2 rfl (by omega) _ 49 _ (by rfl) own0 ⟨g2, 0, none⟩ 48 48 (u8s YB) (by rfl) (by simp [u8s, LY.out]) (fun j u hu => by rw [add_flat g2 j]; exact BG.cell j u hu) (by intro u hu; simp [u8s] at hu; obtain ⟨z, -, rfl⟩ := hu; rfl) (by omega) (by unfold maxLen; omega) (by omega) hsz w8.heap.size rfl ?_; intro gr capgr w9 hown hgrow hat hlt) | fail)
  have hne : b1 ≠ gq := Nat.ne_of_lt (Nat.lt_of_lt_of_le lt1 hgq)
  replace SE := SE.grown hgrow hne
  replace bel := Below.grown bel hgrow bel.size (fun j hj => by simp [Value.ownBlock] at hj; omega)
  have S2 : Bs w9 (.slice (some ⟨gr, 0, none⟩) (49 + 48) capgr) (4 :: (XB ++ YB)) := Bs.of_own (e := 5) (base := w.heap.size) (n := 49 + 48) (by rw [show u8s (4 :: (XB ++ YB)) = u8s (4 :: XB) ++ u8s YB by simp [u8s]]; exact hown)
  have q1 := iface_nilC
  have q2 := conv_bs SE (by omega)
  have q3 := conv_bs S2 (by omega)
  generalize strOfNums (4 :: (XB ++ YB)) = st at *
  clear OW2 own0 hown hgrow hat BG hne hsz SE S2
  go_wp2_with fail
  go_ret
  exact ⟨rfl, bel⟩

theorem law_curveEncodes (x0 x1 x2 x3 x4 x5 y0 y1 y2 y3 y4 y5 : Int) (n : Bool) (w : World) (G : GlsC w) (fX : fits [x0, x1, x2, x3, x4, x5]) (fY : fits [y0, y1, y2, y3, y4, y5]) :
    Calls Tryd.prog 7 #[.agg #[.int .u64 x0, .int .u64 x1, .int .u64 x2, .int .u64 x3, .int .u64 x4, .int .u64 x5, .int .u64 y0, .int .u64 y1, .int .u64 y2, .int .u64 y3, .int .u64 y4, .int .u64 y5, .bool n]] w fun e w' => e = .returned (.bool true) ∧ Below w.heap.size w w' := by
  cases n with
  | true =>
    by_cases h : IsOn true (v64 [x0, x1, x2, x3, x4, x5]) (v64 [y0, y1, y2, y3, y4, y5])
    · exact enc_none x0 x1 x2 x3 x4 x5 y0 y1 y2 y3 y4 y5 w G fX fY true ⟨fun _ => h, fun _ => rfl⟩
    · exact enc_none x0 x1 x2 x3 x4 x5 y0 y1 y2 y3 y4 y5 w G fX fY false ⟨fun k => absurd k (by simp), fun k => absurd k h⟩
  | false =>
    by_cases h : IsOn false (v64 [x0, x1, x2, x3, x4, x5]) (v64 [y0, y1, y2, y3, y4, y5])
    · rcases h with ⟨k, _⟩ | ⟨_, hA⟩
      · exact absurd k (by simp)
      · exact enc_ok x0 x1 x2 x3 x4 x5 y0 y1 y2 y3 y4 y5 w G fX fY hA
    · exact enc_bad x0 x1 x2 x3 x4 x5 y0 y1 y2 y3 y4 y5 w G fX fY h
end Go.Proofs.YtpgidlnpcjbfhaaDoor
