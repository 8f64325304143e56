/- curve.Encode: a point's bytes. -/
import Derived.Test.YtpgidlnpcjbfhaaDoorRows
import Derived.Test.YtpgidlnpcjbfhaaDoorCHolds
import Derived.Test.YtpgidlnpcjbfhaaDoorCEnc
import Derived.Test.YtpgidlnpcjbfhaaDoorLBytes
import Derived.Deep.WholeRow
import Derived.Deep.RegionHeld3
import Derived.Deep.DeepCutAuto
import Derived.Deep.DeepFit
namespace Go.Proofs.YtpgidlnpcjbfhaaDoor
open Go.RowKit

theorem info_e8 : (Tryd.prog.info? 5).map (fun i => (i.zero, i.size, i.bytes)) = some (some (.int .u8 0), 1, 1) := by kernel_rfl

theorem bytesL {x0 x1 x2 x3 x4 x5 : Int} {w : World} (fX : fits [x0, x1, x2, x3, x4, x5]) :
    Calls Tryd.prog 51 #[.agg #[.int .u64 x0, .int .u64 x1, .int .u64 x2, .int .u64 x3, .int .u64 x4, .int .u64 x5]] w fun e w' => ∃ (g : Nat) (XB : List Int), e = .returned (.slice (some ⟨g, 0, none⟩) 48 48) ∧ Blk w' g (u8s XB) ∧ XB.length = 48 ∧ byt XB ∧ beN XB = v64 [x0, x1, x2, x3, x4, x5] ∧ Below w.heap.size w w' := by
  refine (bytes_any [x0, x1, x2, x3, x4, x5] w rfl fX).mono ?_
  rintro e w' ⟨g, rfl, B, hb⟩
  exact ⟨g, _, rfl, B, bytesOf_len _, bytesOf_byt _, bytesOf_num _ rfl fX, hb⟩

set_option maxRecDepth 100000 in
set_option maxHeartbeats 2000000 in
theorem encode_b1 {x0 x1 x2 x3 x4 x5 y0 y1 y2 y3 y4 y5 : Int} {n : Bool} {w : World} (G : GlsC w) (fX : fits [x0, x1, x2, x3, x4, x5]) (fY : fits [y0, y1, y2, y3, y4, y5]) (h : ¬ IsOn n (v64 [x0, x1, x2, x3, x4, x5]) (v64 [y0, y1, y2, y3, y4, y5])) :
    Calls Tryd.prog 20 #[.agg #[.int .u64 x0, .int .u64 x1, .int .u64 x2, .int .u64 x3, .int .u64 x4, .int .u64 x5, .int .u64 y0, .int .u64 y1, .int .u64 y2, .int .u64 y3, .int .u64 y4, .int .u64 y5, .bool n]] w fun e w' => e = .returned (.tuple #[.slice none 0 0, .iface 36 (.int .i64 4)]) ∧ Below w.heap.size w w' := by
  have HO : Hid _ := h
  clear h
  have B0 := Blk.new w [.int .u64 x0, .int .u64 x1, .int .u64 x2, .int .u64 x3, .int .u64 x4, .int .u64 x5, .int .u64 y0, .int .u64 y1, .int .u64 y2, .int .u64 y3, .int .u64 y4, .int .u64 y5, .bool n] 26 (w.heap.size) rfl
  have bel : Below w.heap.size w (w.alloc (.cells [.int .u64 x0, .int .u64 x1, .int .u64 x2, .int .u64 x3, .int .u64 x4, .int .u64 x5, .int .u64 y0, .int .u64 y1, .int .u64 y2, .int .u64 y3, .int .u64 y4, .int .u64 y5, .bool n].toArray 26)) := ((Below.refl _ _).alloc (Nat.le_refl _) _)
  go_enter Tryd.func20, Tryd.ntmps20
  go_upto_region 1 with fail
  try simp only [us, List.map_cons, List.map_nil] at bel
  generalize (w.alloc (Obj.cells #[.int .u64 x0, .int .u64 x1, .int .u64 x2, .int .u64 x3, .int .u64 x4, .int .u64 x5, .int .u64 y0, .int .u64 y1, .int .u64 y2, .int .u64 y3, .int .u64 y4, .int .u64 y5, .bool n] 26)) = W at *
  have Bp := B0
  clear B0
  have ltp := Bp.lt
  have cp0 := Bp.cell 0 _ rfl
  have cp1 := Bp.cell 1 _ rfl
  have cp2 := Bp.cell 2 _ rfl
  have cp3 := Bp.cell 3 _ rfl
  have cp4 := Bp.cell 4 _ rfl
  have cp5 := Bp.cell 5 _ rfl
  have cp6 := Bp.cell 6 _ rfl
  have cp7 := Bp.cell 7 _ rfl
  have cp8 := Bp.cell 8 _ rfl
  have cp9 := Bp.cell 9 _ rfl
  have cp10 := Bp.cell 10 _ rfl
  have cp11 := Bp.cell 11 _ rfl
  have cp12 := Bp.cell 12 _ rfl
  go_wp2_with fail
  refine (con_On (b := false) (G.below bel) fX fY ⟨fun h => absurd h (by simp), fun h => absurd h HO.out⟩).mono ?_
  rintro e w1 ⟨rfl, hb⟩
  clear ltp cp0 cp1 cp2 cp3 cp4 cp5 cp6 cp7 cp8 cp9 cp10 cp11 cp12
  replace Bp := Bp.later hb
  replace bel := below_step bel hb
  clear hb
  go_wp2_with fail
  exact bodyPost_ret (v := .tuple #[.slice none 0 0, .iface 36 (.int .i64 4)]) (by simp [results, Tryd.results20, go_sem]) rfl ⟨rfl, bel⟩

set_option maxRecDepth 100000 in
set_option maxHeartbeats 2000000 in
theorem encode_b2 {x0 x1 x2 x3 x4 x5 y0 y1 y2 y3 y4 y5 : Int} {w : World} (G : GlsC w) (fX : fits [x0, x1, x2, x3, x4, x5]) (fY : fits [y0, y1, y2, y3, y4, y5]) (h : IsOn true (v64 [x0, x1, x2, x3, x4, x5]) (v64 [y0, y1, y2, y3, y4, y5])) :
    Calls Tryd.prog 20 #[.agg #[.int .u64 x0, .int .u64 x1, .int .u64 x2, .int .u64 x3, .int .u64 x4, .int .u64 x5, .int .u64 y0, .int .u64 y1, .int .u64 y2, .int .u64 y3, .int .u64 y4, .int .u64 y5, .bool true]] w fun e w' => e = .returned (.tuple #[.slice none 0 0, .iface 36 (.int .i64 4)]) ∧ Below w.heap.size w w' := by
  have HO : Hid (IsOn true (v64 [x0, x1, x2, x3, x4, x5]) (v64 [y0, y1, y2, y3, y4, y5])) := h
  clear h
  have B0 := Blk.new w [.int .u64 x0, .int .u64 x1, .int .u64 x2, .int .u64 x3, .int .u64 x4, .int .u64 x5, .int .u64 y0, .int .u64 y1, .int .u64 y2, .int .u64 y3, .int .u64 y4, .int .u64 y5, .bool true] 26 (w.heap.size) rfl
  have bel : Below w.heap.size w (w.alloc (.cells [.int .u64 x0, .int .u64 x1, .int .u64 x2, .int .u64 x3, .int .u64 x4, .int .u64 x5, .int .u64 y0, .int .u64 y1, .int .u64 y2, .int .u64 y3, .int .u64 y4, .int .u64 y5, .bool true].toArray 26)) := ((Below.refl _ _).alloc (Nat.le_refl _) _)
  go_enter Tryd.func20, Tryd.ntmps20
  go_upto_region 1 with fail
  try simp only [us, List.map_cons, List.map_nil] at bel
  generalize (w.alloc (Obj.cells #[.int .u64 x0, .int .u64 x1, .int .u64 x2, .int .u64 x3, .int .u64 x4, .int .u64 x5, .int .u64 y0, .int .u64 y1, .int .u64 y2, .int .u64 y3, .int .u64 y4, .int .u64 y5, .bool true] 26)) = W at *
  have Bp := B0
  clear B0
  have ltp := Bp.lt
  have cp0 := Bp.cell 0 _ rfl
  have cp1 := Bp.cell 1 _ rfl
  have cp2 := Bp.cell 2 _ rfl
  have cp3 := Bp.cell 3 _ rfl
  have cp4 := Bp.cell 4 _ rfl
  have cp5 := Bp.cell 5 _ rfl
  have cp6 := Bp.cell 6 _ rfl
  have cp7 := Bp.cell 7 _ rfl
  have cp8 := Bp.cell 8 _ rfl
  have cp9 := Bp.cell 9 _ rfl
  have cp10 := Bp.cell 10 _ rfl
  have cp11 := Bp.cell 11 _ rfl
  have cp12 := Bp.cell 12 _ rfl
  go_wp2_with fail
  refine (con_On (b := true) (G.below bel) fX fY ⟨fun _ => HO.out, fun _ => rfl⟩).mono ?_
  rintro e w1 ⟨rfl, hb⟩
  clear ltp cp0 cp1 cp2 cp3 cp4 cp5 cp6 cp7 cp8 cp9 cp10 cp11 cp12
  replace Bp := Bp.later hb
  replace bel := below_step bel hb
  clear hb
  have ltp := Bp.lt
  have cp0 := Bp.cell 0 _ rfl
  have cp1 := Bp.cell 1 _ rfl
  have cp2 := Bp.cell 2 _ rfl
  have cp3 := Bp.cell 3 _ rfl
  have cp4 := Bp.cell 4 _ rfl
  have cp5 := Bp.cell 5 _ rfl
  have cp6 := Bp.cell 6 _ rfl
  have cp7 := Bp.cell 7 _ rfl
  have cp8 := Bp.cell 8 _ rfl
  have cp9 := Bp.cell 9 _ rfl
  have cp10 := Bp.cell 10 _ rfl
  have cp11 := Bp.cell 11 _ rfl
  have cp12 := Bp.cell 12 _ rfl
  go_wp2_with fail
  exact bodyPost_ret (v := .tuple #[.slice none 0 0, .iface 36 (.int .i64 4)]) (by simp [results, Tryd.results20, go_sem]) rfl ⟨rfl, bel⟩

theorem con_EncBad {x0 x1 x2 x3 x4 x5 y0 y1 y2 y3 y4 y5 : Int} {n : Bool} {w : World} (G : GlsC w) (fX : fits [x0, x1, x2, x3, x4, x5]) (fY : fits [y0, y1, y2, y3, y4, y5]) (h : n = true ∨ ¬ IsOn n (v64 [x0, x1, x2, x3, x4, x5]) (v64 [y0, y1, y2, y3, y4, y5])) :
    Calls Tryd.prog 20 #[.agg #[.int .u64 x0, .int .u64 x1, .int .u64 x2, .int .u64 x3, .int .u64 x4, .int .u64 x5, .int .u64 y0, .int .u64 y1, .int .u64 y2, .int .u64 y3, .int .u64 y4, .int .u64 y5, .bool n]] w fun e w' => e = .returned (.tuple #[.slice none 0 0, .iface 36 (.int .i64 4)]) ∧ Below w.heap.size w w' := by
  by_cases h1 : IsOn n (v64 [x0, x1, x2, x3, x4, x5]) (v64 [y0, y1, y2, y3, y4, y5])
  · obtain rfl := h.resolve_right (fun k => k h1)
    exact encode_b2 G fX fY h1
  · exact encode_b1 G fX fY h1

set_option maxRecDepth 100000 in
set_option maxHeartbeats 4000000 in
theorem con_Enc {x0 x1 x2 x3 x4 x5 y0 y1 y2 y3 y4 y5 : Int} {w : World} (G : GlsC w) (fX : fits [x0, x1, x2, x3, x4, x5]) (fY : fits [y0, y1, y2, y3, y4, y5]) (A : Aff (v64 [x0, x1, x2, x3, x4, x5]) (v64 [y0, y1, y2, y3, y4, y5])) :
    Calls Tryd.prog 20 #[.agg #[.int .u64 x0, .int .u64 x1, .int .u64 x2, .int .u64 x3, .int .u64 x4, .int .u64 x5, .int .u64 y0, .int .u64 y1, .int .u64 y2, .int .u64 y3, .int .u64 y4, .int .u64 y5, .bool false]] w fun e w' => ∃ (b o cap : Nat) (XB YB : List Int), e = .returned (.tuple #[.slice (some ⟨b, o, none⟩) 97 cap, .nilIface]) ∧ Bs w' (.slice (some ⟨b, o, none⟩) 97 cap) (4 :: (XB ++ YB)) ∧ XB.length = 48 ∧ YB.length = 48 ∧ byt XB ∧ byt YB ∧ beN XB = v64 [x0, x1, x2, x3, x4, x5] ∧ beN YB = v64 [y0, y1, y2, y3, y4, y5] ∧ Below w.heap.size w w' := by
  obtain ⟨i0, hi0, hz0, hz1, hz2⟩ := info_parts info_e8
  have HO : Hid (IsOn false (v64 [x0, x1, x2, x3, x4, x5]) (v64 [y0, y1, y2, y3, y4, y5])) := Or.inr ⟨rfl, A⟩
  clear A
  have B0 := Blk.new w [.int .u64 x0, .int .u64 x1, .int .u64 x2, .int .u64 x3, .int .u64 x4, .int .u64 x5, .int .u64 y0, .int .u64 y1, .int .u64 y2, .int .u64 y3, .int .u64 y4, .int .u64 y5, .bool false] 26 (w.heap.size) rfl
  have bel : Below w.heap.size w (w.alloc (.cells [.int .u64 x0, .int .u64 x1, .int .u64 x2, .int .u64 x3, .int .u64 x4, .int .u64 x5, .int .u64 y0, .int .u64 y1, .int .u64 y2, .int .u64 y3, .int .u64 y4, .int .u64 y5, .bool false].toArray 26)) := ((Below.refl _ _).alloc (Nat.le_refl _) _)
  go_enter Tryd.func20, Tryd.ntmps20
  go_upto_region 1 with fail
  try simp only [us, List.map_cons, List.map_nil] at bel
  generalize (w.alloc (Obj.cells #[.int .u64 x0, .int .u64 x1, .int .u64 x2, .int .u64 x3, .int .u64 x4, .int .u64 x5, .int .u64 y0, .int .u64 y1, .int .u64 y2, .int .u64 y3, .int .u64 y4, .int .u64 y5, .bool false] 26)) = W at *
  have Bp := B0
  clear B0
  have ltp := Bp.lt
  have cp0 := Bp.cell 0 _ rfl
  have cp1 := Bp.cell 1 _ rfl
  have cp2 := Bp.cell 2 _ rfl
  have cp3 := Bp.cell 3 _ rfl
  have cp4 := Bp.cell 4 _ rfl
  have cp5 := Bp.cell 5 _ rfl
  have cp6 := Bp.cell 6 _ rfl
  have cp7 := Bp.cell 7 _ rfl
  have cp8 := Bp.cell 8 _ rfl
  have cp9 := Bp.cell 9 _ rfl
  have cp10 := Bp.cell 10 _ rfl
  have cp11 := Bp.cell 11 _ rfl
  have cp12 := Bp.cell 12 _ rfl
  go_wp2_with fail
  refine (con_On (b := true) (G.below bel) fX fY ⟨fun _ => HO.out, fun _ => rfl⟩).mono ?_
  rintro e w1 ⟨rfl, hb⟩
  clear ltp cp0 cp1 cp2 cp3 cp4 cp5 cp6 cp7 cp8 cp9 cp10 cp11 cp12
  replace Bp := Bp.later hb
  replace bel := below_step bel hb
  clear hb
  have ltq : w.heap.size < w1.heap.size := Bp.lt
  obtain ⟨wm, hmk, OW0, gm⟩ := run_make_own (P := Tryd.prog) w1 w.heap.size 48 5 i0 _ 1 Tryd.underlying48 hi0 hz0 hz1 .i64 .i64 97 (by rw [hz2]; decide) (by unfold maxLen; omega) bel.size
  have OW : Own wm w.heap.size (.slice (some ⟨w1.heap.size, 0, none⟩) 0 97) 0 [] := OW0
  have hmk2 : (Instr.makeSlice 48 (.int .i64 0) (.int .i64 97)).run Tryd.prog w1 = .ok (.slice (some ⟨w1.heap.size, 0, none⟩) 0 97) wm := hmk
  clear OW0 hmk
  have hbm : Below w1.heap.size w1 wm := Below.grown (Below.refl _ _) gm (Nat.le_refl _) (fun j hj => by simp at hj)
  have ltp := Bp.lt
  have cp0 := Bp.cell 0 _ rfl
  have cp1 := Bp.cell 1 _ rfl
  have cp2 := Bp.cell 2 _ rfl
  have cp3 := Bp.cell 3 _ rfl
  have cp4 := Bp.cell 4 _ rfl
  have cp5 := Bp.cell 5 _ rfl
  have cp6 := Bp.cell 6 _ rfl
  have cp7 := Bp.cell 7 _ rfl
  have cp8 := Bp.cell 8 _ rfl
  have cp9 := Bp.cell 9 _ rfl
  have cp10 := Bp.cell 10 _ rfl
  have cp11 := Bp.cell 11 _ rfl
  have cp12 := Bp.cell 12 _ rfl
  go_upto_region 4 with fail
  clear ltp cp0 cp1 cp2 cp3 cp4 cp5 cp6 cp7 cp8 cp9 cp10 cp11 cp12
  replace Bp := Bp.later hbm
  replace bel := below_step bel hbm
  have ltm : w1.heap.size ≤ wm.heap.size := hbm.size
  clear hbm gm hmk2
  have B4 := Blk.new wm [.int .u8 4] 5 wm.heap.size rfl
  replace Bp := Bp.alloc (.cells [.int .u8 4].toArray 5)
  replace OW := Own.alloc OW (.cells [.int .u8 4].toArray 5)
  replace bel := below_alloc (o := .cells [.int .u8 4].toArray 5) bel
  have hsz := bel.size
  have own0 := OW
  go_upto_region 5 with (first | (at_builtin; refine wpList_append_lies _ (by rfl) _ _ _ (by rfl) w.heap.size 5 i0 _ 1 1 Tryd.underlying48 hi0 hz0 hz1 hz2 rfl (by omega) _ 0 _ (by rfl) own0 ⟨wm.heap.size, 0, none⟩ 1 1 (u8s [4]) (by rfl) (by simp [u8s]) (fun j u hu => by rw [add_flat _ j]; exact B4.cell j u hu) (by intro u hu; simp [u8s] at hu; first | (subst hu; rfl) | (obtain ⟨z, -, rfl⟩ := hu; rfl)) (by omega) (by unfold maxLen; omega) (by omega) hsz _ rfl ?_; intro g4 cap4 w4 hown hgrow hat hlt) | fail)
  have hg4 : w.heap.size < g4 := by
    rcases hat with h | h
    · simp [Value.ownBlock] at h; omega
    · rw [h]; simp; omega
  replace Bp := Bp.grown hgrow (Nat.ne_of_lt ltq)
  replace bel := Below.grown bel hgrow bel.size (fun j hj => by simp [Value.ownBlock] at hj; omega)
  clear OW own0
  have OW : Own w4 w.heap.size (.slice (some ⟨g4, 0, none⟩) (0 + 1) cap4) (0 + 1) [4] := hown
  clear hown hgrow hat B4 hsz hlt
  have ltp := Bp.lt
  have cp0 := Bp.cell 0 _ rfl
  have cp1 := Bp.cell 1 _ rfl
  have cp2 := Bp.cell 2 _ rfl
  have cp3 := Bp.cell 3 _ rfl
  have cp4 := Bp.cell 4 _ rfl
  have cp5 := Bp.cell 5 _ rfl
  have cp6 := Bp.cell 6 _ rfl
  have cp7 := Bp.cell 7 _ rfl
  have cp8 := Bp.cell 8 _ rfl
  have cp9 := Bp.cell 9 _ rfl
  have cp10 := Bp.cell 10 _ rfl
  have cp11 := Bp.cell 11 _ rfl
  have cp12 := Bp.cell 12 _ rfl
  go_wp2_with fail
  refine (bytesL fX).mono ?_
  rintro e w5 ⟨gx, XB, rfl, BG, lX, yX, hX, hb⟩
  clear ltp cp0 cp1 cp2 cp3 cp4 cp5 cp6 cp7 cp8 cp9 cp10 cp11 cp12
  replace Bp := Bp.later hb
  replace OW := OW.later hb
  replace bel := below_step bel hb
  clear hb
  have LX : Hid _ := lX
  have HX : Hid _ := hX
  clear lX hX
  have hsz := bel.size
  have own0 := OW
  go_upto_region 6 with (first | (at_builtin; refine wpList_append_lies _ (by rfl) _ _ _ (by rfl) w.heap.size 5 i0 _ 1 1 Tryd.underlying48 hi0 hz0 hz1 hz2 rfl (by omega) _ 1 _ (by rfl) own0 ⟨gx, 0, none⟩ 48 48 (u8s XB) (by rfl) (by simp [u8s, LX.out]) (fun j u hu => by rw [add_flat _ j]; exact BG.cell j u hu) (by intro u hu; simp [u8s] at hu; first | (subst hu; rfl) | (obtain ⟨z, -, rfl⟩ := hu; rfl)) (by omega) (by unfold maxLen; omega) (by omega) hsz _ rfl ?_; intro g6 cap6 w6 hown hgrow hat hlt) | fail)
  have hg6 : w.heap.size < g6 := by
    rcases hat with h | h
    · simp [Value.ownBlock] at h; omega
    · have := Bp.lt; omega
  replace Bp := Bp.grown hgrow (Nat.ne_of_lt hg4)
  replace bel := Below.grown bel hgrow bel.size (fun j hj => by simp [Value.ownBlock] at hj; omega)
  clear OW own0
  have OW : Own w6 w.heap.size (.slice (some ⟨g6, 0, none⟩) (1 + 48) cap6) (1 + 48) (4 :: XB) := hown
  clear hown hgrow hat BG hsz hlt
  have ltp := Bp.lt
  have cp0 := Bp.cell 0 _ rfl
  have cp1 := Bp.cell 1 _ rfl
  have cp2 := Bp.cell 2 _ rfl
  have cp3 := Bp.cell 3 _ rfl
  have cp4 := Bp.cell 4 _ rfl
  have cp5 := Bp.cell 5 _ rfl
  have cp6 := Bp.cell 6 _ rfl
  have cp7 := Bp.cell 7 _ rfl
  have cp8 := Bp.cell 8 _ rfl
  have cp9 := Bp.cell 9 _ rfl
  have cp10 := Bp.cell 10 _ rfl
  have cp11 := Bp.cell 11 _ rfl
  have cp12 := Bp.cell 12 _ rfl
  go_wp2_with fail
  refine (bytesL fY).mono ?_
  rintro e w7 ⟨gy, YB, rfl, BG, lY, yY, hY, hb⟩
  clear ltp cp0 cp1 cp2 cp3 cp4 cp5 cp6 cp7 cp8 cp9 cp10 cp11 cp12
  replace Bp := Bp.later hb
  replace OW := OW.later hb
  replace bel := below_step bel hb
  clear hb
  have LY : Hid _ := lY
  have HY : Hid _ := hY
  clear lY hY
  have hsz := bel.size
  have own0 := OW
  go_wp2_with (first | (at_builtin; refine wpList_append_lies _ (by rfl) _ _ _ (by rfl) w.heap.size 5 i0 _ 1 1 Tryd.underlying48 hi0 hz0 hz1 hz2 rfl (by omega) _ 49 _ (by rfl) own0 ⟨gy, 0, none⟩ 48 48 (u8s YB) (by rfl) (by simp [u8s, LY.out]) (fun j u hu => by rw [add_flat _ j]; exact BG.cell j u hu) (by intro u hu; simp [u8s] at hu; first | (subst hu; rfl) | (obtain ⟨z, -, rfl⟩ := hu; rfl)) (by omega) (by unfold maxLen; omega) (by omega) hsz _ rfl ?_; intro g8 cap8 w8 hown hgrow hat hlt) | fail)
  replace bel := Below.grown bel hgrow bel.size (fun j hj => by simp [Value.ownBlock] at hj; omega)
  have S2 : Bs w8 (.slice (some ⟨g8, 0, none⟩) (49 + 48) cap8) (4 :: (XB ++ YB)) := Bs.of_own (e := 5) (base := w.heap.size) (n := 49 + 48) (by rw [show u8s (4 :: (XB ++ YB)) = u8s (4 :: XB) ++ u8s YB by simp [u8s]]; exact hown)
  clear OW own0 hown hgrow hat BG hsz hlt
  go_wp2_with fail
  exact bodyPost_ret (v := .tuple #[.slice (some ⟨g8, 0, none⟩) 97 cap8, .nilIface]) (by simp [results, Tryd.results20, go_sem]) rfl ⟨g8, 0, cap8, XB, YB, rfl, S2, LX.out, LY.out, yX, yY, HX.out, HY.out, bel⟩

end Go.Proofs.YtpgidlnpcjbfhaaDoor
