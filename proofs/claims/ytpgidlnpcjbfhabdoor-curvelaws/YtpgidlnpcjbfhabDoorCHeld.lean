/- Layer 5's tables as they lie in memory; the base point; its small helpers. -/
import Derived.Test.YtpgidlnpcjbfhabDoorRows
import Derived.Test.YtpgidlnpcjbfhabDoorCPt
import Derived.Test.YtpgidlnpcjbfhabDoorFBase
import Derived.Test.YtpgidlnpcjbfhabDoorLimb
import Derived.Deep.WholeRow
import Derived.Deep.RegionHeld3
import Derived.Deep.DeepCutAuto
import Derived.Deep.DeepFit
namespace Go.Proofs.YtpgidlnpcjbfhabDoor
open Go.RowKit

/-- the tables lie where they lay: the field's two, and the curve's number and base point -/
def GlsC (w : World) : Prop := Gls w ∧ (w.cell? ⟨2, 0, none⟩ = some (.int .u64 3064076045283764975) ∧ w.cell? ⟨2, 1, none⟩ = some (.int .u64 14291673747578343837) ∧ w.cell? ⟨2, 2, none⟩ = some (.int .u64 221811693264799578) ∧ w.cell? ⟨2, 3, none⟩ = some (.int .u64 1737717031765098770) ∧ w.cell? ⟨2, 4, none⟩ = some (.int .u64 10992729701402291481) ∧ w.cell? ⟨2, 5, none⟩ = some (.int .u64 12912154004749740004)) ∧ ∀ i v, ([.int .u64 4203087948775033527, .int .u64 6125724927633205612, .int .u64 6482722621138151992, .int .u64 7934563412932533144, .int .u64 10282218360005504372, .int .u64 12288012358878168375, .int .u64 8809917716911230559, .int .u64 747793036959711645, .int .u64 16850834916486723776, .int .u64 17938995913990739068, .int .u64 6745997240412855337, .int .u64 3897828414440483951, .bool false] : List Value)[i]? = some v → w.cell? ⟨0, i, none⟩ = some v
theorem GlsC.fld {w : World} (G : GlsC w) : Gls w := G.1
theorem GlsC.below {w w' : World} (G : GlsC w) (hb : Below w.heap.size w w') : GlsC w' := by
  obtain ⟨g, ⟨a0, a1, a2, a3, a4, a5⟩, h⟩ := G
  exact ⟨g.below hb, ⟨cell_later a0 hb, cell_later a1 hb, cell_later a2 hb, cell_later a3 hb, cell_later a4 hb, cell_later a5 hb⟩, fun i v k => cell_later (h i v k) hb⟩
theorem GlsC.lts {w : World} (G : GlsC w) : 2 < w.heap.size ∧ 0 < w.heap.size := ⟨World.block_lt_of_cell? w _ G.2.1.1, World.block_lt_of_cell? w _ (G.2.2 0 _ rfl)⟩

theorem fits_b : fits [3064076045283764975, 14291673747578343837, 221811693264799578, 1737717031765098770, 10992729701402291481, 12912154004749740004] := fits6 (by decide)
theorem v_b : v64 [3064076045283764975, 14291673747578343837, 221811693264799578, 1737717031765098770, 10992729701402291481, 12912154004749740004] = BB := by decide +kernel
theorem fits_p : fits [4294967295, 18446744069414584320, 18446744073709551614, 18446744073709551615, 18446744073709551615, 18446744073709551615] := fits6 (by decide)
theorem v_p : v64 [4294967295, 18446744069414584320, 18446744073709551614, 18446744073709551615, 18446744073709551615, 18446744073709551615] = PP := by decide +kernel
theorem fits_3 : fits [3, 0, 0, 0, 0, 0] := fits6 (by decide)
theorem fits_1 : fits [1, 0, 0, 0, 0, 0] := fits6 (by decide)
theorem v_3 : v64 [3, 0, 0, 0, 0, 0] = 3 := by decide +kernel
theorem v_1 : v64 [1, 0, 0, 0, 0, 0] = 1 := by decide +kernel

/-- 1 where both are 0 -/
def bnN (A B : List Int) : Int := if A = [0, 0, 0, 0, 0, 0] ∧ B = [0, 0, 0, 0, 0, 0] then 1 else 0
theorem bn_and (A B : List Int) : bits .and .u64 (sameN A [0, 0, 0, 0, 0, 0]) (sameN B [0, 0, 0, 0, 0, 0]) = bnN A B := by
  unfold sameN bnN
  by_cases h1 : A = [0, 0, 0, 0, 0, 0] <;> by_cases h2 : B = [0, 0, 0, 0, 0, 0] <;> simp only [h1, h2, if_true, if_false, and_true, and_false] <;> decide
theorem bn_or (A B : List Int) : bnN A B = 0 ∨ bnN A B = 1 := by unfold bnN; split <;> simp
theorem bn_one (A B : List Int) : bnN A B = 1 ↔ A = [0, 0, 0, 0, 0, 0] ∧ B = [0, 0, 0, 0, 0, 0] := by
  unfold bnN
  split <;> rename_i h
  · exact ⟨fun _ => h, fun _ => rfl⟩
  · exact ⟨fun k => absurd k (by decide), fun k => absurd k h⟩
/-- 1 where the x are one and the y aren't -/
def opN (A B C D : List Int) : Int := if A = C ∧ ¬ B = D then 1 else 0
theorem op_and (A B C D : List Int) : bits .and .u64 (sameN A C) (bits .xor .u64 1 (sameN B D)) = opN A B C D := by
  unfold sameN opN
  by_cases h1 : A = C <;> by_cases h2 : B = D <;> simp only [h1, h2, if_true, if_false, and_true, and_false, not_true, not_false_eq_true] <;> decide
/-- 1 where both are one -/
def itN (A B C D : List Int) : Int := if A = C ∧ B = D then 1 else 0
theorem it_and (A B C D : List Int) : bits .and .u64 (sameN A C) (sameN B D) = itN A B C D := by
  unfold sameN itN
  by_cases h1 : A = C <;> by_cases h2 : B = D <;> simp only [h1, h2, if_true, if_false, and_true, and_false] <;> decide

theorem same_num {x0 x1 x2 x3 x4 x5 y0 y1 y2 y3 y4 y5 c : Int} {w : World} (fX : fits [x0, x1, x2, x3, x4, x5]) (fY : fits [y0, y1, y2, y3, y4, y5]) (hc : sameN [x0, x1, x2, x3, x4, x5] [y0, y1, y2, y3, y4, y5] = c) :
    Calls Tryd.prog 38 #[.agg #[.int .u64 x0, .int .u64 x1, .int .u64 x2, .int .u64 x3, .int .u64 x4, .int .u64 x5], .agg #[.int .u64 y0, .int .u64 y1, .int .u64 y2, .int .u64 y3, .int .u64 y4, .int .u64 y5]] w fun e w' => e = .returned (.int .u64 c) ∧ Below w.heap.size w w' := by
  subst hc; exact same_any _ _ w rfl rfl fX fY

/-- the first, or the second where n is 1 -/
theorem pick_num0 {x0 x1 x2 x3 x4 x5 y0 y1 y2 y3 y4 y5 : Int} {w : World} (fX : fits [x0, x1, x2, x3, x4, x5]) (fY : fits [y0, y1, y2, y3, y4, y5]) :
    Calls Tryd.prog 39 #[.int .u64 0, .agg #[.int .u64 x0, .int .u64 x1, .int .u64 x2, .int .u64 x3, .int .u64 x4, .int .u64 x5], .agg #[.int .u64 y0, .int .u64 y1, .int .u64 y2, .int .u64 y3, .int .u64 y4, .int .u64 y5]] w fun e w' => e = .returned (.agg #[.int .u64 x0, .int .u64 x1, .int .u64 x2, .int .u64 x3, .int .u64 x4, .int .u64 x5]) ∧ Below w.heap.size w w' := by
  refine (pick_any 0 [x0, x1, x2, x3, x4, x5] [y0, y1, y2, y3, y4, y5] w (by decide) (by decide) rfl rfl fX fY).mono ?_
  rintro e w' ⟨rfl, hb⟩
  exact ⟨rfl, hb⟩
theorem pick_num1 {x0 x1 x2 x3 x4 x5 y0 y1 y2 y3 y4 y5 : Int} {w : World} (fX : fits [x0, x1, x2, x3, x4, x5]) (fY : fits [y0, y1, y2, y3, y4, y5]) :
    Calls Tryd.prog 39 #[.int .u64 1, .agg #[.int .u64 x0, .int .u64 x1, .int .u64 x2, .int .u64 x3, .int .u64 x4, .int .u64 x5], .agg #[.int .u64 y0, .int .u64 y1, .int .u64 y2, .int .u64 y3, .int .u64 y4, .int .u64 y5]] w fun e w' => e = .returned (.agg #[.int .u64 y0, .int .u64 y1, .int .u64 y2, .int .u64 y3, .int .u64 y4, .int .u64 y5]) ∧ Below w.heap.size w w' := by
  refine (pick_any 1 [x0, x1, x2, x3, x4, x5] [y0, y1, y2, y3, y4, y5] w (by decide) (by decide) rfl rfl fX fY).mono ?_
  rintro e w' ⟨rfl, hb⟩
  exact ⟨rfl, hb⟩

set_option maxRecDepth 100000 in
theorem g_any {x0 x1 x2 x3 x4 x5 y0 y1 y2 y3 y4 y5 : Int} {n : Bool} {w : World} (l0 : 0 < w.heap.size) (a0 : w.cell? ⟨0, 0, none⟩ = some (.int .u64 x0)) (a1 : w.cell? ⟨0, 1, none⟩ = some (.int .u64 x1)) (a2 : w.cell? ⟨0, 2, none⟩ = some (.int .u64 x2)) (a3 : w.cell? ⟨0, 3, none⟩ = some (.int .u64 x3)) (a4 : w.cell? ⟨0, 4, none⟩ = some (.int .u64 x4)) (a5 : w.cell? ⟨0, 5, none⟩ = some (.int .u64 x5)) (a6 : w.cell? ⟨0, 6, none⟩ = some (.int .u64 y0)) (a7 : w.cell? ⟨0, 7, none⟩ = some (.int .u64 y1)) (a8 : w.cell? ⟨0, 8, none⟩ = some (.int .u64 y2)) (a9 : w.cell? ⟨0, 9, none⟩ = some (.int .u64 y3)) (a10 : w.cell? ⟨0, 10, none⟩ = some (.int .u64 y4)) (a11 : w.cell? ⟨0, 11, none⟩ = some (.int .u64 y5)) (a12 : w.cell? ⟨0, 12, none⟩ = some (.bool n)) :
    Calls Tryd.prog 12 #[] w fun e w' => e = .returned (.agg #[.int .u64 x0, .int .u64 x1, .int .u64 x2, .int .u64 x3, .int .u64 x4, .int .u64 x5, .int .u64 y0, .int .u64 y1, .int .u64 y2, .int .u64 y3, .int .u64 y4, .int .u64 y5, .bool n]) ∧ Below w.heap.size w w' := by
  go_enter Tryd.func12, Tryd.ntmps12
  go_wp2
  exact bodyPost_ret (v := .agg #[.int .u64 x0, .int .u64 x1, .int .u64 x2, .int .u64 x3, .int .u64 x4, .int .u64 x5, .int .u64 y0, .int .u64 y1, .int .u64 y2, .int .u64 y3, .int .u64 y4, .int .u64 y5, .bool n]) (by simp [results, Tryd.results12, go_sem]) rfl ⟨rfl, (Below.refl _ _).alloc (Nat.le_refl _) _⟩

theorem con_G {w : World} (G : GlsC w) :
    Calls Tryd.prog 12 #[] w fun e w' => e = .returned (.agg #[.int .u64 4203087948775033527, .int .u64 6125724927633205612, .int .u64 6482722621138151992, .int .u64 7934563412932533144, .int .u64 10282218360005504372, .int .u64 12288012358878168375, .int .u64 8809917716911230559, .int .u64 747793036959711645, .int .u64 16850834916486723776, .int .u64 17938995913990739068, .int .u64 6745997240412855337, .int .u64 3897828414440483951, .bool false]) ∧ Below w.heap.size w w' :=
  g_any G.lts.2 (G.2.2 0 _ rfl) (G.2.2 1 _ rfl) (G.2.2 2 _ rfl) (G.2.2 3 _ rfl) (G.2.2 4 _ rfl) (G.2.2 5 _ rfl) (G.2.2 6 _ rfl) (G.2.2 7 _ rfl) (G.2.2 8 _ rfl) (G.2.2 9 _ rfl) (G.2.2 10 _ rfl) (G.2.2 11 _ rfl) (G.2.2 12 _ rfl)

set_option maxRecDepth 100000 in
set_option maxHeartbeats 1000000 in
theorem con_bn {x0 x1 x2 x3 x4 x5 y0 y1 y2 y3 y4 y5 c : Int} {w : World} (fX : fits [x0, x1, x2, x3, x4, x5]) (fY : fits [y0, y1, y2, y3, y4, y5]) (hc : bnN [x0, x1, x2, x3, x4, x5] [y0, y1, y2, y3, y4, y5] = c) :
    Calls Tryd.prog 29 #[.agg #[.int .u64 x0, .int .u64 x1, .int .u64 x2, .int .u64 x3, .int .u64 x4, .int .u64 x5], .agg #[.int .u64 y0, .int .u64 y1, .int .u64 y2, .int .u64 y3, .int .u64 y4, .int .u64 y5]] w fun e w' => e = .returned (.int .u64 c) ∧ Below w.heap.size w w' := by
  obtain ⟨c1, h1⟩ : ∃ c, sameN [x0, x1, x2, x3, x4, x5] [0, 0, 0, 0, 0, 0] = c := ⟨_, rfl⟩
  obtain ⟨c2, h2⟩ : ∃ c, sameN [y0, y1, y2, y3, y4, y5] [0, 0, 0, 0, 0, 0] = c := ⟨_, rfl⟩
  have e := bn_and [x0, x1, x2, x3, x4, x5] [y0, y1, y2, y3, y4, y5]
  rw [h1, h2, hc] at e
  have H1 : Hid (sameN [x0, x1, x2, x3, x4, x5] [0, 0, 0, 0, 0, 0] = c1) := h1
  have H2 : Hid (sameN [y0, y1, y2, y3, y4, y5] [0, 0, 0, 0, 0, 0] = c2) := h2
  have HE : Hid (bits .and .u64 c1 c2 = c) := e
  clear hc h1 h2 e
  have B0 := (Blk.new w [.int .u64 x0, .int .u64 x1, .int .u64 x2, .int .u64 x3, .int .u64 x4, .int .u64 x5] 24 (w.heap.size) rfl).alloc (.cells [.int .u64 y0, .int .u64 y1, .int .u64 y2, .int .u64 y3, .int .u64 y4, .int .u64 y5].toArray 24)
  have B1 := Blk.new (w.alloc (.cells [.int .u64 x0, .int .u64 x1, .int .u64 x2, .int .u64 x3, .int .u64 x4, .int .u64 x5].toArray 24)) [.int .u64 y0, .int .u64 y1, .int .u64 y2, .int .u64 y3, .int .u64 y4, .int .u64 y5] 24 (w.heap.size + 1) (by simp)
  have bel : Below w.heap.size w ((w.alloc (.cells [.int .u64 x0, .int .u64 x1, .int .u64 x2, .int .u64 x3, .int .u64 x4, .int .u64 x5].toArray 24)).alloc (.cells [.int .u64 y0, .int .u64 y1, .int .u64 y2, .int .u64 y3, .int .u64 y4, .int .u64 y5].toArray 24)) := (((Below.refl _ _).alloc (Nat.le_refl _) _).alloc (by simp) _)
  go_enter Tryd.func29, Tryd.ntmps29
  go_upto_region 1 with fail
  try simp only [us, List.map_cons, List.map_nil] at bel
  generalize ((w.alloc (Obj.cells #[.int .u64 x0, .int .u64 x1, .int .u64 x2, .int .u64 x3, .int .u64 x4, .int .u64 x5] 24)).alloc (Obj.cells #[.int .u64 y0, .int .u64 y1, .int .u64 y2, .int .u64 y3, .int .u64 y4, .int .u64 y5] 24)) = W at *
  obtain ⟨S1, hS1, KL1, KA1, KD1, KS1, KQ1, KN1, KB1, KM1, KR1⟩ := held3 (w0 := w) (W := W) [(w.heap.size, [.int .u64 x0, .int .u64 x1, .int .u64 x2, .int .u64 x3, .int .u64 x4, .int .u64 x5]), (w.heap.size + 1, [.int .u64 y0, .int .u64 y1, .int .u64 y2, .int .u64 y3, .int .u64 y4, .int .u64 y5])] (by
    intro b X h
    simp only [List.mem_cons, List.not_mem_nil, or_false, Prod.mk.injEq] at h
    rcases h with ⟨rfl, rfl⟩ | ⟨rfl, rfl⟩
    · exact B0
    · exact B1) bel
  have kb1a : ∀ wx, Hd S1 wx → Blk wx (w.heap.size) [.int .u64 x0, .int .u64 x1, .int .u64 x2, .int .u64 x3, .int .u64 x4, .int .u64 x5] := fun wx h => KM1.out wx _ _ h (by simp)
  have c1a0 := rulec kb1a 0 _ rfl
  have c1a1 := rulec kb1a 1 _ rfl
  have c1a2 := rulec kb1a 2 _ rfl
  have c1a3 := rulec kb1a 3 _ rfl
  have c1a4 := rulec kb1a 4 _ rfl
  have c1a5 := rulec kb1a 5 _ rfl
  have c1al := ruleb kb1a
  clear kb1a
  have kb1b : ∀ wx, Hd S1 wx → Blk wx (w.heap.size + 1) [.int .u64 y0, .int .u64 y1, .int .u64 y2, .int .u64 y3, .int .u64 y4, .int .u64 y5] := fun wx h => KM1.out wx _ _ h (by simp)
  have c1b0 := rulec kb1b 0 _ rfl
  have c1b1 := rulec kb1b 1 _ rfl
  have c1b2 := rulec kb1b 2 _ rfl
  have c1b3 := rulec kb1b 3 _ rfl
  have c1b4 := rulec kb1b 4 _ rfl
  have c1b5 := rulec kb1b 5 _ rfl
  have c1bl := ruleb kb1b
  clear kb1b
  have hN1 := bel.size
  clear bel B0 B1
  go_region_held3 (Hd S1)
    (first
      | with_reducible exact KL1.out _ _ (by assumption) hb
      | with_reducible exact KA1.out _ _ (by assumption)
      | with_reducible exact KS1.out _ _ _ (by omega) (by assumption)
      | with_reducible exact KD1.out _ hS1
      | with_reducible exact KD1.out _ (KA1.out _ _ hS1)
      | with_reducible assumption)
    (first
      | (go_at_call 38; go_fit (same_num fX (fits_zero 6) H1.out); rintro e w' ⟨rfl, hb⟩)
      | (go_at_call 38; go_fit (same_num fY (fits_zero 6) H2.out); rintro e w' ⟨rfl, hb⟩))
  all_goals go_wp2
  all_goals (go_ret; exact ⟨by rw [← HE.out]; rfl, KB1.out _ (by assumption)⟩)

set_option maxRecDepth 100000 in
set_option maxHeartbeats 1000000 in
theorem con_below {x0 x1 x2 x3 x4 x5 c : Int} {w : World} (G : Gls w) (fX : fits [x0, x1, x2, x3, x4, x5]) (hc : lessN [x0, x1, x2, x3, x4, x5] [4294967295, 18446744069414584320, 18446744073709551614, 18446744073709551615, 18446744073709551615, 18446744073709551615] = c) :
    Calls Tryd.prog 30 #[.agg #[.int .u64 x0, .int .u64 x1, .int .u64 x2, .int .u64 x3, .int .u64 x4, .int .u64 x5]] w fun e w' => e = .returned (.int .u64 c) ∧ Below w.heap.size w w' := by
  have HC : Hid (lessN [x0, x1, x2, x3, x4, x5] [4294967295, 18446744069414584320, 18446744073709551614, 18446744073709551615, 18446744073709551615, 18446744073709551615] = c) := hc
  clear hc
  have B0 := Blk.new w [.int .u64 x0, .int .u64 x1, .int .u64 x2, .int .u64 x3, .int .u64 x4, .int .u64 x5] 24 (w.heap.size) rfl
  have bel : Below w.heap.size w (w.alloc (.cells [.int .u64 x0, .int .u64 x1, .int .u64 x2, .int .u64 x3, .int .u64 x4, .int .u64 x5].toArray 24)) := ((Below.refl _ _).alloc (Nat.le_refl _) _)
  go_enter Tryd.func30, Tryd.ntmps30
  go_upto_region 1 with fail
  try simp only [us, List.map_cons, List.map_nil] at bel
  generalize (w.alloc (Obj.cells #[.int .u64 x0, .int .u64 x1, .int .u64 x2, .int .u64 x3, .int .u64 x4, .int .u64 x5] 24)) = W at *
  obtain ⟨S1, hS1, KL1, KA1, KD1, KS1, KQ1, KN1, KB1, KM1, KR1⟩ := held3 (w0 := w) (W := W) [(w.heap.size, [.int .u64 x0, .int .u64 x1, .int .u64 x2, .int .u64 x3, .int .u64 x4, .int .u64 x5])] (by
    intro b X h
    simp only [List.mem_cons, List.not_mem_nil, or_false, Prod.mk.injEq] at h
    rcases h with ⟨rfl, rfl⟩
    · exact B0) bel
  have kb1a : ∀ wx, Hd S1 wx → Blk wx (w.heap.size) [.int .u64 x0, .int .u64 x1, .int .u64 x2, .int .u64 x3, .int .u64 x4, .int .u64 x5] := fun wx h => KM1.out wx _ _ h (by simp)
  have c1a0 := rulec kb1a 0 _ rfl
  have c1a1 := rulec kb1a 1 _ rfl
  have c1a2 := rulec kb1a 2 _ rfl
  have c1a3 := rulec kb1a 3 _ rfl
  have c1a4 := rulec kb1a 4 _ rfl
  have c1a5 := rulec kb1a 5 _ rfl
  have c1al := ruleb kb1a
  clear kb1a
  have hN1 := bel.size
  clear bel B0
  go_region_held3 (Hd S1)
    (first
      | with_reducible exact KL1.out _ _ (by assumption) hb
      | with_reducible exact KA1.out _ _ (by assumption)
      | with_reducible exact KS1.out _ _ _ (by omega) (by assumption)
      | with_reducible exact KD1.out _ hS1
      | with_reducible exact KD1.out _ (KA1.out _ _ hS1)
      | with_reducible assumption)
    (first
      | (go_at_call 46; go_fit (fp (G.below (KB1.out _ (by first | with_reducible assumption | with_reducible exact KA1.out _ _ (by assumption) | with_reducible exact KD1.out _ (by assumption))))); rintro e w' ⟨rfl, hb⟩)
      | (go_at_call 44; go_fit (less6 fX fits_p); rintro e w' ⟨rfl, hb⟩))
  all_goals go_wp2
  all_goals (go_ret; exact ⟨by rw [← HC.out]; rfl, KB1.out _ (by assumption)⟩)

set_option maxRecDepth 100000 in
set_option maxHeartbeats 2000000 in
theorem pt_of0 {x0 x1 x2 x3 x4 x5 y0 y1 y2 y3 y4 y5 : Int} {w : World} (fX : fits [x0, x1, x2, x3, x4, x5]) (fY : fits [y0, y1, y2, y3, y4, y5]) (hc : bnN [x0, x1, x2, x3, x4, x5] [y0, y1, y2, y3, y4, y5] = 0) :
    Calls Tryd.prog 28 #[.agg #[.int .u64 x0, .int .u64 x1, .int .u64 x2, .int .u64 x3, .int .u64 x4, .int .u64 x5], .agg #[.int .u64 y0, .int .u64 y1, .int .u64 y2, .int .u64 y3, .int .u64 y4, .int .u64 y5]] w fun e w' => e = .returned (.agg #[.int .u64 x0, .int .u64 x1, .int .u64 x2, .int .u64 x3, .int .u64 x4, .int .u64 x5, .int .u64 y0, .int .u64 y1, .int .u64 y2, .int .u64 y3, .int .u64 y4, .int .u64 y5, .bool false]) ∧ Below w.heap.size w w' := by
  have HC : Hid (bnN [x0, x1, x2, x3, x4, x5] [y0, y1, y2, y3, y4, y5] = 0) := hc
  clear hc
  have B0 := ((Blk.new w [.int .u64 x0, .int .u64 x1, .int .u64 x2, .int .u64 x3, .int .u64 x4, .int .u64 x5] 24 (w.heap.size) rfl).alloc (.cells [.int .u64 y0, .int .u64 y1, .int .u64 y2, .int .u64 y3, .int .u64 y4, .int .u64 y5].toArray 24)).alloc (.cells [.int .u64 0, .int .u64 0, .int .u64 0, .int .u64 0, .int .u64 0, .int .u64 0, .int .u64 0, .int .u64 0, .int .u64 0, .int .u64 0, .int .u64 0, .int .u64 0, .bool false].toArray 27)
  have B1 := (Blk.new (w.alloc (.cells [.int .u64 x0, .int .u64 x1, .int .u64 x2, .int .u64 x3, .int .u64 x4, .int .u64 x5].toArray 24)) [.int .u64 y0, .int .u64 y1, .int .u64 y2, .int .u64 y3, .int .u64 y4, .int .u64 y5] 24 (w.heap.size + 1) (by simp)).alloc (.cells [.int .u64 0, .int .u64 0, .int .u64 0, .int .u64 0, .int .u64 0, .int .u64 0, .int .u64 0, .int .u64 0, .int .u64 0, .int .u64 0, .int .u64 0, .int .u64 0, .bool false].toArray 27)
  have B2 := Blk.new ((w.alloc (.cells [.int .u64 x0, .int .u64 x1, .int .u64 x2, .int .u64 x3, .int .u64 x4, .int .u64 x5].toArray 24)).alloc (.cells [.int .u64 y0, .int .u64 y1, .int .u64 y2, .int .u64 y3, .int .u64 y4, .int .u64 y5].toArray 24)) [.int .u64 0, .int .u64 0, .int .u64 0, .int .u64 0, .int .u64 0, .int .u64 0, .int .u64 0, .int .u64 0, .int .u64 0, .int .u64 0, .int .u64 0, .int .u64 0, .bool false] 27 (w.heap.size + 1 + 1) (by simp)
  have bel : Below w.heap.size w (((w.alloc (.cells [.int .u64 x0, .int .u64 x1, .int .u64 x2, .int .u64 x3, .int .u64 x4, .int .u64 x5].toArray 24)).alloc (.cells [.int .u64 y0, .int .u64 y1, .int .u64 y2, .int .u64 y3, .int .u64 y4, .int .u64 y5].toArray 24)).alloc (.cells [.int .u64 0, .int .u64 0, .int .u64 0, .int .u64 0, .int .u64 0, .int .u64 0, .int .u64 0, .int .u64 0, .int .u64 0, .int .u64 0, .int .u64 0, .int .u64 0, .bool false].toArray 27)) := ((((Below.refl _ _).alloc (Nat.le_refl _) _).alloc (by simp) _).alloc (by simp; omega) _)
  go_enter Tryd.func28, Tryd.ntmps28
  go_upto_region 1 with fail
  try simp only [us, List.map_cons, List.map_nil] at bel
  generalize (((w.alloc (Obj.cells #[.int .u64 x0, .int .u64 x1, .int .u64 x2, .int .u64 x3, .int .u64 x4, .int .u64 x5] 24)).alloc (Obj.cells #[.int .u64 y0, .int .u64 y1, .int .u64 y2, .int .u64 y3, .int .u64 y4, .int .u64 y5] 24)).alloc (Obj.cells #[.int .u64 0, .int .u64 0, .int .u64 0, .int .u64 0, .int .u64 0, .int .u64 0, .int .u64 0, .int .u64 0, .int .u64 0, .int .u64 0, .int .u64 0, .int .u64 0, .bool false] 27)) = W at *
  obtain ⟨S1, hS1, KL1, KA1, KD1, KS1, KQ1, KN1, KB1, KM1, KR1⟩ := held3 (w0 := w) (W := W) [(w.heap.size, [.int .u64 x0, .int .u64 x1, .int .u64 x2, .int .u64 x3, .int .u64 x4, .int .u64 x5]), (w.heap.size + 1, [.int .u64 y0, .int .u64 y1, .int .u64 y2, .int .u64 y3, .int .u64 y4, .int .u64 y5])] (by
    intro b X h
    simp only [List.mem_cons, List.not_mem_nil, or_false, Prod.mk.injEq] at h
    rcases h with ⟨rfl, rfl⟩ | ⟨rfl, rfl⟩
    · exact B0
    · exact B1) bel
  have kb1a : ∀ wx, Hd S1 wx → Blk wx (w.heap.size) [.int .u64 x0, .int .u64 x1, .int .u64 x2, .int .u64 x3, .int .u64 x4, .int .u64 x5] := fun wx h => KM1.out wx _ _ h (by simp)
  have c1a0 := rulec kb1a 0 _ rfl
  have c1a1 := rulec kb1a 1 _ rfl
  have c1a2 := rulec kb1a 2 _ rfl
  have c1a3 := rulec kb1a 3 _ rfl
  have c1a4 := rulec kb1a 4 _ rfl
  have c1a5 := rulec kb1a 5 _ rfl
  have c1al := ruleb kb1a
  clear kb1a
  have kb1b : ∀ wx, Hd S1 wx → Blk wx (w.heap.size + 1) [.int .u64 y0, .int .u64 y1, .int .u64 y2, .int .u64 y3, .int .u64 y4, .int .u64 y5] := fun wx h => KM1.out wx _ _ h (by simp)
  have c1b0 := rulec kb1b 0 _ rfl
  have c1b1 := rulec kb1b 1 _ rfl
  have c1b2 := rulec kb1b 2 _ rfl
  have c1b3 := rulec kb1b 3 _ rfl
  have c1b4 := rulec kb1b 4 _ rfl
  have c1b5 := rulec kb1b 5 _ rfl
  have c1bl := ruleb kb1b
  clear kb1b
  have mq1a : ∀ c X, (c, X) ∈ [((w.heap.size : Nat), ([.int .u64 x0, .int .u64 x1, .int .u64 x2, .int .u64 x3, .int .u64 x4, .int .u64 x5] : List Value)), ((w.heap.size + 1 : Nat), ([.int .u64 y0, .int .u64 y1, .int .u64 y2, .int .u64 y3, .int .u64 y4, .int .u64 y5] : List Value))] → c ≠ w.heap.size + 1 + 1 := by
    intro c X h
    simp only [List.mem_cons, List.not_mem_nil, or_false, Prod.mk.injEq] at h
    omega
  have hN1 := bel.size
  clear bel B0 B1
  go_region_held3 (Hd S1)
    (first
      | with_reducible exact (KQ1.out _ _ _ _ (KQ1.out _ _ _ _ (KQ1.out _ _ _ _ (KQ1.out _ _ _ _ (KQ1.out _ _ _ _ (KQ1.out _ _ _ _ (KQ1.out _ _ _ _ (KQ1.out _ _ _ _ (KQ1.out _ _ _ _ (KQ1.out _ _ _ _ (KQ1.out _ _ _ _ (KQ1.out _ _ _ _ (KQ1.out _ _ _ _ (by assumption) (Or.inr mq1a) (by omega)) (Or.inr mq1a) (by omega)) (Or.inr mq1a) (by omega)) (Or.inr mq1a) (by omega)) (Or.inr mq1a) (by omega)) (Or.inr mq1a) (by omega)) (Or.inr mq1a) (by omega)) (Or.inr mq1a) (by omega)) (Or.inr mq1a) (by omega)) (Or.inr mq1a) (by omega)) (Or.inr mq1a) (by omega)) (Or.inr mq1a) (by omega)) (Or.inr mq1a) (by omega))
      | with_reducible exact KL1.out _ _ (by assumption) hb
      | with_reducible exact KA1.out _ _ (by assumption)
      | with_reducible exact KS1.out _ _ _ (by omega) (by assumption)
      | with_reducible exact KD1.out _ hS1
      | with_reducible exact KD1.out _ (KA1.out _ _ hS1)
      | with_reducible assumption)
    (first
      | (go_at_call 29; go_fit (con_bn fX fY HC.out); rintro e w' ⟨rfl, hb⟩; (first | replace B2 := B2.later hb | replace B2 := B2.drew.later hb | skip); have lt2 := B2.lt; have d0 := B2.cell 0 _ rfl; have g0 := B2.frozen 0; have d1 := B2.cell 1 _ rfl; have g1 := B2.frozen 1; have d2 := B2.cell 2 _ rfl; have g2 := B2.frozen 2; have d3 := B2.cell 3 _ rfl; have g3 := B2.frozen 3; have d4 := B2.cell 4 _ rfl; have g4 := B2.frozen 4; have d5 := B2.cell 5 _ rfl; have g5 := B2.frozen 5; have d6 := B2.cell 6 _ rfl; have g6 := B2.frozen 6; have d7 := B2.cell 7 _ rfl; have g7 := B2.frozen 7; have d8 := B2.cell 8 _ rfl; have g8 := B2.frozen 8; have d9 := B2.cell 9 _ rfl; have g9 := B2.frozen 9; have d10 := B2.cell 10 _ rfl; have g10 := B2.frozen 10; have d11 := B2.cell 11 _ rfl; have g11 := B2.frozen 11; have d12 := B2.cell 12 _ rfl; have g12 := B2.frozen 12))
  all_goals go_wp2
  all_goals exact bodyPost_ret (v := .agg #[.int .u64 x0, .int .u64 x1, .int .u64 x2, .int .u64 x3, .int .u64 x4, .int .u64 x5, .int .u64 y0, .int .u64 y1, .int .u64 y2, .int .u64 y3, .int .u64 y4, .int .u64 y5, .bool false]) (by simp [results, Tryd.results28, go_sem, d0, d1, d2, d3, d4, d5, d6, d7, d8, d9, d10, d11, d12]) rfl ⟨rfl, KB1.out _ (by assumption)⟩

set_option maxRecDepth 100000 in
set_option maxHeartbeats 2000000 in
theorem pt_of1 {x0 x1 x2 x3 x4 x5 y0 y1 y2 y3 y4 y5 : Int} {w : World} (fX : fits [x0, x1, x2, x3, x4, x5]) (fY : fits [y0, y1, y2, y3, y4, y5]) (hc : bnN [x0, x1, x2, x3, x4, x5] [y0, y1, y2, y3, y4, y5] = 1) :
    Calls Tryd.prog 28 #[.agg #[.int .u64 x0, .int .u64 x1, .int .u64 x2, .int .u64 x3, .int .u64 x4, .int .u64 x5], .agg #[.int .u64 y0, .int .u64 y1, .int .u64 y2, .int .u64 y3, .int .u64 y4, .int .u64 y5]] w fun e w' => e = .returned (.agg #[.int .u64 x0, .int .u64 x1, .int .u64 x2, .int .u64 x3, .int .u64 x4, .int .u64 x5, .int .u64 y0, .int .u64 y1, .int .u64 y2, .int .u64 y3, .int .u64 y4, .int .u64 y5, .bool true]) ∧ Below w.heap.size w w' := by
  have HC : Hid (bnN [x0, x1, x2, x3, x4, x5] [y0, y1, y2, y3, y4, y5] = 1) := hc
  clear hc
  have B0 := ((Blk.new w [.int .u64 x0, .int .u64 x1, .int .u64 x2, .int .u64 x3, .int .u64 x4, .int .u64 x5] 24 (w.heap.size) rfl).alloc (.cells [.int .u64 y0, .int .u64 y1, .int .u64 y2, .int .u64 y3, .int .u64 y4, .int .u64 y5].toArray 24)).alloc (.cells [.int .u64 0, .int .u64 0, .int .u64 0, .int .u64 0, .int .u64 0, .int .u64 0, .int .u64 0, .int .u64 0, .int .u64 0, .int .u64 0, .int .u64 0, .int .u64 0, .bool false].toArray 27)
  have B1 := (Blk.new (w.alloc (.cells [.int .u64 x0, .int .u64 x1, .int .u64 x2, .int .u64 x3, .int .u64 x4, .int .u64 x5].toArray 24)) [.int .u64 y0, .int .u64 y1, .int .u64 y2, .int .u64 y3, .int .u64 y4, .int .u64 y5] 24 (w.heap.size + 1) (by simp)).alloc (.cells [.int .u64 0, .int .u64 0, .int .u64 0, .int .u64 0, .int .u64 0, .int .u64 0, .int .u64 0, .int .u64 0, .int .u64 0, .int .u64 0, .int .u64 0, .int .u64 0, .bool false].toArray 27)
  have B2 := Blk.new ((w.alloc (.cells [.int .u64 x0, .int .u64 x1, .int .u64 x2, .int .u64 x3, .int .u64 x4, .int .u64 x5].toArray 24)).alloc (.cells [.int .u64 y0, .int .u64 y1, .int .u64 y2, .int .u64 y3, .int .u64 y4, .int .u64 y5].toArray 24)) [.int .u64 0, .int .u64 0, .int .u64 0, .int .u64 0, .int .u64 0, .int .u64 0, .int .u64 0, .int .u64 0, .int .u64 0, .int .u64 0, .int .u64 0, .int .u64 0, .bool false] 27 (w.heap.size + 1 + 1) (by simp)
  have bel : Below w.heap.size w (((w.alloc (.cells [.int .u64 x0, .int .u64 x1, .int .u64 x2, .int .u64 x3, .int .u64 x4, .int .u64 x5].toArray 24)).alloc (.cells [.int .u64 y0, .int .u64 y1, .int .u64 y2, .int .u64 y3, .int .u64 y4, .int .u64 y5].toArray 24)).alloc (.cells [.int .u64 0, .int .u64 0, .int .u64 0, .int .u64 0, .int .u64 0, .int .u64 0, .int .u64 0, .int .u64 0, .int .u64 0, .int .u64 0, .int .u64 0, .int .u64 0, .bool false].toArray 27)) := ((((Below.refl _ _).alloc (Nat.le_refl _) _).alloc (by simp) _).alloc (by simp; omega) _)
  go_enter Tryd.func28, Tryd.ntmps28
  go_upto_region 1 with fail
  try simp only [us, List.map_cons, List.map_nil] at bel
  generalize (((w.alloc (Obj.cells #[.int .u64 x0, .int .u64 x1, .int .u64 x2, .int .u64 x3, .int .u64 x4, .int .u64 x5] 24)).alloc (Obj.cells #[.int .u64 y0, .int .u64 y1, .int .u64 y2, .int .u64 y3, .int .u64 y4, .int .u64 y5] 24)).alloc (Obj.cells #[.int .u64 0, .int .u64 0, .int .u64 0, .int .u64 0, .int .u64 0, .int .u64 0, .int .u64 0, .int .u64 0, .int .u64 0, .int .u64 0, .int .u64 0, .int .u64 0, .bool false] 27)) = W at *
  obtain ⟨S1, hS1, KL1, KA1, KD1, KS1, KQ1, KN1, KB1, KM1, KR1⟩ := held3 (w0 := w) (W := W) [(w.heap.size, [.int .u64 x0, .int .u64 x1, .int .u64 x2, .int .u64 x3, .int .u64 x4, .int .u64 x5]), (w.heap.size + 1, [.int .u64 y0, .int .u64 y1, .int .u64 y2, .int .u64 y3, .int .u64 y4, .int .u64 y5])] (by
    intro b X h
    simp only [List.mem_cons, List.not_mem_nil, or_false, Prod.mk.injEq] at h
    rcases h with ⟨rfl, rfl⟩ | ⟨rfl, rfl⟩
    · exact B0
    · exact B1) bel
  have kb1a : ∀ wx, Hd S1 wx → Blk wx (w.heap.size) [.int .u64 x0, .int .u64 x1, .int .u64 x2, .int .u64 x3, .int .u64 x4, .int .u64 x5] := fun wx h => KM1.out wx _ _ h (by simp)
  have c1a0 := rulec kb1a 0 _ rfl
  have c1a1 := rulec kb1a 1 _ rfl
  have c1a2 := rulec kb1a 2 _ rfl
  have c1a3 := rulec kb1a 3 _ rfl
  have c1a4 := rulec kb1a 4 _ rfl
  have c1a5 := rulec kb1a 5 _ rfl
  have c1al := ruleb kb1a
  clear kb1a
  have kb1b : ∀ wx, Hd S1 wx → Blk wx (w.heap.size + 1) [.int .u64 y0, .int .u64 y1, .int .u64 y2, .int .u64 y3, .int .u64 y4, .int .u64 y5] := fun wx h => KM1.out wx _ _ h (by simp)
  have c1b0 := rulec kb1b 0 _ rfl
  have c1b1 := rulec kb1b 1 _ rfl
  have c1b2 := rulec kb1b 2 _ rfl
  have c1b3 := rulec kb1b 3 _ rfl
  have c1b4 := rulec kb1b 4 _ rfl
  have c1b5 := rulec kb1b 5 _ rfl
  have c1bl := ruleb kb1b
  clear kb1b
  have mq1a : ∀ c X, (c, X) ∈ [((w.heap.size : Nat), ([.int .u64 x0, .int .u64 x1, .int .u64 x2, .int .u64 x3, .int .u64 x4, .int .u64 x5] : List Value)), ((w.heap.size + 1 : Nat), ([.int .u64 y0, .int .u64 y1, .int .u64 y2, .int .u64 y3, .int .u64 y4, .int .u64 y5] : List Value))] → c ≠ w.heap.size + 1 + 1 := by
    intro c X h
    simp only [List.mem_cons, List.not_mem_nil, or_false, Prod.mk.injEq] at h
    omega
  have hN1 := bel.size
  clear bel B0 B1
  go_region_held3 (Hd S1)
    (first
      | with_reducible exact (KQ1.out _ _ _ _ (KQ1.out _ _ _ _ (KQ1.out _ _ _ _ (KQ1.out _ _ _ _ (KQ1.out _ _ _ _ (KQ1.out _ _ _ _ (KQ1.out _ _ _ _ (KQ1.out _ _ _ _ (KQ1.out _ _ _ _ (KQ1.out _ _ _ _ (KQ1.out _ _ _ _ (KQ1.out _ _ _ _ (KQ1.out _ _ _ _ (by assumption) (Or.inr mq1a) (by omega)) (Or.inr mq1a) (by omega)) (Or.inr mq1a) (by omega)) (Or.inr mq1a) (by omega)) (Or.inr mq1a) (by omega)) (Or.inr mq1a) (by omega)) (Or.inr mq1a) (by omega)) (Or.inr mq1a) (by omega)) (Or.inr mq1a) (by omega)) (Or.inr mq1a) (by omega)) (Or.inr mq1a) (by omega)) (Or.inr mq1a) (by omega)) (Or.inr mq1a) (by omega))
      | with_reducible exact KL1.out _ _ (by assumption) hb
      | with_reducible exact KA1.out _ _ (by assumption)
      | with_reducible exact KS1.out _ _ _ (by omega) (by assumption)
      | with_reducible exact KD1.out _ hS1
      | with_reducible exact KD1.out _ (KA1.out _ _ hS1)
      | with_reducible assumption)
    (first
      | (go_at_call 29; go_fit (con_bn fX fY HC.out); rintro e w' ⟨rfl, hb⟩; (first | replace B2 := B2.later hb | replace B2 := B2.drew.later hb | skip); have lt2 := B2.lt; have d0 := B2.cell 0 _ rfl; have g0 := B2.frozen 0; have d1 := B2.cell 1 _ rfl; have g1 := B2.frozen 1; have d2 := B2.cell 2 _ rfl; have g2 := B2.frozen 2; have d3 := B2.cell 3 _ rfl; have g3 := B2.frozen 3; have d4 := B2.cell 4 _ rfl; have g4 := B2.frozen 4; have d5 := B2.cell 5 _ rfl; have g5 := B2.frozen 5; have d6 := B2.cell 6 _ rfl; have g6 := B2.frozen 6; have d7 := B2.cell 7 _ rfl; have g7 := B2.frozen 7; have d8 := B2.cell 8 _ rfl; have g8 := B2.frozen 8; have d9 := B2.cell 9 _ rfl; have g9 := B2.frozen 9; have d10 := B2.cell 10 _ rfl; have g10 := B2.frozen 10; have d11 := B2.cell 11 _ rfl; have g11 := B2.frozen 11; have d12 := B2.cell 12 _ rfl; have g12 := B2.frozen 12))
  all_goals go_wp2
  all_goals exact bodyPost_ret (v := .agg #[.int .u64 x0, .int .u64 x1, .int .u64 x2, .int .u64 x3, .int .u64 x4, .int .u64 x5, .int .u64 y0, .int .u64 y1, .int .u64 y2, .int .u64 y3, .int .u64 y4, .int .u64 y5, .bool true]) (by simp [results, Tryd.results28, go_sem, d0, d1, d2, d3, d4, d5, d6, d7, d8, d9, d10, d11, d12]) rfl ⟨rfl, KB1.out _ (by assumption)⟩

theorem con_pt {x0 x1 x2 x3 x4 x5 y0 y1 y2 y3 y4 y5 : Int} {k : Bool} {w : World} (fX : fits [x0, x1, x2, x3, x4, x5]) (fY : fits [y0, y1, y2, y3, y4, y5]) (hk : k = true ↔ [x0, x1, x2, x3, x4, x5] = [0, 0, 0, 0, 0, 0] ∧ [y0, y1, y2, y3, y4, y5] = [0, 0, 0, 0, 0, 0]) :
    Calls Tryd.prog 28 #[.agg #[.int .u64 x0, .int .u64 x1, .int .u64 x2, .int .u64 x3, .int .u64 x4, .int .u64 x5], .agg #[.int .u64 y0, .int .u64 y1, .int .u64 y2, .int .u64 y3, .int .u64 y4, .int .u64 y5]] w fun e w' => e = .returned (.agg #[.int .u64 x0, .int .u64 x1, .int .u64 x2, .int .u64 x3, .int .u64 x4, .int .u64 x5, .int .u64 y0, .int .u64 y1, .int .u64 y2, .int .u64 y3, .int .u64 y4, .int .u64 y5, .bool k]) ∧ Below w.heap.size w w' := by
  rw [← bn_one] at hk
  cases k with
  | true => exact pt_of1 fX fY (hk.1 rfl)
  | false => exact pt_of0 fX fY ((bn_or _ _).resolve_right (fun h => absurd (hk.2 h) (by decide)))

set_option maxRecDepth 100000 in
set_option maxHeartbeats 2000000 in
theorem con_opp {x0 x1 x2 x3 x4 x5 y0 y1 y2 y3 y4 y5 p0 p1 p2 p3 p4 p5 q0 q1 q2 q3 q4 q5 : Int} {n m : Bool} {w : World} (fX : fits [x0, x1, x2, x3, x4, x5]) (fY : fits [y0, y1, y2, y3, y4, y5]) (fP : fits [p0, p1, p2, p3, p4, p5]) (fQ : fits [q0, q1, q2, q3, q4, q5]) {c : Int} (hc : opN [x0, x1, x2, x3, x4, x5] [y0, y1, y2, y3, y4, y5] [p0, p1, p2, p3, p4, p5] [q0, q1, q2, q3, q4, q5] = c) :
    Calls Tryd.prog 26 #[.agg #[.int .u64 x0, .int .u64 x1, .int .u64 x2, .int .u64 x3, .int .u64 x4, .int .u64 x5, .int .u64 y0, .int .u64 y1, .int .u64 y2, .int .u64 y3, .int .u64 y4, .int .u64 y5, .bool n], .agg #[.int .u64 p0, .int .u64 p1, .int .u64 p2, .int .u64 p3, .int .u64 p4, .int .u64 p5, .int .u64 q0, .int .u64 q1, .int .u64 q2, .int .u64 q3, .int .u64 q4, .int .u64 q5, .bool m]] w fun e w' => e = .returned (.int .u64 c) ∧ Below w.heap.size w w' := by
  obtain ⟨c1, h1⟩ : ∃ c, sameN [x0, x1, x2, x3, x4, x5] [p0, p1, p2, p3, p4, p5] = c := ⟨_, rfl⟩
  obtain ⟨c2, h2⟩ : ∃ c, sameN [y0, y1, y2, y3, y4, y5] [q0, q1, q2, q3, q4, q5] = c := ⟨_, rfl⟩
  have e := op_and [x0, x1, x2, x3, x4, x5] [y0, y1, y2, y3, y4, y5] [p0, p1, p2, p3, p4, p5] [q0, q1, q2, q3, q4, q5]
  rw [h1, h2, hc] at e
  have H1 : Hid (sameN [x0, x1, x2, x3, x4, x5] [p0, p1, p2, p3, p4, p5] = c1) := h1
  have H2 : Hid (sameN [y0, y1, y2, y3, y4, y5] [q0, q1, q2, q3, q4, q5] = c2) := h2
  have HE : Hid (bits .and .u64 c1 (bits .xor .u64 1 c2) = c) := e
  clear hc h1 h2 e
  have B0 := (Blk.new w [.int .u64 x0, .int .u64 x1, .int .u64 x2, .int .u64 x3, .int .u64 x4, .int .u64 x5, .int .u64 y0, .int .u64 y1, .int .u64 y2, .int .u64 y3, .int .u64 y4, .int .u64 y5, .bool n] 27 (w.heap.size) rfl).alloc (.cells [.int .u64 p0, .int .u64 p1, .int .u64 p2, .int .u64 p3, .int .u64 p4, .int .u64 p5, .int .u64 q0, .int .u64 q1, .int .u64 q2, .int .u64 q3, .int .u64 q4, .int .u64 q5, .bool m].toArray 27)
  have B1 := Blk.new (w.alloc (.cells [.int .u64 x0, .int .u64 x1, .int .u64 x2, .int .u64 x3, .int .u64 x4, .int .u64 x5, .int .u64 y0, .int .u64 y1, .int .u64 y2, .int .u64 y3, .int .u64 y4, .int .u64 y5, .bool n].toArray 27)) [.int .u64 p0, .int .u64 p1, .int .u64 p2, .int .u64 p3, .int .u64 p4, .int .u64 p5, .int .u64 q0, .int .u64 q1, .int .u64 q2, .int .u64 q3, .int .u64 q4, .int .u64 q5, .bool m] 27 (w.heap.size + 1) (by simp)
  have bel : Below w.heap.size w ((w.alloc (.cells [.int .u64 x0, .int .u64 x1, .int .u64 x2, .int .u64 x3, .int .u64 x4, .int .u64 x5, .int .u64 y0, .int .u64 y1, .int .u64 y2, .int .u64 y3, .int .u64 y4, .int .u64 y5, .bool n].toArray 27)).alloc (.cells [.int .u64 p0, .int .u64 p1, .int .u64 p2, .int .u64 p3, .int .u64 p4, .int .u64 p5, .int .u64 q0, .int .u64 q1, .int .u64 q2, .int .u64 q3, .int .u64 q4, .int .u64 q5, .bool m].toArray 27)) := (((Below.refl _ _).alloc (Nat.le_refl _) _).alloc (by simp) _)
  go_enter Tryd.func26, Tryd.ntmps26
  go_upto_region 1 with fail
  try simp only [us, List.map_cons, List.map_nil] at bel
  generalize ((w.alloc (Obj.cells #[.int .u64 x0, .int .u64 x1, .int .u64 x2, .int .u64 x3, .int .u64 x4, .int .u64 x5, .int .u64 y0, .int .u64 y1, .int .u64 y2, .int .u64 y3, .int .u64 y4, .int .u64 y5, .bool n] 27)).alloc (Obj.cells #[.int .u64 p0, .int .u64 p1, .int .u64 p2, .int .u64 p3, .int .u64 p4, .int .u64 p5, .int .u64 q0, .int .u64 q1, .int .u64 q2, .int .u64 q3, .int .u64 q4, .int .u64 q5, .bool m] 27)) = W at *
  obtain ⟨S1, hS1, KL1, KA1, KD1, KS1, KQ1, KN1, KB1, KM1, KR1⟩ := held3 (w0 := w) (W := W) [(w.heap.size, [.int .u64 x0, .int .u64 x1, .int .u64 x2, .int .u64 x3, .int .u64 x4, .int .u64 x5, .int .u64 y0, .int .u64 y1, .int .u64 y2, .int .u64 y3, .int .u64 y4, .int .u64 y5, .bool n]), (w.heap.size + 1, [.int .u64 p0, .int .u64 p1, .int .u64 p2, .int .u64 p3, .int .u64 p4, .int .u64 p5, .int .u64 q0, .int .u64 q1, .int .u64 q2, .int .u64 q3, .int .u64 q4, .int .u64 q5, .bool m])] (by
    intro b X h
    simp only [List.mem_cons, List.not_mem_nil, or_false, Prod.mk.injEq] at h
    rcases h with ⟨rfl, rfl⟩ | ⟨rfl, rfl⟩
    · exact B0
    · exact B1) bel
  have kb1a : ∀ wx, Hd S1 wx → Blk wx (w.heap.size) [.int .u64 x0, .int .u64 x1, .int .u64 x2, .int .u64 x3, .int .u64 x4, .int .u64 x5, .int .u64 y0, .int .u64 y1, .int .u64 y2, .int .u64 y3, .int .u64 y4, .int .u64 y5, .bool n] := fun wx h => KM1.out wx _ _ h (by simp)
  have c1a0 := rulec kb1a 0 _ rfl
  have c1a1 := rulec kb1a 1 _ rfl
  have c1a2 := rulec kb1a 2 _ rfl
  have c1a3 := rulec kb1a 3 _ rfl
  have c1a4 := rulec kb1a 4 _ rfl
  have c1a5 := rulec kb1a 5 _ rfl
  have c1a6 := rulec kb1a 6 _ rfl
  have c1a7 := rulec kb1a 7 _ rfl
  have c1a8 := rulec kb1a 8 _ rfl
  have c1a9 := rulec kb1a 9 _ rfl
  have c1a10 := rulec kb1a 10 _ rfl
  have c1a11 := rulec kb1a 11 _ rfl
  have c1a12 := rulec kb1a 12 _ rfl
  have c1al := ruleb kb1a
  clear kb1a
  have kb1b : ∀ wx, Hd S1 wx → Blk wx (w.heap.size + 1) [.int .u64 p0, .int .u64 p1, .int .u64 p2, .int .u64 p3, .int .u64 p4, .int .u64 p5, .int .u64 q0, .int .u64 q1, .int .u64 q2, .int .u64 q3, .int .u64 q4, .int .u64 q5, .bool m] := fun wx h => KM1.out wx _ _ h (by simp)
  have c1b0 := rulec kb1b 0 _ rfl
  have c1b1 := rulec kb1b 1 _ rfl
  have c1b2 := rulec kb1b 2 _ rfl
  have c1b3 := rulec kb1b 3 _ rfl
  have c1b4 := rulec kb1b 4 _ rfl
  have c1b5 := rulec kb1b 5 _ rfl
  have c1b6 := rulec kb1b 6 _ rfl
  have c1b7 := rulec kb1b 7 _ rfl
  have c1b8 := rulec kb1b 8 _ rfl
  have c1b9 := rulec kb1b 9 _ rfl
  have c1b10 := rulec kb1b 10 _ rfl
  have c1b11 := rulec kb1b 11 _ rfl
  have c1b12 := rulec kb1b 12 _ rfl
  have c1bl := ruleb kb1b
  clear kb1b
  have hN1 := bel.size
  clear bel B0 B1
  go_region_held3 (Hd S1)
    (first
      | with_reducible exact KL1.out _ _ (by assumption) hb
      | with_reducible exact KA1.out _ _ (by assumption)
      | with_reducible exact KS1.out _ _ _ (by omega) (by assumption)
      | with_reducible exact KD1.out _ hS1
      | with_reducible exact KD1.out _ (KA1.out _ _ hS1)
      | with_reducible assumption)
    (first
      | (go_at_call 38; go_fit (same_num fX fP H1.out); rintro e w' ⟨rfl, hb⟩)
      | (go_at_call 38; go_fit (same_num fY fQ H2.out); rintro e w' ⟨rfl, hb⟩))
  all_goals go_wp2
  all_goals (go_ret; exact ⟨by rw [← HE.out]; rfl, KB1.out _ (by assumption)⟩)

end Go.Proofs.YtpgidlnpcjbfhabDoor
