/- The document's Round. -/
import Derived.Test.YtbglkbfnhnmodaaDoorRows
import Derived.Test.YtbglkbfnhnmodaaDoorSTurn
import Derived.Test.YtbglkbfnhnmodaaDoorShape
import Derived.Deep.WholeRow
import Derived.Deep.RegionHeld3
import Derived.Deep.DeepCutAuto
import Derived.Deep.DeepFit
namespace Go.Proofs.YtbglkbfnhnmodaaDoor
open Go.RowKit

theorem below_put8 {B b : Nat} {a w : World} {u0 u1 u2 u3 u4 u5 u6 u7 : Value} (h : Below B a w) (hb : B ≤ b) : Below B a (((((((((w.setCell ⟨b, 0, none⟩ u0).setCell ⟨b, 1, none⟩ u1).setCell ⟨b, 2, none⟩ u2).setCell ⟨b, 3, none⟩ u3).setCell ⟨b, 4, none⟩ u4).setCell ⟨b, 5, none⟩ u5).setCell ⟨b, 6, none⟩ u6).setCell ⟨b, 7, none⟩ u7)) := ((((((((h.setCell hb _).setCell hb _).setCell hb _).setCell hb _).setCell hb _).setCell hb _).setCell hb _).setCell hb _)
theorem round_is {v0 v1 v2 v3 v4 v5 v6 v7 k m one two : Int} (h1 : t1N v4 v5 v6 v7 k m = one) (h2 : t2N v0 v1 v2 = two) : roundN [v0, v1, v2, v3, v4, v5, v6, v7] k m = [IntKind.u64.wrap (one + two), v0, v1, v2, IntKind.u64.wrap (v3 + one), v4, v5, v6] := by
  subst h1 h2
  simp only [IntKind.wrap_u64]
  rfl

theorem r7_tn {x m : Int} {w : World} (h0 : 0 < m) (hn : m < 64) :
    Calls Tryd.prog 41 #[.int .u64 x, .int .i64 m] w fun e w' => e = .returned (.int .u64 (ror x m.toNat)) ∧ Below w.heap.size w w' := by
  obtain ⟨n, rfl⟩ := Int.eq_ofNat_of_zero_le (Int.le_of_lt h0)
  exact r7_turn (by omega) (by omega)

theorem t1_is (e f g h k m : Int) : IntKind.u64.wrap (IntKind.u64.wrap (IntKind.u64.wrap (IntKind.u64.wrap (h + bits .xor .u64 (bits .xor .u64 (ror e 14) (ror e 18)) (ror e 41)) + bits .xor .u64 (bits .and .u64 e f) (bits .and .u64 (bits .xor .u64 IntKind.u64.max e) g)) + k) + m) = t1N e f g h k m := by
  unfold t1N
  simp only [IntKind.wrap_u64]
  omega
theorem t2_is (a b c : Int) : IntKind.u64.wrap (bits .xor .u64 (bits .xor .u64 (ror a 28) (ror a 34)) (ror a 39) + bits .xor .u64 (bits .xor .u64 (bits .and .u64 a b) (bits .and .u64 a c)) (bits .and .u64 b c)) = t2N a b c := by
  unfold t2N
  rw [IntKind.wrap_u64]

set_option maxRecDepth 100000 in
set_option maxHeartbeats 4000000 in
theorem r7_Round {v0 v1 v2 v3 v4 v5 v6 v7 k m : Int} {w : World} :
    Calls Tryd.prog 38 #[.agg #[.int .u64 v0, .int .u64 v1, .int .u64 v2, .int .u64 v3, .int .u64 v4, .int .u64 v5, .int .u64 v6, .int .u64 v7], .int .u64 k, .int .u64 m] w fun e w' => e = .returned (.agg (us (roundN [v0, v1, v2, v3, v4, v5, v6, v7] k m)).toArray) ∧ Below w.heap.size w w' := by
  have B0 := (Blk.new w [.int .u64 v0, .int .u64 v1, .int .u64 v2, .int .u64 v3, .int .u64 v4, .int .u64 v5, .int .u64 v6, .int .u64 v7] 27 (w.heap.size) rfl).alloc (.cells [.int .u64 0, .int .u64 0, .int .u64 0, .int .u64 0, .int .u64 0, .int .u64 0, .int .u64 0, .int .u64 0].toArray 27)
  have B1 := Blk.new (w.alloc (.cells [.int .u64 v0, .int .u64 v1, .int .u64 v2, .int .u64 v3, .int .u64 v4, .int .u64 v5, .int .u64 v6, .int .u64 v7].toArray 27)) [.int .u64 0, .int .u64 0, .int .u64 0, .int .u64 0, .int .u64 0, .int .u64 0, .int .u64 0, .int .u64 0] 27 (w.heap.size + 1) (by simp)
  have bel : Below w.heap.size w ((w.alloc (.cells [.int .u64 v0, .int .u64 v1, .int .u64 v2, .int .u64 v3, .int .u64 v4, .int .u64 v5, .int .u64 v6, .int .u64 v7].toArray 27)).alloc (.cells [.int .u64 0, .int .u64 0, .int .u64 0, .int .u64 0, .int .u64 0, .int .u64 0, .int .u64 0, .int .u64 0].toArray 27)) := (((Below.refl _ _).alloc (Nat.le_refl _) _).alloc (by simp) _)
  go_enter Tryd.func38, Tryd.ntmps38
  go_upto_region 1 with fail
  try simp only [us, List.map_cons, List.map_nil] at bel
  generalize ((w.alloc (Obj.cells #[.int .u64 v0, .int .u64 v1, .int .u64 v2, .int .u64 v3, .int .u64 v4, .int .u64 v5, .int .u64 v6, .int .u64 v7] 27)).alloc (Obj.cells #[.int .u64 0, .int .u64 0, .int .u64 0, .int .u64 0, .int .u64 0, .int .u64 0, .int .u64 0, .int .u64 0] 27)) = W at *
  have lt0 := B0.lt
  have c0 := B0.cell 0 _ rfl
  have c1 := B0.cell 1 _ rfl
  have c2 := B0.cell 2 _ rfl
  have c3 := B0.cell 3 _ rfl
  have c4 := B0.cell 4 _ rfl
  have c5 := B0.cell 5 _ rfl
  have c6 := B0.cell 6 _ rfl
  have c7 := B0.cell 7 _ rfl
  go_upto_region 3 with fail
  clear lt0 c0 c1 c2 c3 c4 c5 c6 c7
  obtain ⟨S1, hS1, KL1, KA1, KD1, KS1, KQ1, KN1, KB1, KM1, KR1⟩ := held3 (w0 := w) (W := W) [(w.heap.size, [.int .u64 v0, .int .u64 v1, .int .u64 v2, .int .u64 v3, .int .u64 v4, .int .u64 v5, .int .u64 v6, .int .u64 v7]), (w.heap.size + 1, [.int .u64 0, .int .u64 0, .int .u64 0, .int .u64 0, .int .u64 0, .int .u64 0, .int .u64 0, .int .u64 0])] (by
    intro b X h
    simp only [List.mem_cons, List.not_mem_nil, or_false, Prod.mk.injEq] at h
    rcases h with ⟨rfl, rfl⟩ | ⟨rfl, rfl⟩
    · exact B0
    · exact B1) bel
  have kb1a : ∀ wx, Hd S1 wx → Blk wx (w.heap.size) [.int .u64 v0, .int .u64 v1, .int .u64 v2, .int .u64 v3, .int .u64 v4, .int .u64 v5, .int .u64 v6, .int .u64 v7] := fun wx h => KM1.out wx _ _ h (by simp)
  have c1a0 := rulec kb1a 0 _ rfl
  have c1a1 := rulec kb1a 1 _ rfl
  have c1a2 := rulec kb1a 2 _ rfl
  have c1a3 := rulec kb1a 3 _ rfl
  have c1a4 := rulec kb1a 4 _ rfl
  have c1a5 := rulec kb1a 5 _ rfl
  have c1a6 := rulec kb1a 6 _ rfl
  have c1a7 := rulec kb1a 7 _ rfl
  have c1al := ruleb kb1a
  clear kb1a
  have kb1b : ∀ wx, Hd S1 wx → Blk wx (w.heap.size + 1) [.int .u64 0, .int .u64 0, .int .u64 0, .int .u64 0, .int .u64 0, .int .u64 0, .int .u64 0, .int .u64 0] := fun wx h => KM1.out wx _ _ h (by simp)
  have c1b0 := rulec kb1b 0 _ rfl
  have c1b1 := rulec kb1b 1 _ rfl
  have c1b2 := rulec kb1b 2 _ rfl
  have c1b3 := rulec kb1b 3 _ rfl
  have c1b4 := rulec kb1b 4 _ rfl
  have c1b5 := rulec kb1b 5 _ rfl
  have c1b6 := rulec kb1b 6 _ rfl
  have c1b7 := rulec kb1b 7 _ rfl
  have c1bl := ruleb kb1b
  clear kb1b
  have hN1 := bel.size
  clear bel B0 B1
  go_cut [9] (fun u wx => u = .int .u64 (t1N v4 v5 v6 v7 k m) ∧ Hd S1 wx)
  case first =>
    go_region_held3 (Hd S1)
      (first
        | with_reducible exact KL1.out _ _ (by assumption) hb
        | with_reducible exact KA1.out _ _ (by assumption)
        | with_reducible exact KS1.out _ _ _ (by omega) (by assumption)
        | with_reducible exact KD1.out _ hS1
        | with_reducible exact KD1.out _ (KA1.out _ _ hS1)
        | with_reducible assumption)
      (first
        | (go_at_call 41; go_fit (r7_tn (by decide) (by decide)); rintro e w' ⟨rfl, hb⟩))
    all_goals
      go_wp2_with fail
      go_meet
      exact ⟨by rw [← t1_is], by with_reducible assumption⟩
  case rest =>
    clear hS1
    obtain ⟨rfl, hS1⟩ := hcut
    obtain ⟨one, hone⟩ : ∃ x, t1N v4 v5 v6 v7 k m = x := ⟨_, rfl⟩
    rw [hone]
    have H1 : Hid _ := hone
    clear hone
    go_upto_region 4 with fail
    go_cut [10] (fun u wx => u = .int .u64 (t2N v0 v1 v2) ∧ Hd S1 wx)
    case first =>
      go_region_held3 (Hd S1)
        (first
          | with_reducible exact KL1.out _ _ (by assumption) hb
          | with_reducible exact KA1.out _ _ (by assumption)
          | with_reducible exact KS1.out _ _ _ (by omega) (by assumption)
          | with_reducible exact KD1.out _ hS1
          | with_reducible exact KD1.out _ (KA1.out _ _ hS1)
          | with_reducible assumption)
        (first
          | (go_at_call 41; go_fit (r7_tn (by decide) (by decide)); rintro e w' ⟨rfl, hb⟩))
      all_goals
        go_wp2_with fail
        go_meet
        exact ⟨by rw [← t2_is], by with_reducible assumption⟩
    case rest =>
      clear hS1
      obtain ⟨rfl, hS1⟩ := hcut
      obtain ⟨two, htwo⟩ : ∃ x, t2N v0 v1 v2 = x := ⟨_, rfl⟩
      rw [htwo]
      have H2 : Hid _ := htwo
      clear htwo
      have B0 := KM1.out _ (w.heap.size) _ hS1 (List.Mem.head _)
      have B1 := KM1.out _ (w.heap.size + 1) _ hS1 (List.Mem.tail _ (List.Mem.head _))
      have bel := KB1.out _ hS1
      clear hS1 c1a0 c1b0 c1a1 c1b1 c1a2 c1b2 c1a3 c1b3 c1a4 c1b4 c1a5 c1b5 c1a6 c1b6 c1a7 c1b7 c1al c1bl
      have lt0 := B0.lt
      have lt1 := B1.lt
      have c0 := B0.cell 0 _ rfl
      have c1 := B0.cell 1 _ rfl
      have c2 := B0.cell 2 _ rfl
      have c3 := B0.cell 3 _ rfl
      have c4 := B0.cell 4 _ rfl
      have c5 := B0.cell 5 _ rfl
      have c6 := B0.cell 6 _ rfl
      have c7 := B0.cell 7 _ rfl
      have d0 := B1.cell 0 _ rfl; have g0 := B1.frozen 0; have d1 := B1.cell 1 _ rfl; have g1 := B1.frozen 1; have d2 := B1.cell 2 _ rfl; have g2 := B1.frozen 2; have d3 := B1.cell 3 _ rfl; have g3 := B1.frozen 3; have d4 := B1.cell 4 _ rfl; have g4 := B1.frozen 4; have d5 := B1.cell 5 _ rfl; have g5 := B1.frozen 5; have d6 := B1.cell 6 _ rfl; have g6 := B1.frozen 6; have d7 := B1.cell 7 _ rfl; have g7 := B1.frozen 7
      go_wp2_with fail
      exact bodyPost_ret (v := .agg #[.int .u64 (IntKind.u64.wrap (one + two)), .int .u64 v0, .int .u64 v1, .int .u64 v2, .int .u64 (IntKind.u64.wrap (v3 + one)), .int .u64 v4, .int .u64 v5, .int .u64 v6]) (by simp [results, Tryd.results38, go_sem, d0, d1, d2, d3, d4, d5, d6, d7]) rfl ⟨by rw [round_is H1.out H2.out]; rfl, below_put8 bel (by omega)⟩

end Go.Proofs.YtbglkbfnhnmodaaDoor
