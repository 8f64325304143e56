/- ladder's notes of steps. ladder.Base. -/
import Derived.Test.YtjpnbbhpgchbpaaDoorRows
import Derived.Test.YtjpnbbhpgchbpaaDoorShape
import Derived.Deep.WholeRow
import Derived.Deep.RegionHeld3
import Derived.Deep.DeepCutAuto
import Derived.Deep.DeepFit
import Derived.Test.YtjpnbbhpgchbpaaDoorLClimb
namespace Go.Proofs.YtjpnbbhpgchbpaaDoor
open Go.RowKit

set_option maxRecDepth 100000 in
theorem con_nBase {w : World} {d : Int} :
    Calls Tryd.prog 22 #[.int .i64 d] w fun e w' => e = .returned (.tuple #[]) ∧ w' = w := by
  go_enter Tryd.func22, Tryd.ntmps22
  go_wp2
  exact bodyPost_end (v := .tuple #[]) (by simp [results, Tryd.results22, go_sem]) rfl ⟨rfl, rfl⟩
end Go.Proofs.YtjpnbbhpgchbpaaDoor

namespace Go.Proofs.YtjpnbbhpgchbpaaDoor
open Go.RowKit

theorem quiet_base {w0 : World} {B : Nat} : Hid (∀ (k : Nat) (d : Int) (b : World), (fun (_ : Nat) (b : World) => Below w0.heap.size w0 b) k b → k < 1152 → d = ((k % 3 : Nat) : Int) + 1 → Calls Tryd.prog 22 #[.int .i64 d] b fun e c => e = .returned (.tuple #[]) ∧ (fun (_ : Nat) (b : World) => Below w0.heap.size w0 b) (k + 1) c ∧ b.heap.size ≤ c.heap.size ∧ ∀ i X, B ≤ i → Blk b i X → Blk c i X) := by
  intro k d b h _ _
  refine con_nBase.mono ?_
  rintro e w' ⟨rfl, rfl⟩
  exact ⟨rfl, h, Nat.le_refl _, fun _ _ _ h => h⟩

set_option maxRecDepth 100000 in
theorem base_climb {a0 a1 a2 a3 a4 a5 : Int} {w : World} (G : GlsC w) (fA : fits [a0, a1, a2, a3, a4, a5]) :
    Calls Tryd.prog 21 #[.agg #[.int .u64 a0, .int .u64 a1, .int .u64 a2, .int .u64 a3, .int .u64 a4, .int .u64 a5], .agg #[.int .u64 4203087948775033527, .int .u64 6125724927633205612, .int .u64 6482722621138151992, .int .u64 7934563412932533144, .int .u64 10282218360005504372, .int .u64 12288012358878168375, .int .u64 8809917716911230559, .int .u64 747793036959711645, .int .u64 16850834916486723776, .int .u64 17938995913990739068, .int .u64 6745997240412855337, .int .u64 3897828414440483951, .bool false], .func (.func 22) #[] #[]] w fun e w' => ∃ (s0 s1 s2 s3 s4 s5 t0 t1 t2 t3 t4 t5 : Int) (k : Bool), e = .returned (.agg #[.int .u64 s0, .int .u64 s1, .int .u64 s2, .int .u64 s3, .int .u64 s4, .int .u64 s5, .int .u64 t0, .int .u64 t1, .int .u64 t2, .int .u64 t3, .int .u64 t4, .int .u64 t5, .bool k]) ∧ Told (cmul (v64 [a0, a1, a2, a3, a4, a5]).toNat GG) [s0, s1, s2, s3, s4, s5] [t0, t1, t2, t3, t4, t5] k ∧ Below w.heap.size w w' :=
  con_climb (J := fun _ b => Below w.heap.size w b) (fun _ _ => rfl) (Below.refl _ _) (fun _ _ h => GlsC.below G h) (fun _ _ _ h h2 => h.trans h2) quiet_base fA told_GC on_G

set_option maxRecDepth 100000 in
set_option maxHeartbeats 4000000 in
theorem con_Base {a0 a1 a2 a3 a4 a5 : Int} {w : World} (G : GlsC w) (fA : fits [a0, a1, a2, a3, a4, a5]) :
    Calls Tryd.prog 7 #[.agg #[.int .u64 a0, .int .u64 a1, .int .u64 a2, .int .u64 a3, .int .u64 a4, .int .u64 a5]] w fun e w' => ∃ (s0 s1 s2 s3 s4 s5 t0 t1 t2 t3 t4 t5 : Int) (k : Bool), e = .returned (.agg #[.int .u64 s0, .int .u64 s1, .int .u64 s2, .int .u64 s3, .int .u64 s4, .int .u64 s5, .int .u64 t0, .int .u64 t1, .int .u64 t2, .int .u64 t3, .int .u64 t4, .int .u64 t5, .bool k]) ∧ Told (cmul (v64 [a0, a1, a2, a3, a4, a5]).toNat GG) [s0, s1, s2, s3, s4, s5] [t0, t1, t2, t3, t4, t5] k ∧ Below w.heap.size w w' := by
  have B0 := (Blk.new w [.int .u64 a0, .int .u64 a1, .int .u64 a2, .int .u64 a3, .int .u64 a4, .int .u64 a5] 24 (w.heap.size) rfl).alloc (.cells [.int .u64 0, .int .u64 0, .int .u64 0, .int .u64 0, .int .u64 0, .int .u64 0, .int .u64 0, .int .u64 0, .int .u64 0, .int .u64 0, .int .u64 0, .int .u64 0, .bool false].toArray 37)
  have B1 := Blk.new (w.alloc (.cells [.int .u64 a0, .int .u64 a1, .int .u64 a2, .int .u64 a3, .int .u64 a4, .int .u64 a5].toArray 24)) [.int .u64 0, .int .u64 0, .int .u64 0, .int .u64 0, .int .u64 0, .int .u64 0, .int .u64 0, .int .u64 0, .int .u64 0, .int .u64 0, .int .u64 0, .int .u64 0, .bool false] 37 (w.heap.size + 1) (by simp)
  have bel : Below w.heap.size w ((w.alloc (.cells [.int .u64 a0, .int .u64 a1, .int .u64 a2, .int .u64 a3, .int .u64 a4, .int .u64 a5].toArray 24)).alloc (.cells [.int .u64 0, .int .u64 0, .int .u64 0, .int .u64 0, .int .u64 0, .int .u64 0, .int .u64 0, .int .u64 0, .int .u64 0, .int .u64 0, .int .u64 0, .int .u64 0, .bool false].toArray 37)) := (((Below.refl _ _).alloc (Nat.le_refl _) _).alloc (by simp) _)
  go_enter Tryd.func7, Tryd.ntmps7
  go_upto_region 1 with fail
  try simp only [us, List.map_cons, List.map_nil] at bel
  generalize ((w.alloc (Obj.cells #[.int .u64 a0, .int .u64 a1, .int .u64 a2, .int .u64 a3, .int .u64 a4, .int .u64 a5] 24)).alloc (Obj.cells #[.int .u64 0, .int .u64 0, .int .u64 0, .int .u64 0, .int .u64 0, .int .u64 0, .int .u64 0, .int .u64 0, .int .u64 0, .int .u64 0, .int .u64 0, .int .u64 0, .bool false] 37)) = W at *
  obtain ⟨S1, hS1, KL1, KA1, KD1, KS1, KQ1, KN1, KB1, KM1, KR1⟩ := held3 (w0 := w) (W := W) [(w.heap.size, [.int .u64 a0, .int .u64 a1, .int .u64 a2, .int .u64 a3, .int .u64 a4, .int .u64 a5])] (by
    intro b X h
    simp only [List.mem_cons, List.not_mem_nil, or_false, Prod.mk.injEq] at h
    rcases h with ⟨rfl, rfl⟩
    · exact B0) bel
  have kb1a : ∀ wx, Hd S1 wx → Blk wx (w.heap.size) [.int .u64 a0, .int .u64 a1, .int .u64 a2, .int .u64 a3, .int .u64 a4, .int .u64 a5] := fun wx h => KM1.out wx _ _ h (by simp)
  have c1a0 := rulec kb1a 0 _ rfl
  have c1a1 := rulec kb1a 1 _ rfl
  have c1a2 := rulec kb1a 2 _ rfl
  have c1a3 := rulec kb1a 3 _ rfl
  have c1a4 := rulec kb1a 4 _ rfl
  have c1a5 := rulec kb1a 5 _ rfl
  have c1al := ruleb kb1a
  clear kb1a
  have mq1a : ∀ c X, (c, X) ∈ [((w.heap.size : Nat), ([.int .u64 a0, .int .u64 a1, .int .u64 a2, .int .u64 a3, .int .u64 a4, .int .u64 a5] : List Value))] → c ≠ w.heap.size + 1 := by
    intro c X h
    simp only [List.mem_cons, List.not_mem_nil, or_false, Prod.mk.injEq] at h
    omega
  have hN1 := bel.size
  clear bel B0
  go_region_held3 (Hd S1)
    (first
      | with_reducible exact (KQ1.out _ _ _ _ (KQ1.out _ _ _ _ (KQ1.out _ _ _ _ (KQ1.out _ _ _ _ (KQ1.out _ _ _ _ (KQ1.out _ _ _ _ (KQ1.out _ _ _ _ (KQ1.out _ _ _ _ (KQ1.out _ _ _ _ (KQ1.out _ _ _ _ (KQ1.out _ _ _ _ (KQ1.out _ _ _ _ (KQ1.out _ _ _ _ (by assumption) (Or.inr mq1a) (by omega)) (Or.inr mq1a) (by omega)) (Or.inr mq1a) (by omega)) (Or.inr mq1a) (by omega)) (Or.inr mq1a) (by omega)) (Or.inr mq1a) (by omega)) (Or.inr mq1a) (by omega)) (Or.inr mq1a) (by omega)) (Or.inr mq1a) (by omega)) (Or.inr mq1a) (by omega)) (Or.inr mq1a) (by omega)) (Or.inr mq1a) (by omega)) (Or.inr mq1a) (by omega))
      | with_reducible exact KL1.out _ _ (by assumption) hb
      | with_reducible exact KA1.out _ _ (by assumption)
      | with_reducible exact KS1.out _ _ _ (by omega) (by assumption)
      | with_reducible exact KD1.out _ hS1
      | with_reducible exact KD1.out _ (KA1.out _ _ hS1)
      | with_reducible assumption)
    (first
      | (go_at_call 13; go_fit (con_G (G.below (KB1.out _ (by first | with_reducible assumption | with_reducible exact KA1.out _ _ (by assumption) | with_reducible exact KD1.out _ (by assumption))))); rintro e w' ⟨rfl, hb⟩; (first | replace B1 := B1.later hb | replace B1 := B1.drew.later hb | skip))
      | (go_at_call 21; go_fit (base_climb (G.below (KB1.out _ (by first | with_reducible assumption | with_reducible exact KA1.out _ _ (by assumption) | with_reducible exact KD1.out _ (by assumption)))) fA); rintro e w' ⟨s0, s1, s2, s3, s4, s5, t0, t1, t2, t3, t4, t5, kk, rfl, TS, hb⟩; (first | replace B1 := B1.later hb | replace B1 := B1.drew.later hb | skip); have lt1 := B1.lt; have d0 := B1.cell 0 _ rfl; have g0 := B1.frozen 0; have d1 := B1.cell 1 _ rfl; have g1 := B1.frozen 1; have d2 := B1.cell 2 _ rfl; have g2 := B1.frozen 2; have d3 := B1.cell 3 _ rfl; have g3 := B1.frozen 3; have d4 := B1.cell 4 _ rfl; have g4 := B1.frozen 4; have d5 := B1.cell 5 _ rfl; have g5 := B1.frozen 5; have d6 := B1.cell 6 _ rfl; have g6 := B1.frozen 6; have d7 := B1.cell 7 _ rfl; have g7 := B1.frozen 7; have d8 := B1.cell 8 _ rfl; have g8 := B1.frozen 8; have d9 := B1.cell 9 _ rfl; have g9 := B1.frozen 9; have d10 := B1.cell 10 _ rfl; have g10 := B1.frozen 10; have d11 := B1.cell 11 _ rfl; have g11 := B1.frozen 11; have d12 := B1.cell 12 _ rfl; have g12 := B1.frozen 12))
  all_goals go_wp2
  all_goals exact bodyPost_ret (v := .agg #[.int .u64 s0, .int .u64 s1, .int .u64 s2, .int .u64 s3, .int .u64 s4, .int .u64 s5, .int .u64 t0, .int .u64 t1, .int .u64 t2, .int .u64 t3, .int .u64 t4, .int .u64 t5, .bool kk]) (by simp [results, Tryd.results7, go_sem, d0, d1, d2, d3, d4, d5, d6, d7, d8, d9, d10, d11, d12]) rfl ⟨s0, s1, s2, s3, s4, s5, t0, t1, t2, t3, t4, t5, kk, rfl, TS, KB1.out _ (by assumption)⟩
end Go.Proofs.YtjpnbbhpgchbpaaDoor
