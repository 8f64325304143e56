/- curve.Decode: a point's bytes, read. -/
import Derived.Test.YtpgidlnpcjbfhaaDoorRows
import Derived.Test.YtpgidlnpcjbfhaaDoorCHolds
import Derived.Test.YtpgidlnpcjbfhaaDoorCFaultN
import Derived.Test.YtpgidlnpcjbfhaaDoorFDecode
import Derived.Deep.WholeRow
import Derived.Deep.RegionHeld3
import Derived.Deep.DeepCutAuto
import Derived.Deep.DeepFit
namespace Go.Proofs.YtpgidlnpcjbfhaaDoor
open Go.RowKit

theorem ifaceC_not (c : Int) : ∀ w : World, (binOp .neq 33 (.iface 36 (.int .i64 c)) .nilIface).run Tryd.prog w = .ok (.bool true) w := fun _ => by kernel_rfl
theorem ifaceC_nil : ∀ w : World, (binOp .neq 33 .nilIface .nilIface).run Tryd.prog w = .ok (.bool false) w := fun _ => by kernel_rfl

set_option maxRecDepth 100000 in
set_option maxHeartbeats 4000000 in
theorem dec_short {v : Value} {bs : List Int} {w : World} (h : Bs w v bs) (hl : bs.length < 97) :
    Calls Tryd.prog 23 #[v] w fun e w' => e = .returned (.tuple #[.agg #[.int .u64 0, .int .u64 0, .int .u64 0, .int .u64 0, .int .u64 0, .int .u64 0, .int .u64 0, .int .u64 0, .int .u64 0, .int .u64 0, .int .u64 0, .int .u64 0, .bool false], .iface 36 (.int .i64 6)]) ∧ Below w.heap.size w w' := by
  obtain ⟨ao, cap, rfl, h2, h3, -⟩ := h
  unfold maxLen at h2
  have g1 : (bs.length : Int) < 97 := by omega
  have B0 := Blk.new w [.int .u64 0, .int .u64 0, .int .u64 0, .int .u64 0, .int .u64 0, .int .u64 0, .int .u64 0, .int .u64 0, .int .u64 0, .int .u64 0, .int .u64 0, .int .u64 0, .bool false] 26 (w.heap.size) rfl
  have bel : Below w.heap.size w (w.alloc (.cells [.int .u64 0, .int .u64 0, .int .u64 0, .int .u64 0, .int .u64 0, .int .u64 0, .int .u64 0, .int .u64 0, .int .u64 0, .int .u64 0, .int .u64 0, .int .u64 0, .bool false].toArray 26)) := ((Below.refl _ _).alloc (Nat.le_refl _) _)
  go_enter Tryd.func23, Tryd.ntmps23
  go_upto_region 1 with fail
  try simp only [us, List.map_cons, List.map_nil] at bel
  generalize (w.alloc (Obj.cells #[.int .u64 0, .int .u64 0, .int .u64 0, .int .u64 0, .int .u64 0, .int .u64 0, .int .u64 0, .int .u64 0, .int .u64 0, .int .u64 0, .int .u64 0, .int .u64 0, .bool false] 26)) = W at *
  have Br := B0
  clear B0
  have ltr := Br.lt
  have d0 := Br.cell 0 _ rfl; have g0 := Br.frozen 0; have d1 := Br.cell 1 _ rfl; have g1 := Br.frozen 1; have d2 := Br.cell 2 _ rfl; have g2 := Br.frozen 2; have d3 := Br.cell 3 _ rfl; have g3 := Br.frozen 3; have d4 := Br.cell 4 _ rfl; have g4 := Br.frozen 4; have d5 := Br.cell 5 _ rfl; have g5 := Br.frozen 5; have d6 := Br.cell 6 _ rfl; have g6 := Br.frozen 6; have d7 := Br.cell 7 _ rfl; have g7 := Br.frozen 7; have d8 := Br.cell 8 _ rfl; have g8 := Br.frozen 8; have d9 := Br.cell 9 _ rfl; have g9 := Br.frozen 9; have d10 := Br.cell 10 _ rfl; have g10 := Br.frozen 10; have d11 := Br.cell 11 _ rfl; have g11 := Br.frozen 11; have d12 := Br.cell 12 _ rfl; have g12 := Br.frozen 12
  go_wp2_with fail
  exact bodyPost_ret (v := .tuple #[.agg #[.int .u64 0, .int .u64 0, .int .u64 0, .int .u64 0, .int .u64 0, .int .u64 0, .int .u64 0, .int .u64 0, .int .u64 0, .int .u64 0, .int .u64 0, .int .u64 0, .bool false], .iface 36 (.int .i64 6)]) (by simp [results, Tryd.results23, go_sem, d0, d1, d2, d3, d4, d5, d6, d7, d8, d9, d10, d11, d12]) rfl ⟨rfl, below_put13 bel (by omega)⟩

set_option maxRecDepth 100000 in
set_option maxHeartbeats 4000000 in
theorem dec_more {v : Value} {bs : List Int} {w : World} (h : Bs w v bs) (hl : 97 < bs.length) :
    Calls Tryd.prog 23 #[v] w fun e w' => e = .returned (.tuple #[.agg #[.int .u64 0, .int .u64 0, .int .u64 0, .int .u64 0, .int .u64 0, .int .u64 0, .int .u64 0, .int .u64 0, .int .u64 0, .int .u64 0, .int .u64 0, .int .u64 0, .bool false], .iface 36 (.int .i64 8)]) ∧ Below w.heap.size w w' := by
  obtain ⟨ao, cap, rfl, h2, h3, -⟩ := h
  unfold maxLen at h2
  have g1 : ¬ (bs.length : Int) < 97 := by omega
  have g2 : (97 : Int) < (bs.length : Int) := by omega
  have B0 := Blk.new w [.int .u64 0, .int .u64 0, .int .u64 0, .int .u64 0, .int .u64 0, .int .u64 0, .int .u64 0, .int .u64 0, .int .u64 0, .int .u64 0, .int .u64 0, .int .u64 0, .bool false] 26 (w.heap.size) rfl
  have bel : Below w.heap.size w (w.alloc (.cells [.int .u64 0, .int .u64 0, .int .u64 0, .int .u64 0, .int .u64 0, .int .u64 0, .int .u64 0, .int .u64 0, .int .u64 0, .int .u64 0, .int .u64 0, .int .u64 0, .bool false].toArray 26)) := ((Below.refl _ _).alloc (Nat.le_refl _) _)
  go_enter Tryd.func23, Tryd.ntmps23
  go_upto_region 1 with fail
  try simp only [us, List.map_cons, List.map_nil] at bel
  generalize (w.alloc (Obj.cells #[.int .u64 0, .int .u64 0, .int .u64 0, .int .u64 0, .int .u64 0, .int .u64 0, .int .u64 0, .int .u64 0, .int .u64 0, .int .u64 0, .int .u64 0, .int .u64 0, .bool false] 26)) = W at *
  have Br := B0
  clear B0
  have ltr := Br.lt
  have d0 := Br.cell 0 _ rfl; have g0 := Br.frozen 0; have d1 := Br.cell 1 _ rfl; have g1 := Br.frozen 1; have d2 := Br.cell 2 _ rfl; have g2 := Br.frozen 2; have d3 := Br.cell 3 _ rfl; have g3 := Br.frozen 3; have d4 := Br.cell 4 _ rfl; have g4 := Br.frozen 4; have d5 := Br.cell 5 _ rfl; have g5 := Br.frozen 5; have d6 := Br.cell 6 _ rfl; have g6 := Br.frozen 6; have d7 := Br.cell 7 _ rfl; have g7 := Br.frozen 7; have d8 := Br.cell 8 _ rfl; have g8 := Br.frozen 8; have d9 := Br.cell 9 _ rfl; have g9 := Br.frozen 9; have d10 := Br.cell 10 _ rfl; have g10 := Br.frozen 10; have d11 := Br.cell 11 _ rfl; have g11 := Br.frozen 11; have d12 := Br.cell 12 _ rfl; have g12 := Br.frozen 12
  go_wp2_with fail
  exact bodyPost_ret (v := .tuple #[.agg #[.int .u64 0, .int .u64 0, .int .u64 0, .int .u64 0, .int .u64 0, .int .u64 0, .int .u64 0, .int .u64 0, .int .u64 0, .int .u64 0, .int .u64 0, .int .u64 0, .bool false], .iface 36 (.int .i64 8)]) (by simp [results, Tryd.results23, go_sem, d0, d1, d2, d3, d4, d5, d6, d7, d8, d9, d10, d11, d12]) rfl ⟨rfl, below_put13 bel (by omega)⟩

set_option maxRecDepth 100000 in
set_option maxHeartbeats 4000000 in
theorem dec_form {v : Value} {bs : List Int} {w : World} (h : Bs w v bs) (hl : bs.length = 97) (hf : ¬ bs.getD 0 0 = 4) :
    Calls Tryd.prog 23 #[v] w fun e w' => e = .returned (.tuple #[.agg #[.int .u64 0, .int .u64 0, .int .u64 0, .int .u64 0, .int .u64 0, .int .u64 0, .int .u64 0, .int .u64 0, .int .u64 0, .int .u64 0, .int .u64 0, .int .u64 0, .bool false], .iface 36 (.int .i64 7)]) ∧ Below w.heap.size w w' := by
  obtain ⟨b, o, cap, rfl, k1, k2, ltb, c0, SX, SY⟩ := bs97 h hl
  unfold maxLen at k2
  clear h
  obtain ⟨f, ef⟩ : ∃ f, bs.getD 0 0 = f := ⟨_, rfl⟩
  rw [ef] at c0 hf
  clear ef hl SX SY
  have B0 := Blk.new w [.int .u64 0, .int .u64 0, .int .u64 0, .int .u64 0, .int .u64 0, .int .u64 0, .int .u64 0, .int .u64 0, .int .u64 0, .int .u64 0, .int .u64 0, .int .u64 0, .bool false] 26 (w.heap.size) rfl
  have bel : Below w.heap.size w (w.alloc (.cells [.int .u64 0, .int .u64 0, .int .u64 0, .int .u64 0, .int .u64 0, .int .u64 0, .int .u64 0, .int .u64 0, .int .u64 0, .int .u64 0, .int .u64 0, .int .u64 0, .bool false].toArray 26)) := ((Below.refl _ _).alloc (Nat.le_refl _) _)
  go_enter Tryd.func23, Tryd.ntmps23
  go_upto_region 1 with fail
  try simp only [us, List.map_cons, List.map_nil] at bel
  generalize (w.alloc (Obj.cells #[.int .u64 0, .int .u64 0, .int .u64 0, .int .u64 0, .int .u64 0, .int .u64 0, .int .u64 0, .int .u64 0, .int .u64 0, .int .u64 0, .int .u64 0, .int .u64 0, .bool false] 26)) = W at *
  have Br := B0
  clear B0
  have c1 := cell_later c0 bel
  have lt1 := Nat.lt_of_lt_of_le ltb bel.size
  clear c0
  have ltr := Br.lt
  have d0 := Br.cell 0 _ rfl; have g0 := Br.frozen 0; have d1 := Br.cell 1 _ rfl; have g1 := Br.frozen 1; have d2 := Br.cell 2 _ rfl; have g2 := Br.frozen 2; have d3 := Br.cell 3 _ rfl; have g3 := Br.frozen 3; have d4 := Br.cell 4 _ rfl; have g4 := Br.frozen 4; have d5 := Br.cell 5 _ rfl; have g5 := Br.frozen 5; have d6 := Br.cell 6 _ rfl; have g6 := Br.frozen 6; have d7 := Br.cell 7 _ rfl; have g7 := Br.frozen 7; have d8 := Br.cell 8 _ rfl; have g8 := Br.frozen 8; have d9 := Br.cell 9 _ rfl; have g9 := Br.frozen 9; have d10 := Br.cell 10 _ rfl; have g10 := Br.frozen 10; have d11 := Br.cell 11 _ rfl; have g11 := Br.frozen 11; have d12 := Br.cell 12 _ rfl; have g12 := Br.frozen 12
  go_wp2_with fail
  exact bodyPost_ret (v := .tuple #[.agg #[.int .u64 0, .int .u64 0, .int .u64 0, .int .u64 0, .int .u64 0, .int .u64 0, .int .u64 0, .int .u64 0, .int .u64 0, .int .u64 0, .int .u64 0, .int .u64 0, .bool false], .iface 36 (.int .i64 7)]) (by simp [results, Tryd.results23, go_sem, d0, d1, d2, d3, d4, d5, d6, d7, d8, d9, d10, d11, d12]) rfl ⟨rfl, below_put13 bel (by omega)⟩

set_option maxRecDepth 100000 in
set_option maxHeartbeats 4000000 in
theorem dec_x {v : Value} {bs : List Int} {w : World} (G : GlsC w) (h : Bs w v bs) (hB : byt bs) (hl : bs.length = 97) (hf : bs.getD 0 0 = 4) (hx : ¬ beN (ptX bs) < PP) :
    Calls Tryd.prog 23 #[v] w fun e w' => e = .returned (.tuple #[.agg #[.int .u64 0, .int .u64 0, .int .u64 0, .int .u64 0, .int .u64 0, .int .u64 0, .int .u64 0, .int .u64 0, .int .u64 0, .int .u64 0, .int .u64 0, .int .u64 0, .bool false], .iface 36 (.int .i64 3)]) ∧ Below w.heap.size w w' := by
  have HX : Hid _ := Int.not_lt.1 hx
  clear hx
  have q1 := ifaceC_not 3
  obtain ⟨b, o, cap, rfl, k1, k2, ltb, c0, SX, SY⟩ := bs97 h hl
  unfold maxLen at k2
  clear h
  have LX : Hid _ := ptX_len hl
  have LY : Hid _ := ptY_len hl
  have YX := ptX_byt hB
  have YY := ptY_byt hB
  rw [hf] at c0
  clear hl hf hB
  have B0 := Blk.new w [.int .u64 0, .int .u64 0, .int .u64 0, .int .u64 0, .int .u64 0, .int .u64 0, .int .u64 0, .int .u64 0, .int .u64 0, .int .u64 0, .int .u64 0, .int .u64 0, .bool false] 26 (w.heap.size) rfl
  have bel : Below w.heap.size w (w.alloc (.cells [.int .u64 0, .int .u64 0, .int .u64 0, .int .u64 0, .int .u64 0, .int .u64 0, .int .u64 0, .int .u64 0, .int .u64 0, .int .u64 0, .int .u64 0, .int .u64 0, .bool false].toArray 26)) := ((Below.refl _ _).alloc (Nat.le_refl _) _)
  go_enter Tryd.func23, Tryd.ntmps23
  go_upto_region 1 with fail
  try simp only [us, List.map_cons, List.map_nil] at bel
  generalize (w.alloc (Obj.cells #[.int .u64 0, .int .u64 0, .int .u64 0, .int .u64 0, .int .u64 0, .int .u64 0, .int .u64 0, .int .u64 0, .int .u64 0, .int .u64 0, .int .u64 0, .int .u64 0, .bool false] 26)) = W at *
  have Br := B0
  clear B0
  have c1 := cell_later c0 bel
  have lt1 := Nat.lt_of_lt_of_le ltb bel.size
  clear c0
  replace SX := SX.later bel
  replace SY := SY.later bel
  go_wp2_with fail
  refine (decode_range (G.below bel).fld SX LX.out YX HX.out).mono ?_
  rintro e w1 ⟨rfl, hb⟩
  replace Br := Br.later hb
  replace bel := below_step bel hb
  clear hb
  clear c1 lt1 SX SY
  replace Br := Br.alloc (.cells [.int .u64 0, .int .u64 0, .int .u64 0, .int .u64 0, .int .u64 0, .int .u64 0].toArray 24)
  have Bx := Blk.new w1 [.int .u64 0, .int .u64 0, .int .u64 0, .int .u64 0, .int .u64 0, .int .u64 0] 24 w1.heap.size rfl
  replace bel := below_alloc (o := .cells [.int .u64 0, .int .u64 0, .int .u64 0, .int .u64 0, .int .u64 0, .int .u64 0].toArray 24) bel
  have lwx : ∀ z, z < w1.heap.size → z ≠ w1.heap.size := fun z h => Nat.ne_of_lt h
  go_upto_region 8 with fail
  obtain ⟨bx, hbx⟩ : ∃ b, b = w1.heap.size := ⟨_, rfl⟩
  clear lwx
  generalize w1.alloc (Obj.cells #[.int .u64 0, .int .u64 0, .int .u64 0, .int .u64 0, .int .u64 0, .int .u64 0] 24) = Wx at *
  rw [← hbx] at Bx ⊢
  clear hbx
  have ltr := Br.lt
  have d0 := Br.cell 0 _ rfl; have g0 := Br.frozen 0; have d1 := Br.cell 1 _ rfl; have g1 := Br.frozen 1; have d2 := Br.cell 2 _ rfl; have g2 := Br.frozen 2; have d3 := Br.cell 3 _ rfl; have g3 := Br.frozen 3; have d4 := Br.cell 4 _ rfl; have g4 := Br.frozen 4; have d5 := Br.cell 5 _ rfl; have g5 := Br.frozen 5; have d6 := Br.cell 6 _ rfl; have g6 := Br.frozen 6; have d7 := Br.cell 7 _ rfl; have g7 := Br.frozen 7; have d8 := Br.cell 8 _ rfl; have g8 := Br.frozen 8; have d9 := Br.cell 9 _ rfl; have g9 := Br.frozen 9; have d10 := Br.cell 10 _ rfl; have g10 := Br.frozen 10; have d11 := Br.cell 11 _ rfl; have g11 := Br.frozen 11; have d12 := Br.cell 12 _ rfl; have g12 := Br.frozen 12
  go_wp2_with fail
  exact bodyPost_ret (v := .tuple #[.agg #[.int .u64 0, .int .u64 0, .int .u64 0, .int .u64 0, .int .u64 0, .int .u64 0, .int .u64 0, .int .u64 0, .int .u64 0, .int .u64 0, .int .u64 0, .int .u64 0, .bool false], .iface 36 (.int .i64 3)]) (by simp [results, Tryd.results23, go_sem, d0, d1, d2, d3, d4, d5, d6, d7, d8, d9, d10, d11, d12]) rfl ⟨rfl, below_put13 bel (by omega)⟩

set_option maxRecDepth 100000 in
set_option maxHeartbeats 4000000 in
theorem dec_y {v : Value} {bs : List Int} {w : World} (G : GlsC w) (h : Bs w v bs) (hB : byt bs) (hl : bs.length = 97) (hf : bs.getD 0 0 = 4) (hx : beN (ptX bs) < PP) (hy : ¬ beN (ptY bs) < PP) :
    Calls Tryd.prog 23 #[v] w fun e w' => e = .returned (.tuple #[.agg #[.int .u64 0, .int .u64 0, .int .u64 0, .int .u64 0, .int .u64 0, .int .u64 0, .int .u64 0, .int .u64 0, .int .u64 0, .int .u64 0, .int .u64 0, .int .u64 0, .bool false], .iface 36 (.int .i64 3)]) ∧ Below w.heap.size w w' := by
  have HX : Hid _ := hx
  have HY : Hid _ := Int.not_lt.1 hy
  clear hx hy
  have q0 := ifaceC_nil
  have q1 := ifaceC_not 3
  obtain ⟨b, o, cap, rfl, k1, k2, ltb, c0, SX, SY⟩ := bs97 h hl
  unfold maxLen at k2
  clear h
  have LX : Hid _ := ptX_len hl
  have LY : Hid _ := ptY_len hl
  have YX := ptX_byt hB
  have YY := ptY_byt hB
  rw [hf] at c0
  clear hl hf hB
  have B0 := Blk.new w [.int .u64 0, .int .u64 0, .int .u64 0, .int .u64 0, .int .u64 0, .int .u64 0, .int .u64 0, .int .u64 0, .int .u64 0, .int .u64 0, .int .u64 0, .int .u64 0, .bool false] 26 (w.heap.size) rfl
  have bel : Below w.heap.size w (w.alloc (.cells [.int .u64 0, .int .u64 0, .int .u64 0, .int .u64 0, .int .u64 0, .int .u64 0, .int .u64 0, .int .u64 0, .int .u64 0, .int .u64 0, .int .u64 0, .int .u64 0, .bool false].toArray 26)) := ((Below.refl _ _).alloc (Nat.le_refl _) _)
  go_enter Tryd.func23, Tryd.ntmps23
  go_upto_region 1 with fail
  try simp only [us, List.map_cons, List.map_nil] at bel
  generalize (w.alloc (Obj.cells #[.int .u64 0, .int .u64 0, .int .u64 0, .int .u64 0, .int .u64 0, .int .u64 0, .int .u64 0, .int .u64 0, .int .u64 0, .int .u64 0, .int .u64 0, .int .u64 0, .bool false] 26)) = W at *
  have Br := B0
  clear B0
  have c1 := cell_later c0 bel
  have lt1 := Nat.lt_of_lt_of_le ltb bel.size
  clear c0
  replace SX := SX.later bel
  replace SY := SY.later bel
  go_wp2_with fail
  refine (decode_ok (G.below bel).fld SX LX.out YX HX.out).mono ?_
  rintro e w1 ⟨s0, s1, s2, s3, s4, s5, rfl, fS, hs, hb⟩
  replace Br := Br.later hb
  replace bel := below_step bel hb
  clear SX c1 lt1
  have HS : Hid _ := hs
  clear hs
  replace SY := SY.later (by assumption)
  clear hb
  replace SY := SY.later ((Below.refl _ _).alloc (Nat.le_refl _) (.cells [.int .u64 s0, .int .u64 s1, .int .u64 s2, .int .u64 s3, .int .u64 s4, .int .u64 s5].toArray 24))
  replace Br := Br.alloc (.cells [.int .u64 s0, .int .u64 s1, .int .u64 s2, .int .u64 s3, .int .u64 s4, .int .u64 s5].toArray 24)
  have Bx := Blk.new w1 [.int .u64 s0, .int .u64 s1, .int .u64 s2, .int .u64 s3, .int .u64 s4, .int .u64 s5] 24 w1.heap.size rfl
  replace bel := below_alloc (o := .cells [.int .u64 s0, .int .u64 s1, .int .u64 s2, .int .u64 s3, .int .u64 s4, .int .u64 s5].toArray 24) bel
  have lwx : ∀ z, z < w1.heap.size → z ≠ w1.heap.size := fun z h => Nat.ne_of_lt h
  go_upto_region 8 with fail
  obtain ⟨bx, hbx⟩ : ∃ b, b = w1.heap.size := ⟨_, rfl⟩
  clear lwx
  generalize w1.alloc (Obj.cells #[.int .u64 s0, .int .u64 s1, .int .u64 s2, .int .u64 s3, .int .u64 s4, .int .u64 s5] 24) = Wx at *
  rw [← hbx] at Bx ⊢
  clear hbx
  go_wp2_with fail
  refine (decode_range (G.below bel).fld SY LY.out YY HY.out).mono ?_
  rintro e w2 ⟨rfl, hb⟩
  replace Br := Br.later hb
  replace Bx := Bx.later hb
  replace bel := below_step bel hb
  clear hb
  clear SY
  replace Br := Br.alloc (.cells [.int .u64 0, .int .u64 0, .int .u64 0, .int .u64 0, .int .u64 0, .int .u64 0].toArray 24)
  replace Bx := Bx.alloc (.cells [.int .u64 0, .int .u64 0, .int .u64 0, .int .u64 0, .int .u64 0, .int .u64 0].toArray 24)
  have Byy := Blk.new w2 [.int .u64 0, .int .u64 0, .int .u64 0, .int .u64 0, .int .u64 0, .int .u64 0] 24 w2.heap.size rfl
  replace bel := below_alloc (o := .cells [.int .u64 0, .int .u64 0, .int .u64 0, .int .u64 0, .int .u64 0, .int .u64 0].toArray 24) bel
  have lwyy : ∀ z, z < w2.heap.size → z ≠ w2.heap.size := fun z h => Nat.ne_of_lt h
  go_upto_region 11 with fail
  obtain ⟨byy, hbyy⟩ : ∃ b, b = w2.heap.size := ⟨_, rfl⟩
  clear lwyy
  generalize w2.alloc (Obj.cells #[.int .u64 0, .int .u64 0, .int .u64 0, .int .u64 0, .int .u64 0, .int .u64 0] 24) = Wyy at *
  rw [← hbyy] at Byy ⊢
  clear hbyy
  have ltr := Br.lt
  have d0 := Br.cell 0 _ rfl; have g0 := Br.frozen 0; have d1 := Br.cell 1 _ rfl; have g1 := Br.frozen 1; have d2 := Br.cell 2 _ rfl; have g2 := Br.frozen 2; have d3 := Br.cell 3 _ rfl; have g3 := Br.frozen 3; have d4 := Br.cell 4 _ rfl; have g4 := Br.frozen 4; have d5 := Br.cell 5 _ rfl; have g5 := Br.frozen 5; have d6 := Br.cell 6 _ rfl; have g6 := Br.frozen 6; have d7 := Br.cell 7 _ rfl; have g7 := Br.frozen 7; have d8 := Br.cell 8 _ rfl; have g8 := Br.frozen 8; have d9 := Br.cell 9 _ rfl; have g9 := Br.frozen 9; have d10 := Br.cell 10 _ rfl; have g10 := Br.frozen 10; have d11 := Br.cell 11 _ rfl; have g11 := Br.frozen 11; have d12 := Br.cell 12 _ rfl; have g12 := Br.frozen 12
  go_wp2_with fail
  exact bodyPost_ret (v := .tuple #[.agg #[.int .u64 0, .int .u64 0, .int .u64 0, .int .u64 0, .int .u64 0, .int .u64 0, .int .u64 0, .int .u64 0, .int .u64 0, .int .u64 0, .int .u64 0, .int .u64 0, .bool false], .iface 36 (.int .i64 3)]) (by simp [results, Tryd.results23, go_sem, d0, d1, d2, d3, d4, d5, d6, d7, d8, d9, d10, d11, d12]) rfl ⟨rfl, below_put13 bel (by omega)⟩

set_option maxRecDepth 100000 in
set_option maxHeartbeats 4000000 in
theorem dec_none {v : Value} {bs : List Int} {w : World} (G : GlsC w) (h : Bs w v bs) (hB : byt bs) (hl : bs.length = 97) (hf : bs.getD 0 0 = 4) (hx : beN (ptX bs) < PP) (hy : beN (ptY bs) < PP) (ho : ¬ IsOn false (beN (ptX bs)) (beN (ptY bs))) :
    Calls Tryd.prog 23 #[v] w fun e w' => e = .returned (.tuple #[.agg #[.int .u64 0, .int .u64 0, .int .u64 0, .int .u64 0, .int .u64 0, .int .u64 0, .int .u64 0, .int .u64 0, .int .u64 0, .int .u64 0, .int .u64 0, .int .u64 0, .bool false], .iface 36 (.int .i64 4)]) ∧ Below w.heap.size w w' := by
  have HX : Hid _ := hx
  have HY : Hid _ := hy
  clear hx hy
  have q0 := ifaceC_nil
  have HO : Hid (¬ IsOn false (beN (ptX bs)) (beN (ptY bs))) := ho
  clear ho
  obtain ⟨b, o, cap, rfl, k1, k2, ltb, c0, SX, SY⟩ := bs97 h hl
  unfold maxLen at k2
  clear h
  have LX : Hid _ := ptX_len hl
  have LY : Hid _ := ptY_len hl
  have YX := ptX_byt hB
  have YY := ptY_byt hB
  rw [hf] at c0
  clear hl hf hB
  have B0 := Blk.new w [.int .u64 0, .int .u64 0, .int .u64 0, .int .u64 0, .int .u64 0, .int .u64 0, .int .u64 0, .int .u64 0, .int .u64 0, .int .u64 0, .int .u64 0, .int .u64 0, .bool false] 26 (w.heap.size) rfl
  have bel : Below w.heap.size w (w.alloc (.cells [.int .u64 0, .int .u64 0, .int .u64 0, .int .u64 0, .int .u64 0, .int .u64 0, .int .u64 0, .int .u64 0, .int .u64 0, .int .u64 0, .int .u64 0, .int .u64 0, .bool false].toArray 26)) := ((Below.refl _ _).alloc (Nat.le_refl _) _)
  go_enter Tryd.func23, Tryd.ntmps23
  go_upto_region 1 with fail
  try simp only [us, List.map_cons, List.map_nil] at bel
  generalize (w.alloc (Obj.cells #[.int .u64 0, .int .u64 0, .int .u64 0, .int .u64 0, .int .u64 0, .int .u64 0, .int .u64 0, .int .u64 0, .int .u64 0, .int .u64 0, .int .u64 0, .int .u64 0, .bool false] 26)) = W at *
  have Br := B0
  clear B0
  have c1 := cell_later c0 bel
  have lt1 := Nat.lt_of_lt_of_le ltb bel.size
  clear c0
  replace SX := SX.later bel
  replace SY := SY.later bel
  go_wp2_with fail
  refine (decode_ok (G.below bel).fld SX LX.out YX HX.out).mono ?_
  rintro e w1 ⟨s0, s1, s2, s3, s4, s5, rfl, fS, hs, hb⟩
  replace Br := Br.later hb
  replace bel := below_step bel hb
  clear SX c1 lt1
  have HS : Hid _ := hs
  clear hs
  replace SY := SY.later (by assumption)
  clear hb
  replace SY := SY.later ((Below.refl _ _).alloc (Nat.le_refl _) (.cells [.int .u64 s0, .int .u64 s1, .int .u64 s2, .int .u64 s3, .int .u64 s4, .int .u64 s5].toArray 24))
  replace Br := Br.alloc (.cells [.int .u64 s0, .int .u64 s1, .int .u64 s2, .int .u64 s3, .int .u64 s4, .int .u64 s5].toArray 24)
  have Bx := Blk.new w1 [.int .u64 s0, .int .u64 s1, .int .u64 s2, .int .u64 s3, .int .u64 s4, .int .u64 s5] 24 w1.heap.size rfl
  replace bel := below_alloc (o := .cells [.int .u64 s0, .int .u64 s1, .int .u64 s2, .int .u64 s3, .int .u64 s4, .int .u64 s5].toArray 24) bel
  have lwx : ∀ z, z < w1.heap.size → z ≠ w1.heap.size := fun z h => Nat.ne_of_lt h
  go_upto_region 8 with fail
  obtain ⟨bx, hbx⟩ : ∃ b, b = w1.heap.size := ⟨_, rfl⟩
  clear lwx
  generalize w1.alloc (Obj.cells #[.int .u64 s0, .int .u64 s1, .int .u64 s2, .int .u64 s3, .int .u64 s4, .int .u64 s5] 24) = Wx at *
  rw [← hbx] at Bx ⊢
  clear hbx
  go_wp2_with fail
  refine (decode_ok (G.below bel).fld SY LY.out YY HY.out).mono ?_
  rintro e w2 ⟨t0, t1, t2, t3, t4, t5, rfl, fT, ht, hb⟩
  replace Br := Br.later hb
  replace Bx := Bx.later hb
  replace bel := below_step bel hb
  clear hb
  have HT : Hid _ := ht
  clear ht SY
  replace Br := Br.alloc (.cells [.int .u64 t0, .int .u64 t1, .int .u64 t2, .int .u64 t3, .int .u64 t4, .int .u64 t5].toArray 24)
  replace Bx := Bx.alloc (.cells [.int .u64 t0, .int .u64 t1, .int .u64 t2, .int .u64 t3, .int .u64 t4, .int .u64 t5].toArray 24)
  have Bv := Blk.new w2 [.int .u64 t0, .int .u64 t1, .int .u64 t2, .int .u64 t3, .int .u64 t4, .int .u64 t5] 24 w2.heap.size rfl
  replace bel := below_alloc (o := .cells [.int .u64 t0, .int .u64 t1, .int .u64 t2, .int .u64 t3, .int .u64 t4, .int .u64 t5].toArray 24) bel
  have lwv : ∀ z, z < w2.heap.size → z ≠ w2.heap.size := fun z h => Nat.ne_of_lt h
  go_upto_region 13 with fail
  obtain ⟨bv, hbv⟩ : ∃ b, b = w2.heap.size := ⟨_, rfl⟩
  clear lwv
  generalize w2.alloc (Obj.cells #[.int .u64 t0, .int .u64 t1, .int .u64 t2, .int .u64 t3, .int .u64 t4, .int .u64 t5] 24) = Wv at *
  rw [← hbv] at Bv ⊢
  clear hbv
  have ltx := Bx.lt
  have cx0 := Bx.cell 0 _ rfl
  have cx1 := Bx.cell 1 _ rfl
  have cx2 := Bx.cell 2 _ rfl
  have cx3 := Bx.cell 3 _ rfl
  have cx4 := Bx.cell 4 _ rfl
  have cx5 := Bx.cell 5 _ rfl
  have ltv := Bv.lt
  have cv0 := Bv.cell 0 _ rfl
  have cv1 := Bv.cell 1 _ rfl
  have cv2 := Bv.cell 2 _ rfl
  have cv3 := Bv.cell 3 _ rfl
  have cv4 := Bv.cell 4 _ rfl
  have cv5 := Bv.cell 5 _ rfl
  go_upto_region 14 with fail
  clear ltx cx0 cx1 cx2 cx3 cx4 cx5 ltv cv0 cv1 cv2 cv3 cv4 cv5
  replace Br := Br.alloc (.cells [.int .u64 s0, .int .u64 s1, .int .u64 s2, .int .u64 s3, .int .u64 s4, .int .u64 s5, .int .u64 t0, .int .u64 t1, .int .u64 t2, .int .u64 t3, .int .u64 t4, .int .u64 t5, .bool false].toArray 26)
  replace Bx := Bx.alloc (.cells [.int .u64 s0, .int .u64 s1, .int .u64 s2, .int .u64 s3, .int .u64 s4, .int .u64 s5, .int .u64 t0, .int .u64 t1, .int .u64 t2, .int .u64 t3, .int .u64 t4, .int .u64 t5, .bool false].toArray 26)
  replace Bv := Bv.alloc (.cells [.int .u64 s0, .int .u64 s1, .int .u64 s2, .int .u64 s3, .int .u64 s4, .int .u64 s5, .int .u64 t0, .int .u64 t1, .int .u64 t2, .int .u64 t3, .int .u64 t4, .int .u64 t5, .bool false].toArray 26)
  have Bp := Blk.new Wv [.int .u64 s0, .int .u64 s1, .int .u64 s2, .int .u64 s3, .int .u64 s4, .int .u64 s5, .int .u64 t0, .int .u64 t1, .int .u64 t2, .int .u64 t3, .int .u64 t4, .int .u64 t5, .bool false] 26 Wv.heap.size rfl
  replace bel := below_alloc (o := .cells [.int .u64 s0, .int .u64 s1, .int .u64 s2, .int .u64 s3, .int .u64 s4, .int .u64 s5, .int .u64 t0, .int .u64 t1, .int .u64 t2, .int .u64 t3, .int .u64 t4, .int .u64 t5, .bool false].toArray 26) bel
  obtain ⟨bp, hbp⟩ : ∃ b, b = Wv.heap.size := ⟨_, rfl⟩
  generalize Wv.alloc (Obj.cells #[.int .u64 s0, .int .u64 s1, .int .u64 s2, .int .u64 s3, .int .u64 s4, .int .u64 s5, .int .u64 t0, .int .u64 t1, .int .u64 t2, .int .u64 t3, .int .u64 t4, .int .u64 t5, .bool false] 26) = Wp at *
  rw [← hbp] at Bp ⊢
  clear hbp
  have ltp := Bp.lt
  have cp0 := Bp.cell 0 _ rfl
  have cp1 := Bp.cell 1 _ rfl
  have cp2 := Bp.cell 2 _ rfl
  have cp3 := Bp.cell 3 _ rfl
  have cp4 := Bp.cell 4 _ rfl
  have cp5 := Bp.cell 5 _ rfl
  have cp6 := Bp.cell 6 _ rfl
  have cp7 := Bp.cell 7 _ rfl
  have cp8 := Bp.cell 8 _ rfl
  have cp9 := Bp.cell 9 _ rfl
  have cp10 := Bp.cell 10 _ rfl
  have cp11 := Bp.cell 11 _ rfl
  have cp12 := Bp.cell 12 _ rfl
  go_wp2_with fail
  refine (con_On (n := false) (b := false) (G.below bel) fS fT (by rw [HS.out, HT.out]; exact ⟨fun h => absurd h (by simp), fun h => absurd h HO.out⟩)).mono ?_
  rintro e w3 ⟨rfl, hb⟩
  clear ltp cp0 cp1 cp2 cp3 cp4 cp5 cp6 cp7 cp8 cp9 cp10 cp11 cp12
  replace Br := Br.later hb
  replace Bx := Bx.later hb
  replace Bv := Bv.later hb
  replace Bp := Bp.later hb
  replace bel := below_step bel hb
  clear hb
  have ltr := Br.lt
  have d0 := Br.cell 0 _ rfl; have g0 := Br.frozen 0; have d1 := Br.cell 1 _ rfl; have g1 := Br.frozen 1; have d2 := Br.cell 2 _ rfl; have g2 := Br.frozen 2; have d3 := Br.cell 3 _ rfl; have g3 := Br.frozen 3; have d4 := Br.cell 4 _ rfl; have g4 := Br.frozen 4; have d5 := Br.cell 5 _ rfl; have g5 := Br.frozen 5; have d6 := Br.cell 6 _ rfl; have g6 := Br.frozen 6; have d7 := Br.cell 7 _ rfl; have g7 := Br.frozen 7; have d8 := Br.cell 8 _ rfl; have g8 := Br.frozen 8; have d9 := Br.cell 9 _ rfl; have g9 := Br.frozen 9; have d10 := Br.cell 10 _ rfl; have g10 := Br.frozen 10; have d11 := Br.cell 11 _ rfl; have g11 := Br.frozen 11; have d12 := Br.cell 12 _ rfl; have g12 := Br.frozen 12
  go_wp2_with fail
  exact bodyPost_ret (v := .tuple #[.agg #[.int .u64 0, .int .u64 0, .int .u64 0, .int .u64 0, .int .u64 0, .int .u64 0, .int .u64 0, .int .u64 0, .int .u64 0, .int .u64 0, .int .u64 0, .int .u64 0, .bool false], .iface 36 (.int .i64 4)]) (by simp [results, Tryd.results23, go_sem, d0, d1, d2, d3, d4, d5, d6, d7, d8, d9, d10, d11, d12]) rfl ⟨rfl, below_put13 bel (by omega)⟩

set_option maxRecDepth 100000 in
set_option maxHeartbeats 4000000 in
theorem dec_ok {v : Value} {bs : List Int} {w : World} (G : GlsC w) (h : Bs w v bs) (hB : byt bs) (hl : bs.length = 97) (hf : bs.getD 0 0 = 4) (hx : beN (ptX bs) < PP) (hy : beN (ptY bs) < PP) (ho : IsOn false (beN (ptX bs)) (beN (ptY bs))) :
    Calls Tryd.prog 23 #[v] w fun e w' => ∃ s0 s1 s2 s3 s4 s5 t0 t1 t2 t3 t4 t5 : Int, e = .returned (.tuple #[.agg #[.int .u64 s0, .int .u64 s1, .int .u64 s2, .int .u64 s3, .int .u64 s4, .int .u64 s5, .int .u64 t0, .int .u64 t1, .int .u64 t2, .int .u64 t3, .int .u64 t4, .int .u64 t5, .bool false], .nilIface]) ∧ fits [s0, s1, s2, s3, s4, s5] ∧ fits [t0, t1, t2, t3, t4, t5] ∧ v64 [s0, s1, s2, s3, s4, s5] = beN (ptX bs) ∧ v64 [t0, t1, t2, t3, t4, t5] = beN (ptY bs) ∧ Below w.heap.size w w' := by
  have HX : Hid _ := hx
  have HY : Hid _ := hy
  clear hx hy
  have q0 := ifaceC_nil
  have HO : Hid (IsOn false (beN (ptX bs)) (beN (ptY bs))) := ho
  clear ho
  obtain ⟨b, o, cap, rfl, k1, k2, ltb, c0, SX, SY⟩ := bs97 h hl
  unfold maxLen at k2
  clear h
  have LX : Hid _ := ptX_len hl
  have LY : Hid _ := ptY_len hl
  have YX := ptX_byt hB
  have YY := ptY_byt hB
  rw [hf] at c0
  clear hl hf hB
  have B0 := Blk.new w [.int .u64 0, .int .u64 0, .int .u64 0, .int .u64 0, .int .u64 0, .int .u64 0, .int .u64 0, .int .u64 0, .int .u64 0, .int .u64 0, .int .u64 0, .int .u64 0, .bool false] 26 (w.heap.size) rfl
  have bel : Below w.heap.size w (w.alloc (.cells [.int .u64 0, .int .u64 0, .int .u64 0, .int .u64 0, .int .u64 0, .int .u64 0, .int .u64 0, .int .u64 0, .int .u64 0, .int .u64 0, .int .u64 0, .int .u64 0, .bool false].toArray 26)) := ((Below.refl _ _).alloc (Nat.le_refl _) _)
  go_enter Tryd.func23, Tryd.ntmps23
  go_upto_region 1 with fail
  try simp only [us, List.map_cons, List.map_nil] at bel
  generalize (w.alloc (Obj.cells #[.int .u64 0, .int .u64 0, .int .u64 0, .int .u64 0, .int .u64 0, .int .u64 0, .int .u64 0, .int .u64 0, .int .u64 0, .int .u64 0, .int .u64 0, .int .u64 0, .bool false] 26)) = W at *
  have Br := B0
  clear B0
  have c1 := cell_later c0 bel
  have lt1 := Nat.lt_of_lt_of_le ltb bel.size
  clear c0
  replace SX := SX.later bel
  replace SY := SY.later bel
  go_wp2_with fail
  refine (decode_ok (G.below bel).fld SX LX.out YX HX.out).mono ?_
  rintro e w1 ⟨s0, s1, s2, s3, s4, s5, rfl, fS, hs, hb⟩
  replace Br := Br.later hb
  replace bel := below_step bel hb
  clear SX c1 lt1
  have HS : Hid _ := hs
  clear hs
  replace SY := SY.later (by assumption)
  clear hb
  replace SY := SY.later ((Below.refl _ _).alloc (Nat.le_refl _) (.cells [.int .u64 s0, .int .u64 s1, .int .u64 s2, .int .u64 s3, .int .u64 s4, .int .u64 s5].toArray 24))
  replace Br := Br.alloc (.cells [.int .u64 s0, .int .u64 s1, .int .u64 s2, .int .u64 s3, .int .u64 s4, .int .u64 s5].toArray 24)
  have Bx := Blk.new w1 [.int .u64 s0, .int .u64 s1, .int .u64 s2, .int .u64 s3, .int .u64 s4, .int .u64 s5] 24 w1.heap.size rfl
  replace bel := below_alloc (o := .cells [.int .u64 s0, .int .u64 s1, .int .u64 s2, .int .u64 s3, .int .u64 s4, .int .u64 s5].toArray 24) bel
  have lwx : ∀ z, z < w1.heap.size → z ≠ w1.heap.size := fun z h => Nat.ne_of_lt h
  go_upto_region 8 with fail
  obtain ⟨bx, hbx⟩ : ∃ b, b = w1.heap.size := ⟨_, rfl⟩
  clear lwx
  generalize w1.alloc (Obj.cells #[.int .u64 s0, .int .u64 s1, .int .u64 s2, .int .u64 s3, .int .u64 s4, .int .u64 s5] 24) = Wx at *
  rw [← hbx] at Bx ⊢
  clear hbx
  go_wp2_with fail
  refine (decode_ok (G.below bel).fld SY LY.out YY HY.out).mono ?_
  rintro e w2 ⟨t0, t1, t2, t3, t4, t5, rfl, fT, ht, hb⟩
  replace Br := Br.later hb
  replace Bx := Bx.later hb
  replace bel := below_step bel hb
  clear hb
  have HT : Hid _ := ht
  clear ht SY
  replace Br := Br.alloc (.cells [.int .u64 t0, .int .u64 t1, .int .u64 t2, .int .u64 t3, .int .u64 t4, .int .u64 t5].toArray 24)
  replace Bx := Bx.alloc (.cells [.int .u64 t0, .int .u64 t1, .int .u64 t2, .int .u64 t3, .int .u64 t4, .int .u64 t5].toArray 24)
  have Bv := Blk.new w2 [.int .u64 t0, .int .u64 t1, .int .u64 t2, .int .u64 t3, .int .u64 t4, .int .u64 t5] 24 w2.heap.size rfl
  replace bel := below_alloc (o := .cells [.int .u64 t0, .int .u64 t1, .int .u64 t2, .int .u64 t3, .int .u64 t4, .int .u64 t5].toArray 24) bel
  have lwv : ∀ z, z < w2.heap.size → z ≠ w2.heap.size := fun z h => Nat.ne_of_lt h
  go_upto_region 13 with fail
  obtain ⟨bv, hbv⟩ : ∃ b, b = w2.heap.size := ⟨_, rfl⟩
  clear lwv
  generalize w2.alloc (Obj.cells #[.int .u64 t0, .int .u64 t1, .int .u64 t2, .int .u64 t3, .int .u64 t4, .int .u64 t5] 24) = Wv at *
  rw [← hbv] at Bv ⊢
  clear hbv
  have ltx := Bx.lt
  have cx0 := Bx.cell 0 _ rfl
  have cx1 := Bx.cell 1 _ rfl
  have cx2 := Bx.cell 2 _ rfl
  have cx3 := Bx.cell 3 _ rfl
  have cx4 := Bx.cell 4 _ rfl
  have cx5 := Bx.cell 5 _ rfl
  have ltv := Bv.lt
  have cv0 := Bv.cell 0 _ rfl
  have cv1 := Bv.cell 1 _ rfl
  have cv2 := Bv.cell 2 _ rfl
  have cv3 := Bv.cell 3 _ rfl
  have cv4 := Bv.cell 4 _ rfl
  have cv5 := Bv.cell 5 _ rfl
  go_upto_region 14 with fail
  clear ltx cx0 cx1 cx2 cx3 cx4 cx5 ltv cv0 cv1 cv2 cv3 cv4 cv5
  replace Br := Br.alloc (.cells [.int .u64 s0, .int .u64 s1, .int .u64 s2, .int .u64 s3, .int .u64 s4, .int .u64 s5, .int .u64 t0, .int .u64 t1, .int .u64 t2, .int .u64 t3, .int .u64 t4, .int .u64 t5, .bool false].toArray 26)
  replace Bx := Bx.alloc (.cells [.int .u64 s0, .int .u64 s1, .int .u64 s2, .int .u64 s3, .int .u64 s4, .int .u64 s5, .int .u64 t0, .int .u64 t1, .int .u64 t2, .int .u64 t3, .int .u64 t4, .int .u64 t5, .bool false].toArray 26)
  replace Bv := Bv.alloc (.cells [.int .u64 s0, .int .u64 s1, .int .u64 s2, .int .u64 s3, .int .u64 s4, .int .u64 s5, .int .u64 t0, .int .u64 t1, .int .u64 t2, .int .u64 t3, .int .u64 t4, .int .u64 t5, .bool false].toArray 26)
  have Bp := Blk.new Wv [.int .u64 s0, .int .u64 s1, .int .u64 s2, .int .u64 s3, .int .u64 s4, .int .u64 s5, .int .u64 t0, .int .u64 t1, .int .u64 t2, .int .u64 t3, .int .u64 t4, .int .u64 t5, .bool false] 26 Wv.heap.size rfl
  replace bel := below_alloc (o := .cells [.int .u64 s0, .int .u64 s1, .int .u64 s2, .int .u64 s3, .int .u64 s4, .int .u64 s5, .int .u64 t0, .int .u64 t1, .int .u64 t2, .int .u64 t3, .int .u64 t4, .int .u64 t5, .bool false].toArray 26) bel
  obtain ⟨bp, hbp⟩ : ∃ b, b = Wv.heap.size := ⟨_, rfl⟩
  generalize Wv.alloc (Obj.cells #[.int .u64 s0, .int .u64 s1, .int .u64 s2, .int .u64 s3, .int .u64 s4, .int .u64 s5, .int .u64 t0, .int .u64 t1, .int .u64 t2, .int .u64 t3, .int .u64 t4, .int .u64 t5, .bool false] 26) = Wp at *
  rw [← hbp] at Bp ⊢
  clear hbp
  have ltp := Bp.lt
  have cp0 := Bp.cell 0 _ rfl
  have cp1 := Bp.cell 1 _ rfl
  have cp2 := Bp.cell 2 _ rfl
  have cp3 := Bp.cell 3 _ rfl
  have cp4 := Bp.cell 4 _ rfl
  have cp5 := Bp.cell 5 _ rfl
  have cp6 := Bp.cell 6 _ rfl
  have cp7 := Bp.cell 7 _ rfl
  have cp8 := Bp.cell 8 _ rfl
  have cp9 := Bp.cell 9 _ rfl
  have cp10 := Bp.cell 10 _ rfl
  have cp11 := Bp.cell 11 _ rfl
  have cp12 := Bp.cell 12 _ rfl
  go_wp2_with fail
  refine (con_On (n := false) (b := true) (G.below bel) fS fT (by rw [HS.out, HT.out]; exact ⟨fun _ => HO.out, fun _ => rfl⟩)).mono ?_
  rintro e w3 ⟨rfl, hb⟩
  clear ltp cp0 cp1 cp2 cp3 cp4 cp5 cp6 cp7 cp8 cp9 cp10 cp11 cp12
  replace Br := Br.later hb
  replace Bx := Bx.later hb
  replace Bv := Bv.later hb
  replace Bp := Bp.later hb
  replace bel := below_step bel hb
  clear hb
  have ltp := Bp.lt
  have cp0 := Bp.cell 0 _ rfl
  have cp1 := Bp.cell 1 _ rfl
  have cp2 := Bp.cell 2 _ rfl
  have cp3 := Bp.cell 3 _ rfl
  have cp4 := Bp.cell 4 _ rfl
  have cp5 := Bp.cell 5 _ rfl
  have cp6 := Bp.cell 6 _ rfl
  have cp7 := Bp.cell 7 _ rfl
  have cp8 := Bp.cell 8 _ rfl
  have cp9 := Bp.cell 9 _ rfl
  have cp10 := Bp.cell 10 _ rfl
  have cp11 := Bp.cell 11 _ rfl
  have cp12 := Bp.cell 12 _ rfl
  have ltr := Br.lt
  have d0 := Br.cell 0 _ rfl; have g0 := Br.frozen 0; have d1 := Br.cell 1 _ rfl; have g1 := Br.frozen 1; have d2 := Br.cell 2 _ rfl; have g2 := Br.frozen 2; have d3 := Br.cell 3 _ rfl; have g3 := Br.frozen 3; have d4 := Br.cell 4 _ rfl; have g4 := Br.frozen 4; have d5 := Br.cell 5 _ rfl; have g5 := Br.frozen 5; have d6 := Br.cell 6 _ rfl; have g6 := Br.frozen 6; have d7 := Br.cell 7 _ rfl; have g7 := Br.frozen 7; have d8 := Br.cell 8 _ rfl; have g8 := Br.frozen 8; have d9 := Br.cell 9 _ rfl; have g9 := Br.frozen 9; have d10 := Br.cell 10 _ rfl; have g10 := Br.frozen 10; have d11 := Br.cell 11 _ rfl; have g11 := Br.frozen 11; have d12 := Br.cell 12 _ rfl; have g12 := Br.frozen 12
  go_wp2_with fail
  exact bodyPost_ret (v := .tuple #[.agg #[.int .u64 s0, .int .u64 s1, .int .u64 s2, .int .u64 s3, .int .u64 s4, .int .u64 s5, .int .u64 t0, .int .u64 t1, .int .u64 t2, .int .u64 t3, .int .u64 t4, .int .u64 t5, .bool false], .nilIface]) (by simp [results, Tryd.results23, go_sem, d0, d1, d2, d3, d4, d5, d6, d7, d8, d9, d10, d11, d12]) rfl ⟨s0, s1, s2, s3, s4, s5, t0, t1, t2, t3, t4, t5, rfl, fS, fT, HS.out, HT.out, below_put13 bel (by omega)⟩

theorem con_DecBad {v : Value} {bs : List Int} {c : Int} {w : World} (G : GlsC w) (h : Bs w v bs) (hB : byt bs) (hc : DecBad bs c) :
    Calls Tryd.prog 23 #[v] w fun e w' => e = .returned (.tuple #[.agg #[.int .u64 0, .int .u64 0, .int .u64 0, .int .u64 0, .int .u64 0, .int .u64 0, .int .u64 0, .int .u64 0, .int .u64 0, .int .u64 0, .int .u64 0, .int .u64 0, .bool false], .iface 36 (.int .i64 c)]) ∧ Below w.heap.size w w' := by
  rcases hc with ⟨h1, rfl⟩ | ⟨h1, rfl⟩ | ⟨h1, h2, rfl⟩ | ⟨h1, h2, h3, rfl⟩ | ⟨h1, h2, h3, h4, h5, rfl⟩
  · exact dec_short h h1
  · exact dec_more h h1
  · exact dec_form h h1 h2
  · by_cases hx : beN (ptX bs) < PP
    · exact dec_y G h hB h1 h2 hx (h3.resolve_left (fun k => k hx))
    · exact dec_x G h hB h1 h2 hx
  · exact dec_none G h hB h1 h2 h3 h4 h5

theorem con_Dec {v : Value} {bs : List Int} {w : World} (G : GlsC w) (h : Bs w v bs) (hB : byt bs) (hd : DecOk bs) :
    Calls Tryd.prog 23 #[v] w fun e w' => ∃ s0 s1 s2 s3 s4 s5 t0 t1 t2 t3 t4 t5 : Int, e = .returned (.tuple #[.agg #[.int .u64 s0, .int .u64 s1, .int .u64 s2, .int .u64 s3, .int .u64 s4, .int .u64 s5, .int .u64 t0, .int .u64 t1, .int .u64 t2, .int .u64 t3, .int .u64 t4, .int .u64 t5, .bool false], .nilIface]) ∧ fits [s0, s1, s2, s3, s4, s5] ∧ fits [t0, t1, t2, t3, t4, t5] ∧ v64 [s0, s1, s2, s3, s4, s5] = beN (ptX bs) ∧ v64 [t0, t1, t2, t3, t4, t5] = beN (ptY bs) ∧ Below w.heap.size w w' :=
  dec_ok G h hB hd.1 hd.2.1 hd.2.2.1 hd.2.2.2.1 hd.2.2.2.2

end Go.Proofs.YtpgidlnpcjbfhaaDoor
