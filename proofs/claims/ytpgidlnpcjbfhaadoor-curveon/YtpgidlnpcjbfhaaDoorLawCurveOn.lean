/- The law CurveOn answers true: whether anything is a point; a point of whatever x is one, another y makes none of it. -/
import Derived.Test.YtpgidlnpcjbfhaaDoorRows
import Derived.Test.YtpgidlnpcjbfhaaDoorCUp
import Derived.Test.YtpgidlnpcjbfhaaDoorCSome
import Derived.Test.YtpgidlnpcjbfhaaDoorCOn
import Derived.Deep.WholeRow
import Derived.Deep.RegionHeld3
import Derived.Deep.DeepCutAuto
import Derived.Deep.DeepFit
namespace Go.Proofs.YtpgidlnpcjbfhaaDoor
open Go.RowKit

theorem eql_bool (b : Bool) : (b == b) = true := by cases b <;> rfl

set_option maxRecDepth 100000 in
set_option maxHeartbeats 8000000 in
theorem on_any (x0 x1 x2 x3 x4 x5 y0 y1 y2 y3 y4 y5 : Int) (n : Bool) (a0 a1 a2 a3 a4 a5 : Int) (odd : Bool) (w : World) (G : GlsC w) (fX : fits [x0, x1, x2, x3, x4, x5]) (fY : fits [y0, y1, y2, y3, y4, y5]) (fA : fits [a0, a1, a2, a3, a4, a5]) (bp : Bool) (hbp : bp = true ↔ IsOn n (v64 [x0, x1, x2, x3, x4, x5]) (v64 [y0, y1, y2, y3, y4, y5])) :
    Calls Tryd.prog 3 #[.agg #[.int .u64 x0, .int .u64 x1, .int .u64 x2, .int .u64 x3, .int .u64 x4, .int .u64 x5, .int .u64 y0, .int .u64 y1, .int .u64 y2, .int .u64 y3, .int .u64 y4, .int .u64 y5, .bool n], .agg #[.int .u64 a0, .int .u64 a1, .int .u64 a2, .int .u64 a3, .int .u64 a4, .int .u64 a5], .bool odd] w fun e w' => e = .returned (.bool true) ∧ Below w.heap.size w w' := by
  have HBP : Hid _ := hbp
  clear hbp
  have B0 := (Blk.new w [.int .u64 x0, .int .u64 x1, .int .u64 x2, .int .u64 x3, .int .u64 x4, .int .u64 x5, .int .u64 y0, .int .u64 y1, .int .u64 y2, .int .u64 y3, .int .u64 y4, .int .u64 y5, .bool n] 26 (w.heap.size) rfl).alloc (.cells [.int .u64 a0, .int .u64 a1, .int .u64 a2, .int .u64 a3, .int .u64 a4, .int .u64 a5].toArray 24)
  have B1 := Blk.new (w.alloc (.cells [.int .u64 x0, .int .u64 x1, .int .u64 x2, .int .u64 x3, .int .u64 x4, .int .u64 x5, .int .u64 y0, .int .u64 y1, .int .u64 y2, .int .u64 y3, .int .u64 y4, .int .u64 y5, .bool n].toArray 26)) [.int .u64 a0, .int .u64 a1, .int .u64 a2, .int .u64 a3, .int .u64 a4, .int .u64 a5] 24 (w.heap.size + 1) (by simp)
  have bel : Below w.heap.size w ((w.alloc (.cells [.int .u64 x0, .int .u64 x1, .int .u64 x2, .int .u64 x3, .int .u64 x4, .int .u64 x5, .int .u64 y0, .int .u64 y1, .int .u64 y2, .int .u64 y3, .int .u64 y4, .int .u64 y5, .bool n].toArray 26)).alloc (.cells [.int .u64 a0, .int .u64 a1, .int .u64 a2, .int .u64 a3, .int .u64 a4, .int .u64 a5].toArray 24)) := (((Below.refl _ _).alloc (Nat.le_refl _) _).alloc (by simp) _)
  go_enter Tryd.func3, Tryd.ntmps3
  go_upto_region 1 with fail
  try simp only [us, List.map_cons, List.map_nil] at bel
  generalize ((w.alloc (Obj.cells #[.int .u64 x0, .int .u64 x1, .int .u64 x2, .int .u64 x3, .int .u64 x4, .int .u64 x5, .int .u64 y0, .int .u64 y1, .int .u64 y2, .int .u64 y3, .int .u64 y4, .int .u64 y5, .bool n] 26)).alloc (Obj.cells #[.int .u64 a0, .int .u64 a1, .int .u64 a2, .int .u64 a3, .int .u64 a4, .int .u64 a5] 24)) = W at *
  have Bp := B0
  have Bx := B1
  clear B0 B1
  go_wp2_with fail
  refine (up_any (G.below bel)).mono ?_
  rintro e w1 ⟨rfl, hb⟩
  replace Bp := Bp.later hb
  replace Bx := Bx.later hb
  replace bel := below_step bel hb
  clear hb
  have ltx := Bx.lt
  have cx0 := Bx.cell 0 _ rfl
  have cx1 := Bx.cell 1 _ rfl
  have cx2 := Bx.cell 2 _ rfl
  have cx3 := Bx.cell 3 _ rfl
  have cx4 := Bx.cell 4 _ rfl
  have cx5 := Bx.cell 5 _ rfl
  go_wp2_with fail
  refine (some_any (G.below bel).fld fA).mono ?_
  rintro e w2 ⟨s0, s1, s2, s3, s4, s5, t0, t1, t2, t3, t4, t5, kq, P, rfl, Tq, Oq, hb⟩
  clear ltx cx0 cx1 cx2 cx3 cx4 cx5
  replace Bp := Bp.later hb
  replace Bx := Bx.later hb
  replace bel := below_step bel hb
  clear hb
  clear Bx
  replace Bp := Bp.alloc (.cells [.int .u64 s0, .int .u64 s1, .int .u64 s2, .int .u64 s3, .int .u64 s4, .int .u64 s5, .int .u64 t0, .int .u64 t1, .int .u64 t2, .int .u64 t3, .int .u64 t4, .int .u64 t5, .bool kq].toArray 26)
  have Bq := Blk.new w2 [.int .u64 s0, .int .u64 s1, .int .u64 s2, .int .u64 s3, .int .u64 s4, .int .u64 s5, .int .u64 t0, .int .u64 t1, .int .u64 t2, .int .u64 t3, .int .u64 t4, .int .u64 t5, .bool kq] 26 w2.heap.size rfl
  replace bel := below_alloc (o := .cells [.int .u64 s0, .int .u64 s1, .int .u64 s2, .int .u64 s3, .int .u64 s4, .int .u64 s5, .int .u64 t0, .int .u64 t1, .int .u64 t2, .int .u64 t3, .int .u64 t4, .int .u64 t5, .bool kq].toArray 26) bel
  have lwq : ∀ z, z < w2.heap.size → z ≠ w2.heap.size := fun z h => Nat.ne_of_lt h
  go_upto_region 3 with fail
  obtain ⟨bq, hbq⟩ : ∃ b, b = w2.heap.size := ⟨_, rfl⟩
  clear lwq
  generalize w2.alloc (Obj.cells #[.int .u64 s0, .int .u64 s1, .int .u64 s2, .int .u64 s3, .int .u64 s4, .int .u64 s5, .int .u64 t0, .int .u64 t1, .int .u64 t2, .int .u64 t3, .int .u64 t4, .int .u64 t5, .bool kq] 26) = Wq at *
  rw [← hbq] at Bq ⊢
  clear hbq
  have ltq := Bq.lt
  have cq0 := Bq.cell 0 _ rfl
  have cq1 := Bq.cell 1 _ rfl
  have cq2 := Bq.cell 2 _ rfl
  have cq3 := Bq.cell 3 _ rfl
  have cq4 := Bq.cell 4 _ rfl
  have cq5 := Bq.cell 5 _ rfl
  have cq6 := Bq.cell 6 _ rfl
  have cq7 := Bq.cell 7 _ rfl
  have cq8 := Bq.cell 8 _ rfl
  have cq9 := Bq.cell 9 _ rfl
  have cq10 := Bq.cell 10 _ rfl
  have cq11 := Bq.cell 11 _ rfl
  have cq12 := Bq.cell 12 _ rfl
  have ltq2 := Bq.lt
  have ltp9 := Bp.lt
  have Br := Blk.new Wq [.int .u64 s0, .int .u64 s1, .int .u64 s2, .int .u64 s3, .int .u64 s4, .int .u64 s5, .int .u64 t0, .int .u64 t1, .int .u64 t2, .int .u64 t3, .int .u64 t4, .int .u64 t5, .bool kq] 26 Wq.heap.size rfl
  replace Bp := Bp.alloc (.cells [.int .u64 s0, .int .u64 s1, .int .u64 s2, .int .u64 s3, .int .u64 s4, .int .u64 s5, .int .u64 t0, .int .u64 t1, .int .u64 t2, .int .u64 t3, .int .u64 t4, .int .u64 t5, .bool kq].toArray 26)
  replace Bq := Bq.alloc (.cells [.int .u64 s0, .int .u64 s1, .int .u64 s2, .int .u64 s3, .int .u64 s4, .int .u64 s5, .int .u64 t0, .int .u64 t1, .int .u64 t2, .int .u64 t3, .int .u64 t4, .int .u64 t5, .bool kq].toArray 26)
  replace bel := below_alloc (o := .cells [.int .u64 s0, .int .u64 s1, .int .u64 s2, .int .u64 s3, .int .u64 s4, .int .u64 s5, .int .u64 t0, .int .u64 t1, .int .u64 t2, .int .u64 t3, .int .u64 t4, .int .u64 t5, .bool kq].toArray 26) bel
  have ltp2 := Bp.lt
  go_upto_region 4 with fail
  clear ltq cq0 cq1 cq2 cq3 cq4 cq5 cq6 cq7 cq8 cq9 cq10 cq11 cq12
  have ltw9 : w.heap.size < Wq.heap.size := ltp9
  obtain ⟨br, hbr⟩ : ∃ b, b = Wq.heap.size := ⟨_, rfl⟩
  generalize Wq.alloc (Obj.cells #[.int .u64 s0, .int .u64 s1, .int .u64 s2, .int .u64 s3, .int .u64 s4, .int .u64 s5, .int .u64 t0, .int .u64 t1, .int .u64 t2, .int .u64 t3, .int .u64 t4, .int .u64 t5, .bool kq] 26) = Wr at *
  rw [← hbr] at Br ltq2 ltw9 ⊢
  clear hbr ltp2 ltp9
  have ltq := Bq.lt
  have cq0 := Bq.cell 0 _ rfl
  have cq1 := Bq.cell 1 _ rfl
  have cq2 := Bq.cell 2 _ rfl
  have cq3 := Bq.cell 3 _ rfl
  have cq4 := Bq.cell 4 _ rfl
  have cq5 := Bq.cell 5 _ rfl
  have cq6 := Bq.cell 6 _ rfl
  have cq7 := Bq.cell 7 _ rfl
  have cq8 := Bq.cell 8 _ rfl
  have cq9 := Bq.cell 9 _ rfl
  have cq10 := Bq.cell 10 _ rfl
  have cq11 := Bq.cell 11 _ rfl
  have cq12 := Bq.cell 12 _ rfl
  have ltr := Br.lt
  have cr0 := Br.cell 0 _ rfl
  have cr1 := Br.cell 1 _ rfl
  have cr2 := Br.cell 2 _ rfl
  have cr3 := Br.cell 3 _ rfl
  have cr4 := Br.cell 4 _ rfl
  have cr5 := Br.cell 5 _ rfl
  have cr6 := Br.cell 6 _ rfl
  have cr7 := Br.cell 7 _ rfl
  have cr8 := Br.cell 8 _ rfl
  have cr9 := Br.cell 9 _ rfl
  have cr10 := Br.cell 10 _ rfl
  have cr11 := Br.cell 11 _ rfl
  have cr12 := Br.cell 12 _ rfl
  go_wp2_with fail
  refine (fadd6 (G.below bel).fld Tq.fB fits_one).mono ?_
  rintro e w3 ⟨z0, z1, z2, z3, z4, z5, rfl, fZ, hz, hb⟩
  clear ltq cq0 cq1 cq2 cq3 cq4 cq5 cq6 cq7 cq8 cq9 cq10 cq11 cq12 ltr cr0 cr1 cr2 cr3 cr4 cr5 cr6 cr7 cr8 cr9 cr10 cr11 cr12
  replace Bp := Bp.later hb
  replace Bq := Bq.later hb
  replace Br := Br.later hb
  replace bel := below_step bel hb
  clear hb
  clear hz
  have ne1 : bq ≠ br := Nat.ne_of_lt ltq2
  have ltp3 := Bp.lt
  have ltr := Br.lt
  have cr0 := Br.cell 0 _ rfl
  have cr1 := Br.cell 1 _ rfl
  have cr2 := Br.cell 2 _ rfl
  have cr3 := Br.cell 3 _ rfl
  have cr4 := Br.cell 4 _ rfl
  have cr5 := Br.cell 5 _ rfl
  have cr6 := Br.cell 6 _ rfl
  have cr7 := Br.cell 7 _ rfl
  have cr8 := Br.cell 8 _ rfl
  have cr9 := Br.cell 9 _ rfl
  have cr10 := Br.cell 10 _ rfl
  have cr11 := Br.cell 11 _ rfl
  have cr12 := Br.cell 12 _ rfl
  have f6 := Br.frozen 6
  have f7 := Br.frozen 7
  have f8 := Br.frozen 8
  have f9 := Br.frozen 9
  have f10 := Br.frozen 10
  have f11 := Br.frozen 11
  go_upto_region 5 with fail
  clear ltr cr0 cr1 cr2 cr3 cr4 cr5 cr6 cr7 cr8 cr9 cr10 cr11 cr12 f6 f7 f8 f9 f10 f11
  replace Br : Blk ((((((w3.setCell ⟨br, 6, none⟩ (.int .u64 z0)).setCell ⟨br, 7, none⟩ (.int .u64 z1)).setCell ⟨br, 8, none⟩ (.int .u64 z2)).setCell ⟨br, 9, none⟩ (.int .u64 z3)).setCell ⟨br, 10, none⟩ (.int .u64 z4)).setCell ⟨br, 11, none⟩ (.int .u64 z5)) br [.int .u64 s0, .int .u64 s1, .int .u64 s2, .int .u64 s3, .int .u64 s4, .int .u64 s5, .int .u64 z0, .int .u64 z1, .int .u64 z2, .int .u64 z3, .int .u64 z4, .int .u64 z5, .bool kq] := (((((Br.set 6 (.int .u64 z0)).set 7 (.int .u64 z1)).set 8 (.int .u64 z2)).set 9 (.int .u64 z3)).set 10 (.int .u64 z4)).set 11 (.int .u64 z5)
  replace Bq : Blk ((((((w3.setCell ⟨br, 6, none⟩ (.int .u64 z0)).setCell ⟨br, 7, none⟩ (.int .u64 z1)).setCell ⟨br, 8, none⟩ (.int .u64 z2)).setCell ⟨br, 9, none⟩ (.int .u64 z3)).setCell ⟨br, 10, none⟩ (.int .u64 z4)).setCell ⟨br, 11, none⟩ (.int .u64 z5)) bq [.int .u64 s0, .int .u64 s1, .int .u64 s2, .int .u64 s3, .int .u64 s4, .int .u64 s5, .int .u64 t0, .int .u64 t1, .int .u64 t2, .int .u64 t3, .int .u64 t4, .int .u64 t5, .bool kq] := (((((Bq.other _ _ ne1).other _ _ ne1).other _ _ ne1).other _ _ ne1).other _ _ ne1).other _ _ ne1
  have ne2 : w.heap.size ≠ br := Nat.ne_of_lt (Nat.lt_of_lt_of_le ltw9 (Nat.le_refl _))
  replace Bp : Blk ((((((w3.setCell ⟨br, 6, none⟩ (.int .u64 z0)).setCell ⟨br, 7, none⟩ (.int .u64 z1)).setCell ⟨br, 8, none⟩ (.int .u64 z2)).setCell ⟨br, 9, none⟩ (.int .u64 z3)).setCell ⟨br, 10, none⟩ (.int .u64 z4)).setCell ⟨br, 11, none⟩ (.int .u64 z5)) (w.heap.size) [.int .u64 x0, .int .u64 x1, .int .u64 x2, .int .u64 x3, .int .u64 x4, .int .u64 x5, .int .u64 y0, .int .u64 y1, .int .u64 y2, .int .u64 y3, .int .u64 y4, .int .u64 y5, .bool n] := (((((Bp.other _ _ ne2).other _ _ ne2).other _ _ ne2).other _ _ ne2).other _ _ ne2).other _ _ ne2
  replace bel : Below w.heap.size w ((((((w3.setCell ⟨br, 6, none⟩ (.int .u64 z0)).setCell ⟨br, 7, none⟩ (.int .u64 z1)).setCell ⟨br, 8, none⟩ (.int .u64 z2)).setCell ⟨br, 9, none⟩ (.int .u64 z3)).setCell ⟨br, 10, none⟩ (.int .u64 z4)).setCell ⟨br, 11, none⟩ (.int .u64 z5)) := (((((bel.setCell (Nat.le_of_lt ltw9) _).setCell (Nat.le_of_lt ltw9) _).setCell (Nat.le_of_lt ltw9) _).setCell (Nat.le_of_lt ltw9) _).setCell (Nat.le_of_lt ltw9) _).setCell (Nat.le_of_lt ltw9) _
  generalize ((((((w3.setCell ⟨br, 6, none⟩ (.int .u64 z0)).setCell ⟨br, 7, none⟩ (.int .u64 z1)).setCell ⟨br, 8, none⟩ (.int .u64 z2)).setCell ⟨br, 9, none⟩ (.int .u64 z3)).setCell ⟨br, 10, none⟩ (.int .u64 z4)).setCell ⟨br, 11, none⟩ (.int .u64 z5)) = W5 at *
  obtain ⟨bo, HBO⟩ : ∃ b : Bool, Hid (b = true ↔ IsOn kq (v64 [s0, s1, s2, s3, s4, s5]) (v64 [z0, z1, z2, z3, z4, z5])) := by
    by_cases h : IsOn kq (v64 [s0, s1, s2, s3, s4, s5]) (v64 [z0, z1, z2, z3, z4, z5])
    · exact ⟨true, ⟨fun _ => h, fun _ => rfl⟩⟩
    · exact ⟨false, ⟨fun h' => absurd h' (by simp), fun h' => absurd h' h⟩⟩
  have HO : Hid _ := on_told Tq Oq
  have qb := eql_bool bo
  have qp := eql_bool bp
  obtain ⟨S1, hS1, KL1, KA1, KD1, KS1, KQ1, KN1, KB1, KM1, KR1⟩ := held3 (w0 := w) (W := W5) [(w.heap.size, [.int .u64 x0, .int .u64 x1, .int .u64 x2, .int .u64 x3, .int .u64 x4, .int .u64 x5, .int .u64 y0, .int .u64 y1, .int .u64 y2, .int .u64 y3, .int .u64 y4, .int .u64 y5, .bool n]), (bq, [.int .u64 s0, .int .u64 s1, .int .u64 s2, .int .u64 s3, .int .u64 s4, .int .u64 s5, .int .u64 t0, .int .u64 t1, .int .u64 t2, .int .u64 t3, .int .u64 t4, .int .u64 t5, .bool kq]), (br, [.int .u64 s0, .int .u64 s1, .int .u64 s2, .int .u64 s3, .int .u64 s4, .int .u64 s5, .int .u64 z0, .int .u64 z1, .int .u64 z2, .int .u64 z3, .int .u64 z4, .int .u64 z5, .bool kq])] (by
    intro b X h
    simp only [List.mem_cons, List.not_mem_nil, or_false, Prod.mk.injEq] at h
    rcases h with ⟨rfl, rfl⟩ | ⟨rfl, rfl⟩ | ⟨rfl, rfl⟩
    · exact Bp
    · exact Bq
    · exact Br) bel
  have kb1a : ∀ wx, Hd S1 wx → Blk wx (w.heap.size) [.int .u64 x0, .int .u64 x1, .int .u64 x2, .int .u64 x3, .int .u64 x4, .int .u64 x5, .int .u64 y0, .int .u64 y1, .int .u64 y2, .int .u64 y3, .int .u64 y4, .int .u64 y5, .bool n] := fun wx h => KM1.out wx _ _ h (by simp)
  have c1a0 := rulec kb1a 0 _ rfl
  have c1a1 := rulec kb1a 1 _ rfl
  have c1a2 := rulec kb1a 2 _ rfl
  have c1a3 := rulec kb1a 3 _ rfl
  have c1a4 := rulec kb1a 4 _ rfl
  have c1a5 := rulec kb1a 5 _ rfl
  have c1a6 := rulec kb1a 6 _ rfl
  have c1a7 := rulec kb1a 7 _ rfl
  have c1a8 := rulec kb1a 8 _ rfl
  have c1a9 := rulec kb1a 9 _ rfl
  have c1a10 := rulec kb1a 10 _ rfl
  have c1a11 := rulec kb1a 11 _ rfl
  have c1a12 := rulec kb1a 12 _ rfl
  have c1al := ruleb kb1a
  clear kb1a
  have kb1b : ∀ wx, Hd S1 wx → Blk wx (bq) [.int .u64 s0, .int .u64 s1, .int .u64 s2, .int .u64 s3, .int .u64 s4, .int .u64 s5, .int .u64 t0, .int .u64 t1, .int .u64 t2, .int .u64 t3, .int .u64 t4, .int .u64 t5, .bool kq] := fun wx h => KM1.out wx _ _ h (by simp)
  have c1b0 := rulec kb1b 0 _ rfl
  have c1b1 := rulec kb1b 1 _ rfl
  have c1b2 := rulec kb1b 2 _ rfl
  have c1b3 := rulec kb1b 3 _ rfl
  have c1b4 := rulec kb1b 4 _ rfl
  have c1b5 := rulec kb1b 5 _ rfl
  have c1b6 := rulec kb1b 6 _ rfl
  have c1b7 := rulec kb1b 7 _ rfl
  have c1b8 := rulec kb1b 8 _ rfl
  have c1b9 := rulec kb1b 9 _ rfl
  have c1b10 := rulec kb1b 10 _ rfl
  have c1b11 := rulec kb1b 11 _ rfl
  have c1b12 := rulec kb1b 12 _ rfl
  have c1bl := ruleb kb1b
  clear kb1b
  have kb1c : ∀ wx, Hd S1 wx → Blk wx (br) [.int .u64 s0, .int .u64 s1, .int .u64 s2, .int .u64 s3, .int .u64 s4, .int .u64 s5, .int .u64 z0, .int .u64 z1, .int .u64 z2, .int .u64 z3, .int .u64 z4, .int .u64 z5, .bool kq] := fun wx h => KM1.out wx _ _ h (by simp)
  have c1c0 := rulec kb1c 0 _ rfl
  have c1c1 := rulec kb1c 1 _ rfl
  have c1c2 := rulec kb1c 2 _ rfl
  have c1c3 := rulec kb1c 3 _ rfl
  have c1c4 := rulec kb1c 4 _ rfl
  have c1c5 := rulec kb1c 5 _ rfl
  have c1c6 := rulec kb1c 6 _ rfl
  have c1c7 := rulec kb1c 7 _ rfl
  have c1c8 := rulec kb1c 8 _ rfl
  have c1c9 := rulec kb1c 9 _ rfl
  have c1c10 := rulec kb1c 10 _ rfl
  have c1c11 := rulec kb1c 11 _ rfl
  have c1c12 := rulec kb1c 12 _ rfl
  have c1cl := ruleb kb1c
  clear kb1c
  have hN1 := bel.size
  clear bel Bp Bq Br ne1 ne2 ltq2 ltp3
  go_cut [10] (fun p wx => p = .bool true ∧ Hd S1 wx)
  case first =>
    go_region_held3 (Hd S1)
      (first
        | with_reducible exact KL1.out _ _ (by assumption) hb
        | with_reducible exact KA1.out _ _ (by assumption)
        | with_reducible exact KS1.out _ _ _ (by omega) (by assumption)
        | with_reducible exact KD1.out _ hS1
        | with_reducible exact KD1.out _ (KA1.out _ _ hS1)
        | with_reducible assumption)
      (first
        | (go_at_call 12; go_fit (con_On (b := bo) (G.below (KB1.out _ (by first | with_reducible assumption | with_reducible exact KA1.out _ _ (by assumption) | with_reducible exact KD1.out _ (by assumption)))) Tq.fA fZ HBO.out); rintro e w' ⟨rfl, hb⟩)
        | (go_at_call 13; go_fit (r5_On (b := bo) Tq.fA fZ HBO.out); rintro e w' ⟨rfl, hb⟩))
    all_goals
      go_wp2_with fail
      go_meet
      exact ⟨rfl, by with_reducible assumption⟩
  case rest =>
    clear hS1
    obtain ⟨rfl, hS1⟩ := hcut
    go_upto_region 6 with fail
    go_region_held3 (Hd S1)
      (first
        | with_reducible exact KL1.out _ _ (by assumption) hb
        | with_reducible exact KA1.out _ _ (by assumption)
        | with_reducible exact KS1.out _ _ _ (by omega) (by assumption)
        | with_reducible exact KD1.out _ hS1
        | with_reducible exact KD1.out _ (KA1.out _ _ hS1)
        | with_reducible assumption)
      (first
        | (go_at_call 12; go_fit (con_On (b := bp) (G.below (KB1.out _ (by first | with_reducible assumption | with_reducible exact KA1.out _ _ (by assumption) | with_reducible exact KD1.out _ (by assumption)))) fX fY HBP.out); rintro e w' ⟨rfl, hb⟩)
        | (go_at_call 13; go_fit (r5_On (b := bp) fX fY HBP.out); rintro e w' ⟨rfl, hb⟩)
        | (go_at_call 12; go_fit (con_On (b := true) (G.below (KB1.out _ (by first | with_reducible assumption | with_reducible exact KA1.out _ _ (by assumption) | with_reducible exact KD1.out _ (by assumption)))) Tq.fA Tq.fB ⟨fun _ => HO.out, fun _ => rfl⟩); rintro e w' ⟨rfl, hb⟩))
    all_goals go_wp2
    all_goals (go_ret; exact ⟨rfl, KB1.out _ (by assumption)⟩)

theorem law_curveOn (x0 x1 x2 x3 x4 x5 y0 y1 y2 y3 y4 y5 : Int) (n : Bool) (a0 a1 a2 a3 a4 a5 : Int) (odd : Bool) (w : World) (G : GlsC w) (fX : fits [x0, x1, x2, x3, x4, x5]) (fY : fits [y0, y1, y2, y3, y4, y5]) (fA : fits [a0, a1, a2, a3, a4, a5]) :
    Calls Tryd.prog 3 #[.agg #[.int .u64 x0, .int .u64 x1, .int .u64 x2, .int .u64 x3, .int .u64 x4, .int .u64 x5, .int .u64 y0, .int .u64 y1, .int .u64 y2, .int .u64 y3, .int .u64 y4, .int .u64 y5, .bool n], .agg #[.int .u64 a0, .int .u64 a1, .int .u64 a2, .int .u64 a3, .int .u64 a4, .int .u64 a5], .bool odd] w fun e w' => e = .returned (.bool true) ∧ Below w.heap.size w w' := by
  by_cases h : IsOn n (v64 [x0, x1, x2, x3, x4, x5]) (v64 [y0, y1, y2, y3, y4, y5])
  · exact on_any x0 x1 x2 x3 x4 x5 y0 y1 y2 y3 y4 y5 n a0 a1 a2 a3 a4 a5 odd w G fX fY fA true ⟨fun _ => h, fun _ => rfl⟩
  · exact on_any x0 x1 x2 x3 x4 x5 y0 y1 y2 y3 y4 y5 n a0 a1 a2 a3 a4 a5 odd w G fX fY fA false ⟨fun h' => absurd h' (by simp), fun h' => absurd h' h⟩
end Go.Proofs.YtpgidlnpcjbfhaaDoor
