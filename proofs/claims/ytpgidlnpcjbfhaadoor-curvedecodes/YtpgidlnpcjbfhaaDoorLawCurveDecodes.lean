/- The law CurveDecodes answers true: the point of any bytes, or what is amiss first. -/
import Derived.Test.YtpgidlnpcjbfhaaDoorRows
import Derived.Test.YtpgidlnpcjbfhaaDoorCUp
import Derived.Test.YtpgidlnpcjbfhaaDoorCErr
import Derived.Test.YtpgidlnpcjbfhaaDoorCFault
import Derived.Test.YtpgidlnpcjbfhaaDoorCDecC
import Derived.Deep.WholeRow
import Derived.Deep.RegionHeld3
import Derived.Deep.DeepCutAuto
import Derived.Deep.DeepFit
namespace Go.Proofs.YtpgidlnpcjbfhaaDoor
open Go.RowKit

set_option maxRecDepth 100000 in
set_option maxHeartbeats 4000000 in
theorem decodes_bad (v : Value) (bs : List Int) (w : World) (G : GlsC w) (h : Bs w v bs) (hB : byt bs) (c : Int) (hc : DecBad bs c) :
    Calls Tryd.prog 8 #[v] w fun e w' => e = .returned (.bool true) ∧ Below w.heap.size w w' := by
  have HC : Hid _ := dec_range hc
  have HD : Hid (DecBad bs c) := hc
  have hc0 : ¬ c = 0 := by have := HC.out; omega
  clear hc
  have bel : Below w.heap.size w w := (Below.refl _ _)
  have bel : Below w.heap.size w w := Below.refl _ _
  go_enter Tryd.func8, Tryd.ntmps8
  go_wp2_with fail
  refine (up_any G).mono ?_
  rintro e w1 ⟨rfl, hb⟩
  replace h := h.later hb
  replace bel := below_step bel hb
  clear hb
  go_wp2_with fail
  refine (con_DecBad (G.below bel) h hB HD.out).mono ?_
  rintro e w2 ⟨rfl, hb⟩
  replace h := h.later hb
  replace bel := below_step bel hb
  clear hb
  have h := h.later ((Below.refl _ _).alloc (Nat.le_refl _) (.cells [.int .u64 0, .int .u64 0, .int .u64 0, .int .u64 0, .int .u64 0, .int .u64 0, .int .u64 0, .int .u64 0, .int .u64 0, .int .u64 0, .int .u64 0, .int .u64 0, .bool false].toArray 26))
  have Bp := Blk.new w2 [.int .u64 0, .int .u64 0, .int .u64 0, .int .u64 0, .int .u64 0, .int .u64 0, .int .u64 0, .int .u64 0, .int .u64 0, .int .u64 0, .int .u64 0, .int .u64 0, .bool false] 26 w2.heap.size rfl
  replace bel := below_alloc (o := .cells [.int .u64 0, .int .u64 0, .int .u64 0, .int .u64 0, .int .u64 0, .int .u64 0, .int .u64 0, .int .u64 0, .int .u64 0, .int .u64 0, .int .u64 0, .int .u64 0, .bool false].toArray 26) bel
  have lwp : ∀ z, z < w2.heap.size → z ≠ w2.heap.size := fun z h => Nat.ne_of_lt h
  go_wp2_with fail
  obtain ⟨bp, hbp⟩ : ∃ b, b = w2.heap.size := ⟨_, rfl⟩
  clear lwp
  generalize w2.alloc (Obj.cells #[.int .u64 0, .int .u64 0, .int .u64 0, .int .u64 0, .int .u64 0, .int .u64 0, .int .u64 0, .int .u64 0, .int .u64 0, .int .u64 0, .int .u64 0, .int .u64 0, .bool false] 26) = Wp at *
  rw [← hbp] at Bp ⊢
  clear hbp
  refine (fault_bad h hB HD.out).mono ?_
  rintro e w3 ⟨rfl, hb⟩
  replace Bp := Bp.later hb
  replace h := h.later hb
  replace bel := below_step bel hb
  clear hb
  go_wp2_with fail
  refine (code_any HC.out.1 HC.out.2).mono ?_
  rintro e w4 ⟨rfl, hb⟩
  replace Bp := Bp.later hb
  replace h := h.later hb
  replace bel := below_step bel hb
  clear hb
  have q1 := eql_pt_same 0 0 0 0 0 0 0 0 0 0 0 0 false
  have q2 : (c == c) = true := by simp
  have ltp := Bp.lt
  have cp0 := Bp.cell 0 _ rfl
  have cp1 := Bp.cell 1 _ rfl
  have cp2 := Bp.cell 2 _ rfl
  have cp3 := Bp.cell 3 _ rfl
  have cp4 := Bp.cell 4 _ rfl
  have cp5 := Bp.cell 5 _ rfl
  have cp6 := Bp.cell 6 _ rfl
  have cp7 := Bp.cell 7 _ rfl
  have cp8 := Bp.cell 8 _ rfl
  have cp9 := Bp.cell 9 _ rfl
  have cp10 := Bp.cell 10 _ rfl
  have cp11 := Bp.cell 11 _ rfl
  have cp12 := Bp.cell 12 _ rfl
  go_wp2_with fail
  go_ret
  exact ⟨rfl, bel⟩

set_option maxRecDepth 100000 in
set_option maxHeartbeats 8000000 in
theorem decodes_ok (v : Value) (bs : List Int) (w : World) (G : GlsC w) (h : Bs w v bs) (hB : byt bs) (hd : DecOk bs) :
    Calls Tryd.prog 8 #[v] w fun e w' => e = .returned (.bool true) ∧ Below w.heap.size w w' := by
  have HD : Hid (DecOk bs) := hd
  clear hd
  obtain ⟨b0, off, cap, rfl, k1, k2, ltb, c0, SX, SY⟩ := bs97 h HD.out.1
  unfold maxLen at k2
  have YX := ptX_byt hB
  have YY := ptY_byt hB
  have LX : Hid _ := ptX_len HD.out.1
  have LY : Hid _ := ptY_len HD.out.1
  clear c0 ltb
  have bel : Below w.heap.size w w := (Below.refl _ _)
  have bel : Below w.heap.size w w := Below.refl _ _
  go_enter Tryd.func8, Tryd.ntmps8
  go_wp2_with fail
  refine (up_any G).mono ?_
  rintro e w1 ⟨rfl, hb⟩
  replace h := h.later hb
  replace SX := SX.later hb
  replace SY := SY.later hb
  replace bel := below_step bel hb
  clear hb
  go_wp2_with fail
  refine (con_Dec (G.below bel) h hB HD.out).mono ?_
  rintro e w2 ⟨s0, s1, s2, s3, s4, s5, t0, t1, t2, t3, t4, t5, rfl, fS, fT, hs, ht, hb⟩
  replace h := h.later hb
  replace SX := SX.later hb
  replace SY := SY.later hb
  replace bel := below_step bel hb
  clear hb
  have HS : Hid _ := hs
  have HT : Hid _ := ht
  clear hs ht
  replace h := h.later ((Below.refl _ _).alloc (Nat.le_refl _) (.cells [.int .u64 s0, .int .u64 s1, .int .u64 s2, .int .u64 s3, .int .u64 s4, .int .u64 s5, .int .u64 t0, .int .u64 t1, .int .u64 t2, .int .u64 t3, .int .u64 t4, .int .u64 t5, .bool false].toArray 26))
  replace SX := SX.later ((Below.refl _ _).alloc (Nat.le_refl _) (.cells [.int .u64 s0, .int .u64 s1, .int .u64 s2, .int .u64 s3, .int .u64 s4, .int .u64 s5, .int .u64 t0, .int .u64 t1, .int .u64 t2, .int .u64 t3, .int .u64 t4, .int .u64 t5, .bool false].toArray 26))
  replace SY := SY.later ((Below.refl _ _).alloc (Nat.le_refl _) (.cells [.int .u64 s0, .int .u64 s1, .int .u64 s2, .int .u64 s3, .int .u64 s4, .int .u64 s5, .int .u64 t0, .int .u64 t1, .int .u64 t2, .int .u64 t3, .int .u64 t4, .int .u64 t5, .bool false].toArray 26))
  have Bp := Blk.new w2 [.int .u64 s0, .int .u64 s1, .int .u64 s2, .int .u64 s3, .int .u64 s4, .int .u64 s5, .int .u64 t0, .int .u64 t1, .int .u64 t2, .int .u64 t3, .int .u64 t4, .int .u64 t5, .bool false] 26 w2.heap.size rfl
  replace bel := below_alloc (o := .cells [.int .u64 s0, .int .u64 s1, .int .u64 s2, .int .u64 s3, .int .u64 s4, .int .u64 s5, .int .u64 t0, .int .u64 t1, .int .u64 t2, .int .u64 t3, .int .u64 t4, .int .u64 t5, .bool false].toArray 26) bel
  have lwp : ∀ z, z < w2.heap.size → z ≠ w2.heap.size := fun z h => Nat.ne_of_lt h
  go_wp2_with fail
  obtain ⟨bp, hbp⟩ : ∃ b, b = w2.heap.size := ⟨_, rfl⟩
  clear lwp
  generalize w2.alloc (Obj.cells #[.int .u64 s0, .int .u64 s1, .int .u64 s2, .int .u64 s3, .int .u64 s4, .int .u64 s5, .int .u64 t0, .int .u64 t1, .int .u64 t2, .int .u64 t3, .int .u64 t4, .int .u64 t5, .bool false] 26) = Wp at *
  rw [← hbp] at Bp ⊢
  clear hbp
  refine (fault_ok h hB HD.out.1 HD.out.2.1 HD.out.2.2.1 HD.out.2.2.2.1 HD.out.2.2.2.2).mono ?_
  rintro e w3 ⟨rfl, hb⟩
  replace Bp := Bp.later hb
  replace SX := SX.later hb
  replace SY := SY.later hb
  replace bel := below_step bel hb
  clear hb h
  go_wp2_with fail
  refine (rfrom_any _ (ptX bs) _ SX YX (by rw [LX.out]; decide)).mono ?_
  rintro e w4 ⟨vx, rfl, NX, hb⟩
  replace Bp := Bp.later hb
  replace SY := SY.later hb
  replace bel := below_step bel hb
  clear hb SX
  go_wp2_with fail
  refine (to6_is NX fS HS.out).mono ?_
  rintro e w5 ⟨rfl, hb⟩
  replace Bp := Bp.later hb
  replace SY := SY.later hb
  replace bel := below_step bel hb
  clear hb NX
  replace SY := SY.later ((Below.refl _ _).alloc (Nat.le_refl _) (.cells [.int .u64 s0, .int .u64 s1, .int .u64 s2, .int .u64 s3, .int .u64 s4, .int .u64 s5].toArray 23))
  replace Bp := Bp.alloc (.cells [.int .u64 s0, .int .u64 s1, .int .u64 s2, .int .u64 s3, .int .u64 s4, .int .u64 s5].toArray 23)
  have Bxx := Blk.new w5 [.int .u64 s0, .int .u64 s1, .int .u64 s2, .int .u64 s3, .int .u64 s4, .int .u64 s5] 23 w5.heap.size rfl
  replace bel := below_alloc (o := .cells [.int .u64 s0, .int .u64 s1, .int .u64 s2, .int .u64 s3, .int .u64 s4, .int .u64 s5].toArray 23) bel
  have lwxx : ∀ z, z < w5.heap.size → z ≠ w5.heap.size := fun z h => Nat.ne_of_lt h
  go_wp2_with fail
  obtain ⟨bxx, hbxx⟩ : ∃ b, b = w5.heap.size := ⟨_, rfl⟩
  clear lwxx
  generalize w5.alloc (Obj.cells #[.int .u64 s0, .int .u64 s1, .int .u64 s2, .int .u64 s3, .int .u64 s4, .int .u64 s5] 23) = Wxx at *
  rw [← hbxx] at Bxx ⊢
  clear hbxx
  refine (rfrom_any _ (ptY bs) _ SY YY (by rw [LY.out]; decide)).mono ?_
  rintro e w6 ⟨vy, rfl, NY, hb⟩
  replace Bp := Bp.later hb
  replace Bxx := Bxx.later hb
  replace bel := below_step bel hb
  clear hb SY
  go_wp2_with fail
  refine (to6_is NY fT HT.out).mono ?_
  rintro e w7 ⟨rfl, hb⟩
  replace Bp := Bp.later hb
  replace Bxx := Bxx.later hb
  replace bel := below_step bel hb
  clear hb NY
  have q1 := iface_nilC
  have q2 := eql_pt_same s0 s1 s2 s3 s4 s5 t0 t1 t2 t3 t4 t5 false
  replace Bp := Bp.alloc (.cells [.int .u64 t0, .int .u64 t1, .int .u64 t2, .int .u64 t3, .int .u64 t4, .int .u64 t5].toArray 23)
  replace Bxx := Bxx.alloc (.cells [.int .u64 t0, .int .u64 t1, .int .u64 t2, .int .u64 t3, .int .u64 t4, .int .u64 t5].toArray 23)
  have Byy := Blk.new w7 [.int .u64 t0, .int .u64 t1, .int .u64 t2, .int .u64 t3, .int .u64 t4, .int .u64 t5] 23 w7.heap.size rfl
  replace bel := below_alloc (o := .cells [.int .u64 t0, .int .u64 t1, .int .u64 t2, .int .u64 t3, .int .u64 t4, .int .u64 t5].toArray 23) bel
  have lwyy : ∀ z, z < w7.heap.size → z ≠ w7.heap.size := fun z h => Nat.ne_of_lt h
  go_upto_region 8 with fail
  obtain ⟨byy, hbyy⟩ : ∃ b, b = w7.heap.size := ⟨_, rfl⟩
  clear lwyy
  generalize w7.alloc (Obj.cells #[.int .u64 t0, .int .u64 t1, .int .u64 t2, .int .u64 t3, .int .u64 t4, .int .u64 t5] 23) = Wyy at *
  rw [← hbyy] at Byy ⊢
  clear hbyy
  have ltp := Bp.lt
  have cp0 := Bp.cell 0 _ rfl
  have cp1 := Bp.cell 1 _ rfl
  have cp2 := Bp.cell 2 _ rfl
  have cp3 := Bp.cell 3 _ rfl
  have cp4 := Bp.cell 4 _ rfl
  have cp5 := Bp.cell 5 _ rfl
  have cp6 := Bp.cell 6 _ rfl
  have cp7 := Bp.cell 7 _ rfl
  have cp8 := Bp.cell 8 _ rfl
  have cp9 := Bp.cell 9 _ rfl
  have cp10 := Bp.cell 10 _ rfl
  have cp11 := Bp.cell 11 _ rfl
  have cp12 := Bp.cell 12 _ rfl
  have ltxx := Bxx.lt
  have cxx0 := Bxx.cell 0 _ rfl
  have cxx1 := Bxx.cell 1 _ rfl
  have cxx2 := Bxx.cell 2 _ rfl
  have cxx3 := Bxx.cell 3 _ rfl
  have cxx4 := Bxx.cell 4 _ rfl
  have cxx5 := Bxx.cell 5 _ rfl
  have ltyy := Byy.lt
  have cyy0 := Byy.cell 0 _ rfl
  have cyy1 := Byy.cell 1 _ rfl
  have cyy2 := Byy.cell 2 _ rfl
  have cyy3 := Byy.cell 3 _ rfl
  have cyy4 := Byy.cell 4 _ rfl
  have cyy5 := Byy.cell 5 _ rfl
  go_wp2_with fail
  go_ret
  exact ⟨rfl, bel⟩

theorem law_curveDecodes (v : Value) (bs : List Int) (w : World) (G : GlsC w) (h : Bs w v bs) (hB : byt bs) :
    Calls Tryd.prog 8 #[v] w fun e w' => e = .returned (.bool true) ∧ Below w.heap.size w w' := by
  rcases dec_either bs with hd | ⟨c, hc⟩
  · exact decodes_ok v bs w G h hB hd
  · exact decodes_bad v bs w G h hB c hc
end Go.Proofs.YtpgidlnpcjbfhaaDoor
