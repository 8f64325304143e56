/- What ecdsa.Sign and Verify answer of numbers that are 0. -/
import Derived.Test.YtjpnbbhpgchbpaaDoorRows
import Derived.Test.YtjpnbbhpgchbpaaDoorEcRange
import Derived.Test.YtjpnbbhpgchbpaaDoorEdG
import Derived.Test.YtjpnbbhpgchbpaaDoorEdDig
import Derived.Test.YtjpnbbhpgchbpaaDoorDrOwn
import Derived.Test.YtjpnbbhpgchbpaaDoorWpRowG
import Derived.Deep.OwnRows
import Derived.Deep.AppendLies
import Derived.Great.BuildSlice
import Derived.Laws.Rows
import Derived.Deep.WholeRow
import Derived.Deep.RegionHeld3
import Derived.Deep.DeepCutAuto
import Derived.Deep.DeepFit
namespace Go.Proofs.YtjpnbbhpgchbpaaDoor
open Go.RowKit

set_option linter.unusedSimpArgs false in
set_option maxRecDepth 100000 in
set_option maxHeartbeats 1000000 in
theorem con_Sign0 {ks : List Value} {k : Int} {v : Value} {D : List Int} {w : World} (G : GA w) (hk : U6 ks k) (hv : Bs w v D) (_ : byt D) :
    Calls Tryd.prog 6 #[.agg #[.int .u64 0, .int .u64 0, .int .u64 0, .int .u64 0, .int .u64 0, .int .u64 0], .agg ks.toArray, v] w fun e w' => e = .returned (.tuple #[.agg #[.int .u64 0, .int .u64 0, .int .u64 0, .int .u64 0, .int .u64 0, .int .u64 0, .int .u64 0, .int .u64 0, .int .u64 0, .int .u64 0, .int .u64 0, .int .u64 0], .iface 35 (.int .i64 3)]) ∧ Below w.heap.size w w' := by
  obtain ⟨zs, hzs⟩ : ∃ zs : List Value, [.int .u64 0, .int .u64 0, .int .u64 0, .int .u64 0, .int .u64 0, .int .u64 0] = zs := ⟨_, rfl⟩
  have hza : #[.int .u64 0, .int .u64 0, .int .u64 0, .int .u64 0, .int .u64 0, .int .u64 0] = zs.toArray := by rw [← hzs]
  have HA : Hid (U6 zs 0) := by rw [← hzs]; exact U6.zero
  rw [hza]
  clear hza hzs
  have HG : Hid (GA w) := G
  have HK : Hid (U6 ks k) := hk
  have HLa : Hid (zs.length = 6) := HA.out.len
  obtain ⟨ao, cap, rfl, h1, h2, h3⟩ := hv
  clear G hk h1 h2 h3
  have D0 := ((Blk.new w zs 24 w.heap.size rfl).alloc (.cells ks.toArray 24)).alloc (.cells #[.int .u64 0, .int .u64 0, .int .u64 0, .int .u64 0, .int .u64 0, .int .u64 0, .int .u64 0, .int .u64 0, .int .u64 0, .int .u64 0, .int .u64 0, .int .u64 0] 30)
  have R0 := Blk.new ((w.alloc (.cells zs.toArray 24)).alloc (.cells ks.toArray 24)) [.int .u64 0, .int .u64 0, .int .u64 0, .int .u64 0, .int .u64 0, .int .u64 0, .int .u64 0, .int .u64 0, .int .u64 0, .int .u64 0, .int .u64 0, .int .u64 0] 30 (w.heap.size + 1 + 1) (by simp)
  have bel : Below w.heap.size w (((w.alloc (.cells zs.toArray 24)).alloc (.cells ks.toArray 24)).alloc (.cells #[.int .u64 0, .int .u64 0, .int .u64 0, .int .u64 0, .int .u64 0, .int .u64 0, .int .u64 0, .int .u64 0, .int .u64 0, .int .u64 0, .int .u64 0, .int .u64 0] 30)) := (((Below.refl _ _).alloc (Nat.le_refl _) _).alloc (by simp) _).alloc (by simp; omega) _
  have hz := zero_s.out
  go_enter Tryd.func6, Tryd.ntmps6
  go_upto_region 1 with fail
  generalize ((w.alloc (.cells zs.toArray 24)).alloc (.cells ks.toArray 24)).alloc (.cells #[.int .u64 0, .int .u64 0, .int .u64 0, .int .u64 0, .int .u64 0, .int .u64 0, .int .u64 0, .int .u64 0, .int .u64 0, .int .u64 0, .int .u64 0, .int .u64 0] 30) = W at *
  clear hz
  have l0 := D0.lt
  go_wp2_with (first | (refine wpList_load_run (by rfl) (by rfl) (by rfl) (D0.load Tryd.underlying24 rfl size_u HLa.out) ?_) | fail)
  refine (c14_inRange (HG.out.below bel).2 HA.out).mono ?_
  rintro e w3 ⟨rfl, hb⟩
  replace D0 := D0.later hb
  replace R0 := R0.later hb
  replace bel := below_step bel hb
  clear hb
  clear l0
  rw [decide_eq_false (show ¬ isSc 0 from fun h => by have := h.1; omega)]
  obtain ⟨tR, hR⟩ := R0
  have HR1 : Hid _ := hR
  clear hR
  have hz := zero_s.out
  go_wp2_with (first | (refine wpList_store_row rfl 30 _ _ rfl (w.heap.size + 1 + 1) #[.int .u64 0, .int .u64 0, .int .u64 0, .int .u64 0, .int .u64 0, .int .u64 0, .int .u64 0, .int .u64 0, .int .u64 0, .int .u64 0, .int .u64 0, .int .u64 0] rfl rfl tR _ HR1.out (by rw [size_s]; rfl) rfl (by simp [Value.oneCell']) ?_) | fail)
  refine bodyPost_ret (results_row_tmp rfl _ _ (w.heap.size + 1 + 1) tR #[.int .u64 0, .int .u64 0, .int .u64 0, .int .u64 0, .int .u64 0, .int .u64 0, .int .u64 0, .int .u64 0, .int .u64 0, .int .u64 0, .int .u64 0, .int .u64 0] (0, 0) _ rfl (setRow_heap _ _ _ _ _ _ HR1.out) Tryd.underlying30 rfl (by rw [size_s]; rfl)) rfl ?_
  exact ⟨rfl, below_setRow bel (by omega) _⟩
theorem g_raw0 : P13R [.int .u64 4203087948775033527, .int .u64 6125724927633205612, .int .u64 6482722621138151992, .int .u64 7934563412932533144, .int .u64 10282218360005504372, .int .u64 12288012358878168375, .int .u64 8809917716911230559, .int .u64 747793036959711645, .int .u64 16850834916486723776, .int .u64 17938995913990739068, .int .u64 6745997240412855337, .int .u64 3897828414440483951, .bool false] GX GY false := by
  refine ⟨[.int .u64 4203087948775033527, .int .u64 6125724927633205612, .int .u64 6482722621138151992, .int .u64 7934563412932533144, .int .u64 10282218360005504372, .int .u64 12288012358878168375, .int .u64 8809917716911230559, .int .u64 747793036959711645, .int .u64 16850834916486723776, .int .u64 17938995913990739068, .int .u64 6745997240412855337, .int .u64 3897828414440483951, .bool false].take 6, ([.int .u64 4203087948775033527, .int .u64 6125724927633205612, .int .u64 6482722621138151992, .int .u64 7934563412932533144, .int .u64 10282218360005504372, .int .u64 12288012358878168375, .int .u64 8809917716911230559, .int .u64 747793036959711645, .int .u64 16850834916486723776, .int .u64 17938995913990739068, .int .u64 6745997240412855337, .int .u64 3897828414440483951, .bool false].drop 6).take 6, rfl, ⟨_, _, _, _, _, _, rfl, fits6 (by decide), by decide +kernel⟩, ⟨_, _, _, _, _, _, rfl, fits6 (by decide), by decide +kernel⟩⟩
theorem on_Gaff0 : Aff GX GY := on_G
set_option linter.unusedSimpArgs false in
set_option maxRecDepth 100000 in
set_option maxHeartbeats 1000000 in
theorem con_Verify0 {v : Value} {D : List Int} {w : World} (G : GA w) (hv : Bs w v D) (b : byt D) (hl : D.length = 48) :
    Calls Tryd.prog 8 #[.agg #[.int .u64 4203087948775033527, .int .u64 6125724927633205612, .int .u64 6482722621138151992, .int .u64 7934563412932533144, .int .u64 10282218360005504372, .int .u64 12288012358878168375, .int .u64 8809917716911230559, .int .u64 747793036959711645, .int .u64 16850834916486723776, .int .u64 17938995913990739068, .int .u64 6745997240412855337, .int .u64 3897828414440483951, .bool false], v, .agg #[.int .u64 0, .int .u64 0, .int .u64 0, .int .u64 0, .int .u64 0, .int .u64 0, .int .u64 0, .int .u64 0, .int .u64 0, .int .u64 0, .int .u64 0, .int .u64 0]] w fun e w' => e = .returned (.iface 35 (.int .i64 3)) ∧ Below w.heap.size w w' := by
  obtain ⟨qs, hqs⟩ : ∃ qs : List Value, [.int .u64 4203087948775033527, .int .u64 6125724927633205612, .int .u64 6482722621138151992, .int .u64 7934563412932533144, .int .u64 10282218360005504372, .int .u64 12288012358878168375, .int .u64 8809917716911230559, .int .u64 747793036959711645, .int .u64 16850834916486723776, .int .u64 17938995913990739068, .int .u64 6745997240412855337, .int .u64 3897828414440483951, .bool false] = qs := ⟨_, rfl⟩
  have HQ : Hid (P13R qs GX GY false) := by rw [← hqs]; exact g_raw0
  have hqa : #[.int .u64 4203087948775033527, .int .u64 6125724927633205612, .int .u64 6482722621138151992, .int .u64 7934563412932533144, .int .u64 10282218360005504372, .int .u64 12288012358878168375, .int .u64 8809917716911230559, .int .u64 747793036959711645, .int .u64 16850834916486723776, .int .u64 17938995913990739068, .int .u64 6745997240412855337, .int .u64 3897828414440483951, .bool false] = qs.toArray := by rw [← hqs]
  obtain ⟨ts, hts⟩ : ∃ ts : List Value, [.int .u64 0, .int .u64 0, .int .u64 0, .int .u64 0, .int .u64 0, .int .u64 0, .int .u64 0, .int .u64 0, .int .u64 0, .int .u64 0, .int .u64 0, .int .u64 0] = ts := ⟨_, rfl⟩
  have HT : Hid ([.int .u64 0, .int .u64 0, .int .u64 0, .int .u64 0, .int .u64 0, .int .u64 0] ++ [.int .u64 0, .int .u64 0, .int .u64 0, .int .u64 0, .int .u64 0, .int .u64 0] = ts) := hts
  have hta : #[.int .u64 0, .int .u64 0, .int .u64 0, .int .u64 0, .int .u64 0, .int .u64 0, .int .u64 0, .int .u64 0, .int .u64 0, .int .u64 0, .int .u64 0, .int .u64 0] = ts.toArray := by rw [← hts]
  rw [hqa, hta]
  clear hqa hqs hta hts
  have HG : Hid (GA w) := G
  have HLq : Hid (qs.length = 13) := HQ.out.len
  have HLt : Hid (ts.length = 12) := by show _ = _; rw [← HT.out]; rfl
  have HB : Hid (byt D) := b
  have HC3 : Hid (D.length = 48) := hl
  have HV : Hid (Bs w v D) := hv
  obtain ⟨ao, cap, rfl, h1, h2, h3⟩ := hv
  clear G b h1 h2 h3 hl
  have HNn : Hid (qs[12]? = some (.bool false)) := by
    obtain ⟨xs, ys, e, u1, u2⟩ := HQ.out
    show _ = _
    rw [e, List.getElem?_append_right (by simp [u1.len, u2.len])]
    simp [u1.len, u2.len]
  have Q0 := (Blk.new w qs 37 w.heap.size rfl).alloc (.cells ts.toArray 30)
  have S0 := Blk.new (w.alloc (.cells qs.toArray 37)) ts 30 (w.heap.size + 1) (by simp)
  have bel : Below w.heap.size w ((w.alloc (.cells qs.toArray 37)).alloc (.cells ts.toArray 30)) := ((Below.refl _ _).alloc (Nat.le_refl _) _).alloc (by simp) _
  go_enter Tryd.func8, Tryd.ntmps8
  go_upto_region 1 with fail
  generalize (w.alloc (.cells qs.toArray 37)).alloc (.cells ts.toArray 30) = W at *
  have l0 := Q0.lt
  have cn := Q0.cell 12 _ HNn.out
  go_wp2_with (first | (refine wpList_load_run (by rfl) (by rfl) (by rfl) (Q0.load Tryd.underlying37 rfl size_p HLq.out) ?_) | fail)
  refine (uOn (HG.out.below bel).1 HQ.out).mono ?_
  rintro e w3 ⟨ob, rfl, hob, hb⟩
  clear l0 cn
  replace Q0 := Q0.later hb
  replace S0 := S0.later hb
  replace bel := below_step bel hb
  clear hb
  obtain rfl : ob = true := hob.2 (.inr ⟨rfl, on_Gaff0⟩)
  clear hob
  go_wp2_with fail
  refine (uDigest (HG.out.below bel).2 (HV.out.later bel) HB.out HC3.out).mono ?_
  rintro e w5 ⟨hs5, rfl, hu, hb⟩
  replace Q0 := Q0.later hb
  replace S0 := S0.later hb
  replace bel := below_step bel hb
  clear hb
  have HH : Hid (U6 hs5 (beN D % QQ)) := hu
  clear hu
  have HLh : Hid (hs5.length = 6) := HH.out.len
  have HSh : Hid (hs5.toArray.size = 6) := by show _ = _; rw [List.size_toArray]; exact HLh.out
  have HOh : Hid (OneR hs5) := HH.out.ones
  replace Q0 := Q0.alloc (.cells hs5.toArray 24)
  replace S0 := S0.alloc (.cells hs5.toArray 24)
  replace bel := below_alloc (o := .cells hs5.toArray 24) bel
  have Bh := Blk.new w5 hs5 24 w5.heap.size rfl
  have hz := zero_u.out
  go_upto_region 4 with (first | (refine wpList_store_row rfl 24 _ _ rfl w5.heap.size hs5.toArray rfl rfl 24 _ (heap_alloc_last _ _) (by rw [size_u, HSh.out]) (by rw [HSh.out]; rfl) HOh.out ?_; rw [World.setRow_alloc_new]) | fail)
  clear hz
  obtain ⟨gh, hgh⟩ : ∃ g, g = w5.heap.size := ⟨_, rfl⟩
  rw [← hgh] at Bh
  generalize w5.alloc (.cells hs5.toArray 24) = Vh at *
  rw [← hgh]
  clear hgh
  have q3 := ne_nilC
  have l0 := S0.lt
  go_wp2_with (first | (refine wpList_load_run (by rfl) (by rfl) (by rfl) (S0.load Tryd.underlying30 rfl size_s HLt.out) ?_) | fail)
  refine (by rw [← HT.out]; exact c14_both (HG.out.below bel).2 U6.zero U6.zero : Calls Tryd.prog 20 #[.agg ts.toArray] _ _).mono ?_
  rintro e w6 ⟨rfl, hb⟩
  replace bel := below_step bel hb
  rw [decide_eq_false (show ¬ (isSc 0 ∧ isSc 0) from fun h => by have := h.1.1; omega)]
  clear l0 hb q3
  go_wp2_with fail
  go_ret
  exact ⟨rfl, bel⟩
end Go.Proofs.YtjpnbbhpgchbpaaDoor
