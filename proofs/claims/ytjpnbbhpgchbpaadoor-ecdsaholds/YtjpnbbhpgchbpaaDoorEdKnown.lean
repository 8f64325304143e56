/- The law's 'known': any number as one from 1 to N - 1. -/
import Derived.Test.YtjpnbbhpgchbpaaDoorRows
import Derived.Test.YtjpnbbhpgchbpaaDoorEdG
import Derived.Test.YtjpnbbhpgchbpaaDoorEdU
import Derived.Test.YtjpnbbhpgchbpaaDoorBase
import Derived.Deep.OwnRows
import Derived.Deep.AppendLies
import Derived.Great.BuildSlice
import Derived.Laws.Rows
import Derived.Deep.WholeRow
import Derived.Deep.RegionHeld3
import Derived.Deep.DeepCutAuto
import Derived.Deep.DeepFit
namespace Go.Proofs.YtjpnbbhpgchbpaaDoor
open Go.RowKit

set_option linter.unusedSimpArgs false in
set_option maxRecDepth 100000 in
set_option maxHeartbeats 1000000 in
theorem con_known {cs : List Value} {x : Int} {w : World} (G : GlsO w) (h : U6 cs x) :
    Calls Tryd.prog 5 #[.agg cs.toArray] w fun e w' => ∃ es y, e = .returned (.agg es.toArray) ∧ U6 es y ∧ isSc y ∧ Below w.heap.size w w' := by
  have hz := zero_u.out
  have HU : Hid (U6 cs x) := h
  have HLa : Hid (cs.length = 6) := h.len
  clear h
  have B0 := (Blk.new w cs 24 w.heap.size rfl).alloc (.cells #[.int .u64 0, .int .u64 0, .int .u64 0, .int .u64 0, .int .u64 0, .int .u64 0] 24)
  have R0 := Blk.new (w.alloc (.cells cs.toArray 24)) [.int .u64 0, .int .u64 0, .int .u64 0, .int .u64 0, .int .u64 0, .int .u64 0] 24 (w.heap.size + 1) (by simp)
  have bel : Below w.heap.size w ((w.alloc (.cells cs.toArray 24)).alloc (.cells #[.int .u64 0, .int .u64 0, .int .u64 0, .int .u64 0, .int .u64 0, .int .u64 0] 24)) := ((Below.refl _ _).alloc (Nat.le_refl _) _).alloc (by simp) _
  go_enter Tryd.func5, Tryd.ntmps5
  go_upto_region 1 with fail
  generalize (w.alloc (.cells cs.toArray 24)).alloc (.cells #[.int .u64 0, .int .u64 0, .int .u64 0, .int .u64 0, .int .u64 0, .int .u64 0] 24) = W at *
  have la := B0.lt
  go_wp2_with (first | (refine wpList_load_run (by rfl) (by rfl) (by rfl) (B0.load Tryd.underlying24 rfl size_u HLa.out) ?_) | fail)
  refine (uRest (G.below bel) HU.out).mono ?_
  rintro e w1 ⟨es, rfl, hu, hb⟩
  have HE : Hid (U6 es (x % QQ)) := hu
  have HLb : Hid (es.length = 6) := hu.len
  have HSb : Hid (es.toArray.size = 6) := by show _ = _; rw [List.size_toArray]; exact HLb.out
  have HOb : Hid (OneR es) := hu.ones
  clear hu la B0
  replace R0 := (R0.later hb).alloc (.cells es.toArray 24)
  replace bel := below_alloc (o := .cells es.toArray 24) (below_step bel hb)
  have KB := Blk.new w1 es 24 w1.heap.size rfl
  clear hb
  go_upto_region 2 with (first | (refine wpList_store_row rfl 24 _ _ rfl w1.heap.size es.toArray rfl rfl 24 _ (heap_alloc_last _ _) (by rw [size_u, HSb.out]) (by rw [HSb.out]; rfl) HOb.out ?_; rw [World.setRow_alloc_new]) | fail)
  clear hz
  obtain ⟨g1, hg1⟩ : ∃ g1, g1 = w1.heap.size := ⟨_, rfl⟩
  rw [← hg1] at KB
  generalize w1.alloc (.cells es.toArray 24) = w2 at *
  rw [← hg1]
  clear hg1
  have lk := KB.lt
  have q := eqU HE.out U6.zero
  obtain ⟨tR, hR⟩ := R0
  have HR1 : Hid _ := hR
  clear hR
  by_cases c1 : x % QQ = 0
  · rw [decide_eq_true c1] at q
    go_wp2_with (first | (refine wpList_load_run (by rfl) (by rfl) (by rfl) (KB.load Tryd.underlying24 rfl size_u HLb.out) ?_) | (refine wpList_store_row rfl 24 _ _ rfl (w.heap.size + 1) #[.int .u64 1, .int .u64 0, .int .u64 0, .int .u64 0, .int .u64 0, .int .u64 0] rfl rfl tR _ HR1.out (by rw [size_u]; rfl) rfl (by simp [Value.oneCell']) ?_) | fail)
    exact bodyPost_ret (results_cell_row rfl _ _ (w.heap.size + 1) tR #[.int .u64 1, .int .u64 0, .int .u64 0, .int .u64 0, .int .u64 0, .int .u64 0] (0, 0) _ rfl (setRow_heap _ _ _ _ _ _ HR1.out) Tryd.underlying24 rfl (by rw [size_u]; rfl)) rfl ⟨[.int .u64 1, .int .u64 0, .int .u64 0, .int .u64 0, .int .u64 0, .int .u64 0], 1, rfl, U6.one, by decide, below_setRow bel (by omega) _⟩
  · rw [decide_eq_false c1] at q
    have HSc : Hid (isSc (x % QQ)) := by have h1 := Int.emod_nonneg x (show QQ ≠ 0 by decide); exact ⟨by omega, Int.emod_lt_of_pos _ (by decide)⟩
    go_wp2_with (first | (refine wpList_load_run (by rfl) (by rfl) (by rfl) (KB.load Tryd.underlying24 rfl size_u HLb.out) ?_) | (refine wpList_store_row rfl 24 _ _ rfl (w.heap.size + 1) es.toArray rfl rfl tR _ HR1.out (by rw [size_u, HSb.out]) (by rw [HSb.out]; rfl) HOb.out ?_) | fail)
    exact bodyPost_ret (results_cell_row rfl _ _ (w.heap.size + 1) tR es.toArray (0, 0) _ rfl (setRow_heap _ _ _ _ _ _ HR1.out) Tryd.underlying24 rfl (by rw [size_u, HSb.out])) rfl ⟨es, _, rfl, HE.out, HSc.out, below_setRow bel (by omega) _⟩
end Go.Proofs.YtjpnbbhpgchbpaaDoor
