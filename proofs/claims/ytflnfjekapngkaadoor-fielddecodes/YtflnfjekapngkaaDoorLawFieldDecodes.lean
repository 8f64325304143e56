/- The law FieldDecodes answers true: the number of any bytes, below the prime, or what is amiss. -/
import Derived.Test.YtflnfjekapngkaaDoorRows
import Derived.Test.YtflnfjekapngkaaDoorFLaw
import Derived.Test.YtflnfjekapngkaaDoorFDecode
import Derived.Test.YtflnfjekapngkaaDoorRFrom
import Derived.Test.YtflnfjekapngkaaDoorRCmp
import Derived.Deep.RegionHeld3
namespace Go.Proofs.YtflnfjekapngkaaDoor
open Go.RowKit

theorem iface_eq (c : Int) : ∀ w : World, (binOp .eql 40 (.iface 44 (.int .i64 c)) (.iface 44 (.int .i64 c))).run Tryd.prog w = .ok (.bool true) w := fun w => by
  have : (binOp .eql 40 (.iface 44 (.int .i64 c)) (.iface 44 (.int .i64 c))).run Tryd.prog w = .ok (.bool (decide (c = c))) w := by kernel_rfl
  rw [this]; simp
theorem iface_nil : ∀ w : World, (binOp .eql 40 .nilIface .nilIface).run Tryd.prog w = .ok (.bool true) w := fun _ => by kernel_rfl

set_option maxRecDepth 100000 in
set_option maxHeartbeats 2000000 in
theorem dec_short (v : Value) (bs : List Int) (w : World) (G : Gls w) (h : Bs w v bs) (hl : bs.length < 48) :
    Calls Tryd.prog 8 #[v] w fun e w' => e = .returned (.bool true) ∧ Below w.heap.size w w' := by
  have hh := h
  obtain ⟨ao, cap, rfl, h2, h3, -⟩ := h
  unfold maxLen at h2
  have g1 : (bs.length : Int) < 48 := by omega
  have q1 := iface_eq 6
  have q2 := eql_same 0 0 0 0 0 0
  go_enter Tryd.func8, Tryd.ntmps8
  go_wp2_with fail
  refine (decode_bad hh (Or.inl ⟨hl, rfl⟩)).mono ?_
  rintro e w1 ⟨rfl, hb⟩
  have B0 := Blk.new w1 (us [0, 0, 0, 0, 0, 0]) 24 w1.heap.size rfl
  have bel := below_alloc (o := .cells (us [0, 0, 0, 0, 0, 0]).toArray 24) hb
  clear hb
  go_wp2_with fail
  simp only [us, List.map_cons, List.map_nil] at B0 bel
  generalize w1.alloc (Obj.cells #[.int .u64 0, .int .u64 0, .int .u64 0, .int .u64 0, .int .u64 0, .int .u64 0] 24) = W at *
  refine (two_any (G.below bel)).mono ?_
  rintro e w9 ⟨rfl, hb⟩
  replace B0 := B0.later hb
  replace bel := below_step bel hb
  clear hb
  obtain ⟨c0, c1, c2, c3, c4, c5⟩ := B0.cells6
  go_wp2_with fail
  go_ret
  exact ⟨rfl, bel⟩

set_option maxRecDepth 100000 in
set_option maxHeartbeats 2000000 in
theorem dec_more (v : Value) (bs : List Int) (w : World) (G : Gls w) (h : Bs w v bs) (hl : 48 < bs.length) :
    Calls Tryd.prog 8 #[v] w fun e w' => e = .returned (.bool true) ∧ Below w.heap.size w w' := by
  have hh := h
  obtain ⟨ao, cap, rfl, h2, h3, -⟩ := h
  unfold maxLen at h2
  have g1 : ¬ (bs.length : Int) < 48 := by omega
  have g2 : (48 : Int) < (bs.length : Int) := by omega
  have q1 := iface_eq 8
  have q2 := eql_same 0 0 0 0 0 0
  go_enter Tryd.func8, Tryd.ntmps8
  go_wp2_with fail
  refine (decode_bad hh (Or.inr ⟨hl, rfl⟩)).mono ?_
  rintro e w1 ⟨rfl, hb⟩
  have B0 := Blk.new w1 (us [0, 0, 0, 0, 0, 0]) 24 w1.heap.size rfl
  have bel := below_alloc (o := .cells (us [0, 0, 0, 0, 0, 0]).toArray 24) hb
  clear hb
  go_wp2_with fail
  simp only [us, List.map_cons, List.map_nil] at B0 bel
  generalize w1.alloc (Obj.cells #[.int .u64 0, .int .u64 0, .int .u64 0, .int .u64 0, .int .u64 0, .int .u64 0] 24) = W at *
  refine (two_any (G.below bel)).mono ?_
  rintro e w9 ⟨rfl, hb⟩
  replace B0 := B0.later hb
  replace bel := below_step bel hb
  clear hb
  obtain ⟨c0, c1, c2, c3, c4, c5⟩ := B0.cells6
  go_wp2_with fail
  go_ret
  exact ⟨rfl, bel⟩

set_option maxRecDepth 100000 in
set_option maxHeartbeats 2000000 in
theorem dec_range (v : Value) (bs : List Int) (w : World) (G : Gls w) (h : Bs w v bs) (hB : byt bs) (hl : bs.length = 48) (hr : PP ≤ beN bs) :
    Calls Tryd.prog 8 #[v] w fun e w' => e = .returned (.bool true) ∧ Below w.heap.size w w' := by
  have hh := h
  obtain ⟨ao, cap, rfl, h2, h3, -⟩ := h
  unfold maxLen at h2
  have g1 : ¬ (bs.length : Int) < 48 := by omega
  have g2 : ¬ (48 : Int) < (bs.length : Int) := by omega
  have HR : Hid _ := hr
  have HN : Hid (bs.length = 48) := hl
  clear hr hl
  have q1 := iface_eq 3
  have q2 := eql_same 0 0 0 0 0 0
  go_enter Tryd.func8, Tryd.ntmps8
  go_wp2_with fail
  refine (decode_range G hh HN.out hB HR.out).mono ?_
  rintro e w1 ⟨rfl, hb⟩
  have BS := (hh.later hb).later ((Below.refl _ _).alloc (Nat.le_refl _) (.cells (us [0, 0, 0, 0, 0, 0]).toArray 24))
  have B0 := Blk.new w1 (us [0, 0, 0, 0, 0, 0]) 24 w1.heap.size rfl
  have bel := below_alloc (o := .cells (us [0, 0, 0, 0, 0, 0]).toArray 24) hb
  clear hb
  go_wp2_with fail
  simp only [us, List.map_cons, List.map_nil] at B0 bel
  simp only [us, List.map_cons, List.map_nil] at BS
  generalize w1.alloc (Obj.cells #[.int .u64 0, .int .u64 0, .int .u64 0, .int .u64 0, .int .u64 0, .int .u64 0] 24) = W at *
  refine (rfrom_any _ bs _ BS hB (by rw [HN.out]; decide)).mono ?_
  rintro e w2 ⟨v1, rfl, N1, hb⟩
  replace B0 := B0.later hb
  replace bel := below_step bel hb
  clear hb BS
  go_wp2_with fail
  refine p_any.mono ?_
  rintro e w3 ⟨v2, rfl, N2, hb⟩
  replace B0 := B0.later hb
  replace N1 := N1.later hb
  replace bel := below_step bel hb
  clear hb
  go_wp2_with fail
  refine (cmp_any _ _ _ _ _ N1 N2).mono ?_
  rintro e w4 ⟨rfl, hb⟩
  replace B0 := B0.later hb
  replace bel := below_step bel hb
  have hge : 0 ≤ cmpN (beN bs) PP := cmp_ge0 (by have := HR.out; omega)
  have hgd : decide (0 ≤ cmpN (beN bs) PP) = true := decide_eq_true hge
  clear hb N1 N2
  go_wp2_with fail
  refine (two_any (G.below bel)).mono ?_
  rintro e w9 ⟨rfl, hb⟩
  replace B0 := B0.later hb
  replace bel := below_step bel hb
  clear hb
  obtain ⟨c0, c1, c2, c3, c4, c5⟩ := B0.cells6
  go_wp2_with fail
  go_ret
  exact ⟨rfl, bel⟩

set_option maxRecDepth 100000 in
set_option maxHeartbeats 2000000 in
theorem dec_ok (v : Value) (bs : List Int) (w : World) (G : Gls w) (h : Bs w v bs) (hB : byt bs) (hl : bs.length = 48) (hr : beN bs < PP) :
    Calls Tryd.prog 8 #[v] w fun e w' => e = .returned (.bool true) ∧ Below w.heap.size w w' := by
  have hh := h
  obtain ⟨ao, cap, rfl, h2, h3, -⟩ := h
  unfold maxLen at h2
  have g1 : ¬ (bs.length : Int) < 48 := by omega
  have g2 : ¬ (48 : Int) < (bs.length : Int) := by omega
  have HR : Hid _ := hr
  have HN : Hid (bs.length = 48) := hl
  clear hr hl
  have q1 := iface_nil
  go_enter Tryd.func8, Tryd.ntmps8
  go_wp2_with fail
  refine (decode_ok G hh HN.out hB HR.out).mono ?_
  rintro e w1 ⟨s0, s1, s2, s3, s4, s5, rfl, fS, hs, hb⟩
  have HS : Hid _ := hs
  clear hs
  have BS := (hh.later hb).later ((Below.refl _ _).alloc (Nat.le_refl _) (.cells (us [s0, s1, s2, s3, s4, s5]).toArray 24))
  have B0 := Blk.new w1 (us [s0, s1, s2, s3, s4, s5]) 24 w1.heap.size rfl
  have bel := below_alloc (o := .cells (us [s0, s1, s2, s3, s4, s5]).toArray 24) hb
  clear hb
  go_wp2_with fail
  simp only [us, List.map_cons, List.map_nil] at B0 bel BS
  generalize w1.alloc (Obj.cells #[.int .u64 s0, .int .u64 s1, .int .u64 s2, .int .u64 s3, .int .u64 s4, .int .u64 s5] 24) = W at *
  refine (rfrom_any _ bs _ BS hB (by rw [HN.out]; decide)).mono ?_
  rintro e w2 ⟨v1, rfl, N1, hb⟩
  replace B0 := B0.later hb
  replace bel := below_step bel hb
  clear hb BS
  go_wp2_with fail
  refine p_any.mono ?_
  rintro e w3 ⟨v2, rfl, N2, hb⟩
  replace B0 := B0.later hb
  replace N1 := N1.later hb
  replace bel := below_step bel hb
  clear hb
  go_wp2_with fail
  refine (cmp_any _ _ _ _ _ N1 N2).mono ?_
  rintro e w4 ⟨rfl, hb⟩
  replace B0 := B0.later hb
  replace N1 := N1.later hb
  replace bel := below_step bel hb
  have hge : ¬ 0 ≤ cmpN (beN bs) PP := by have := cmp_neg HR.out; omega
  have hgd : decide (0 ≤ cmpN (beN bs) PP) = false := decide_eq_false hge
  clear hb N2
  go_wp2_with fail
  refine (two_any (G.below bel)).mono ?_
  rintro e w9 ⟨rfl, hb⟩
  replace B0 := B0.later hb
  replace N1 := N1.later hb
  replace bel := below_step bel hb
  clear hb
  obtain ⟨c0, c1, c2, c3, c4, c5⟩ := B0.cells6
  go_wp2_with fail
  refine (is6 fS N1 HS.out).mono ?_
  rintro e w10 ⟨rfl, hb⟩
  replace bel := below_step bel hb
  clear hb
  go_wp2_with fail
  go_ret
  exact ⟨rfl, bel⟩

theorem law_fieldDecodes (v : Value) (bs : List Int) (w : World) (G : Gls w) (h : Bs w v bs) (hB : byt bs) :
    Calls Tryd.prog 8 #[v] w fun e w' => e = .returned (.bool true) ∧ Below w.heap.size w w' := by
  by_cases h1 : bs.length < 48
  · exact dec_short v bs w G h h1
  by_cases h2 : 48 < bs.length
  · exact dec_more v bs w G h h2
  by_cases h3 : beN bs < PP
  · exact dec_ok v bs w G h hB (by omega) h3
  · exact dec_range v bs w G h hB (by omega) (by omega)
end Go.Proofs.YtflnfjekapngkaaDoor
