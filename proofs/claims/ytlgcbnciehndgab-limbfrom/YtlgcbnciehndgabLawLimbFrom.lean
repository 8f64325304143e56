/- The law LimbFrom. -/
import Derived.Test.YtlgcbnciehndgabRows
import Derived.Test.YtlgcbnciehndgabOne
import Derived.Test.YtlgcbnciehndgabLFrom
import Derived.Test.YtlgcbnciehndgabRFrom
import Derived.Test.YtlgcbnciehndgabRTo6
import Derived.Test.YtlgcbnciehndgabEq
import Derived.Deep.RegionHeld3
import Derived.Deep.AppendLies
namespace Go.Proofs.Ytlgcbnciehndgab
open Go.RowKit

theorem to6_is {v : Value} {N : Int} {w : World} {s0 s1 s2 s3 s4 s5 : Int} (h : NumIs w v N) (fS : fits [s0, s1, s2, s3, s4, s5]) (hS : v64 [s0, s1, s2, s3, s4, s5] = N % 18446744073709551616 ^ 6) :
    Calls Try.prog 11 #[v] w fun e w' => e = .returned (.agg #[.int .u64 s0, .int .u64 s1, .int .u64 s2, .int .u64 s3, .int .u64 s4, .int .u64 s5]) ∧ Below w.heap.size w w' := by
  refine (to6_any v N w h).mono ?_
  rintro e w' ⟨T, rfl, lT, fT, hT, hb⟩
  have : T = [s0, s1, s2, s3, s4, s5] := v64_inj T _ lT fT fS (by rw [hT, hS])
  subst this
  exact ⟨rfl, hb⟩

theorem info_u64 : (Try.prog.info? 22).map (fun i => (i.zero, i.size, i.bytes)) = some (some (.int .u64 0), 1, 8) := by kernel_rfl

theorem eql_same (x0 x1 x2 x3 x4 x5 : Int) : ∀ w : World, (Op.equalIn 10000 24 (.agg #[.int .u64 x0, .int .u64 x1, .int .u64 x2, .int .u64 x3, .int .u64 x4, .int .u64 x5]) (.agg #[.int .u64 x0, .int .u64 x1, .int .u64 x2, .int .u64 x3, .int .u64 x4, .int .u64 x5])).run Try.prog w = .ok true w := fun w => by
  obtain ⟨i0, hi, _, _, _⟩ := info_parts info_u64
  have h := run_eql_us w Try.underlying24 hi (by kernel_rfl) Try.underlying22 (by kernel_rfl) [x0, x1, x2, x3, x4, x5] [x0, x1, x2, x3, x4, x5] rfl rfl
  rw [decide_eq_true rfl] at h
  exact h

theorem info_byte : (Try.prog.info? 5).map (fun i => (i.zero, i.size, i.bytes)) = some (some (.int .u8 0), 1, 1) := by kernel_rfl

theorem made_bytes (n : Nat) : madeCells #[.int .u8 0] n = (u8s (List.replicate n 0)).toArray := by
  apply Array.ext
  · simp [madeCells]
  · intro i h1 h2
    simp [madeCells, Nat.mod_one]

theorem iface_six : ∀ w : World, (binOp .eql 32 (.iface 35 (.int .i64 6)) (.iface 35 (.int .i64 6))).run Try.prog w = .ok (.bool true) w := fun _ => by kernel_rfl
theorem iface_eight : ∀ w : World, (binOp .eql 32 (.iface 35 (.int .i64 8)) (.iface 35 (.int .i64 8))).run Try.prog w = .ok (.bool true) w := fun _ => by kernel_rfl
theorem iface_nil : ∀ w : World, (binOp .eql 32 .nilIface .nilIface).run Try.prog w = .ok (.bool true) w := fun _ => by kernel_rfl

theorem one_bytes : beN (List.replicate 47 0 ++ [1]) = 1 := by
  unfold beN
  rw [List.reverse_append, List.reverse_replicate]
  show 1 + 256 * pv 256 (List.replicate 47 0) = 1
  rw [pv_zero _ _ (getD_rep 47)]
  rfl

theorem byt_one : byt (List.replicate 47 0 ++ [1]) := by
  apply byt_of
  intro j hj
  by_cases h : j < 47
  · have : (List.replicate 47 (0 : Int) ++ [1]).getD j 0 = 0 := by
      rw [List.getD_eq_getElem?_getD, List.getElem?_append_left (by simpa using h), ← List.getD_eq_getElem?_getD, getD_rep]
    rw [this]; decide
  · have e : j = 47 := by simp at hj; omega
    subst e
    decide

theorem from6 {v : Value} {bs : List Int} {w : World} (h : Bs w v bs) (hl : bs.length = 48) (hB : byt bs) :
    Calls Try.prog 10 #[v] w fun e w' => ∃ s0 s1 s2 s3 s4 s5 : Int, e = .returned (.tuple #[.agg #[.int .u64 s0, .int .u64 s1, .int .u64 s2, .int .u64 s3, .int .u64 s4, .int .u64 s5], .nilIface]) ∧ fits [s0, s1, s2, s3, s4, s5] ∧ v64 [s0, s1, s2, s3, s4, s5] = beN bs ∧ Below w.heap.size w w' := by
  refine (from_right v bs w h hl hB).mono ?_
  rintro e w' ⟨S, rfl, lS, fS, hS, hb⟩
  obtain ⟨s0, s1, s2, s3, s4, s5, rfl⟩ := six lS
  exact ⟨s0, s1, s2, s3, s4, s5, rfl, fS, hS, hb⟩

theorem from_one {v : Value} {w : World} (h : Bs w v (List.replicate 47 0 ++ [1])) :
    Calls Try.prog 10 #[v] w fun e w' => e = .returned (.tuple #[.agg #[.int .u64 1, .int .u64 0, .int .u64 0, .int .u64 0, .int .u64 0, .int .u64 0], .nilIface]) ∧ Below w.heap.size w w' := by
  refine (from_right v _ w h (by simp) byt_one).mono ?_
  rintro e w' ⟨S, rfl, lS, fS, hS, hb⟩
  have e1 : v64 [1, 0, 0, 0, 0, 0] = 1 := by simp [v64, pv]
  have : S = [1, 0, 0, 0, 0, 0] := v64_inj S _ lS fS fits_one (by rw [hS, one_bytes, e1])
  subst this
  exact ⟨rfl, hb⟩

set_option maxRecDepth 100000 in
set_option maxHeartbeats 1000000 in
theorem law_limbFrom (v : Value) (bs : List Int) (w : World) (h : Bs w v bs) (hB : byt bs) :
    Calls Try.prog 5 #[v] w fun e w' => e = .returned (.bool true) ∧ Below w.heap.size w w' := by
  obtain ⟨i0, hi0, hz0, hz1, hz2⟩ := info_parts info_byte
  have hmk := run_make_row' 30 5 (.int .u8 0) 1 Try.underlying30 info_byte rfl .i64 .i64 47 (by omega) (by omega)
  rw [made_bytes] at hmk
  have own0 := own_made w (u8s (List.replicate 47 0)) 5 47 w.heap.size (by simp) (Nat.le_refl _) (by unfold maxLen; omega)
  have bel0 : Below w.heap.size w (w.alloc (.cells (u8s (List.replicate 47 0)).toArray 5)) := (Below.refl _ _).alloc (Nat.le_refl _) _
  generalize hcs : (u8s (List.replicate 47 0)).toArray = cs at hmk own0 bel0
  replace hmk : ∀ w : World, (Instr.makeSlice 30 (.int .i64 47) (.int .i64 47)).run Try.prog w = .ok (.slice (some ⟨w.heap.size, 0, none⟩) 47 47) (w.alloc (.cells cs 5)) := hmk
  have q1 := eql_same 1 0 0 0 0 0
  have h' := h
  obtain ⟨ao, cap, rfl, m1, m2, -⟩ := h'
  unfold maxLen at m1
  go_enter Try.func5, Try.ntmps5
  go_wp2_with (first
    | (at_builtin; refine wpList_append_lies _ (by rfl) _ _ _ (by rfl) w.heap.size 5 i0 _ 1 1 Try.underlying30 hi0 hz0 hz1 hz2 rfl (by omega) _ _ _ (by rfl) (own0.alloc _) ⟨w.heap.size + 1, 0, none⟩ 1 1 [.int .u8 1] (by rfl) (by rfl) (World.news_of_block (cs := #[.int .u8 1]) (t := 5) (fr := (0, 0)) (by simpa using heap_alloc_new (w.alloc (.cells cs 5)) _)) (by simp [Value.oneCell']) (by omega) (by unfold maxLen; omega) (by omega) (by simp; omega) (w.heap.size + 1 + 1) (by simp) ?_; intro gg cap1 w1 hown1 hgrow hat hlt1)
    | fail)
  have bel1 : Below w.heap.size w w1 := Below.grown (bel0.alloc (by simp) _) hgrow (by simp; omega) (fun j hj => by simp [Value.ownBlock] at hj; omega)
  have hB1 : Bs w1 (.slice (some ⟨gg, 0, none⟩) 48 cap1) (List.replicate 47 0 ++ [1]) := by
    have e : u8s (List.replicate 47 0 ++ [1]) = u8s (List.replicate 47 0) ++ [.int .u8 1] := List.map_append
    exact Bs.of_own (e := 5) (base := w.heap.size) (n := 47 + 1) (by rw [e]; exact hown1)
  clear hown1 hgrow hat hlt1 own0 bel0 hmk hcs
  refine (from_one hB1).mono ?_
  rintro e w2 ⟨rfl, hb⟩
  have z1 := bel1.size
  have bel := bel1.trans (hb.mono z1)
  clear bel1 hb hB1 z1
  have h2 := h.later bel
  have z2 := bel.size
  go_wp2_with fail
  have B3 := Blk.new w2 (us [1, 0, 0, 0, 0, 0]) 24 w2.heap.size rfl
  replace bel := bel.alloc z2 (.cells (us [1, 0, 0, 0, 0, 0]).toArray 24)
  replace h2 := h2.later ((Below.refl w2.heap.size w2).alloc (Nat.le_refl _) (.cells (us [1, 0, 0, 0, 0, 0]).toArray 24))
  simp only [us, List.map_cons, List.map_nil] at B3 bel h2
  generalize w2.alloc (Obj.cells #[.int .u64 1, .int .u64 0, .int .u64 0, .int .u64 0, .int .u64 0, .int .u64 0] 24) = W at *
  obtain ⟨b3, hb3⟩ : ∃ b, b = w2.heap.size := ⟨_, rfl⟩
  rw [← hb3] at B3 ⊢
  clear hb3 z2
  have z2 := bel.size
  have hcase : bs.length < 48 ∨ 48 < bs.length ∨ bs.length = 48 := by omega
  rcases hcase with hl | hl | hl
  · have g1 : (bs.length : Int) < 48 := by omega
    have q2 := eql_same 0 0 0 0 0 0
    refine (from_short _ bs _ h2 hl).mono ?_
    rintro e w4 ⟨rfl, hb⟩
    replace bel := bel.trans (hb.mono z2)
    replace B3 := B3.later hb
    replace h2 := h2.later hb
    clear hb z2
    go_wp2_with fail
    have z4 := bel.size
    have B5 := Blk.new w4 (us [0, 0, 0, 0, 0, 0]) 24 w4.heap.size rfl
    replace bel := bel.alloc z4 (.cells (us [0, 0, 0, 0, 0, 0]).toArray 24)
    replace B3 := B3.alloc (.cells (us [0, 0, 0, 0, 0, 0]).toArray 24)
    replace h2 := h2.later ((Below.refl w4.heap.size w4).alloc (Nat.le_refl _) (.cells (us [0, 0, 0, 0, 0, 0]).toArray 24))
    simp only [us, List.map_cons, List.map_nil] at B3 B5 bel h2
    generalize w4.alloc (Obj.cells #[.int .u64 0, .int .u64 0, .int .u64 0, .int .u64 0, .int .u64 0, .int .u64 0] 24) = W4 at *
    obtain ⟨b5, hb5⟩ : ∃ b, b = w4.heap.size := ⟨_, rfl⟩
    rw [← hb5] at B5 ⊢
    clear hb5 z4
    have z4 := bel.size
    have z3 := B3.lt
    obtain ⟨c0, c1, c2, c3, c4, c5⟩ := B3.cells6
    go_region_held3 (fun wx => wx.cell? ⟨b3, 0, none⟩ = some (.int .u64 1) ∧ wx.cell? ⟨b3, 1, none⟩ = some (.int .u64 0) ∧ wx.cell? ⟨b3, 2, none⟩ = some (.int .u64 0) ∧ wx.cell? ⟨b3, 3, none⟩ = some (.int .u64 0) ∧ wx.cell? ⟨b3, 4, none⟩ = some (.int .u64 0) ∧ wx.cell? ⟨b3, 5, none⟩ = some (.int .u64 0) ∧ b3 < wx.heap.size ∧ w.heap.size ≤ wx.heap.size ∧ Below w.heap.size w wx ∧ Blk wx b5 (us [0, 0, 0, 0, 0, 0]) ∧ Bs wx (.slice ao bs.length cap) bs)
      (first | (exact ⟨c0, c1, c2, c3, c4, c5, z3, z4, bel.drew, B5.drew, h2.later ((Below.refl _ _).drew)⟩) | (go_split_ands; refine ⟨?_, ?_, ?_, ?_, ?_, ?_, ?_, ?_, ?_, ?_, ?_⟩ <;> first | assumption | (rw [hb.cell (by first | assumption | omega)]; assumption) | (have := hb.size; omega) | (refine Below.trans (by assumption) (hb.mono (by omega))) | (refine Blk.later (by assumption) hb) | (refine Bs.later (by assumption) hb)))
      (first | (go_at_call 8; refine (one_any _).mono ?_; rintro e w' ⟨rfl, hb⟩))
    all_goals go_split_ands
    clear B5 bel h2
    have B5 : Blk w' b5 (us [0, 0, 0, 0, 0, 0]) := by assumption
    have bel : Below w.heap.size w w' := by assumption
    have h2 : Bs w' (.slice ao bs.length cap) bs := by assumption
    obtain ⟨e0, e1, e2, e3, e4, e5⟩ := B5.cells6
    have qi := iface_six
    go_wp2
    go_ret
    exact ⟨rfl, bel⟩
  · have g1 : ¬ (bs.length : Int) < 48 := by omega
    have g2 : (48 : Int) < (bs.length : Int) := by omega
    have q2 := eql_same 0 0 0 0 0 0
    refine (from_more _ bs _ h2 hl).mono ?_
    rintro e w4 ⟨rfl, hb⟩
    replace bel := bel.trans (hb.mono z2)
    replace B3 := B3.later hb
    replace h2 := h2.later hb
    clear hb z2
    go_wp2_with fail
    have z4 := bel.size
    have B5 := Blk.new w4 (us [0, 0, 0, 0, 0, 0]) 24 w4.heap.size rfl
    replace bel := bel.alloc z4 (.cells (us [0, 0, 0, 0, 0, 0]).toArray 24)
    replace B3 := B3.alloc (.cells (us [0, 0, 0, 0, 0, 0]).toArray 24)
    replace h2 := h2.later ((Below.refl w4.heap.size w4).alloc (Nat.le_refl _) (.cells (us [0, 0, 0, 0, 0, 0]).toArray 24))
    simp only [us, List.map_cons, List.map_nil] at B3 B5 bel h2
    generalize w4.alloc (Obj.cells #[.int .u64 0, .int .u64 0, .int .u64 0, .int .u64 0, .int .u64 0, .int .u64 0] 24) = W4 at *
    obtain ⟨b5, hb5⟩ : ∃ b, b = w4.heap.size := ⟨_, rfl⟩
    rw [← hb5] at B5 ⊢
    clear hb5 z4
    have z4 := bel.size
    have z3 := B3.lt
    obtain ⟨c0, c1, c2, c3, c4, c5⟩ := B3.cells6
    go_region_held3 (fun wx => wx.cell? ⟨b3, 0, none⟩ = some (.int .u64 1) ∧ wx.cell? ⟨b3, 1, none⟩ = some (.int .u64 0) ∧ wx.cell? ⟨b3, 2, none⟩ = some (.int .u64 0) ∧ wx.cell? ⟨b3, 3, none⟩ = some (.int .u64 0) ∧ wx.cell? ⟨b3, 4, none⟩ = some (.int .u64 0) ∧ wx.cell? ⟨b3, 5, none⟩ = some (.int .u64 0) ∧ b3 < wx.heap.size ∧ w.heap.size ≤ wx.heap.size ∧ Below w.heap.size w wx ∧ Blk wx b5 (us [0, 0, 0, 0, 0, 0]) ∧ Bs wx (.slice ao bs.length cap) bs)
      (first | (exact ⟨c0, c1, c2, c3, c4, c5, z3, z4, bel.drew, B5.drew, h2.later ((Below.refl _ _).drew)⟩) | (go_split_ands; refine ⟨?_, ?_, ?_, ?_, ?_, ?_, ?_, ?_, ?_, ?_, ?_⟩ <;> first | assumption | (rw [hb.cell (by first | assumption | omega)]; assumption) | (have := hb.size; omega) | (refine Below.trans (by assumption) (hb.mono (by omega))) | (refine Blk.later (by assumption) hb) | (refine Bs.later (by assumption) hb)))
      (first | (go_at_call 8; refine (one_any _).mono ?_; rintro e w' ⟨rfl, hb⟩))
    all_goals go_split_ands
    clear B5 bel h2
    have B5 : Blk w' b5 (us [0, 0, 0, 0, 0, 0]) := by assumption
    have bel : Below w.heap.size w w' := by assumption
    have h2 : Bs w' (.slice ao bs.length cap) bs := by assumption
    obtain ⟨e0, e1, e2, e3, e4, e5⟩ := B5.cells6
    have qi := iface_eight
    go_wp2
    go_ret
    exact ⟨rfl, bel⟩
  · have g1 : ¬ (bs.length : Int) < 48 := by omega
    have g2 : ¬ (48 : Int) < (bs.length : Int) := by omega
    have HL : Hid (bs.length ≤ 1048576) := by show _ ≤ _; omega
    refine (from6 h2 hl hB).mono ?_
    clear hl
    rintro e w4 ⟨s0, s1, s2, s3, s4, s5, rfl, fS, hS, hb⟩
    have q2 := eql_same s0 s1 s2 s3 s4 s5
    have HS : Hid (v64 [s0, s1, s2, s3, s4, s5] = beN bs % 18446744073709551616 ^ 6) := by
      have bd : 0 ≤ v64 [s0, s1, s2, s3, s4, s5] ∧ v64 [s0, s1, s2, s3, s4, s5] < 18446744073709551616 ^ 6 := v64_bound _ fS
      show _ = _
      rw [← hS, Int.emod_eq_of_lt bd.1 bd.2]
    replace bel := bel.trans (hb.mono z2)
    replace B3 := B3.later hb
    replace h2 := h2.later hb
    clear hb z2 hS
    go_wp2_with fail
    have z4 := bel.size
    have B5 := Blk.new w4 (us [s0, s1, s2, s3, s4, s5]) 24 w4.heap.size rfl
    replace bel := bel.alloc z4 (.cells (us [s0, s1, s2, s3, s4, s5]).toArray 24)
    replace B3 := B3.alloc (.cells (us [s0, s1, s2, s3, s4, s5]).toArray 24)
    replace h2 := h2.later ((Below.refl w4.heap.size w4).alloc (Nat.le_refl _) (.cells (us [s0, s1, s2, s3, s4, s5]).toArray 24))
    simp only [us, List.map_cons, List.map_nil] at B3 B5 bel h2
    generalize w4.alloc (Obj.cells #[.int .u64 s0, .int .u64 s1, .int .u64 s2, .int .u64 s3, .int .u64 s4, .int .u64 s5] 24) = W4 at *
    obtain ⟨b5, hb5⟩ : ∃ b, b = w4.heap.size := ⟨_, rfl⟩
    rw [← hb5] at B5 ⊢
    clear hb5 z4
    have z4 := bel.size
    have z3 := B3.lt
    obtain ⟨c0, c1, c2, c3, c4, c5⟩ := B3.cells6
    go_region_held3 (fun wx => wx.cell? ⟨b3, 0, none⟩ = some (.int .u64 1) ∧ wx.cell? ⟨b3, 1, none⟩ = some (.int .u64 0) ∧ wx.cell? ⟨b3, 2, none⟩ = some (.int .u64 0) ∧ wx.cell? ⟨b3, 3, none⟩ = some (.int .u64 0) ∧ wx.cell? ⟨b3, 4, none⟩ = some (.int .u64 0) ∧ wx.cell? ⟨b3, 5, none⟩ = some (.int .u64 0) ∧ b3 < wx.heap.size ∧ w.heap.size ≤ wx.heap.size ∧ Below w.heap.size w wx ∧ Blk wx b5 (us [s0, s1, s2, s3, s4, s5]) ∧ Bs wx (.slice ao bs.length cap) bs)
      (first | (exact ⟨c0, c1, c2, c3, c4, c5, z3, z4, bel.drew, B5.drew, h2.later ((Below.refl _ _).drew)⟩) | (go_split_ands; refine ⟨?_, ?_, ?_, ?_, ?_, ?_, ?_, ?_, ?_, ?_, ?_⟩ <;> first | assumption | (rw [hb.cell (by first | assumption | omega)]; assumption) | (have := hb.size; omega) | (refine Below.trans (by assumption) (hb.mono (by omega))) | (refine Blk.later (by assumption) hb) | (refine Bs.later (by assumption) hb)))
      (first | (go_at_call 8; refine (one_any _).mono ?_; rintro e w' ⟨rfl, hb⟩))
    all_goals go_split_ands
    clear B5 bel h2
    have B5 : Blk w' b5 (us [s0, s1, s2, s3, s4, s5]) := by assumption
    have bel : Below w.heap.size w w' := by assumption
    have h2 : Bs w' (.slice ao bs.length cap) bs := by assumption
    obtain ⟨e0, e1, e2, e3, e4, e5⟩ := B5.cells6
    have qi := iface_nil
    go_wp2_with fail
    have zb := bel.size
    have z5 := B5.lt
    clear B5
    go_region_held3 (fun wx => wx.cell? ⟨b5, 0, none⟩ = some (.int .u64 s0) ∧ wx.cell? ⟨b5, 1, none⟩ = some (.int .u64 s1) ∧ wx.cell? ⟨b5, 2, none⟩ = some (.int .u64 s2) ∧ wx.cell? ⟨b5, 3, none⟩ = some (.int .u64 s3) ∧ wx.cell? ⟨b5, 4, none⟩ = some (.int .u64 s4) ∧ wx.cell? ⟨b5, 5, none⟩ = some (.int .u64 s5) ∧ b5 < wx.heap.size ∧ w.heap.size ≤ wx.heap.size ∧ Below w.heap.size w wx ∧ Bs wx (.slice ao bs.length cap) bs)
      (first | (exact ⟨e0, e1, e2, e3, e4, e5, z5, zb, bel.drew, h2.later ((Below.refl _ _).drew)⟩) | (go_split_ands; refine ⟨?_, ?_, ?_, ?_, ?_, ?_, ?_, ?_, ?_, ?_⟩ <;> first | assumption | (rw [hb.cell (by first | assumption | omega)]; assumption) | (have := hb.size; omega) | (refine Below.trans (by assumption) (hb.mono (by omega))) | (refine Bs.later (by assumption) hb)))
      (first
        | (go_at_call 12; refine (rfrom_any _ bs _ (by go_split_ands; assumption) hB HL.out).mono ?_; rintro e w' ⟨v9, rfl, hN9, hb⟩)
        | (go_at_call 11; refine (to6_is hN9 fS HS.out).mono ?_; rintro e w' ⟨rfl, hb⟩))
    all_goals go_split_ands
    all_goals go_wp2
    all_goals (go_ret; exact ⟨rfl, by assumption⟩)
end Go.Proofs.Ytlgcbnciehndgab
