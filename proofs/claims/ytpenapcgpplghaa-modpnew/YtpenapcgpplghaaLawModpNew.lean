/- The law ModpNew answers true: a modulus of any number, or that it can be none. -/
import Derived.Test.YtpenapcgpplghaaRows
import Derived.Test.YtpenapcgpplghaaMLaw
import Derived.Test.YtpenapcgpplghaaMBad
import Derived.Test.YtpenapcgpplghaaHeld
import Derived.Test.YtpenapcgpplghaaMTo
import Derived.Test.YtpenapcgpplghaaRRest
import Derived.Deep.RegionHeld3
import Derived.Deep.DeepCutAuto
import Derived.Deep.DeepFit
namespace Go.Proofs.Ytpenapcgpplghaa
open Go.RowKit

theorem top_two : (18446744073709551616 : Int) ^ 6 * 18446744073709551616 ^ 6 < 4294967296 ^ 30 := by
  rw [pow_R]; decide

set_option maxRecDepth 100000 in
set_option maxHeartbeats 8000000 in
theorem law_modpNew (m0 m1 m2 m3 m4 m5 : Int) (w : World) (fM : fits [m0, m1, m2, m3, m4, m5]) :
    Calls Try.prog 3 #[.agg #[.int .u64 m0, .int .u64 m1, .int .u64 m2, .int .u64 m3, .int .u64 m4, .int .u64 m5]] w fun e w' => e = .returned (.bool true) ∧ Below w.heap.size w w' := by
  by_cases h00 : m0 % 2 = 0
  · have h : Hid (m0 % 2 = 0 ∨ m5 < 9223372036854775808) := .inl h00
    have hA : Hid _ := h00
    clear h00
    have B0 := Blk.new w (us [m0, m1, m2, m3, m4, m5]) 24 (w.heap.size) rfl
    have bel : Below w.heap.size w (w.alloc (.cells (us [m0, m1, m2, m3, m4, m5]).toArray 24)) := (Below.refl _ _).alloc (Nat.le_refl _) _
    have q2 := iface_nil
    go_enter Try.func3, Try.ntmps3
    go_wp2_with fail
    simp only [us, List.map_cons, List.map_nil] at B0 bel
    generalize w.alloc (Obj.cells #[.int .u64 m0, .int .u64 m1, .int .u64 m2, .int .u64 m3, .int .u64 m4, .int .u64 m5] 24) = W at *
    refine (up_any _).mono ?_
    rintro e w1 ⟨rfl, hb⟩
    replace B0 := B0.later hb
    replace bel := below_step bel hb
    clear hb
    obtain ⟨e0, e1, e2, e3, e4, e5⟩ := B0.cells6
    go_wp2_with fail
    refine (new_bad fM h.out).mono ?_
    rintro e w3 ⟨rfl, hb⟩
    clear e0 e1 e2 e3 e4 e5
    replace B0 := B0.later hb
    replace bel := below_step bel hb
    clear hb
    have lt0 := B0.lt
    obtain ⟨e0, e1, e2, e3, e4, e5⟩ := B0.cells6
    have q3 := iface_one
    have q4 := eql_mod0
    have hlt : m0 % 2 = 0 := hA.out
    have hlt' : m0.tmod 2 = 0 := by rw [Int.tmod_eq_emod_of_nonneg (show 0 ≤ m0 from (fM 0).1)]; exact hlt
    go_wp2_with fail
    go_ret
    exact ⟨rfl, below_alloc bel⟩
  · have h0 : Hid (m0 % 2 = 1) := by show _ = _; omega
    clear h00
    by_cases h55 : m5 < 9223372036854775808
    · have h : Hid (m0 % 2 = 0 ∨ m5 < 9223372036854775808) := .inr h55
      have hA : Hid _ := h0.out
      have hB : Hid _ := h55
      clear h55
      have B0 := Blk.new w (us [m0, m1, m2, m3, m4, m5]) 24 (w.heap.size) rfl
      have bel : Below w.heap.size w (w.alloc (.cells (us [m0, m1, m2, m3, m4, m5]).toArray 24)) := (Below.refl _ _).alloc (Nat.le_refl _) _
      have q2 := iface_nil
      go_enter Try.func3, Try.ntmps3
      go_wp2_with fail
      simp only [us, List.map_cons, List.map_nil] at B0 bel
      generalize w.alloc (Obj.cells #[.int .u64 m0, .int .u64 m1, .int .u64 m2, .int .u64 m3, .int .u64 m4, .int .u64 m5] 24) = W at *
      refine (up_any _).mono ?_
      rintro e w1 ⟨rfl, hb⟩
      replace B0 := B0.later hb
      replace bel := below_step bel hb
      clear hb
      obtain ⟨e0, e1, e2, e3, e4, e5⟩ := B0.cells6
      go_wp2_with fail
      refine (new_bad fM h.out).mono ?_
      rintro e w3 ⟨rfl, hb⟩
      clear e0 e1 e2 e3 e4 e5
      replace B0 := B0.later hb
      replace bel := below_step bel hb
      clear hb
      have lt0 := B0.lt
      obtain ⟨e0, e1, e2, e3, e4, e5⟩ := B0.cells6
      have q3 := iface_one
      have q4 := eql_mod0
      have g0 : m0 % 2 = 1 := hA.out
      have g0' : m0.tmod 2 = 1 := by rw [Int.tmod_eq_emod_of_nonneg (show 0 ≤ m0 from (fM 0).1)]; exact g0
      have g5 : m5 < 9223372036854775808 := hB.out
      have g5' : decide (m5 < 9223372036854775808) = true := decide_eq_true g5
      go_wp2_with fail
      go_ret
      exact ⟨rfl, below_alloc bel⟩
    · have h5 : Hid (9223372036854775808 ≤ m5) := by show _ ≤ _; omega
      clear h55
      have B0 := Blk.new w (us [m0, m1, m2, m3, m4, m5]) 24 (w.heap.size) rfl
      have bel : Below w.heap.size w (w.alloc (.cells (us [m0, m1, m2, m3, m4, m5]).toArray 24)) := (Below.refl _ _).alloc (Nat.le_refl _) _
      have q2 := iface_nil
      go_enter Try.func3, Try.ntmps3
      go_wp2_with fail
      simp only [us, List.map_cons, List.map_nil] at B0 bel
      generalize w.alloc (Obj.cells #[.int .u64 m0, .int .u64 m1, .int .u64 m2, .int .u64 m3, .int .u64 m4, .int .u64 m5] 24) = W at *
      refine (up_any _).mono ?_
      rintro e w1 ⟨rfl, hb⟩
      replace B0 := B0.later hb
      replace bel := below_step bel hb
      clear hb
      obtain ⟨e0, e1, e2, e3, e4, e5⟩ := B0.cells6
      go_wp2_with fail
      refine (new_ok fM h0.out h5.out).mono ?_
      rintro e w3 ⟨i, t0, t1, t2, t3, t4, t5, rfl, hm, hb⟩
      have HM : Hid _ := hm
      clear hm e0 e1 e2 e3 e4 e5
      replace B0 := B0.later hb
      replace bel := below_step bel hb
      clear hb
      have ltc := B0.lt
      replace B0 := B0.alloc (.cells (us [m0, m1, m2, m3, m4, m5, i, t0, t1, t2, t3, t4, t5]).toArray 27)
      have B1 := Blk.new w3 (us [m0, m1, m2, m3, m4, m5, i, t0, t1, t2, t3, t4, t5]) 27 w3.heap.size rfl
      replace bel := below_alloc (o := .cells (us [m0, m1, m2, m3, m4, m5, i, t0, t1, t2, t3, t4, t5]).toArray 27) bel
      go_upto_region 3 with fail
      simp only [us, List.map_cons, List.map_nil] at B0 B1 bel
      generalize w3.alloc (Obj.cells #[.int .u64 m0, .int .u64 m1, .int .u64 m2, .int .u64 m3, .int .u64 m4, .int .u64 m5, .int .u64 i, .int .u64 t0, .int .u64 t1, .int .u64 t2, .int .u64 t3, .int .u64 t4, .int .u64 t5] 27) = W3 at *
      obtain ⟨bx, hbx⟩ : ∃ b, b = w3.heap.size := ⟨_, rfl⟩
      rw [← hbx] at B1 ltc ⊢
      clear hbx
      obtain ⟨S1, hS1, KL1, KA1, KD1, KS1, KP1, KN1, KB1, KM1, KW1⟩ := held_mk (w0 := w) (W := W3) [(w.heap.size, [m0, m1, m2, m3, m4, m5]), (bx, [m0, m1, m2, m3, m4, m5, i, t0, t1, t2, t3, t4, t5])] [] (by
        intro b X h
        simp only [List.mem_cons, List.not_mem_nil, or_false, Prod.mk.injEq] at h
        rcases h with ⟨rfl, rfl⟩ | ⟨rfl, rfl⟩
        · exact B0
        · exact B1) (by
        intro b h
        exact absurd h (by simp)) (by
        intro b X h
        simp) bel
      obtain ⟨c1a0, c1a1, c1a2, c1a3, c1a4, c1a5, c1a6⟩ := rule6 (S := Hd S1) (b := w.heap.size) (x0 := m0) (x1 := m1) (x2 := m2) (x3 := m3) (x4 := m4) (x5 := m5) (fun wx h => KM1.out wx _ _ h (by simp))
      obtain ⟨c1b0, c1b1, c1b2, c1b3, c1b4, c1b5, c1b6, c1b7, c1b8, c1b9, c1b10, c1b11, c1b12, c1b13⟩ := rule13 (S := Hd S1) (b := bx) (m0 := m0) (m1 := m1) (m2 := m2) (m3 := m3) (m4 := m4) (m5 := m5) (i := i) (t0 := t0) (t1 := t1) (t2 := t2) (t3 := t3) (t4 := t4) (t5 := t5) (fun wx h => KM1.out wx _ _ h (by simp))
      clear B0 B1 bel
      have g0 : m0 % 2 = 1 := h0.out
      have g0' : m0.tmod 2 = 1 := by rw [Int.tmod_eq_emod_of_nonneg (show 0 ≤ m0 from (fM 0).1)]; exact g0
      have g5 : ¬ m5 < 9223372036854775808 := by have := h5.out; omega
      have g5' : decide (m5 < 9223372036854775808) = false := decide_eq_false g5
      have q1 := eql_same m0 m1 m2 m3 m4 m5
      have q3 := eql_same t0 t1 t2 t3 t4 t5
      have fT := HM.out.fT
      have hinv := HM.out.inv
      have hw : IntKind.u64.wrap (i * m0) = 18446744073709551615 := by rw [IntKind.wrap_u64]; exact hinv
      clear hinv
      go_wp2_with fail
      refine (top_any _).mono ?_
      rintro e w4 ⟨v1, rfl, N1, hb⟩
      have hc := KL1.out _ _ hS1 hb
      clear hb
      go_wp2_with fail
      refine (top_any _).mono ?_
      rintro e w5 ⟨v2, rfl, N2, hb⟩
      replace hc := KL1.out _ _ hc hb
      replace N1 := N1.later hb
      clear hb
      go_wp2_with fail
      refine (rmul_any _ _ _ _ _ N1 N2 R_lt R_lt).mono ?_
      rintro e w6 ⟨v3, rfl, N3, hb⟩
      clear hS1
      have hS1 := KL1.out _ _ hc hb
      clear hb hc N1 N2
      go_wp2_with fail
      go_region_held3 (Hd S1)
        (first
          | with_reducible exact KP1.out _ _ _ _ _ _ _ _ (by assumption) (by first | (right; simp; done) | (left; omega)) (by omega)
          | with_reducible exact KL1.out _ _ (by assumption) hb
          | with_reducible exact KA1.out _ _ (by assumption)
          | with_reducible exact KS1.out _ _ _ (by omega) (by assumption)
          | with_reducible exact KD1.out _ hS1
          | with_reducible exact KD1.out _ (KA1.out _ _ hS1)
          | with_reducible assumption)
        (first
          | (go_at_call 15; go_fit (num6 fM); rintro e w' ⟨vm, rfl, NM, hb⟩; (first | replace N3 := N3.later hb | replace N3 := N3.drew.later hb | skip))
          | (go_at_call 14; go_fit (rrest_any _ _ _ _ _ N3 NM top_two (mod_pos HM.out) (v6_bound _ rfl fM).2); rintro e w' ⟨vr, rfl, NR, hb⟩)
          | (go_at_call 13; go_fit (to6_is NR fT HM.out.two); rintro e w' ⟨rfl, hb⟩))
      all_goals go_wp2
      all_goals (go_ret; exact ⟨rfl, KB1.out _ (by assumption)⟩)
end Go.Proofs.Ytpenapcgpplghaa
