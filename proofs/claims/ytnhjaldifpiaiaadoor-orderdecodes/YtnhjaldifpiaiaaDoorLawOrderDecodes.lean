/- The law OrderDecodes answers true: the number of any bytes, below the order and not 0, or what is amiss; a digest's rest. -/
import Derived.Test.YtnhjaldifpiaiaaDoorRows
import Derived.Test.YtnhjaldifpiaiaaDoorOLaw
import Derived.Test.YtnhjaldifpiaiaaDoorODecode
import Derived.Test.YtnhjaldifpiaiaaDoorRFrom
import Derived.Test.YtnhjaldifpiaiaaDoorRefA
import Derived.Deep.RegionHeld3
import Derived.Deep.DeepCutAuto
import Derived.Deep.DeepFit
namespace Go.Proofs.YtnhjaldifpiaiaaDoor
open Go.RowKit

theorem iface_eq (c : Int) : ∀ w : World, (binOp .eql 26 (.iface 33 (.int .i64 c)) (.iface 33 (.int .i64 c))).run Tryd.prog w = .ok (.bool true) w := fun w => by
  have : (binOp .eql 26 (.iface 33 (.int .i64 c)) (.iface 33 (.int .i64 c))).run Tryd.prog w = .ok (.bool (decide (c = c))) w := by kernel_rfl
  rw [this]; simp
theorem iface_nil : ∀ w : World, (binOp .eql 26 .nilIface .nilIface).run Tryd.prog w = .ok (.bool true) w := fun _ => by kernel_rfl

theorem be_30 {bs : List Int} (hB : byt bs) (hl : bs.length = 48) : 0 ≤ beN bs ∧ beN bs < 4294967296 ^ 30 := by
  have h := pv256_bound bs.reverse (byt_rev hB)
  rw [List.length_reverse, hl] at h
  exact ⟨h.1, Int.lt_of_lt_of_le h.2 (by decide)⟩

theorem num_len {w : World} {v : Value} {N : Int} (h : NumIs w v N) : ∃ (ao : Option Addr) (n cap : Nat), v = .slice ao n cap ∧ n ≤ cap ∧ cap ≤ maxLen ∧ ((n : Int) = 0 ↔ N = 0) := by
  obtain ⟨D, sD, dD, tD, rfl⟩ := h
  obtain ⟨ao, cap, rfl, m, k, -⟩ := sD.form
  refine ⟨ao, D.length, cap, rfl, k, m, fun h => ?_, fun h => ?_⟩
  · match D, h with
    | [], _ => rfl
  · apply Classical.byContradiction
    intro hn
    have l := trd_lower D dD tD (by omega)
    have p : (0 : Int) < 4294967296 ^ (D.length - 1) := Int.pow_pos (by decide)
    omega

set_option maxRecDepth 100000 in
set_option maxHeartbeats 4000000 in
theorem odec_short (v : Value) (bs : List Int) (w : World) (G : GlsO w) (h : Bs w v bs) (hl : bs.length < 48) :
    Calls Tryd.prog 7 #[v] w fun e w' => e = .returned (.bool true) ∧ Below w.heap.size w w' := by
  have hh := h
  obtain ⟨ao, cap, rfl, h2, h3, -⟩ := h
  unfold maxLen at h2
  have g1 : (bs.length : Int) < 48 := by omega
  have q1 := iface_eq 6
  have q2 := eql_same 0 0 0 0 0 0
  go_enter Tryd.func7, Tryd.ntmps7
  go_wp2_with fail
  refine (odecode_bad hh (Or.inl ⟨hl, rfl⟩)).mono ?_
  rintro e w1 ⟨rfl, bel⟩
  have BS := hh.later bel
  have B0 := Blk.new w1 (us [0, 0, 0, 0, 0, 0]) 24 w1.heap.size rfl
  replace BS := BS.later ((Below.refl _ _).alloc (Nat.le_refl _) (.cells (us [0, 0, 0, 0, 0, 0]).toArray 24))
  replace bel := below_alloc (o := .cells (us [0, 0, 0, 0, 0, 0]).toArray 24) bel
  go_wp2_with fail
  simp only [us, List.map_cons, List.map_nil] at B0 bel BS
  obtain ⟨ba, hba⟩ : ∃ b, b = w1.heap.size := ⟨_, rfl⟩
  generalize w1.alloc (Obj.cells #[.int .u64 0, .int .u64 0, .int .u64 0, .int .u64 0, .int .u64 0, .int .u64 0] 24) = Wba at *
  rw [← hba] at B0 ⊢
  clear hba
  refine (digest_bad BS (Or.inl ⟨hl, rfl⟩)).mono ?_
  rintro e w2 ⟨rfl, hb⟩
  replace BS := BS.later hb
  replace B0 := B0.later hb
  replace bel := below_step bel hb
  clear hb
  have lt0 := B0.lt
  replace B0 := B0.alloc (.cells (us [0, 0, 0, 0, 0, 0]).toArray 24)
  have B1 := Blk.new w2 (us [0, 0, 0, 0, 0, 0]) 24 w2.heap.size rfl
  replace BS := BS.later ((Below.refl _ _).alloc (Nat.le_refl _) (.cells (us [0, 0, 0, 0, 0, 0]).toArray 24))
  replace bel := below_alloc (o := .cells (us [0, 0, 0, 0, 0, 0]).toArray 24) bel
  go_wp2_with fail
  simp only [us, List.map_cons, List.map_nil] at B0 B1 bel BS
  obtain ⟨bd, hbd⟩ : ∃ b, b = w2.heap.size := ⟨_, rfl⟩
  generalize w2.alloc (Obj.cells #[.int .u64 0, .int .u64 0, .int .u64 0, .int .u64 0, .int .u64 0, .int .u64 0] 24) = Wbd at *
  rw [← hbd] at B1 lt0 ⊢
  clear hbd
  refine (five_any (G.below bel)).mono ?_
  rintro e w9 ⟨rfl, hb⟩
  replace B0 := B0.later hb
  replace B1 := B1.later hb
  replace bel := below_step bel hb
  clear hb BS
  obtain ⟨c0, c1, c2, c3, c4, c5⟩ := B0.cells6
  obtain ⟨d0, d1, d2, d3, d4, d5⟩ := B1.cells6
  go_wp2_with fail
  go_ret
  exact ⟨rfl, bel⟩

set_option maxRecDepth 100000 in
set_option maxHeartbeats 4000000 in
theorem odec_more (v : Value) (bs : List Int) (w : World) (G : GlsO w) (h : Bs w v bs) (hl : 48 < bs.length) :
    Calls Tryd.prog 7 #[v] w fun e w' => e = .returned (.bool true) ∧ Below w.heap.size w w' := by
  have hh := h
  obtain ⟨ao, cap, rfl, h2, h3, -⟩ := h
  unfold maxLen at h2
  have g1 : ¬ (bs.length : Int) < 48 := by omega
  have g2 : (48 : Int) < (bs.length : Int) := by omega
  have q1 := iface_eq 8
  have q2 := eql_same 0 0 0 0 0 0
  go_enter Tryd.func7, Tryd.ntmps7
  go_wp2_with fail
  refine (odecode_bad hh (Or.inr ⟨hl, rfl⟩)).mono ?_
  rintro e w1 ⟨rfl, bel⟩
  have BS := hh.later bel
  have B0 := Blk.new w1 (us [0, 0, 0, 0, 0, 0]) 24 w1.heap.size rfl
  replace BS := BS.later ((Below.refl _ _).alloc (Nat.le_refl _) (.cells (us [0, 0, 0, 0, 0, 0]).toArray 24))
  replace bel := below_alloc (o := .cells (us [0, 0, 0, 0, 0, 0]).toArray 24) bel
  go_wp2_with fail
  simp only [us, List.map_cons, List.map_nil] at B0 bel BS
  obtain ⟨ba, hba⟩ : ∃ b, b = w1.heap.size := ⟨_, rfl⟩
  generalize w1.alloc (Obj.cells #[.int .u64 0, .int .u64 0, .int .u64 0, .int .u64 0, .int .u64 0, .int .u64 0] 24) = Wba at *
  rw [← hba] at B0 ⊢
  clear hba
  refine (digest_bad BS (Or.inr ⟨hl, rfl⟩)).mono ?_
  rintro e w2 ⟨rfl, hb⟩
  replace BS := BS.later hb
  replace B0 := B0.later hb
  replace bel := below_step bel hb
  clear hb
  have lt0 := B0.lt
  replace B0 := B0.alloc (.cells (us [0, 0, 0, 0, 0, 0]).toArray 24)
  have B1 := Blk.new w2 (us [0, 0, 0, 0, 0, 0]) 24 w2.heap.size rfl
  replace BS := BS.later ((Below.refl _ _).alloc (Nat.le_refl _) (.cells (us [0, 0, 0, 0, 0, 0]).toArray 24))
  replace bel := below_alloc (o := .cells (us [0, 0, 0, 0, 0, 0]).toArray 24) bel
  go_wp2_with fail
  simp only [us, List.map_cons, List.map_nil] at B0 B1 bel BS
  obtain ⟨bd, hbd⟩ : ∃ b, b = w2.heap.size := ⟨_, rfl⟩
  generalize w2.alloc (Obj.cells #[.int .u64 0, .int .u64 0, .int .u64 0, .int .u64 0, .int .u64 0, .int .u64 0] 24) = Wbd at *
  rw [← hbd] at B1 lt0 ⊢
  clear hbd
  refine (five_any (G.below bel)).mono ?_
  rintro e w9 ⟨rfl, hb⟩
  replace B0 := B0.later hb
  replace B1 := B1.later hb
  replace bel := below_step bel hb
  clear hb BS
  obtain ⟨c0, c1, c2, c3, c4, c5⟩ := B0.cells6
  obtain ⟨d0, d1, d2, d3, d4, d5⟩ := B1.cells6
  go_wp2_with fail
  go_ret
  exact ⟨rfl, bel⟩

set_option maxRecDepth 100000 in
set_option maxHeartbeats 4000000 in
theorem odec_zero (v : Value) (bs : List Int) (w : World) (G : GlsO w) (h : Bs w v bs) (hB : byt bs) (hl : bs.length = 48) (hr : beN bs = 0) :
    Calls Tryd.prog 7 #[v] w fun e w' => e = .returned (.bool true) ∧ Below w.heap.size w w' := by
  have hh := h
  obtain ⟨ao, cap, rfl, h2, h3, -⟩ := h
  unfold maxLen at h2
  have g1 : ¬ (bs.length : Int) < 48 := by omega
  have g2 : ¬ (48 : Int) < (bs.length : Int) := by omega
  have HN : Hid (bs.length = 48) := hl
  have HB : Hid _ := be_30 hB hl
  clear hl
  have HR : Hid _ := hr
  clear hr
  have q3 := iface_eq 3
  have q2 := eql_same 0 0 0 0 0 0
  have q1 := iface_nilnot
  go_enter Tryd.func7, Tryd.ntmps7
  go_wp2_with fail
  refine (odecode_zero hh HN.out hB HR.out).mono ?_
  rintro e w1 ⟨rfl, bel⟩
  have BS := hh.later bel
  have B0 := Blk.new w1 (us [0, 0, 0, 0, 0, 0]) 24 w1.heap.size rfl
  replace BS := BS.later ((Below.refl _ _).alloc (Nat.le_refl _) (.cells (us [0, 0, 0, 0, 0, 0]).toArray 24))
  replace bel := below_alloc (o := .cells (us [0, 0, 0, 0, 0, 0]).toArray 24) bel
  go_wp2_with fail
  simp only [us, List.map_cons, List.map_nil] at B0 bel BS
  obtain ⟨ba, hba⟩ : ∃ b, b = w1.heap.size := ⟨_, rfl⟩
  generalize w1.alloc (Obj.cells #[.int .u64 0, .int .u64 0, .int .u64 0, .int .u64 0, .int .u64 0, .int .u64 0] 24) = Wba at *
  rw [← hba] at B0 ⊢
  clear hba
  refine (digest_ok (G.below bel) BS HN.out hB).mono ?_
  rintro e w2 ⟨z0, z1, z2, z3, z4, z5, rfl, fZ, hz, hb⟩
  have HZ : Hid _ := hz
  replace BS := BS.later hb
  replace B0 := B0.later hb
  replace bel := below_step bel hb
  clear hb hz
  have lt0 := B0.lt
  replace B0 := B0.alloc (.cells (us [z0, z1, z2, z3, z4, z5]).toArray 24)
  have B1 := Blk.new w2 (us [z0, z1, z2, z3, z4, z5]) 24 w2.heap.size rfl
  replace BS := BS.later ((Below.refl _ _).alloc (Nat.le_refl _) (.cells (us [z0, z1, z2, z3, z4, z5]).toArray 24))
  replace bel := below_alloc (o := .cells (us [z0, z1, z2, z3, z4, z5]).toArray 24) bel
  go_wp2_with fail
  simp only [us, List.map_cons, List.map_nil] at B0 B1 bel BS
  obtain ⟨bd, hbd⟩ : ∃ b, b = w2.heap.size := ⟨_, rfl⟩
  generalize w2.alloc (Obj.cells #[.int .u64 z0, .int .u64 z1, .int .u64 z2, .int .u64 z3, .int .u64 z4, .int .u64 z5] 24) = Wbd at *
  rw [← hbd] at B1 lt0 ⊢
  clear hbd
  refine (rfrom_any _ bs _ BS hB (by rw [HN.out]; decide)).mono ?_
  rintro e w3 ⟨v1, rfl, N1, hb⟩
  replace B0 := B0.later hb
  replace B1 := B1.later hb
  replace bel := below_step bel hb
  clear hb BS hh
  obtain ⟨S1, hS1, KL1, KA1, KD1, KS1, KP1, KN1, KB1, KM1, KW1⟩ := held_mk (w0 := w) (W := w3) [(ba, [0, 0, 0, 0, 0, 0]), (bd, [z0, z1, z2, z3, z4, z5])] [] (by
    intro b X h
    simp only [List.mem_cons, List.not_mem_nil, or_false, Prod.mk.injEq] at h
    rcases h with ⟨rfl, rfl⟩ | ⟨rfl, rfl⟩
    · exact B0
    · exact B1) (by
    intro b h
    exact absurd h (by simp)) (by
    intro b X h
    simp) bel
  obtain ⟨c1a0, c1a1, c1a2, c1a3, c1a4, c1a5, c1a6⟩ := rule6 (S := Hd S1) (b := ba) (x0 := 0) (x1 := 0) (x2 := 0) (x3 := 0) (x4 := 0) (x5 := 0) (fun wx h => KM1.out wx _ _ h (by simp))
  obtain ⟨c1b0, c1b1, c1b2, c1b3, c1b4, c1b5, c1b6⟩ := rule6 (S := Hd S1) (b := bd) (x0 := z0) (x1 := z1) (x2 := z2) (x3 := z3) (x4 := z4) (x5 := z5) (fun wx h => KM1.out wx _ _ h (by simp))
  have hN1 := bel.size
  clear B0 B1 bel
  go_upto_region 8 with fail
  go_cut [8] (fun p wx => p = .bool true ∧ Hd S1 wx ∧ NumIs wx v1 (beN bs))
  case first =>
    go_region_held3 (Hd S1)
      (first
        | with_reducible exact KP1.out _ _ _ _ _ _ _ _ (by assumption) (by first | (right; simp; done) | (left; omega)) (by omega)
        | with_reducible exact KL1.out _ _ (by assumption) hb
        | with_reducible exact KA1.out _ _ (by assumption)
        | with_reducible exact KS1.out _ _ _ (by omega) (by assumption)
        | with_reducible exact KD1.out _ hS1
        | with_reducible exact KD1.out _ (KA1.out _ _ hS1)
        | with_reducible assumption)
      (first
        | (go_at_call 21; go_fit (nrest (by first | exact N1 | exact N1.drew) HB.out.2); rintro e w' ⟨vr, rfl, NR, hb⟩; (first | replace N1 := N1.later hb | replace N1 := N1.drew.later hb))
        | (go_at_call 17; go_fit (is6o fZ NR HZ.out); rintro e w' ⟨rfl, hb⟩; replace N1 := N1.later hb))
    all_goals
      go_wp2_with fail
      go_meet
      exact ⟨rfl, by with_reducible assumption, N1⟩
  case rest =>
    clear hS1 N1
    obtain ⟨rfl, hS1, N1⟩ := hcut
    obtain ⟨ao1, n1, cap1, rfl, k1, k2, hn⟩ := num_len N1
    unfold maxLen at k2
    have e0 : (n1 : Int) = 0 := hn.2 HR.out
    have e1 : n1 = 0 := by omega
    subst e1
    clear hn e0
    go_wp2_with fail
    refine (five_any (G.below (KB1.out _ hS1))).mono ?_
    rintro e w9 ⟨rfl, hb⟩
    have hS2 := KL1.out _ _ hS1 hb
    clear hb hS1
    go_wp2_with fail
    go_ret
    exact ⟨rfl, KB1.out _ hS2⟩

set_option maxRecDepth 100000 in
set_option maxHeartbeats 4000000 in
theorem odec_range (v : Value) (bs : List Int) (w : World) (G : GlsO w) (h : Bs w v bs) (hB : byt bs) (hl : bs.length = 48) (hr : QQ ≤ beN bs) :
    Calls Tryd.prog 7 #[v] w fun e w' => e = .returned (.bool true) ∧ Below w.heap.size w w' := by
  have hh := h
  obtain ⟨ao, cap, rfl, h2, h3, -⟩ := h
  unfold maxLen at h2
  have g1 : ¬ (bs.length : Int) < 48 := by omega
  have g2 : ¬ (48 : Int) < (bs.length : Int) := by omega
  have HN : Hid (bs.length = 48) := hl
  have HB : Hid _ := be_30 hB hl
  clear hl
  have HR : Hid _ := hr
  clear hr
  have q3 := iface_eq 3
  have q2 := eql_same 0 0 0 0 0 0
  have q1 := iface_nilnot
  go_enter Tryd.func7, Tryd.ntmps7
  go_wp2_with fail
  refine (odecode_range G hh HN.out hB HR.out).mono ?_
  rintro e w1 ⟨rfl, bel⟩
  have BS := hh.later bel
  have B0 := Blk.new w1 (us [0, 0, 0, 0, 0, 0]) 24 w1.heap.size rfl
  replace BS := BS.later ((Below.refl _ _).alloc (Nat.le_refl _) (.cells (us [0, 0, 0, 0, 0, 0]).toArray 24))
  replace bel := below_alloc (o := .cells (us [0, 0, 0, 0, 0, 0]).toArray 24) bel
  go_wp2_with fail
  simp only [us, List.map_cons, List.map_nil] at B0 bel BS
  obtain ⟨ba, hba⟩ : ∃ b, b = w1.heap.size := ⟨_, rfl⟩
  generalize w1.alloc (Obj.cells #[.int .u64 0, .int .u64 0, .int .u64 0, .int .u64 0, .int .u64 0, .int .u64 0] 24) = Wba at *
  rw [← hba] at B0 ⊢
  clear hba
  refine (digest_ok (G.below bel) BS HN.out hB).mono ?_
  rintro e w2 ⟨z0, z1, z2, z3, z4, z5, rfl, fZ, hz, hb⟩
  have HZ : Hid _ := hz
  replace BS := BS.later hb
  replace B0 := B0.later hb
  replace bel := below_step bel hb
  clear hb hz
  have lt0 := B0.lt
  replace B0 := B0.alloc (.cells (us [z0, z1, z2, z3, z4, z5]).toArray 24)
  have B1 := Blk.new w2 (us [z0, z1, z2, z3, z4, z5]) 24 w2.heap.size rfl
  replace BS := BS.later ((Below.refl _ _).alloc (Nat.le_refl _) (.cells (us [z0, z1, z2, z3, z4, z5]).toArray 24))
  replace bel := below_alloc (o := .cells (us [z0, z1, z2, z3, z4, z5]).toArray 24) bel
  go_wp2_with fail
  simp only [us, List.map_cons, List.map_nil] at B0 B1 bel BS
  obtain ⟨bd, hbd⟩ : ∃ b, b = w2.heap.size := ⟨_, rfl⟩
  generalize w2.alloc (Obj.cells #[.int .u64 z0, .int .u64 z1, .int .u64 z2, .int .u64 z3, .int .u64 z4, .int .u64 z5] 24) = Wbd at *
  rw [← hbd] at B1 lt0 ⊢
  clear hbd
  refine (rfrom_any _ bs _ BS hB (by rw [HN.out]; decide)).mono ?_
  rintro e w3 ⟨v1, rfl, N1, hb⟩
  replace B0 := B0.later hb
  replace B1 := B1.later hb
  replace bel := below_step bel hb
  clear hb BS hh
  obtain ⟨S1, hS1, KL1, KA1, KD1, KS1, KP1, KN1, KB1, KM1, KW1⟩ := held_mk (w0 := w) (W := w3) [(ba, [0, 0, 0, 0, 0, 0]), (bd, [z0, z1, z2, z3, z4, z5])] [] (by
    intro b X h
    simp only [List.mem_cons, List.not_mem_nil, or_false, Prod.mk.injEq] at h
    rcases h with ⟨rfl, rfl⟩ | ⟨rfl, rfl⟩
    · exact B0
    · exact B1) (by
    intro b h
    exact absurd h (by simp)) (by
    intro b X h
    simp) bel
  obtain ⟨c1a0, c1a1, c1a2, c1a3, c1a4, c1a5, c1a6⟩ := rule6 (S := Hd S1) (b := ba) (x0 := 0) (x1 := 0) (x2 := 0) (x3 := 0) (x4 := 0) (x5 := 0) (fun wx h => KM1.out wx _ _ h (by simp))
  obtain ⟨c1b0, c1b1, c1b2, c1b3, c1b4, c1b5, c1b6⟩ := rule6 (S := Hd S1) (b := bd) (x0 := z0) (x1 := z1) (x2 := z2) (x3 := z3) (x4 := z4) (x5 := z5) (fun wx h => KM1.out wx _ _ h (by simp))
  have hN1 := bel.size
  clear B0 B1 bel
  go_upto_region 8 with fail
  go_cut [8] (fun p wx => p = .bool true ∧ Hd S1 wx ∧ NumIs wx v1 (beN bs))
  case first =>
    go_region_held3 (Hd S1)
      (first
        | with_reducible exact KP1.out _ _ _ _ _ _ _ _ (by assumption) (by first | (right; simp; done) | (left; omega)) (by omega)
        | with_reducible exact KL1.out _ _ (by assumption) hb
        | with_reducible exact KA1.out _ _ (by assumption)
        | with_reducible exact KS1.out _ _ _ (by omega) (by assumption)
        | with_reducible exact KD1.out _ hS1
        | with_reducible exact KD1.out _ (KA1.out _ _ hS1)
        | with_reducible assumption)
      (first
        | (go_at_call 21; go_fit (nrest (by first | exact N1 | exact N1.drew) HB.out.2); rintro e w' ⟨vr, rfl, NR, hb⟩; (first | replace N1 := N1.later hb | replace N1 := N1.drew.later hb))
        | (go_at_call 17; go_fit (is6o fZ NR HZ.out); rintro e w' ⟨rfl, hb⟩; replace N1 := N1.later hb))
    all_goals
      go_wp2_with fail
      go_meet
      exact ⟨rfl, by with_reducible assumption, N1⟩
  case rest =>
    clear hS1 N1
    obtain ⟨rfl, hS1, N1⟩ := hcut
    obtain ⟨ao1, n1, cap1, rfl, k1, k2, hn⟩ := num_len N1
    unfold maxLen at k2
    have e0 : ¬ (n1 : Int) = 0 := fun h => absurd (hn.1 h) (by have := HR.out; have := QQ_pos; omega)
    clear hn
    go_wp2_with fail
    refine n_any.mono ?_
    rintro e w5 ⟨v2, rfl, N2, hb⟩
    have hS2 := KL1.out _ _ hS1 hb
    replace N1 := N1.later hb
    clear hb hS1
    go_wp2_with fail
    refine (cmp_any _ _ _ _ _ N1 N2).mono ?_
    rintro e w6 ⟨rfl, hb⟩
    have hS1 := KL1.out _ _ hS2 hb
    replace N1 := N1.later hb
    have hge : 0 ≤ cmpN (beN bs) QQ := cmp_ge0 (by have := HR.out; omega)
    have hgd : decide (0 ≤ cmpN (beN bs) QQ) = true := decide_eq_true hge
    clear hb N2 hS2
    go_wp2_with fail
    refine (five_any (G.below (KB1.out _ hS1))).mono ?_
    rintro e w9 ⟨rfl, hb⟩
    have hS2 := KL1.out _ _ hS1 hb
    clear hb hS1
    go_wp2_with fail
    go_ret
    exact ⟨rfl, KB1.out _ hS2⟩

set_option maxRecDepth 100000 in
set_option maxHeartbeats 4000000 in
theorem odec_ok (v : Value) (bs : List Int) (w : World) (G : GlsO w) (h : Bs w v bs) (hB : byt bs) (hl : bs.length = 48) (h0 : 0 < beN bs) (hr : beN bs < QQ) :
    Calls Tryd.prog 7 #[v] w fun e w' => e = .returned (.bool true) ∧ Below w.heap.size w w' := by
  have hh := h
  obtain ⟨ao, cap, rfl, h2, h3, -⟩ := h
  unfold maxLen at h2
  have g1 : ¬ (bs.length : Int) < 48 := by omega
  have g2 : ¬ (48 : Int) < (bs.length : Int) := by omega
  have HN : Hid (bs.length = 48) := hl
  have HB : Hid _ := be_30 hB hl
  clear hl
  have HR : Hid _ := hr
  clear hr
  have H0 : Hid _ := h0
  clear h0
  have q3 := iface_nil
  have q1 := iface_nilnot
  go_enter Tryd.func7, Tryd.ntmps7
  go_wp2_with fail
  refine (odecode_ok G hh HN.out hB H0.out HR.out).mono ?_
  rintro e w1 ⟨s0, s1, s2, s3, s4, s5, rfl, fS, hs, bel⟩
  have HS : Hid _ := hs
  clear hs
  have BS := hh.later bel
  have B0 := Blk.new w1 (us [s0, s1, s2, s3, s4, s5]) 24 w1.heap.size rfl
  replace BS := BS.later ((Below.refl _ _).alloc (Nat.le_refl _) (.cells (us [s0, s1, s2, s3, s4, s5]).toArray 24))
  replace bel := below_alloc (o := .cells (us [s0, s1, s2, s3, s4, s5]).toArray 24) bel
  go_wp2_with fail
  simp only [us, List.map_cons, List.map_nil] at B0 bel BS
  obtain ⟨ba, hba⟩ : ∃ b, b = w1.heap.size := ⟨_, rfl⟩
  generalize w1.alloc (Obj.cells #[.int .u64 s0, .int .u64 s1, .int .u64 s2, .int .u64 s3, .int .u64 s4, .int .u64 s5] 24) = Wba at *
  rw [← hba] at B0 ⊢
  clear hba
  refine (digest_ok (G.below bel) BS HN.out hB).mono ?_
  rintro e w2 ⟨z0, z1, z2, z3, z4, z5, rfl, fZ, hz, hb⟩
  have HZ : Hid _ := hz
  replace BS := BS.later hb
  replace B0 := B0.later hb
  replace bel := below_step bel hb
  clear hb hz
  have lt0 := B0.lt
  replace B0 := B0.alloc (.cells (us [z0, z1, z2, z3, z4, z5]).toArray 24)
  have B1 := Blk.new w2 (us [z0, z1, z2, z3, z4, z5]) 24 w2.heap.size rfl
  replace BS := BS.later ((Below.refl _ _).alloc (Nat.le_refl _) (.cells (us [z0, z1, z2, z3, z4, z5]).toArray 24))
  replace bel := below_alloc (o := .cells (us [z0, z1, z2, z3, z4, z5]).toArray 24) bel
  go_wp2_with fail
  simp only [us, List.map_cons, List.map_nil] at B0 B1 bel BS
  obtain ⟨bd, hbd⟩ : ∃ b, b = w2.heap.size := ⟨_, rfl⟩
  generalize w2.alloc (Obj.cells #[.int .u64 z0, .int .u64 z1, .int .u64 z2, .int .u64 z3, .int .u64 z4, .int .u64 z5] 24) = Wbd at *
  rw [← hbd] at B1 lt0 ⊢
  clear hbd
  refine (rfrom_any _ bs _ BS hB (by rw [HN.out]; decide)).mono ?_
  rintro e w3 ⟨v1, rfl, N1, hb⟩
  replace B0 := B0.later hb
  replace B1 := B1.later hb
  replace bel := below_step bel hb
  clear hb BS hh
  obtain ⟨S1, hS1, KL1, KA1, KD1, KS1, KP1, KN1, KB1, KM1, KW1⟩ := held_mk (w0 := w) (W := w3) [(ba, [s0, s1, s2, s3, s4, s5]), (bd, [z0, z1, z2, z3, z4, z5])] [] (by
    intro b X h
    simp only [List.mem_cons, List.not_mem_nil, or_false, Prod.mk.injEq] at h
    rcases h with ⟨rfl, rfl⟩ | ⟨rfl, rfl⟩
    · exact B0
    · exact B1) (by
    intro b h
    exact absurd h (by simp)) (by
    intro b X h
    simp) bel
  obtain ⟨c1a0, c1a1, c1a2, c1a3, c1a4, c1a5, c1a6⟩ := rule6 (S := Hd S1) (b := ba) (x0 := s0) (x1 := s1) (x2 := s2) (x3 := s3) (x4 := s4) (x5 := s5) (fun wx h => KM1.out wx _ _ h (by simp))
  obtain ⟨c1b0, c1b1, c1b2, c1b3, c1b4, c1b5, c1b6⟩ := rule6 (S := Hd S1) (b := bd) (x0 := z0) (x1 := z1) (x2 := z2) (x3 := z3) (x4 := z4) (x5 := z5) (fun wx h => KM1.out wx _ _ h (by simp))
  have hN1 := bel.size
  clear B0 B1 bel
  go_upto_region 8 with fail
  go_cut [8] (fun p wx => p = .bool true ∧ Hd S1 wx ∧ NumIs wx v1 (beN bs))
  case first =>
    go_region_held3 (Hd S1)
      (first
        | with_reducible exact KP1.out _ _ _ _ _ _ _ _ (by assumption) (by first | (right; simp; done) | (left; omega)) (by omega)
        | with_reducible exact KL1.out _ _ (by assumption) hb
        | with_reducible exact KA1.out _ _ (by assumption)
        | with_reducible exact KS1.out _ _ _ (by omega) (by assumption)
        | with_reducible exact KD1.out _ hS1
        | with_reducible exact KD1.out _ (KA1.out _ _ hS1)
        | with_reducible assumption)
      (first
        | (go_at_call 21; go_fit (nrest (by first | exact N1 | exact N1.drew) HB.out.2); rintro e w' ⟨vr, rfl, NR, hb⟩; (first | replace N1 := N1.later hb | replace N1 := N1.drew.later hb))
        | (go_at_call 17; go_fit (is6o fZ NR HZ.out); rintro e w' ⟨rfl, hb⟩; replace N1 := N1.later hb))
    all_goals
      go_wp2_with fail
      go_meet
      exact ⟨rfl, by with_reducible assumption, N1⟩
  case rest =>
    clear hS1 N1
    obtain ⟨rfl, hS1, N1⟩ := hcut
    obtain ⟨ao1, n1, cap1, rfl, k1, k2, hn⟩ := num_len N1
    unfold maxLen at k2
    have e0 : ¬ (n1 : Int) = 0 := fun h => absurd (hn.1 h) (by have := H0.out; omega)
    clear hn
    go_wp2_with fail
    refine n_any.mono ?_
    rintro e w5 ⟨v2, rfl, N2, hb⟩
    have hS2 := KL1.out _ _ hS1 hb
    replace N1 := N1.later hb
    clear hb hS1
    go_wp2_with fail
    refine (cmp_any _ _ _ _ _ N1 N2).mono ?_
    rintro e w6 ⟨rfl, hb⟩
    have hS1 := KL1.out _ _ hS2 hb
    replace N1 := N1.later hb
    have hge : ¬ 0 ≤ cmpN (beN bs) QQ := by have := cmp_neg HR.out; omega
    have hgd : decide (0 ≤ cmpN (beN bs) QQ) = false := decide_eq_false hge
    clear hb N2 hS2
    go_wp2_with fail
    refine (five_any (G.below (KB1.out _ hS1))).mono ?_
    rintro e w9 ⟨rfl, hb⟩
    have hS2 := KL1.out _ _ hS1 hb
    replace N1 := N1.later hb
    clear hb hS1
    go_wp2_with fail
    refine (is6o fS N1 HS.out).mono ?_
    rintro e w10 ⟨rfl, hb⟩
    have hS3 := KL1.out _ _ hS2 hb
    clear hb hS2
    go_wp2_with fail
    go_ret
    exact ⟨rfl, KB1.out _ hS3⟩

theorem law_orderDecodes (v : Value) (bs : List Int) (w : World) (G : GlsO w) (h : Bs w v bs) (hB : byt bs) :
    Calls Tryd.prog 7 #[v] w fun e w' => e = .returned (.bool true) ∧ Below w.heap.size w w' := by
  by_cases h1 : bs.length < 48
  · exact odec_short v bs w G h h1
  by_cases h2 : 48 < bs.length
  · exact odec_more v bs w G h h2
  have h3 : bs.length = 48 := by omega
  have hb := (be_30 hB h3).1
  by_cases h4 : beN bs = 0
  · exact odec_zero v bs w G h hB h3 h4
  by_cases h5 : beN bs < QQ
  · exact odec_ok v bs w G h hB h3 (by omega) h5
  · exact odec_range v bs w G h hB h3 (by omega)
end Go.Proofs.YtnhjaldifpiaiaaDoor
