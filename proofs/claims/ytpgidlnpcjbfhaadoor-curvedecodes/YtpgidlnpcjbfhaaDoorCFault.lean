/- The law's helper fault: what is amiss with the bytes of a point. -/
import Derived.Test.YtpgidlnpcjbfhaaDoorRows
import Derived.Test.YtpgidlnpcjbfhaaDoorCOn
import Derived.Test.YtpgidlnpcjbfhaaDoorCFaultN
import Derived.Test.YtpgidlnpcjbfhaaDoorRFrom
import Derived.Test.YtpgidlnpcjbfhaaDoorFRefP
import Derived.Deep.WholeRow
import Derived.Deep.RegionHeld3
import Derived.Deep.DeepCutAuto
import Derived.Deep.DeepFit
namespace Go.Proofs.YtpgidlnpcjbfhaaDoor
open Go.RowKit

set_option maxRecDepth 100000 in
set_option maxHeartbeats 2000000 in
theorem fault_short {v : Value} {bs : List Int} {w : World} (h : Bs w v bs) (hl : bs.length < 97) :
    Calls Tryd.prog 24 #[v] w fun e w' => e = .returned (.int .i64 6) ∧ Below w.heap.size w w' := by
  obtain ⟨ao, cap, rfl, h2, h3, -⟩ := h
  unfold maxLen at h2
  have g1 : (bs.length : Int) < 97 := by omega
  go_enter Tryd.func24, Tryd.ntmps24
  go_wp2_with fail
  go_ret
  exact ⟨rfl, Below.refl _ _⟩

set_option maxRecDepth 100000 in
set_option maxHeartbeats 2000000 in
theorem fault_more {v : Value} {bs : List Int} {w : World} (h : Bs w v bs) (hl : 97 < bs.length) :
    Calls Tryd.prog 24 #[v] w fun e w' => e = .returned (.int .i64 8) ∧ Below w.heap.size w w' := by
  obtain ⟨ao, cap, rfl, h2, h3, -⟩ := h
  unfold maxLen at h2
  have g1 : ¬ (bs.length : Int) < 97 := by omega
  have g2 : (97 : Int) < (bs.length : Int) := by omega
  go_enter Tryd.func24, Tryd.ntmps24
  go_wp2_with fail
  go_ret
  exact ⟨rfl, Below.refl _ _⟩

set_option maxRecDepth 100000 in
set_option maxHeartbeats 2000000 in
theorem fault_form {v : Value} {bs : List Int} {w : World} (h : Bs w v bs) (hl : bs.length = 97) (hf : ¬ bs.getD 0 0 = 4) :
    Calls Tryd.prog 24 #[v] w fun e w' => e = .returned (.int .i64 7) ∧ Below w.heap.size w w' := by
  obtain ⟨b, o, cap, rfl, k1, k2, lt, c0, SX, SY⟩ := bs97 h hl
  unfold maxLen at k2
  clear h
  obtain ⟨f, ef⟩ : ∃ f, bs.getD 0 0 = f := ⟨_, rfl⟩
  rw [ef] at c0 hf
  clear ef hl SX SY
  have c1 : w.cell? ⟨b, o + 0, none⟩ = some (.int .u8 f) := c0
  go_enter Tryd.func24, Tryd.ntmps24
  go_wp2_with fail
  go_ret
  exact ⟨rfl, Below.refl _ _⟩

set_option maxRecDepth 100000 in
set_option maxHeartbeats 2000000 in
theorem fault_x {v : Value} {bs : List Int} {w : World} (h : Bs w v bs) (hB : byt bs) (hl : bs.length = 97) (hf : bs.getD 0 0 = 4) (hx : ¬ beN (ptX bs) < PP) :
    Calls Tryd.prog 24 #[v] w fun e w' => e = .returned (.int .i64 3) ∧ Below w.heap.size w w' := by
  have HX : Hid _ := hx
  clear hx
  obtain ⟨b, o, cap, rfl, k1, k2, lt, c0, SX, SY⟩ := bs97 h hl
  unfold maxLen at k2
  clear h
  have BX : Hid _ := be_lt (ptX_byt hB) (ptX_len hl)
  have BY : Hid _ := be_lt (ptY_byt hB) (ptY_len hl)
  have LX : Hid _ := ptX_len hl
  have LY : Hid _ := ptY_len hl
  have YX := ptX_byt hB
  have YY := ptY_byt hB
  rw [hf] at c0
  clear hl hf hB
  have c1 : w.cell? ⟨b, o + 0, none⟩ = some (.int .u8 4) := c0
  go_enter Tryd.func24, Tryd.ntmps24
  go_wp2_with fail
  refine (rfrom_any _ (ptX bs) _ SX YX (by rw [LX.out]; decide)).mono ?_
  rintro e w1 ⟨vx, rfl, NX, bel⟩
  replace SY := SY.later bel
  clear SX c0 c1
  go_wp2_with fail
  refine (rfrom_any _ (ptY bs) _ SY YY (by rw [LY.out]; decide)).mono ?_
  rintro e w2 ⟨vy, rfl, NY, hb⟩
  replace NX := NX.later hb
  replace bel := below_step bel hb
  clear hb SY
  go_wp2_with fail
  refine p_any.mono ?_
  rintro e w3 ⟨v3, rfl, N3, hb⟩
  replace NX := NX.later hb
  replace NY := NY.later hb
  replace bel := below_step bel hb
  clear hb
  go_wp2_with fail
  refine (cmp_any _ _ _ _ _ NX N3).mono ?_
  rintro e w4 ⟨rfl, hb⟩
  replace NX := NX.later hb
  replace NY := NY.later hb
  replace bel := below_step bel hb
  clear hb N3
  have hgx : 0 ≤ cmpN (beN (ptX bs)) PP := cmp_ge0 HX.out
  have hdx : decide (0 ≤ cmpN (beN (ptX bs)) PP) = true := decide_eq_true hgx
  go_wp2_with fail
  go_ret
  exact ⟨rfl, bel⟩

set_option maxRecDepth 100000 in
set_option maxHeartbeats 2000000 in
theorem fault_y {v : Value} {bs : List Int} {w : World} (h : Bs w v bs) (hB : byt bs) (hl : bs.length = 97) (hf : bs.getD 0 0 = 4) (hx : beN (ptX bs) < PP) (hy : ¬ beN (ptY bs) < PP) :
    Calls Tryd.prog 24 #[v] w fun e w' => e = .returned (.int .i64 3) ∧ Below w.heap.size w w' := by
  have HX : Hid _ := hx
  have HY : Hid _ := hy
  clear hx hy
  obtain ⟨b, o, cap, rfl, k1, k2, lt, c0, SX, SY⟩ := bs97 h hl
  unfold maxLen at k2
  clear h
  have BX : Hid _ := be_lt (ptX_byt hB) (ptX_len hl)
  have BY : Hid _ := be_lt (ptY_byt hB) (ptY_len hl)
  have LX : Hid _ := ptX_len hl
  have LY : Hid _ := ptY_len hl
  have YX := ptX_byt hB
  have YY := ptY_byt hB
  rw [hf] at c0
  clear hl hf hB
  have c1 : w.cell? ⟨b, o + 0, none⟩ = some (.int .u8 4) := c0
  go_enter Tryd.func24, Tryd.ntmps24
  go_wp2_with fail
  refine (rfrom_any _ (ptX bs) _ SX YX (by rw [LX.out]; decide)).mono ?_
  rintro e w1 ⟨vx, rfl, NX, bel⟩
  replace SY := SY.later bel
  clear SX c0 c1
  go_wp2_with fail
  refine (rfrom_any _ (ptY bs) _ SY YY (by rw [LY.out]; decide)).mono ?_
  rintro e w2 ⟨vy, rfl, NY, hb⟩
  replace NX := NX.later hb
  replace bel := below_step bel hb
  clear hb SY
  go_wp2_with fail
  refine p_any.mono ?_
  rintro e w3 ⟨v3, rfl, N3, hb⟩
  replace NX := NX.later hb
  replace NY := NY.later hb
  replace bel := below_step bel hb
  clear hb
  go_wp2_with fail
  refine (cmp_any _ _ _ _ _ NX N3).mono ?_
  rintro e w4 ⟨rfl, hb⟩
  replace NX := NX.later hb
  replace NY := NY.later hb
  replace bel := below_step bel hb
  clear hb N3
  have hgx : ¬ 0 ≤ cmpN (beN (ptX bs)) PP := by have := cmp_neg HX.out; omega
  have hdx : decide (0 ≤ cmpN (beN (ptX bs)) PP) = false := decide_eq_false hgx
  go_wp2_with fail
  refine p_any.mono ?_
  rintro e w5 ⟨v5, rfl, N5, hb⟩
  replace NX := NX.later hb
  replace NY := NY.later hb
  replace bel := below_step bel hb
  clear hb hgx hdx
  go_wp2_with fail
  refine (cmp_any _ _ _ _ _ NY N5).mono ?_
  rintro e w6 ⟨rfl, hb⟩
  replace NX := NX.later hb
  replace NY := NY.later hb
  replace bel := below_step bel hb
  clear hb N5
  have hgy : 0 ≤ cmpN (beN (ptY bs)) PP := cmp_ge0 HY.out
  have hdy : decide (0 ≤ cmpN (beN (ptY bs)) PP) = true := decide_eq_true hgy
  go_wp2_with fail
  go_ret
  exact ⟨rfl, bel⟩

set_option maxRecDepth 100000 in
set_option maxHeartbeats 2000000 in
theorem fault_none {v : Value} {bs : List Int} {w : World} (h : Bs w v bs) (hB : byt bs) (hl : bs.length = 97) (hf : bs.getD 0 0 = 4) (hx : beN (ptX bs) < PP) (hy : beN (ptY bs) < PP) (ho : ¬ IsOn false (beN (ptX bs)) (beN (ptY bs))) :
    Calls Tryd.prog 24 #[v] w fun e w' => e = .returned (.int .i64 4) ∧ Below w.heap.size w w' := by
  have HX : Hid _ := hx
  have HY : Hid _ := hy
  have HO : Hid (¬ IsOn false (beN (ptX bs)) (beN (ptY bs))) := ho
  clear hx hy ho
  obtain ⟨b, o, cap, rfl, k1, k2, lt, c0, SX, SY⟩ := bs97 h hl
  unfold maxLen at k2
  clear h
  have BX : Hid _ := be_lt (ptX_byt hB) (ptX_len hl)
  have BY : Hid _ := be_lt (ptY_byt hB) (ptY_len hl)
  have LX : Hid _ := ptX_len hl
  have LY : Hid _ := ptY_len hl
  have YX := ptX_byt hB
  have YY := ptY_byt hB
  rw [hf] at c0
  clear hl hf hB
  have c1 : w.cell? ⟨b, o + 0, none⟩ = some (.int .u8 4) := c0
  go_enter Tryd.func24, Tryd.ntmps24
  go_wp2_with fail
  refine (rfrom_any _ (ptX bs) _ SX YX (by rw [LX.out]; decide)).mono ?_
  rintro e w1 ⟨vx, rfl, NX, bel⟩
  replace SY := SY.later bel
  clear SX c0 c1
  go_wp2_with fail
  refine (rfrom_any _ (ptY bs) _ SY YY (by rw [LY.out]; decide)).mono ?_
  rintro e w2 ⟨vy, rfl, NY, hb⟩
  replace NX := NX.later hb
  replace bel := below_step bel hb
  clear hb SY
  go_wp2_with fail
  refine p_any.mono ?_
  rintro e w3 ⟨v3, rfl, N3, hb⟩
  replace NX := NX.later hb
  replace NY := NY.later hb
  replace bel := below_step bel hb
  clear hb
  go_wp2_with fail
  refine (cmp_any _ _ _ _ _ NX N3).mono ?_
  rintro e w4 ⟨rfl, hb⟩
  replace NX := NX.later hb
  replace NY := NY.later hb
  replace bel := below_step bel hb
  clear hb N3
  have hgx : ¬ 0 ≤ cmpN (beN (ptX bs)) PP := by have := cmp_neg HX.out; omega
  have hdx : decide (0 ≤ cmpN (beN (ptX bs)) PP) = false := decide_eq_false hgx
  go_wp2_with fail
  refine p_any.mono ?_
  rintro e w5 ⟨v5, rfl, N5, hb⟩
  replace NX := NX.later hb
  replace NY := NY.later hb
  replace bel := below_step bel hb
  clear hb hgx hdx
  go_wp2_with fail
  refine (cmp_any _ _ _ _ _ NY N5).mono ?_
  rintro e w6 ⟨rfl, hb⟩
  replace NX := NX.later hb
  replace NY := NY.later hb
  replace bel := below_step bel hb
  clear hb N5
  have hgy : ¬ 0 ≤ cmpN (beN (ptY bs)) PP := by have := cmp_neg HY.out; omega
  have hdy : decide (0 ≤ cmpN (beN (ptY bs)) PP) = false := decide_eq_false hgy
  go_wp2_with fail
  refine (to6_any _ _ _ NX).mono ?_
  rintro e w7 ⟨S, rfl, lS, fS, hS, hb⟩
  obtain ⟨s0, s1, s2, s3, s4, s5, rfl⟩ := six lS
  rw [Int.emod_eq_of_lt BX.out.1 BX.out.2] at hS
  replace NY := NY.later hb
  replace bel := below_step bel hb
  have HS : Hid _ := hS
  clear hb NX lS hS hgy hdy
  simp only [us, List.map_cons, List.map_nil]
  go_wp2_with fail
  refine (to6_any _ _ _ NY).mono ?_
  rintro e w8 ⟨T, rfl, lT, fT, hT, hb⟩
  obtain ⟨t0, t1, t2, t3, t4, t5, rfl⟩ := six lT
  rw [Int.emod_eq_of_lt BY.out.1 BY.out.2] at hT
  replace bel := below_step bel hb
  have HT : Hid _ := hT
  clear hb NY lT hT
  simp only [us, List.map_cons, List.map_nil]
  go_wp2_with fail
  refine (r5_On (n := false) (b := false) fS fT (by rw [HS.out, HT.out]; exact ⟨fun h => absurd h (by simp), fun h => absurd h HO.out⟩)).mono ?_
  rintro e w9 ⟨rfl, hb⟩
  replace bel := below_step bel hb
  clear hb
  go_wp2_with fail
  go_ret
  exact ⟨rfl, bel⟩

set_option maxRecDepth 100000 in
set_option maxHeartbeats 2000000 in
theorem fault_ok {v : Value} {bs : List Int} {w : World} (h : Bs w v bs) (hB : byt bs) (hl : bs.length = 97) (hf : bs.getD 0 0 = 4) (hx : beN (ptX bs) < PP) (hy : beN (ptY bs) < PP) (ho : IsOn false (beN (ptX bs)) (beN (ptY bs))) :
    Calls Tryd.prog 24 #[v] w fun e w' => e = .returned (.int .i64 0) ∧ Below w.heap.size w w' := by
  have HX : Hid _ := hx
  have HY : Hid _ := hy
  have HO : Hid (IsOn false (beN (ptX bs)) (beN (ptY bs))) := ho
  clear hx hy ho
  obtain ⟨b, o, cap, rfl, k1, k2, lt, c0, SX, SY⟩ := bs97 h hl
  unfold maxLen at k2
  clear h
  have BX : Hid _ := be_lt (ptX_byt hB) (ptX_len hl)
  have BY : Hid _ := be_lt (ptY_byt hB) (ptY_len hl)
  have LX : Hid _ := ptX_len hl
  have LY : Hid _ := ptY_len hl
  have YX := ptX_byt hB
  have YY := ptY_byt hB
  rw [hf] at c0
  clear hl hf hB
  have c1 : w.cell? ⟨b, o + 0, none⟩ = some (.int .u8 4) := c0
  go_enter Tryd.func24, Tryd.ntmps24
  go_wp2_with fail
  refine (rfrom_any _ (ptX bs) _ SX YX (by rw [LX.out]; decide)).mono ?_
  rintro e w1 ⟨vx, rfl, NX, bel⟩
  replace SY := SY.later bel
  clear SX c0 c1
  go_wp2_with fail
  refine (rfrom_any _ (ptY bs) _ SY YY (by rw [LY.out]; decide)).mono ?_
  rintro e w2 ⟨vy, rfl, NY, hb⟩
  replace NX := NX.later hb
  replace bel := below_step bel hb
  clear hb SY
  go_wp2_with fail
  refine p_any.mono ?_
  rintro e w3 ⟨v3, rfl, N3, hb⟩
  replace NX := NX.later hb
  replace NY := NY.later hb
  replace bel := below_step bel hb
  clear hb
  go_wp2_with fail
  refine (cmp_any _ _ _ _ _ NX N3).mono ?_
  rintro e w4 ⟨rfl, hb⟩
  replace NX := NX.later hb
  replace NY := NY.later hb
  replace bel := below_step bel hb
  clear hb N3
  have hgx : ¬ 0 ≤ cmpN (beN (ptX bs)) PP := by have := cmp_neg HX.out; omega
  have hdx : decide (0 ≤ cmpN (beN (ptX bs)) PP) = false := decide_eq_false hgx
  go_wp2_with fail
  refine p_any.mono ?_
  rintro e w5 ⟨v5, rfl, N5, hb⟩
  replace NX := NX.later hb
  replace NY := NY.later hb
  replace bel := below_step bel hb
  clear hb hgx hdx
  go_wp2_with fail
  refine (cmp_any _ _ _ _ _ NY N5).mono ?_
  rintro e w6 ⟨rfl, hb⟩
  replace NX := NX.later hb
  replace NY := NY.later hb
  replace bel := below_step bel hb
  clear hb N5
  have hgy : ¬ 0 ≤ cmpN (beN (ptY bs)) PP := by have := cmp_neg HY.out; omega
  have hdy : decide (0 ≤ cmpN (beN (ptY bs)) PP) = false := decide_eq_false hgy
  go_wp2_with fail
  refine (to6_any _ _ _ NX).mono ?_
  rintro e w7 ⟨S, rfl, lS, fS, hS, hb⟩
  obtain ⟨s0, s1, s2, s3, s4, s5, rfl⟩ := six lS
  rw [Int.emod_eq_of_lt BX.out.1 BX.out.2] at hS
  replace NY := NY.later hb
  replace bel := below_step bel hb
  have HS : Hid _ := hS
  clear hb NX lS hS hgy hdy
  simp only [us, List.map_cons, List.map_nil]
  go_wp2_with fail
  refine (to6_any _ _ _ NY).mono ?_
  rintro e w8 ⟨T, rfl, lT, fT, hT, hb⟩
  obtain ⟨t0, t1, t2, t3, t4, t5, rfl⟩ := six lT
  rw [Int.emod_eq_of_lt BY.out.1 BY.out.2] at hT
  replace bel := below_step bel hb
  have HT : Hid _ := hT
  clear hb NY lT hT
  simp only [us, List.map_cons, List.map_nil]
  go_wp2_with fail
  refine (r5_On (n := false) (b := true) fS fT (by rw [HS.out, HT.out]; exact ⟨fun _ => HO.out, fun _ => rfl⟩)).mono ?_
  rintro e w9 ⟨rfl, hb⟩
  replace bel := below_step bel hb
  clear hb
  go_wp2_with fail
  go_ret
  exact ⟨rfl, bel⟩

theorem fault_bad {v : Value} {bs : List Int} {c : Int} {w : World} (h : Bs w v bs) (hB : byt bs) (hc : DecBad bs c) :
    Calls Tryd.prog 24 #[v] w fun e w' => e = .returned (.int .i64 c) ∧ Below w.heap.size w w' := by
  rcases hc with ⟨h1, rfl⟩ | ⟨h1, rfl⟩ | ⟨h1, h2, rfl⟩ | ⟨h1, h2, h3, rfl⟩ | ⟨h1, h2, h3, h4, h5, rfl⟩
  · exact fault_short h h1
  · exact fault_more h h1
  · exact fault_form h h1 h2
  · by_cases hx : beN (ptX bs) < PP
    · exact fault_y h hB h1 h2 hx (h3.resolve_left (fun k => k hx))
    · exact fault_x h hB h1 h2 hx
  · exact fault_none h hB h1 h2 h3 h4 h5
end Go.Proofs.YtpgidlnpcjbfhaaDoor
