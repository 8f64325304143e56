/- The law NameOn. -/
import Derived.Test.YtineihnipidmfaaRows
import Derived.Test.YtineihnipidmfaaNmUp
import Derived.Test.YtineihnipidmfaaNlEq
import Derived.Test.YtineihnipidmfaaApPt
import Derived.Test.YtineihnipidmfaaNmRd
import Derived.Test.YtineihnipidmfaaNmOwn
import Derived.Test.YtineihnipidmfaaDrDG
import Derived.Test.YtineihnipidmfaaApBs
import Derived.Deep.OwnRows
import Derived.Deep.AppendLies
import Derived.Great.BuildSlice
import Derived.Laws.Rows
import Derived.BigQuiet
import Derived.Deep.WholeRow
import Derived.Deep.RegionHeld3
import Derived.Deep.DeepCutAuto
import Derived.Deep.DeepFit
namespace Go.Proofs.Ytineihnipidmfaa
open Go.RowKit

theorem WfN.app {n m : List Pn} (hn : WfN n) (hm : WfN m) : WfN (n ++ m) := fun i p hp => by
  by_cases h : i < n.length
  · rw [List.getElem?_append_left h] at hp
    exact hn i p hp
  · rw [List.getElem?_append_right (by omega)] at hp
    exact hm _ p hp
theorem in_on {a b c : List Pn} (h : a.take b.length = b) (k : b.take c.length = c) : a.take c.length = c := by
  have hl : c.length ≤ b.length := by have := congrArg List.length k; rw [List.length_take] at this; omega
  have e := congrArg (List.take c.length) h
  rw [List.take_take, k, Nat.min_eq_left hl] at e
  exact e
theorem in_both {a b : List Pn} (h : a.take b.length = b) (k : b.take a.length = a) : a = b := by
  have h1 := congrArg List.length h
  have h2 := congrArg List.length k
  rw [List.length_take] at h1 h2
  rw [List.take_of_length_le (by omega)] at h
  exact h
set_option linter.unusedSimpArgs false in
set_option maxRecDepth 100000 in
set_option maxHeartbeats 2000000 in
theorem law_nameOn {v u x : Value} {a b c : List Pn} {w : World} (ha : NmAt w v a) (wa : WfN a) (hb : NmAt w u b) (wb : WfN b) (hc : NmAt w x c) (wc : WfN c) (hsz : (a.length + b.length) * 24 ≤ 140737488355328) :
    Calls Try.prog 6 #[v, u, x] w fun e w' => e = .returned (.bool true) ∧ Below w.heap.size w w' := by
  have HA : Hid (NmAt w v a) := ha
  have HB : Hid (NmAt w u b) := hb
  have HC : Hid (NmAt w x c) := hc
  obtain ⟨a1, c1, rfl, -, -, -⟩ := ha
  obtain ⟨a2, c2, rfl, -, -, -⟩ := hb
  obtain ⟨a3, c3, rfl, -, -, -⟩ := hc
  obtain ⟨LA, hLA⟩ : ∃ L, a.length = L := ⟨_, rfl⟩
  obtain ⟨LB, hLB⟩ : ∃ L, b.length = L := ⟨_, rfl⟩
  obtain ⟨LC, hLC⟩ : ∃ L, c.length = L := ⟨_, rfl⟩
  have HLA : Hid (a.length = LA) := hLA
  have HLB : Hid (b.length = LB) := hLB
  rw [hLA] at HA hsz ⊢
  rw [hLB] at HB hsz ⊢
  rw [hLC] at HC ⊢
  clear hLA hLB hLC
  go_enter Try.func6, Try.ntmps6
  go_wp2_with fail
  refine con_up16.mono ?_
  rintro e w1 ⟨rfl, bel⟩
  go_wp2_with fail
  by_cases hab : a.take b.length = b
  rotate_left
  · refine (con_NWithin (HA.out.later bel) (HB.out.later bel) wa wb).mono ?_
    rintro e y2 ⟨rfl, hb⟩
    rw [decide_eq_false hab]
    replace bel := below_step bel hb
    clear hb
    go_wp2_with fail
    refine (con_NWithin (HA.out.later bel) (HB.out.later bel) wa wb).mono ?_
    rintro e y3 ⟨rfl, hb⟩
    rw [decide_eq_false hab]
    replace bel := below_step bel hb
    clear hb
    go_upto_region 4 with fail
    have hbl : Below y3.heap.size y3 (y3.alloc (.cells #[] 47)) := (Below.refl _ _).alloc (Nat.le_refl _) _
    have own0 := own_none2 y3
    have HA2 : Hid (NmAt (y3.alloc (.cells #[] 47)) (.slice a1 LA c1) a) := (HA.out.later bel).later hbl
    go_wp2_with (first | (at_builtin; refine wpList_append_pt (by rfl) _ _ (by rfl) y3.heap.size _ 0 [] (by rfl) own0 _ a (by rfl) HA2.out (by rw [HLA.out]; omega) (by simp) ?_; intro v1 w2 own1 hgrow1 hat1; have bp1 := below_own (base := y3.heap.size) hbl hgrow1 (by simp) (fun g hg => (own_geK own0 hg).1) (Nat.le_refl _); have HB2 : Hid (NmAt w2 (.slice a2 LB c2) b) := HB.out.later (below_step bel bp1)) | (at_builtin; refine wpList_append_pt (by rfl) _ _ (by rfl) y3.heap.size _ (0 + a.length) ([] ++ a) (by rfl) own1 _ b (by rfl) HB2.out (by rw [HLA.out, HLB.out]; omega) bp1.size ?_; intro v3 w3 own3 hgrow3 hat3; have bp3 := below_own (base := y3.heap.size) bp1 hgrow3 bp1.size (fun g hg => (own_geK own1 hg).1) (Nat.le_refl _)) | fail)
    replace bel := below_step bel bp3
    rw [List.nil_append] at own3
    refine (con_NWithin (NmAt.of_own own3) (HA.out.later bel) (wa.app wb) wa).mono ?_
    rintro e y9 ⟨rfl, hb⟩
    rw [decide_eq_true (List.take_left' rfl)]
    replace bel := below_step bel hb
    go_wp2_with fail
    go_ret
    exact ⟨rfl, bel⟩
  refine (con_NWithin (HA.out.later bel) (HB.out.later bel) wa wb).mono ?_
  rintro e y2 ⟨rfl, hb⟩
  rw [decide_eq_true hab]
  replace bel := below_step bel hb
  clear hb
  go_wp2_with fail
  by_cases hbc : b.take c.length = c
  · refine (con_NWithin (HB.out.later bel) (HC.out.later bel) wb wc).mono ?_
    rintro e y3 ⟨rfl, hb⟩
    rw [decide_eq_true hbc]
    replace bel := below_step bel hb
    clear hb
    go_wp2_with fail
    refine (con_NWithin (HA.out.later bel) (HC.out.later bel) wa wc).mono ?_
    rintro e y4 ⟨rfl, hb⟩
    rw [decide_eq_true (in_on hab hbc)]
    replace bel := below_step bel hb
    clear hb
    go_wp2_with fail
    refine (con_NWithin (HA.out.later bel) (HB.out.later bel) wa wb).mono ?_
    rintro e y5 ⟨rfl, hb⟩
    rw [decide_eq_true hab]
    replace bel := below_step bel hb
    clear hb
    go_wp2_with fail
    by_cases hba : b.take a.length = a
    · refine (con_NWithin (HB.out.later bel) (HA.out.later bel) wb wa).mono ?_
      rintro e y6 ⟨rfl, hb⟩
      rw [decide_eq_true hba]
      replace bel := below_step bel hb
      clear hb
      go_wp2_with fail
      refine (con_NSame (HA.out.later bel) (HB.out.later bel) wa wb).mono ?_
      rintro e y7 ⟨rfl, hb⟩
      rw [decide_eq_true (in_both hab hba)]
      replace bel := below_step bel hb
      clear hb
      go_upto_region 4 with fail
      have hbl : Below y7.heap.size y7 (y7.alloc (.cells #[] 47)) := (Below.refl _ _).alloc (Nat.le_refl _) _
      have own0 := own_none2 y7
      have HA2 : Hid (NmAt (y7.alloc (.cells #[] 47)) (.slice a1 LA c1) a) := (HA.out.later bel).later hbl
      go_wp2_with (first | (at_builtin; refine wpList_append_pt (by rfl) _ _ (by rfl) y7.heap.size _ 0 [] (by rfl) own0 _ a (by rfl) HA2.out (by rw [HLA.out]; omega) (by simp) ?_; intro v1 w2 own1 hgrow1 hat1; have bp1 := below_own (base := y7.heap.size) hbl hgrow1 (by simp) (fun g hg => (own_geK own0 hg).1) (Nat.le_refl _); have HB2 : Hid (NmAt w2 (.slice a2 LB c2) b) := HB.out.later (below_step bel bp1)) | (at_builtin; refine wpList_append_pt (by rfl) _ _ (by rfl) y7.heap.size _ (0 + a.length) ([] ++ a) (by rfl) own1 _ b (by rfl) HB2.out (by rw [HLA.out, HLB.out]; omega) bp1.size ?_; intro v3 w3 own3 hgrow3 hat3; have bp3 := below_own (base := y7.heap.size) bp1 hgrow3 bp1.size (fun g hg => (own_geK own1 hg).1) (Nat.le_refl _)) | fail)
      replace bel := below_step bel bp3
      rw [List.nil_append] at own3
      refine (con_NWithin (NmAt.of_own own3) (HA.out.later bel) (wa.app wb) wa).mono ?_
      rintro e y9 ⟨rfl, hb⟩
      rw [decide_eq_true (List.take_left' rfl)]
      replace bel := below_step bel hb
      go_wp2_with fail
      go_ret
      exact ⟨rfl, bel⟩
    · refine (con_NWithin (HB.out.later bel) (HA.out.later bel) wb wa).mono ?_
      rintro e y6 ⟨rfl, hb⟩
      rw [decide_eq_false hba]
      replace bel := below_step bel hb
      clear hb
      go_upto_region 4 with fail
      have hbl : Below y6.heap.size y6 (y6.alloc (.cells #[] 47)) := (Below.refl _ _).alloc (Nat.le_refl _) _
      have own0 := own_none2 y6
      have HA2 : Hid (NmAt (y6.alloc (.cells #[] 47)) (.slice a1 LA c1) a) := (HA.out.later bel).later hbl
      go_wp2_with (first | (at_builtin; refine wpList_append_pt (by rfl) _ _ (by rfl) y6.heap.size _ 0 [] (by rfl) own0 _ a (by rfl) HA2.out (by rw [HLA.out]; omega) (by simp) ?_; intro v1 w2 own1 hgrow1 hat1; have bp1 := below_own (base := y6.heap.size) hbl hgrow1 (by simp) (fun g hg => (own_geK own0 hg).1) (Nat.le_refl _); have HB2 : Hid (NmAt w2 (.slice a2 LB c2) b) := HB.out.later (below_step bel bp1)) | (at_builtin; refine wpList_append_pt (by rfl) _ _ (by rfl) y6.heap.size _ (0 + a.length) ([] ++ a) (by rfl) own1 _ b (by rfl) HB2.out (by rw [HLA.out, HLB.out]; omega) bp1.size ?_; intro v3 w3 own3 hgrow3 hat3; have bp3 := below_own (base := y6.heap.size) bp1 hgrow3 bp1.size (fun g hg => (own_geK own1 hg).1) (Nat.le_refl _)) | fail)
      replace bel := below_step bel bp3
      rw [List.nil_append] at own3
      refine (con_NWithin (NmAt.of_own own3) (HA.out.later bel) (wa.app wb) wa).mono ?_
      rintro e y9 ⟨rfl, hb⟩
      rw [decide_eq_true (List.take_left' rfl)]
      replace bel := below_step bel hb
      go_wp2_with fail
      go_ret
      exact ⟨rfl, bel⟩
  · refine (con_NWithin (HB.out.later bel) (HC.out.later bel) wb wc).mono ?_
    rintro e y3 ⟨rfl, hb⟩
    rw [decide_eq_false hbc]
    replace bel := below_step bel hb
    clear hb
    go_wp2_with fail
    refine (con_NWithin (HA.out.later bel) (HB.out.later bel) wa wb).mono ?_
    rintro e y4 ⟨rfl, hb⟩
    rw [decide_eq_true hab]
    replace bel := below_step bel hb
    clear hb
    go_wp2_with fail
    by_cases hba : b.take a.length = a
    · refine (con_NWithin (HB.out.later bel) (HA.out.later bel) wb wa).mono ?_
      rintro e y5 ⟨rfl, hb⟩
      rw [decide_eq_true hba]
      replace bel := below_step bel hb
      clear hb
      go_wp2_with fail
      refine (con_NSame (HA.out.later bel) (HB.out.later bel) wa wb).mono ?_
      rintro e y6 ⟨rfl, hb⟩
      rw [decide_eq_true (in_both hab hba)]
      replace bel := below_step bel hb
      clear hb
      go_upto_region 4 with fail
      have hbl : Below y6.heap.size y6 (y6.alloc (.cells #[] 47)) := (Below.refl _ _).alloc (Nat.le_refl _) _
      have own0 := own_none2 y6
      have HA2 : Hid (NmAt (y6.alloc (.cells #[] 47)) (.slice a1 LA c1) a) := (HA.out.later bel).later hbl
      go_wp2_with (first | (at_builtin; refine wpList_append_pt (by rfl) _ _ (by rfl) y6.heap.size _ 0 [] (by rfl) own0 _ a (by rfl) HA2.out (by rw [HLA.out]; omega) (by simp) ?_; intro v1 w2 own1 hgrow1 hat1; have bp1 := below_own (base := y6.heap.size) hbl hgrow1 (by simp) (fun g hg => (own_geK own0 hg).1) (Nat.le_refl _); have HB2 : Hid (NmAt w2 (.slice a2 LB c2) b) := HB.out.later (below_step bel bp1)) | (at_builtin; refine wpList_append_pt (by rfl) _ _ (by rfl) y6.heap.size _ (0 + a.length) ([] ++ a) (by rfl) own1 _ b (by rfl) HB2.out (by rw [HLA.out, HLB.out]; omega) bp1.size ?_; intro v3 w3 own3 hgrow3 hat3; have bp3 := below_own (base := y6.heap.size) bp1 hgrow3 bp1.size (fun g hg => (own_geK own1 hg).1) (Nat.le_refl _)) | fail)
      replace bel := below_step bel bp3
      rw [List.nil_append] at own3
      refine (con_NWithin (NmAt.of_own own3) (HA.out.later bel) (wa.app wb) wa).mono ?_
      rintro e y9 ⟨rfl, hb⟩
      rw [decide_eq_true (List.take_left' rfl)]
      replace bel := below_step bel hb
      go_wp2_with fail
      go_ret
      exact ⟨rfl, bel⟩
    · refine (con_NWithin (HB.out.later bel) (HA.out.later bel) wb wa).mono ?_
      rintro e y5 ⟨rfl, hb⟩
      rw [decide_eq_false hba]
      replace bel := below_step bel hb
      clear hb
      go_upto_region 4 with fail
      have hbl : Below y5.heap.size y5 (y5.alloc (.cells #[] 47)) := (Below.refl _ _).alloc (Nat.le_refl _) _
      have own0 := own_none2 y5
      have HA2 : Hid (NmAt (y5.alloc (.cells #[] 47)) (.slice a1 LA c1) a) := (HA.out.later bel).later hbl
      go_wp2_with (first | (at_builtin; refine wpList_append_pt (by rfl) _ _ (by rfl) y5.heap.size _ 0 [] (by rfl) own0 _ a (by rfl) HA2.out (by rw [HLA.out]; omega) (by simp) ?_; intro v1 w2 own1 hgrow1 hat1; have bp1 := below_own (base := y5.heap.size) hbl hgrow1 (by simp) (fun g hg => (own_geK own0 hg).1) (Nat.le_refl _); have HB2 : Hid (NmAt w2 (.slice a2 LB c2) b) := HB.out.later (below_step bel bp1)) | (at_builtin; refine wpList_append_pt (by rfl) _ _ (by rfl) y5.heap.size _ (0 + a.length) ([] ++ a) (by rfl) own1 _ b (by rfl) HB2.out (by rw [HLA.out, HLB.out]; omega) bp1.size ?_; intro v3 w3 own3 hgrow3 hat3; have bp3 := below_own (base := y5.heap.size) bp1 hgrow3 bp1.size (fun g hg => (own_geK own1 hg).1) (Nat.le_refl _)) | fail)
      replace bel := below_step bel bp3
      rw [List.nil_append] at own3
      refine (con_NWithin (NmAt.of_own own3) (HA.out.later bel) (wa.app wb) wa).mono ?_
      rintro e y9 ⟨rfl, hb⟩
      rw [decide_eq_true (List.take_left' rfl)]
      replace bel := below_step bel hb
      go_wp2_with fail
      go_ret
      exact ⟨rfl, bel⟩
end Go.Proofs.Ytineihnipidmfaa
