/- What was read is that name's element: plain facts. -/
import Derived.Test.YtineihnipidmfaaRows
import Derived.Test.YtineihnipidmfaaNmSpec
import Derived.Test.YtineihnipidmfaaNmFact
import Derived.Test.YtineihnipidmfaaNmRd
import Derived.Deep.WholeRow
import Derived.Deep.RegionHeld3
import Derived.Deep.DeepCutAuto
import Derived.Deep.DeepFit
namespace Go.Proofs.Ytineihnipidmfaa
open Go.RowKit

theorem wr_fineN {T : Tl} (h : wrN T = 0) : fineT T = true := by
  unfold wrN at h
  split at h
  · assumption
  · cases h
theorem fine_say {c t : Int} {m : Bool} {b : List Int} {ks : List Tl} (h : fineT (.mk c t m b ks) = true) : (m = true → b = []) ∧ (m = false → ks = []) ∧ fineL ks = true := by
  rw [fineT, Bool.and_eq_true] at h
  obtain ⟨h1, h2⟩ := h
  unfold fine1 at h1
  simp only [Bool.and_eq_true, Bool.not_eq_true', Bool.and_eq_false_iff, decide_eq_true_eq, decide_eq_false_iff_not] at h1
  obtain ⟨⟨-, h3⟩, h4⟩ := h1
  refine ⟨fun e => ?_, fun e => ?_, h2⟩
  · subst e
    rcases h3 with h | h
    · cases h
    · exact List.eq_nil_of_length_eq_zero (by omega)
  · subst e
    rcases h4 with h | h
    · cases h
    · exact List.eq_nil_of_length_eq_zero (by omega)
theorem of_back {k : Tl} {p : Pn} (h : ofSet k = some p) (f : fineT k = true) : k = setN p ∧ partN p = true := by
  unfold ofSet at h
  split at h
  · split at h
    · rename_i hc
      obtain ⟨rfl, rfl, rfl, rfl, rfl, rfl, rfl, rfl, rfl, rfl, rfl, rfl, rfl, rfl, hp⟩ := hc
      cases h
      obtain ⟨f1, -, f2⟩ := fine_say f
      rw [fineL, Bool.and_eq_true] at f2
      obtain ⟨f3, -, f4⟩ := fine_say f2.1
      rw [fineL, fineL, Bool.and_eq_true, Bool.and_eq_true] at f4
      obtain ⟨-, f5, -⟩ := fine_say f4.1
      obtain ⟨-, f6, -⟩ := fine_say f4.2.1
      have e1 := f1 rfl
      have e3 := f3 rfl
      have e5 := f5 rfl
      have e6 := f6 rfl
      subst e1 e3 e5 e6
      exact ⟨rfl, hp⟩
    · cases h
  · cases h
theorem mapM_back : ∀ {ks : List Tl} {n : List Pn}, ks.mapM ofSet = some n → fineL ks = true → ks = n.map setN ∧ ∀ p ∈ n, partN p = true
  | [], n, h, _ => by
    rw [List.mapM_nil] at h
    cases h
    exact ⟨rfl, fun p hp => by cases hp⟩
  | k :: ks, n, h, f => by
    rw [fineL, Bool.and_eq_true] at f
    rw [List.mapM_cons] at h
    cases h1 : ofSet k with
    | none => rw [h1] at h; cases h
    | some p =>
      cases h2 : ks.mapM ofSet with
      | none => rw [h1, h2] at h; cases h
      | some m =>
        rw [h1, h2] at h
        cases h
        obtain ⟨e1, e2⟩ := of_back h1 f.1
        obtain ⟨e3, e4⟩ := mapM_back h2 f.2
        refine ⟨by rw [List.map_cons, ← e1, ← e3], fun q hq => ?_⟩
        rcases List.mem_cons.1 hq with rfl | hq
        · exact e2
        · exact e4 q hq
theorem readN_err {T : Tl} {c : Nat} (h : readN T = .error c) : c = 7 ∨ c = 2 := by
  obtain ⟨c0, t, m, b, ks⟩ := T
  rw [readN] at h
  split at h
  · split at h
    · cases h; exact .inl rfl
    · split at h
      · cases h; exact .inr rfl
      · cases h
  · cases h; exact .inl rfl
theorem read_back {T : Tl} {n : List Pn} (h : readN T = .ok n) (f : fineT T = true) : T = elemN n ∧ mayN n = true := by
  obtain ⟨c0, t, m, b, ks⟩ := T
  rw [readN] at h
  split at h
  · rename_i hc
    obtain ⟨rfl, rfl, rfl⟩ := hc
    split at h
    · cases h
    · rename_i m hm
      split at h
      · cases h
      · rename_i hl
        cases h
        obtain ⟨f1, -, f2⟩ := fine_say f
        have e1 := f1 rfl
        subst e1
        obtain ⟨e2, e3⟩ := mapM_back hm f2
        refine ⟨by rw [elemN, ← e2], ?_⟩
        unfold mayN
        rw [decide_eq_true (by omega), Bool.true_and, List.all_eq_true]
        exact e3
  · cases h
theorem wf_parts : ∀ {n : List Pn}, WfL (n.map setN) → ∀ p ∈ n, byt p.2
  | [], _, p, hp => by cases hp
  | q :: n, h, p, hp => by
    rw [List.map_cons, WfL] at h
    rcases List.mem_cons.1 hp with rfl | hp
    · have h1 := h.1
      unfold setN at h1
      rw [WfT, WfL, WfL, WfT, WfL, WfL, WfL, WfT, WfT, WfL] at h1
      exact h1.2.2.2.1.2.2.2.2.1.2.2.1
    · exact wf_parts h.2 p hp
theorem wf_read {n : List Pn} (h : mayN n = true) (w : WfT (elemN n)) : WfN n := fun i p hp => by
  have hm := List.mem_of_getElem? hp
  have h1 := part_say ((may_say h).2 p hm)
  unfold elemN at w
  rw [WfT] at w
  exact ⟨by omega, wf_parts w.2.2.2 p hm, by unfold maxLen; omega⟩
end Go.Proofs.Ytineihnipidmfaa
