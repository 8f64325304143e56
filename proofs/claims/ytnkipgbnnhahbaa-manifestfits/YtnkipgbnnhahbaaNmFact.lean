/- Names' elements: plain facts. -/
import Derived.Test.YtnkipgbnnhahbaaNmSpec
namespace Go.Proofs.Ytnkipgbnnhahbaa
open Go.RowKit
theorem part_say {p : Pn} (h : partN p = true) : (0 ≤ p.1 ∧ p.1 < 256) ∧ p.2.length ≤ 64 := by
  unfold partN kindN textP at h
  simp only [Bool.and_eq_true, Bool.or_eq_true, decide_eq_true_eq] at h
  refine ⟨by omega, ?_⟩
  by_cases h64 : 64 < p.2.length
  · rw [if_pos h64] at h
    exact absurd h.2 (by simp)
  · omega
theorem may_say {n : List Pn} (h : mayN n = true) : n.length ≤ 8 ∧ ∀ p ∈ n, partN p = true := by
  unfold mayN at h
  rw [Bool.and_eq_true, List.all_eq_true] at h
  exact ⟨of_decide_eq_true h.1, h.2⟩
theorem lenB_le (n : Nat) : (lenB n).length ≤ 4 := by
  unfold lenB
  split
  · simp
  · split
    · simp
    · split <;> simp
theorem bytes_mk (c t : Int) (m : Bool) (b : List Int) (ks : List Tl) : (bytesT (.mk c t m b ks)).length ≤ 5 + b.length + (bytesL ks).length := by
  rw [bytesT]
  have := lenB_le (b ++ bytesL ks).length
  simp only [List.length_cons, List.length_append] at this ⊢
  omega
theorem bytes_set {p : Pn} (h : p.2.length ≤ 64) : (bytesT (setN p)).length ≤ 100 := by
  unfold setN
  have e0 : bytesL [] = [] := by rw [bytesL]
  have h1 := bytes_mk 0 17 true [] [.mk 0 16 true [] [.mk 0 6 false [85, 4, p.1] [], .mk 0 12 false p.2 []]]
  have h2 := bytes_mk 0 16 true [] [.mk 0 6 false [85, 4, p.1] [], .mk 0 12 false p.2 []]
  have h3 := bytes_mk 0 6 false [85, 4, p.1] []
  have h4 := bytes_mk 0 12 false p.2 []
  rw [bytesL, bytesL, List.append_nil] at h1
  rw [bytesL, bytesL, bytesL, List.append_nil, List.length_append] at h2
  rw [e0] at h3 h4
  simp only [List.length_cons, List.length_nil] at h1 h2 h3 h4
  omega
theorem bytesL_set : ∀ {n : List Pn}, (∀ p ∈ n, partN p = true) → (bytesL (n.map setN)).length ≤ 100 * n.length
  | [], _ => by rw [List.map_nil, bytesL]; simp
  | p :: n, h => by
    have h1 := bytesL_set (n := n) (fun q hq => h q (List.mem_cons_of_mem _ hq))
    have h2 := bytes_set (part_say (h p (List.mem_cons_self ..))).2
    rw [List.map_cons, bytesL, List.length_append, List.length_cons]
    omega
theorem fine_set (p : Pn) : fineT (setN p) = true := by
  unfold setN
  simp [fineT, fineL, fine1]
theorem fineL_set : ∀ n : List Pn, fineL (n.map setN) = true
  | [] => by rw [List.map_nil, fineL]
  | p :: n => by rw [List.map_cons, fineL, fine_set, fineL_set n]; rfl
theorem dep_set (p : Pn) : depT (setN p) = 3 := by
  unfold setN
  simp [depT, depL]
theorem depL_set : ∀ n : List Pn, depL (n.map setN) ≤ 3
  | [] => by rw [List.map_nil, depL]; omega
  | p :: n => by
    have := depL_set n
    rw [List.map_cons, depL, dep_set]
    omega
theorem sz_set (p : Pn) : szT (setN p) = 4 := by
  unfold setN
  simp [szT, szL]
theorem szL_set : ∀ n : List Pn, szL (n.map setN) = 4 * n.length
  | [] => by rw [List.map_nil, szL]; rfl
  | p :: n => by rw [List.map_cons, szL, sz_set, szL_set n, List.length_cons]; omega
theorem sz_elem (n : List Pn) : szT (elemN n) = 1 + 4 * n.length := by
  unfold elemN
  rw [szT, szL_set]
theorem wr_elem {n : List Pn} (h : mayN n = true) : wrN (elemN n) = 0 := by
  obtain ⟨hl, hp⟩ := may_say h
  have h1 := bytesL_set hp
  have h2 := bytes_mk 0 16 true [] (n.map setN)
  have h3 := depL_set n
  simp only [List.length_nil] at h2
  unfold wrN elemN
  rw [if_pos (by rw [fineT, fineL_set]; simp [fine1]), if_neg (by rw [depT]; omega), if_neg (by omega)]
theorem byt_set {k : Int} (h : 0 ≤ k ∧ k < 256) : byt [85, 4, k] := fun j => by
  match j with
  | 0 => exact ⟨by show (0 : Int) ≤ 85; decide, by show (85 : Int) < 256; decide⟩
  | 1 => exact ⟨by show (0 : Int) ≤ 4; decide, by show (4 : Int) < 256; decide⟩
  | 2 => exact h
  | j + 3 => simp
theorem byt_nilN : byt [] := fun j => by simp
theorem wf_set {p : Pn} (h : 0 ≤ p.1 ∧ p.1 < 256) (hb : byt p.2) : WfT (setN p) := by
  unfold setN
  rw [WfT, WfL, WfL, WfT, WfL, WfL, WfL, WfT, WfT, WfL]
  exact ⟨by decide, by decide, byt_nilN, ⟨by decide, by decide, byt_nilN, ⟨by decide, by decide, byt_set h, trivial⟩, ⟨by decide, by decide, hb, trivial⟩, trivial⟩, trivial⟩
theorem wfL_set : ∀ {n : List Pn}, (∀ p ∈ n, partN p = true) → (∀ p ∈ n, byt p.2) → WfL (n.map setN)
  | [], _, _ => by rw [List.map_nil, WfL]; trivial
  | p :: n, h, hb => by
    rw [List.map_cons, WfL]
    exact ⟨wf_set (part_say (h p (List.mem_cons_self ..))).1 (hb p (List.mem_cons_self ..)), wfL_set (fun q hq => h q (List.mem_cons_of_mem _ hq)) (fun q hq => hb q (List.mem_cons_of_mem _ hq))⟩
theorem WfN.byts {n : List Pn} (wn : WfN n) : ∀ p ∈ n, byt p.2 := fun p hp => by
  obtain ⟨i, hi⟩ := List.mem_iff_getElem?.1 hp
  exact (wn i p hi).2.1
theorem wf_elem {n : List Pn} (h : mayN n = true) (wn : WfN n) : WfT (elemN n) := by
  unfold elemN
  rw [WfT]
  exact ⟨by decide, by decide, byt_nilN, wfL_set (may_say h).2 wn.byts⟩
theorem wf_nil0 : WfT (.mk 0 0 false [] []) := by
  rw [WfT, WfL]
  exact ⟨by decide, by decide, byt_nilN, trivial⟩
theorem of_setN {p : Pn} (h : partN p = true) : ofSet (setN p) = some p := by
  unfold setN ofSet
  dsimp only
  rw [if_pos ⟨rfl, rfl, rfl, rfl, rfl, rfl, rfl, rfl, rfl, rfl, rfl, rfl, rfl, rfl, h⟩]
theorem mapM_set : ∀ {n : List Pn}, (∀ p ∈ n, partN p = true) → (n.map setN).mapM ofSet = some n
  | [], _ => by simp
  | p :: n, h => by
    rw [List.map_cons, List.mapM_cons, of_setN (h p (List.mem_cons_self ..)), mapM_set (n := n) (fun q hq => h q (List.mem_cons_of_mem _ hq))]
    rfl
theorem read_elem {n : List Pn} (h : mayN n = true) : readN (elemN n) = .ok n := by
  obtain ⟨hl, hp⟩ := may_say h
  unfold readN elemN
  simp only [and_self, if_true, mapM_set hp]
  rw [if_neg (by omega)]
end Go.Proofs.Ytnkipgbnnhahbaa
