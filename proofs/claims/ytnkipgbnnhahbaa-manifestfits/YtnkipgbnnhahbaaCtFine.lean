/- A certificate's body can be written. Plain facts. -/
import Derived.Test.YtnkipgbnnhahbaaCtSize
namespace Go.Proofs.Ytnkipgbnnhahbaa
/-- fine, and not deeper than so many -/
def Fd (d : Nat) (T : Tl) : Prop := fineT T = true ∧ depT T ≤ d
def FdL (d : Nat) (ks : List Tl) : Prop := fineL ks = true ∧ depL ks ≤ d
theorem Fd.le {d e : Nat} {T : Tl} (h : Fd d T) (k : d ≤ e) : Fd e T := ⟨h.1, Nat.le_trans h.2 k⟩
theorem FdL.le {d e : Nat} {ks : List Tl} (h : FdL d ks) (k : d ≤ e) : FdL e ks := ⟨h.1, Nat.le_trans h.2 k⟩
theorem FdL.nil {d : Nat} : FdL d [] := ⟨by rw [fineL], by rw [depL]; omega⟩
theorem FdL.cons {d : Nat} {k : Tl} {ks : List Tl} (h : Fd d k) (hs : FdL d ks) : FdL d (k :: ks) :=
  ⟨by rw [fineL, h.1, hs.1]; rfl, by rw [depL]; exact Nat.max_le.2 ⟨h.2, hs.2⟩⟩
theorem FdL.one {d : Nat} {k : Tl} (h : Fd d k) : FdL d [k] := FdL.cons h FdL.nil
theorem FdL.app {d : Nat} : ∀ {ks ls : List Tl}, FdL d ks → FdL d ls → FdL d (ks ++ ls)
  | [], _, _, h => h
  | k :: ks, ls, h1, h2 => by
    have a : fineT k = true ∧ fineL ks = true := by have := h1.1; rw [fineL, Bool.and_eq_true] at this; exact this
    have b : depT k ≤ d ∧ depL ks ≤ d := by have := h1.2; rw [depL] at this; exact Nat.max_le.1 this
    exact FdL.cons ⟨a.1, b.1⟩ (FdL.app ⟨a.2, b.2⟩ h2)
theorem FdL.map {α : Type} {d : Nat} {f : α → Tl} : ∀ {L : List α}, (∀ x ∈ L, Fd d (f x)) → FdL d (L.map f)
  | [], _ => FdL.nil
  | _ :: _, h => FdL.cons (h _ List.mem_cons_self) (FdL.map (fun y hy => h y (List.mem_cons_of_mem _ hy)))
theorem fd_made {d : Nat} {c t : Int} {ks : List Tl} (hc : 0 ≤ c ∧ c ≤ 3) (ht : 0 ≤ t ∧ t ≤ 30) (h : FdL d ks) : Fd (d + 1) (.mk c t true [] ks) := by
  refine ⟨?_, ?_⟩
  · rw [fineT, h.1]
    unfold fine1
    simp [hc.1, hc.2, ht.1, ht.2]
  · rw [depT]
    have := h.2
    omega
theorem fd_leaf {c t : Int} {b : List Int} (hc : 0 ≤ c ∧ c ≤ 3) (ht : 0 ≤ t ∧ t ≤ 30) : Fd 1 (.mk c t false b []) := by
  refine ⟨?_, ?_⟩
  · rw [fineT, fineL]
    unfold fine1
    simp [hc.1, hc.2, ht.1, ht.2]
  · rw [depT, depL]; omega
theorem fd_list {d : Nat} {ks : List Tl} (h : FdL d ks) : Fd (d + 1) (listT ks) := fd_made (by decide) (by decide) h
theorem fd_own {d : Nat} {t : Int} {ks : List Tl} (ht : 0 ≤ t ∧ t ≤ 30) (h : FdL d ks) : Fd (d + 1) (ownT t ks) := fd_made (by decide) ht h
theorem fd_elem (n : List Pn) : Fd 4 (elemN n) := ⟨by unfold elemN; rw [fineT, fineL_set]; rfl, by unfold elemN; rw [depT]; have := depL_set n; omega⟩
theorem fd_oid (l : List Int) : Fd 1 (oidT l) := fd_leaf (by decide) (by decide)
theorem fd_names {t : Int} (ht : 0 ≤ t ∧ t ≤ 30) (l : List (List Pn)) : Fd 7 (namesT t l) := fd_own ht (FdL.map (fun n _ => fd_list (FdL.one (fd_own (by decide) (FdL.one (fd_elem n))))))
theorem fd_ext (k : Int) (m : Bool) (T : Tl) : Fd 2 (extT k m T) := by
  have h1 : FdL 1 (if m then [yesT] else []) := by
    cases m
    · exact FdL.nil
    · exact FdL.one (fd_leaf (by decide) (by decide))
  exact fd_list (FdL.app (FdL.app (FdL.one (fd_oid _)) h1) (FdL.one (fd_leaf (by decide) (by decide))))
theorem fd_ser {n : List Int} {T : Tl} (h : serT n = some T) : Fd 1 T := by
  unfold serT at h
  split at h
  · cases h
  · cases h
    exact fd_leaf (by decide) (by decide)
theorem fd_tim {t : Int} {T : Tl} (h : timT t = some T) : Fd 1 T := by
  unfold timT at h
  cases ht : timeOf t with
  | error c => rw [ht] at h; cases h
  | ok q =>
    obtain ⟨a, b⟩ := q
    rw [ht] at h
    cases h
    have ha : a = 23 ∨ a = 24 := by
      unfold timeOf at ht
      split at ht
      · cases ht
      · simp only [Except.ok.injEq, Prod.mk.injEq] at ht
        rw [← ht.1]
        unfold tagT
        split
        · exact .inr rfl
        · exact .inl rfl
    exact fd_leaf (by decide) (by omega)
theorem fd_more (c : Ct) : FdL 2 (moreL c) := by
  have b : FdL 2 (if 0 < c.usage then [extT 15 true (useT c.usage.toNat)] else []) := by
    split
    · exact FdL.one (fd_ext _ _ _)
    · exact FdL.nil
  have d : FdL 2 (if 0 < c.uses.length then [extT 37 false (listT (c.uses.map oidT))] else []) := by
    split
    · exact FdL.one (fd_ext _ _ _)
    · exact FdL.nil
  have e : FdL 2 (if 0 < (limitL c).length then [extT 30 true (listT (limitL c))] else []) := by
    split
    · exact FdL.one (fd_ext _ _ _)
    · exact FdL.nil
  exact FdL.app (FdL.app (FdL.app (FdL.one (fd_ext _ _ _)) b) d) e
theorem fd_body {c : Ct} {p : List Int} (h : MayC c) : Fd 16 (ctBody c p) := by
  obtain ⟨S, hS⟩ := h.2.2.2.2.2.2.2.2.2.2.2.2.1
  obtain ⟨F, hF⟩ := h.2.2.2.2.2.2.2.2.2.2.2.2.2.1
  obtain ⟨T, hT⟩ := h.2.2.2.2.2.2.2.2.2.2.2.2.2.2.1
  unfold ctBody
  rw [hS, hF, hT]
  have k0 : Fd 4 (ownT 0 [Tl.mk 0 2 false [2] []]) := (fd_own (by decide) (FdL.one (fd_leaf (by decide) (by decide)))).le (by omega)
  have k2 : Fd 4 algT := (fd_list (FdL.one (fd_oid _))).le (by omega)
  have k4 : Fd 4 (listT [F, T]) := (fd_list (FdL.cons (fd_tim hF) (FdL.one (fd_tim hT)))).le (by omega)
  have kc : Fd 2 curveT := fd_list (FdL.cons (fd_oid _) (FdL.one (fd_oid _)))
  have k6 : Fd 4 (listT [curveT, Tl.mk 0 3 false (0 :: p) []]) := (fd_list (FdL.cons kc (FdL.one ((fd_leaf (by decide) (by decide)).le (by omega))))).le (by omega)
  have k7 : Fd 4 (ownT 3 [listT (moreL c)]) := fd_own (by decide) (FdL.one (fd_list (fd_more c)))
  exact (fd_list (FdL.cons k0 (FdL.cons ((fd_ser hS).le (by omega)) (FdL.cons k2 (FdL.cons (fd_elem _) (FdL.cons k4 (FdL.cons (fd_elem _) (FdL.cons k6 (FdL.one k7))))))))).le (by omega)
/-- what may be a certificate has a body that can be written -/
theorem wr_body {c : Ct} {p : List Int} (h : MayC c) (hp : p.length = 97) : wrN (ctBody c p) = 0 := by
  have h1 := fd_body (p := p) h
  have h2 := (sm_body h hp).1
  unfold wrN
  rw [if_pos h1.1, if_neg (by have := h1.2; omega), if_neg (by omega)]
theorem pnt_len {X Y : Int} {p : List Int} (h : pntB X Y p) : p.length = 97 := by
  obtain ⟨A, B, a1, -, -, b1, -, -, rfl⟩ := h
  rw [List.length_cons, List.length_append, a1, b1]
end Go.Proofs.Ytnkipgbnnhahbaa
