/- How great certificates' elements are. Plain facts. -/
import Derived.Test.YtnkipgbnnhahbaaCtSpec
import Derived.Test.YtnkipgbnnhahbaaNmFact
namespace Go.Proofs.Ytnkipgbnnhahbaa
/-- neither more bytes nor more elements than so many -/
def Sm (B : Nat) (T : Tl) : Prop := (bytesT T).length ≤ B ∧ szT T ≤ B
def SzmL (B : Nat) (ks : List Tl) : Prop := (bytesL ks).length ≤ B ∧ szL ks ≤ B
theorem Sm.le {A B : Nat} {T : Tl} (h : Sm A T) (k : A ≤ B) : Sm B T := ⟨Nat.le_trans h.1 k, Nat.le_trans h.2 k⟩
theorem SzmL.le {A B : Nat} {ks : List Tl} (h : SzmL A ks) (k : A ≤ B) : SzmL B ks := ⟨Nat.le_trans h.1 k, Nat.le_trans h.2 k⟩
theorem SzmL.nil : SzmL 0 [] := ⟨by simp [bytesL], by simp [szL]⟩
theorem SzmL.cons {A B : Nat} {k : Tl} {ks : List Tl} (h : Sm A k) (hs : SzmL B ks) : SzmL (A + B) (k :: ks) := by
  refine ⟨?_, ?_⟩
  · rw [bytesL, List.length_append]
    exact Nat.add_le_add h.1 hs.1
  · rw [szL]
    exact Nat.add_le_add h.2 hs.2
theorem SzmL.one {A : Nat} {k : Tl} (h : Sm A k) : SzmL A [k] := h.1 |> fun _ => SzmL.le (SzmL.cons h SzmL.nil) (by omega)
theorem SzmL.app {A B : Nat} : ∀ {ks ls : List Tl}, SzmL A ks → SzmL B ls → SzmL (A + B) (ks ++ ls)
  | [], ls, _, h2 => h2.le (by omega)
  | k :: ks, ls, h1, h2 => by
    have hb : (bytesT k).length + (bytesL ks).length ≤ A := by have := h1.1; rwa [bytesL, List.length_append] at this
    have hz : szT k + szL ks ≤ A := by have := h1.2; rwa [szL] at this
    have ih := SzmL.app (A := A - min (bytesT k).length (szT k)) (ks := ks) (ls := ls) ⟨by omega, by omega⟩ h2
    refine ⟨?_, ?_⟩
    · rw [List.cons_append, bytesL, List.length_append]
      have e : ∀ ks ls : List Tl, (bytesL (ks ++ ls)).length = (bytesL ks).length + (bytesL ls).length := by
        intro ks ls
        induction ks with
        | nil => simp [bytesL]
        | cons k ks ih => rw [List.cons_append, bytesL, bytesL, List.length_append, List.length_append, ih]; omega
      rw [e]
      have := h2.1
      omega
    · rw [List.cons_append, szL]
      have e : ∀ ks ls : List Tl, szL (ks ++ ls) = szL ks + szL ls := by
        intro ks ls
        induction ks with
        | nil => simp [szL]
        | cons k ks ih => rw [List.cons_append, szL, szL, ih]; omega
      rw [e]
      have := h2.2
      omega
theorem SzmL.map {α : Type} {A : Nat} {f : α → Tl} : ∀ {L : List α}, (∀ x ∈ L, Sm A (f x)) → SzmL (A * L.length) (L.map f)
  | [], _ => SzmL.nil.le (Nat.zero_le _)
  | x :: L, h => by
    rw [List.map_cons]
    refine (SzmL.cons (h x (List.mem_cons_self)) (SzmL.map (fun y hy => h y (List.mem_cons_of_mem _ hy)))).le ?_
    rw [List.length_cons, Nat.mul_succ]
    omega
theorem sm_mk {B n : Nat} {c t : Int} {m : Bool} {b : List Int} {ks : List Tl} (h : SzmL B ks) (hb : b.length ≤ n) : Sm (5 + n + B) (.mk c t m b ks) := by
  refine ⟨?_, ?_⟩
  · have := bytes_mk c t m b ks
    have := h.1
    omega
  · rw [szT]
    have := h.2
    omega
theorem sm_leaf {n : Nat} {c t : Int} {m : Bool} {b : List Int} (hb : b.length ≤ n) : Sm (5 + n) (.mk c t m b []) := sm_mk SzmL.nil hb
theorem sm_list {B : Nat} {ks : List Tl} (h : SzmL B ks) : Sm (5 + B) (listT ks) := sm_mk (n := 0) h (by simp)
theorem sm_own {B : Nat} {tag : Int} {ks : List Tl} (h : SzmL B ks) : Sm (5 + B) (ownT tag ks) := sm_mk (n := 0) h (by simp)
theorem oid_small {l b : List Int} (h : oidOf l = .ok b) : b.length ≤ 150 := by
  unfold oidOf at h
  split at h
  · cases h
  · rename_i k
    split at h
    · cases h
    · cases h
      have h1 := b7s_len (valsO l)
      have h2 := vals_len (L := l) (by omega)
      omega
theorem sm_oid (l : List Int) : Sm 155 (oidT l) := by
  refine sm_leaf (n := 150) ?_
  cases h : oidOf l with
  | ok b => exact oid_small h
  | error c => simp [orNil]
theorem sm_yes : Sm 6 yesT := sm_leaf (n := 1) (by decide)
theorem sm_elem {n : List Pn} (h : mayN n = true) : Sm 805 (elemN n) := by
  obtain ⟨h1, h2⟩ := may_say h
  refine ⟨?_, ?_⟩
  · have h3 := bytes_mk 0 16 true [] (n.map setN)
    have h4 := bytesL_set h2
    have : (bytesT (elemN n)).length ≤ 5 + 0 + (bytesL (n.map setN)).length := h3
    omega
  · rw [sz_elem]; omega
theorem sm_names {tag : Int} {l : List (List Pn)} (hl : l.length ≤ 8) (h : ∀ n ∈ l, mayN n = true) : Sm 6525 (namesT tag l) := by
  have : SzmL (815 * l.length) (l.map fun n => listT [ownT 4 [elemN n]]) := SzmL.map (fun n hn => sm_list (SzmL.one (sm_own (SzmL.one (sm_elem (h n hn))))))
  exact (sm_own this).le (by omega)
theorem wrB_len (T : Tl) : (wrB T).length ≤ (bytesT T).length := by
  unfold wrB
  split
  · exact Nat.le_refl _
  · simp
theorem sm_ext {k : Int} {m : Bool} {T : Tl} {B : Nat} (h : Sm B T) : Sm (176 + B) (extT k m T) := by
  have h1 : SzmL 6 (if m then [yesT] else []) := by
    cases m
    · exact SzmL.nil.le (by omega)
    · exact SzmL.one sm_yes
  have h2 : Sm (5 + B) (.mk 0 4 false (wrB T) []) := sm_leaf (Nat.le_trans (wrB_len T) h.1)
  exact (sm_list (SzmL.app (SzmL.app (SzmL.one (sm_oid _)) h1) (SzmL.one h2))).le (by omega)
theorem numOf_len {n b : List Int} (h : numOf n = .ok b) : b.length ≤ n.length + 1 := by
  have hz : ∀ X : List Int, (lessZ X).length ≤ X.length := by
    intro X
    induction X with
    | nil => simp [lessZ]
    | cons x X ih =>
      rw [lessZ]
      split
      · rw [List.length_cons]; omega
      · exact Nat.le_refl _
  have := hz n
  unfold numOf at h
  split at h
  · cases h
  · split at h
    · cases h
      rw [List.length_cons]; omega
    · cases h
      omega
theorem sm_ser {n : List Int} {T : Tl} (h : serT n = some T) : Sm 26 T := by
  unfold serT at h
  split at h
  · cases h
  · rename_i k
    cases h
    refine sm_leaf (n := 21) ?_
    cases hn : numOf n with
    | ok b => have := numOf_len hn; simp only [orNil]; omega
    | error c => simp [orNil]
theorem sm_tim {t : Int} {T : Tl} (h : timT t = some T) : Sm 20 T := by
  unfold timT at h
  cases ht : timeOf t with
  | error c => rw [ht] at h; cases h
  | ok q =>
    obtain ⟨a, b⟩ := q
    rw [ht] at h
    cases h
    refine sm_leaf (n := 15) ?_
    unfold timeOf at ht
    split at ht
    · cases ht
    · cases ht
      unfold bodyT twoN
      split <;> simp
theorem useB_len (n : Nat) : (useB n).length ≤ 3 := by
  unfold useB
  split <;> simp
theorem sm_use (n : Nat) : Sm 8 (useT n) := sm_leaf (useB_len n)
theorem sm_basic (c : Ct) : SzmL 16 (basicL c) := by
  have h1 : SzmL 6 (if c.ca = true then [yesT] else []) := by
    split
    · exact SzmL.one sm_yes
    · exact SzmL.nil.le (by omega)
  have h2 : SzmL 10 (if 0 ≤ c.path then [Tl.mk 0 2 false (orNil (smallOf c.path)) []] else []) := by
    split
    · refine SzmL.one (sm_leaf (n := 5) ?_)
      cases hs : smallOf c.path with
      | error e => simp [orNil]
      | ok b =>
        unfold smallOf at hs
        split at hs
        · cases hs
        · have := numOf_len hs
          have := digF_len 4 c.path.toNat []
          simp only [orNil, List.length_nil] at *
          omega
    · exact SzmL.nil.le (by omega)
  exact SzmL.app h1 h2
theorem MayC.lims {c : Ct} (h : MayC c) : c.uses.length ≤ 8 ∧ c.permit.length ≤ 8 ∧ c.exclude.length ≤ 8 ∧ (∀ n ∈ [c.issuer, c.subject] ++ c.permit ++ c.exclude, mayN n = true) := ⟨h.2.2.2.2.2.2.2.1, h.2.2.2.2.2.2.2.2.1, h.2.2.2.2.2.2.2.2.2.1, h.2.2.2.2.2.2.2.2.2.2.2.1⟩
theorem MayC.nm {c : Ct} (h : MayC c) : mayN c.issuer = true ∧ mayN c.subject = true ∧ (∀ n ∈ c.permit, mayN n = true) ∧ (∀ n ∈ c.exclude, mayN n = true) :=
  ⟨h.lims.2.2.2 _ (by simp), h.lims.2.2.2 _ (by simp), fun n hn => h.lims.2.2.2 n (by simp [hn]), fun n hn => h.lims.2.2.2 n (by simp [hn])⟩
theorem sm_limits {c : Ct} (h : MayC c) : SzmL 13050 (limitL c) := by
  obtain ⟨-, h1, h2, -⟩ := h.lims
  obtain ⟨-, -, h3, h4⟩ := h.nm
  have a : SzmL 6525 (if 0 < c.permit.length then [namesT 0 c.permit] else []) := by
    split
    · exact SzmL.one (sm_names h1 h3)
    · exact SzmL.nil.le (by omega)
  have b : SzmL 6525 (if 0 < c.exclude.length then [namesT 1 c.exclude] else []) := by
    split
    · exact SzmL.one (sm_names h2 h4)
    · exact SzmL.nil.le (by omega)
  exact SzmL.app a b
theorem sm_uses {c : Ct} (h : MayC c) : SzmL 1240 (c.uses.map oidT) := (SzmL.map (fun l _ => sm_oid l)).le (by have := h.lims.1; omega)
theorem sm_more {c : Ct} (h : MayC c) : SzmL 20000 (moreL c) := by
  have a : SzmL 197 [extT 19 true (listT (basicL c))] := SzmL.one ((sm_ext (sm_list (sm_basic c))).le (by omega))
  have b : SzmL 184 (if 0 < c.usage then [extT 15 true (useT c.usage.toNat)] else []) := by
    split
    · exact SzmL.one (sm_ext (sm_use _))
    · exact SzmL.nil.le (by omega)
  have d : SzmL 1421 (if 0 < c.uses.length then [extT 37 false (listT (c.uses.map oidT))] else []) := by
    split
    · exact SzmL.one ((sm_ext (sm_list (sm_uses h))).le (by omega))
    · exact SzmL.nil.le (by omega)
  have e : SzmL 13231 (if 0 < (limitL c).length then [extT 30 true (listT (limitL c))] else []) := by
    split
    · exact SzmL.one ((sm_ext (sm_list (sm_limits h))).le (by omega))
    · exact SzmL.nil.le (by omega)
  exact (SzmL.app (SzmL.app (SzmL.app a b) d) e).le (by omega)
theorem sm_body {c : Ct} {p : List Int} (h : MayC c) (hp : p.length = 97) : Sm 30000 (ctBody c p) := by
  obtain ⟨hi, hj, -, -⟩ := h.nm
  obtain ⟨S, hS⟩ := h.2.2.2.2.2.2.2.2.2.2.2.2.1
  obtain ⟨F, hF⟩ := h.2.2.2.2.2.2.2.2.2.2.2.2.2.1
  obtain ⟨T, hT⟩ := h.2.2.2.2.2.2.2.2.2.2.2.2.2.2.1
  unfold ctBody
  rw [hS, hF, hT]
  have k0 : Sm 11 (ownT 0 [Tl.mk 0 2 false [2] []]) := sm_own (SzmL.one (sm_leaf (n := 1) (by decide)))
  have k2 : Sm 160 algT := sm_list (SzmL.one (sm_oid _))
  have k4 : Sm 45 (listT [F, T]) := (sm_list (SzmL.cons (sm_tim hF) (SzmL.one (sm_tim hT)))).le (by omega)
  have kc : Sm 315 curveT := (sm_list (SzmL.cons (sm_oid _) (SzmL.one (sm_oid _)))).le (by omega)
  have k6 : Sm 423 (listT [curveT, Tl.mk 0 3 false (0 :: p) []]) := (sm_list (SzmL.cons kc (SzmL.one (sm_leaf (n := 98) (by rw [List.length_cons]; omega))))).le (by omega)
  have k7 : Sm 20010 (ownT 3 [listT (moreL c)]) := (sm_own (SzmL.one (sm_list (sm_more h)))).le (by omega)
  exact (sm_list (SzmL.cons k0 (SzmL.cons (sm_ser hS) (SzmL.cons k2 (SzmL.cons (sm_elem hi) (SzmL.cons k4 (SzmL.cons (sm_elem hj) (SzmL.cons k6 (SzmL.one k7))))))))).le (by omega)
end Go.Proofs.Ytnkipgbnnhahbaa
