/- The reference's Trim. -/
import Derived.Test.YtflnfjekapngkaaDoorRows
import Derived.Test.YtflnfjekapngkaaDoorNum
namespace Go.Proofs.YtflnfjekapngkaaDoor
open Go.RowKit

/-- v holds D without the noughts at its end -/
def Trimmed (w : World) (D : List Int) (v : Value) : Prop := ∃ n, n ≤ D.length ∧ Sl w v (D.take n) ∧ trd (D.take n) ∧ ∀ j, n ≤ j → D.getD j 0 = 0

theorem trimmed_mk (w : World) (D : List Int) (b cap k : Nat) (hk : k ≤ D.length) (hc : D.length ≤ cap) (hm : cap ≤ maxLen) (hb : b < w.heap.size) (h5 : ∀ j, j < D.length → w.cell? ⟨b, j, none⟩ = some (.int .u64 (D.getD j 0)))
    (hz : ∀ j, k ≤ j → D.getD j 0 = 0) (ht : 0 < k → D.getD (k - 1) 0 ≠ 0) : Trimmed w D (.slice (some ⟨b, 0, none⟩) k cap) := by
  have hl : (D.take k).length = k := by simp; omega
  have hg : ∀ j, j < k → (D.take k).getD j 0 = D.getD j 0 := fun j hj => by simp [List.getD_eq_getElem?_getD, hj]
  refine ⟨k, hk, .inr ⟨b, cap, by rw [hl], by omega, hm, hb, fun j hj => ?_⟩, ?_, hz⟩
  · rw [hg j (by omega)]; exact h5 j (by omega)
  · intro h
    rw [hl] at h ⊢
    rw [hg _ (by omega)]; exact ht h

theorem Trimmed.num {w : World} {D : List Int} {v : Value} (h : Trimmed w D v) (hd : dig D) : NumIs w v (v32 D) := by
  obtain ⟨n, _, h2, h3, h4⟩ := h
  exact ⟨D.take n, h2, dig_take hd n, h3, pv_take_zero _ D n h4⟩

set_option maxRecDepth 100000 in
set_option maxHeartbeats 400000 in
theorem trim_any (v : Value) (D : List Int) (w : World) (h : Sl w v D) :
    Calls Tryd.prog 50 #[v] w fun e w' => ∃ v', e = .returned v' ∧ Trimmed w D v' ∧ w' = w := by
  rcases h with ⟨rfl, rfl⟩ | ⟨b, cap, rfl, h2, h3, h4, h5⟩
  · have ht : Trimmed w [] (.slice none 0 0) := ⟨0, Nat.le_refl _, .inl ⟨rfl, rfl⟩, by simp [trd], fun j _ => by simp⟩
    go_enter Tryd.func50, Tryd.ntmps50
    go_wp2
    go_loop [3] (fun i => i = .int .i64 0) (fun i => (intOf i).toNat)
    case atStart => rfl
    case round =>
      subst hrel
      go_wp2
      go_ret
      exact ⟨_, rfl, ht, rfl⟩
  · have h3' := h3
    unfold maxLen at h3
    have MK : Hid (∀ k, k ≤ D.length → (∀ j, k ≤ j → D.getD j 0 = 0) → (0 < k → D.getD (k - 1) 0 ≠ 0) → Trimmed w D (.slice (some ⟨b, 0, none⟩) k cap)) := fun k hk => trimmed_mk w D b cap k hk h2 h3' h4 h5
    have hend : ∀ j, D.length ≤ j → D.getD j 0 = 0 := fun j hj => getD_none D j hj
    clear h3'
    obtain ⟨l, hl⟩ : ∃ l, D.length = l := ⟨_, rfl⟩
    rw [hl] at h2 h5 MK hend ⊢
    have HE : Hid (∀ j, l ≤ j → D.getD j 0 = 0) := hend
    clear hend
    go_enter Tryd.func50, Tryd.ntmps50
    go_wp2
    go_loop [3] (fun i => ∃ k : Nat, k ≤ l ∧ i = .int .i64 k ∧ Hid (∀ j, k ≤ j → D.getD j 0 = 0)) (fun i => (intOf i).toNat)
    case atStart => exact ⟨l, Nat.le_refl _, rfl, HE⟩
    case round =>
      obtain ⟨k, hk, rfl, HZ⟩ := hrel
      by_cases hk0 : k = 0
      · subst hk0
        have MK0 : Trimmed w D (.slice (some ⟨b, 0, none⟩) 0 cap) := MK.out 0 (by omega) HZ.out (by omega)
        go_wp2
        go_ret
        exact ⟨_, rfl, MK0, rfl⟩
      · obtain ⟨d, hd⟩ : ∃ d, D.getD (k - 1) 0 = d := ⟨_, rfl⟩
        have hc := h5 (k - 1) (by omega)
        rw [hd] at hc
        have HD : Hid (D.getD (k - 1) 0 = d) := hd
        clear hd
        have g1 : (0 : Int) < (k : Int) := by omega
        have g2 : ((k : Int) - 1).toNat = k - 1 := by omega
        by_cases hd0 : d = 0
        · subst hd0
          go_wp2
          go_round
          case rel =>
            refine ⟨k - 1, by omega, by congr 1; omega, fun j hj => ?_⟩
            by_cases hjk : j = k - 1
            · subst hjk; exact HD.out
            · exact HZ.out j (by omega)
          case measure => simp [intOf]; omega
        · have g3 : (d == 0) = false := by simpa using hd0
          have MK0 : Trimmed w D (.slice (some ⟨b, 0, none⟩) k cap) := MK.out k (by omega) HZ.out (fun _ => by rw [HD.out]; exact hd0)
          go_wp2
          go_ret
          exact ⟨_, rfl, MK0, rfl⟩
end Go.Proofs.YtflnfjekapngkaaDoor
