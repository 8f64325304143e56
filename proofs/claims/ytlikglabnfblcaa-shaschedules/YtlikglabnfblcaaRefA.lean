/- The reference's Trim. The reference's Of: limbs as digits. The reference's at: a digit, 0 above all. -/
import Derived.Test.YtlikglabnfblcaaRows
import Derived.Test.YtlikglabnfblcaaBase
import Derived.Deep.RegionHeld3
namespace Go.Proofs.Ytlikglabnfblcaa
open Go.RowKit

/-- v holds D without the noughts at its end -/
def Trimmed (w : World) (D : List Int) (v : Value) : Prop := ∃ n, n ≤ D.length ∧ Sl w v (D.take n) ∧ trd (D.take n) ∧ ∀ j, n ≤ j → D.getD j 0 = 0

theorem trimmed_mk (w : World) (D : List Int) (b cap k : Nat) (hk : k ≤ D.length) (hc : D.length ≤ cap) (hm : cap ≤ maxLen) (hb : b < w.heap.size) (h5 : ∀ j, j < D.length → w.cell? ⟨b, j, none⟩ = some (.int .u64 (D.getD j 0)))
    (hz : ∀ j, k ≤ j → D.getD j 0 = 0) (ht : 0 < k → D.getD (k - 1) 0 ≠ 0) : Trimmed w D (.slice (some ⟨b, 0, none⟩) k cap) := by
  have hl : (D.take k).length = k := by simp; omega
  have hg : ∀ j, j < k → (D.take k).getD j 0 = D.getD j 0 := fun j hj => by simp [List.getD_eq_getElem?_getD, hj]
  refine ⟨k, hk, .inr ⟨b, cap, by rw [hl], by omega, hm, hb, fun j hj => ?_⟩, ?_, hz⟩
  · rw [hg j (by omega)]; exact h5 j (by omega)
  · intro h
    rw [hl] at h ⊢
    rw [hg _ (by omega)]; exact ht h

theorem Trimmed.num {w : World} {D : List Int} {v : Value} (h : Trimmed w D v) (hd : dig D) : NumIs w v (v32 D) := by
  obtain ⟨n, _, h2, h3, h4⟩ := h
  exact ⟨D.take n, h2, dig_take hd n, h3, pv_take_zero _ D n h4⟩

set_option maxRecDepth 100000 in
set_option maxHeartbeats 400000 in
theorem trim_any (v : Value) (D : List Int) (w : World) (h : Sl w v D) :
    Calls Try.prog 21 #[v] w fun e w' => ∃ v', e = .returned v' ∧ Trimmed w D v' ∧ w' = w := by
  rcases h with ⟨rfl, rfl⟩ | ⟨b, cap, rfl, h2, h3, h4, h5⟩
  · have ht : Trimmed w [] (.slice none 0 0) := ⟨0, Nat.le_refl _, .inl ⟨rfl, rfl⟩, by simp [trd], fun j _ => by simp⟩
    go_enter Try.func21, Try.ntmps21
    go_wp2
    go_loop [3] (fun i => i = .int .i64 0) (fun i => (intOf i).toNat)
    case atStart => rfl
    case round =>
      subst hrel
      go_wp2
      go_ret
      exact ⟨_, rfl, ht, rfl⟩
  · have h3' := h3
    unfold maxLen at h3
    have MK : Hid (∀ k, k ≤ D.length → (∀ j, k ≤ j → D.getD j 0 = 0) → (0 < k → D.getD (k - 1) 0 ≠ 0) → Trimmed w D (.slice (some ⟨b, 0, none⟩) k cap)) := fun k hk => trimmed_mk w D b cap k hk h2 h3' h4 h5
    have hend : ∀ j, D.length ≤ j → D.getD j 0 = 0 := fun j hj => getD_none D j hj
    clear h3'
    obtain ⟨l, hl⟩ : ∃ l, D.length = l := ⟨_, rfl⟩
    rw [hl] at h2 h5 MK hend ⊢
    have HE : Hid (∀ j, l ≤ j → D.getD j 0 = 0) := hend
    clear hend
    go_enter Try.func21, Try.ntmps21
    go_wp2
    go_loop [3] (fun i => ∃ k : Nat, k ≤ l ∧ i = .int .i64 k ∧ Hid (∀ j, k ≤ j → D.getD j 0 = 0)) (fun i => (intOf i).toNat)
    case atStart => exact ⟨l, Nat.le_refl _, rfl, HE⟩
    case round =>
      obtain ⟨k, hk, rfl, HZ⟩ := hrel
      by_cases hk0 : k = 0
      · subst hk0
        have MK0 : Trimmed w D (.slice (some ⟨b, 0, none⟩) 0 cap) := MK.out 0 (by omega) HZ.out (by omega)
        go_wp2
        go_ret
        exact ⟨_, rfl, MK0, rfl⟩
      · obtain ⟨d, hd⟩ : ∃ d, D.getD (k - 1) 0 = d := ⟨_, rfl⟩
        have hc := h5 (k - 1) (by omega)
        rw [hd] at hc
        have HD : Hid (D.getD (k - 1) 0 = d) := hd
        clear hd
        have g1 : (0 : Int) < (k : Int) := by omega
        have g2 : ((k : Int) - 1).toNat = k - 1 := by omega
        by_cases hd0 : d = 0
        · subst hd0
          go_wp2
          go_round
          case rel =>
            refine ⟨k - 1, by omega, by congr 1; omega, fun j hj => ?_⟩
            by_cases hjk : j = k - 1
            · subst hjk; exact HD.out
            · exact HZ.out j (by omega)
          case measure => simp [intOf]; omega
        · have g3 : (d == 0) = false := by simpa using hd0
          have MK0 : Trimmed w D (.slice (some ⟨b, 0, none⟩) k cap) := MK.out k (by omega) HZ.out (fun _ => by rw [HD.out]; exact hd0)
          go_wp2
          go_ret
          exact ⟨_, rfl, MK0, rfl⟩
end Go.Proofs.Ytlikglabnfblcaa

namespace Go.Proofs.Ytlikglabnfblcaa
open Go.RowKit

theorem info_num : (Try.prog.info? 34).map (fun i => (i.zero, i.size, i.bytes)) = some (some (.int .u64 0), 1, 8) := by kernel_rfl

theorem own_ge {w : World} {base : Nat} {e : TypeId} {size : Nat} {v : Value} {n : Nat} {xs : List Value} {j : Nat} (h : w.ownsRow base e size v n xs) (hj : v.ownBlock = some j) : base ≤ j := by
  rcases h.2 with ⟨h1, _⟩ | ⟨g, c, cur, h1, h2, _⟩
  · rw [h1] at hj; simp [Value.ownBlock] at hj
  · rw [h1] at hj; simp [Value.ownBlock] at hj; omega

set_option maxRecDepth 100000 in
set_option maxHeartbeats 1000000 in
theorem of_any (v : Value) (L : List Int) (w : World) (h : Sl w v L) (l0 : 0 < L.length) (l1 : L.length ≤ 12) (hf : fits L) :
    Calls Try.prog 14 #[v] w fun e w' => ∃ v', e = .returned v' ∧ NumIs w' v' (v64 L) ∧ Below w.heap.size w w' := by
  rcases h with ⟨rfl, rfl⟩ | ⟨b, cap, rfl, h2, h3, h4, h5⟩
  · simp at l0
  · unfold maxLen at h3
    obtain ⟨i0, hi0, hz0, hz1, hz2⟩ := info_parts info_num
    have hdig := spl_dig L hf
    have hval := spl_val L
    obtain ⟨l, hl⟩ : ∃ l, L.length = l := ⟨_, rfl⟩
    rw [hl] at h2 h5 l0 l1 ⊢
    obtain ⟨N, hN⟩ : ∃ N, v64 L = N := ⟨_, rfl⟩
    rw [hN] at hval ⊢
    have HL : Hid (L.length = l) := hl
    clear hN hl
    go_enter Try.func14, Try.ntmps14
    go_wp2
    go_loopw [3, 4] (fun o i wr => ∃ k : Nat, k ≤ l ∧ i = .int .i64 k ∧ wr.ownsRow w.heap.size 34 1 o (2 * k) (us (spl (L.take k))) ∧ Below w.heap.size w wr)
      (fun _ i _ => l - (intOf i).toNat)
    case atStart => exact ⟨0, by omega, rfl, World.ownsRow_nil _ _ _ _, Below.refl _ _⟩
    case round =>
      obtain ⟨k, hk, rfl, hown, hbel⟩ := hrel
      by_cases hlt : k < l
      · obtain ⟨a, ha⟩ : ∃ a, L.getD k 0 = a := ⟨_, rfl⟩
        have hfa : 0 ≤ a ∧ a < 18446744073709551616 := ha ▸ hf k
        have hc := (hbel.cell (p := ⟨b, k, none⟩) h4).trans (h5 k hlt)
        rw [ha] at hc
        have hsz := hbel.size
        have hne : some b ≠ Value.ownBlock u3 := by
          rcases hown.2 with ⟨h1, _⟩ | ⟨g, c, cur, h1, h2, _⟩
          · rw [h1]; simp [Value.ownBlock]
          · rw [h1]; simp [Value.ownBlock]; omega
        obtain ⟨p, hp⟩ : ∃ p, a % 4294967296 = p := ⟨_, rfl⟩
        obtain ⟨q, hq⟩ : ∃ q, a / 4294967296 = q := ⟨_, rfl⟩
        have hp' : a.tmod 4294967296 = p := by rw [← hp, Int.tmod_eq_emod_of_nonneg hfa.1]
        have hq' : IntKind.u64.wrap (a.tdiv 4294967296) = q := by rw [Int.tdiv_eq_ediv_of_nonneg hfa.1, IntKind.wrap_u64]; omega
        have HT : Hid (us (spl (L.take k)) ++ [.int .u64 p, .int .u64 q] = us (spl (L.take (k + 1)))) := by
          rw [spl_take L k (by rw [HL.out]; exact hlt), ha, hp, hq]; simp [us, Hid]
        clear ha
        have g0 : (0 : Int) ≤ (k : Int) := by omega
        have g1 : (k : Int) < (l : Int) := by omega
        go_wp2
        go_region_held3 (fun w' => w'.cell? ⟨b, k, none⟩ = some (.int .u64 a))
          (first | exact hc | (rw [World.cell?_drew, World.cell?_alloc_past _ _ _ (by omega)]; exact hc) | (rw [hgrow.cell_far _ (by simp; omega) hne]; assumption))
          ((refine step_append_lies _ (by rfl) _ _ _ (by rfl) w.heap.size 34 i0 _ 1 8 Try.underlying39 hi0 hz0 hz1 hz2 rfl (by omega) _ _ _ (by rfl) ((hown.alloc _).drew)
              ⟨wr.heap.size, 0, none⟩ 2 2 [.int .u64 p, .int .u64 q] (by rfl) (by rfl) (World.news_of_block (cs := #[.int .u64 p, .int .u64 q]) (t := 34) (fr := (0, 0)) (heap_alloc_new wr _)) (by simp [Value.oneCell'])
              (by omega) (by unfold maxLen; omega) (by omega) (by simp; omega) (wr.heap.size + 1) (by simp) ?_; intro gg cap1 w1 hown1 hgrow hat hlt1))
        all_goals go_wp2
        go_roundw
        case rel => exact ⟨k + 1, by omega, by go_num, by rw [HT.out] at hown1; exact hown1, hbel.trans (Below.grown ((Below.refl _ _).alloc hsz _).drew hgrow (by simp; omega) (fun j hj => own_ge hown hj))⟩
        case measure => simp [intOf]; omega
      · have g1 : (l : Int) ≤ (k : Int) := by omega
        have hk : k = l := by omega
        subst hk
        rw [List.take_of_length_le (by rw [HL.out]; exact Nat.le_refl _)] at hown
        go_wp2_with fail
        refine (trim_any _ (spl L) _ (Sl.of_own hown)).mono ?_
        rintro e w' ⟨v', rfl, ht, rfl⟩
        have hN := ht.num hdig
        rw [hval] at hN
        go_wp2_with fail
        go_ret
        exact ⟨v', rfl, hN, hbel⟩
end Go.Proofs.Ytlikglabnfblcaa

namespace Go.Proofs.Ytlikglabnfblcaa
open Go.RowKit

set_option maxRecDepth 100000 in
theorem at_any (v : Value) (D : List Int) (i : Nat) (w : World) (h : Sl w v D) :
    Calls Try.prog 20 #[v, .int .i64 i] w fun e w' => e = .returned (.int .u64 (D.getD i 0)) ∧ w' = w := by
  obtain ⟨ao, cap, rfl, m1, k1, f1⟩ := h.form
  unfold maxLen at m1
  obtain ⟨d, hd⟩ : ∃ d, D.getD i 0 = d := ⟨_, rfl⟩
  by_cases hi : i < D.length
  · obtain ⟨b, rfl, hb, hc⟩ := f1 (by omega)
    have x := hc i hi
    rw [hd] at x ⊢
    clear f1 hc hd
    have g1 : (i : Int) < (D.length : Int) := by omega
    have g2 : (0 : Int) ≤ (i : Int) := by omega
    go_enter Try.func20, Try.ntmps20
    go_wp2
    go_ret
    exact ⟨rfl, rfl⟩
  · have e : d = 0 := by rw [← hd]; exact getD_none D i (by omega)
    rw [hd, e]
    clear f1 hd e
    have g1 : ¬ (i : Int) < (D.length : Int) := by omega
    go_enter Try.func20, Try.ntmps20
    go_wp2
    go_ret
    exact ⟨rfl, rfl⟩
end Go.Proofs.Ytlikglabnfblcaa
