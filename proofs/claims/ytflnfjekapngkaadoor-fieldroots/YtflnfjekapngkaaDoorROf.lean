/- The reference's Of: limbs as digits. -/
import Derived.Test.YtflnfjekapngkaaDoorRows
import Derived.Test.YtflnfjekapngkaaDoorRTrim
import Derived.Deep.RegionHeld3
namespace Go.Proofs.YtflnfjekapngkaaDoor
open Go.RowKit

theorem info_num : (Tryd.prog.info? 22).map (fun i => (i.zero, i.size, i.bytes)) = some (some (.int .u64 0), 1, 8) := by kernel_rfl

theorem own_ge {w : World} {base : Nat} {e : TypeId} {size : Nat} {v : Value} {n : Nat} {xs : List Value} {j : Nat} (h : w.ownsRow base e size v n xs) (hj : v.ownBlock = some j) : base ≤ j := by
  rcases h.2 with ⟨h1, _⟩ | ⟨g, c, cur, h1, h2, _⟩
  · rw [h1] at hj; simp [Value.ownBlock] at hj
  · rw [h1] at hj; simp [Value.ownBlock] at hj; omega

set_option maxRecDepth 100000 in
set_option maxHeartbeats 1000000 in
theorem of_any (v : Value) (L : List Int) (w : World) (h : Sl w v L) (l0 : 0 < L.length) (l1 : L.length ≤ 12) (hf : fits L) :
    Calls Tryd.prog 53 #[v] w fun e w' => ∃ v', e = .returned v' ∧ NumIs w' v' (v64 L) ∧ Below w.heap.size w w' := by
  rcases h with ⟨rfl, rfl⟩ | ⟨b, cap, rfl, h2, h3, h4, h5⟩
  · simp at l0
  · unfold maxLen at h3
    obtain ⟨i0, hi0, hz0, hz1, hz2⟩ := info_parts info_num
    have hdig := spl_dig L hf
    have hval := spl_val L
    obtain ⟨l, hl⟩ : ∃ l, L.length = l := ⟨_, rfl⟩
    rw [hl] at h2 h5 l0 l1 ⊢
    obtain ⟨N, hN⟩ : ∃ N, v64 L = N := ⟨_, rfl⟩
    rw [hN] at hval ⊢
    have HL : Hid (L.length = l) := hl
    clear hN hl
    go_enter Tryd.func53, Tryd.ntmps53
    go_wp2
    go_loopw [3, 4] (fun o i wr => ∃ k : Nat, k ≤ l ∧ i = .int .i64 k ∧ wr.ownsRow w.heap.size 22 1 o (2 * k) (us (spl (L.take k))) ∧ Below w.heap.size w wr)
      (fun _ i _ => l - (intOf i).toNat)
    case atStart => exact ⟨0, by omega, rfl, World.ownsRow_nil _ _ _ _, Below.refl _ _⟩
    case round =>
      obtain ⟨k, hk, rfl, hown, hbel⟩ := hrel
      by_cases hlt : k < l
      · obtain ⟨a, ha⟩ : ∃ a, L.getD k 0 = a := ⟨_, rfl⟩
        have hfa : 0 ≤ a ∧ a < 18446744073709551616 := ha ▸ hf k
        have hc := (hbel.cell (p := ⟨b, k, none⟩) h4).trans (h5 k hlt)
        rw [ha] at hc
        have hsz := hbel.size
        have hne : some b ≠ Value.ownBlock u3 := by
          rcases hown.2 with ⟨h1, _⟩ | ⟨g, c, cur, h1, h2, _⟩
          · rw [h1]; simp [Value.ownBlock]
          · rw [h1]; simp [Value.ownBlock]; omega
        obtain ⟨p, hp⟩ : ∃ p, a % 4294967296 = p := ⟨_, rfl⟩
        obtain ⟨q, hq⟩ : ∃ q, a / 4294967296 = q := ⟨_, rfl⟩
        have hp' : a.tmod 4294967296 = p := by rw [← hp, Int.tmod_eq_emod_of_nonneg hfa.1]
        have hq' : IntKind.u64.wrap (a.tdiv 4294967296) = q := by rw [Int.tdiv_eq_ediv_of_nonneg hfa.1, IntKind.wrap_u64]; omega
        have HT : Hid (us (spl (L.take k)) ++ [.int .u64 p, .int .u64 q] = us (spl (L.take (k + 1)))) := by
          rw [spl_take L k (by rw [HL.out]; exact hlt), ha, hp, hq]; simp [us, Hid]
        clear ha
        have g0 : (0 : Int) ≤ (k : Int) := by omega
        have g1 : (k : Int) < (l : Int) := by omega
        go_wp2
        go_region_held3 (fun w' => w'.cell? ⟨b, k, none⟩ = some (.int .u64 a))
          (first | exact hc | (rw [World.cell?_drew, World.cell?_alloc_past _ _ _ (by omega)]; exact hc) | (rw [hgrow.cell_far _ (by simp; omega) hne]; assumption))
          ((refine step_append_lies _ (by rfl) _ _ _ (by rfl) w.heap.size 22 i0 _ 1 8 Tryd.underlying28 hi0 hz0 hz1 hz2 rfl (by omega) _ _ _ (by rfl) ((hown.alloc _).drew)
              ⟨wr.heap.size, 0, none⟩ 2 2 [.int .u64 p, .int .u64 q] (by rfl) (by rfl) (World.news_of_block (cs := #[.int .u64 p, .int .u64 q]) (t := 22) (fr := (0, 0)) (heap_alloc_new wr _)) (by simp [Value.oneCell'])
              (by omega) (by unfold maxLen; omega) (by omega) (by simp; omega) (wr.heap.size + 1) (by simp) ?_; intro gg cap1 w1 hown1 hgrow hat hlt1))
        all_goals go_wp2
        go_roundw
        case rel => exact ⟨k + 1, by omega, by go_num, by rw [HT.out] at hown1; exact hown1, hbel.trans (Below.grown ((Below.refl _ _).alloc hsz _).drew hgrow (by simp; omega) (fun j hj => own_ge hown hj))⟩
        case measure => simp [intOf]; omega
      · have g1 : (l : Int) ≤ (k : Int) := by omega
        have hk : k = l := by omega
        subst hk
        rw [List.take_of_length_le (by rw [HL.out]; exact Nat.le_refl _)] at hown
        go_wp2_with fail
        refine (trim_any _ (spl L) _ (Sl.of_own hown)).mono ?_
        rintro e w' ⟨v', rfl, ht, rfl⟩
        have hN := ht.num hdig
        rw [hval] at hN
        go_wp2_with fail
        go_ret
        exact ⟨v', rfl, hN, hbel⟩
end Go.Proofs.YtflnfjekapngkaaDoor
