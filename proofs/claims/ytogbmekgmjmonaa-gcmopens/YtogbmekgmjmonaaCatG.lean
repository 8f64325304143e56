/- How many cells zeros are. The library's Concat, of as many slices of bytes as one likes. -/
import Derived.Test.YtogbmekgmjmonaaRows
import Derived.Test.YtogbmekgmjmonaaFrom
import Derived.Lib.AppendZerosOnto
import Derived.Lib.Walk
import Derived.Test.YtogbmekgmjmonaaApBs
import Derived.Deep.WholeRow
import Derived.Deep.RegionHeld3
import Derived.Deep.DeepCutAuto
import Derived.Deep.DeepFit
namespace Go.Proofs.Ytogbmekgmjmonaa
open Go.RowKit

theorem zc_size (n : Nat) : (Builtin.zeroCells (Value.int .u8 0).cells n).size = n := by
  simp [Builtin.zeroCells, Value.cells]
end Go.Proofs.Ytogbmekgmjmonaa

namespace Go.Proofs.Ytogbmekgmjmonaa
open Go.RowKit

theorem info_partsC {i : Option TypeInfo} {z : Value} {n m : Nat} (h : i.map (fun i => (i.zero, i.size, i.bytes)) = some (some z, n, m)) : ∃ j, i = some j ∧ j.zero = some z ∧ j.size = n ∧ j.bytes = m := by
  cases i with
  | none => simp at h
  | some j => simpa using h
theorem own_geC {w : World} {base size : Nat} {e : TypeId} {v : Value} {n : Nat} {xs : List Value} {j : Nat} (h : w.ownsRow base e size v n xs) (hj : v.ownBlock = some j) : base ≤ j := by
  rcases h.2 with ⟨h1, _⟩ | ⟨g, cap, cur, h1, h2, _⟩
  · rw [h1] at hj
    simp [Value.ownBlock] at hj
  · rw [h1] at hj
    simp [Value.ownBlock] at hj
    omega
set_option maxRecDepth 100000 in
set_option maxHeartbeats 1000000 in
theorem con_growN {n : Nat} {w : World} (h0 : 0 < n) (hn : n ≤ 1099511627776) :
    Calls Try.prog 26 #[.slice none 0 0, .int .i64 (n : Int)] w fun e w' => ∃ v' : Value, e = .returned v' ∧ w'.ownsRow w.heap.size 5 1 v' 0 (u8s []) ∧ Below w.heap.size w w' := by
  obtain ⟨i0, hi0, hz0, hz1, hz2⟩ := info_partsC info_bA
  have hrz : ∀ ty, (Builtin.append_ #[22, 3] ty #[.slice none 0 0, .int .i64 (n : Int)]).run Try.prog w = .ok (.slice (some ⟨w.heap.size, 0, none⟩) n (grownCap w n 0 5)) (w.drew.alloc (.cells (([] : List Value).toArray ++ Builtin.zeroCells (Value.int .u8 0).cells n ++ Builtin.zeroCells (Value.int .u8 0).cells (grownCap w n 0 5 - n)) 5)) := fun ty => by
    have h := Lib.run_append_grow_zeros w 22 3 ty 5 i0 (.int .u8 0) .i64 .i64 Try.underlying22 Try.underlying3 hi0 hz0 none 0 0 [] (run_firstCells_none w.drew i0.size 0 0 0) n h0 (by rw [hz1]; decide) (by omega) (by omega) (by rw [hz2]; omega) (growslice_fits (by omega) (by rw [hz2]; omega))
    rw [Nat.zero_add] at h
    exact h
  have hG := grownCap_ge w n 0 5
  have hG2 := grownCap_le_maxLen w n 0 5 (by unfold maxLen; omega)
  generalize grownCap w n 0 5 = G at *
  have HS : Hid ((([] : List Value).toArray ++ Builtin.zeroCells (Value.int .u8 0).cells n ++ Builtin.zeroCells (Value.int .u8 0).cells (G - n)).size = G) := by
    show _ = _
    rw [Array.size_append, Array.size_append, zc_size, zc_size]
    simp
    omega
  generalize (([] : List Value).toArray ++ Builtin.zeroCells (Value.int .u8 0).cells n ++ Builtin.zeroCells (Value.int .u8 0).cells (G - n)) = cs at *
  have h1 : ¬ ((n : Int) < 0) := by omega
  have h3 : IntKind.i64.wrap (n : Int) = (n : Int) := by rw [IntKind.wrap_i64]; omega
  have h4 : (0 : Int) < (n : Int) := by omega
  have HG : Hid (G ≤ maxLen) := hG2
  unfold maxLen at hG2
  go_enter Try.func26, Try.ntmps26
  go_wp2_with (at_builtin; refine Lib.wpList_append_run _ rfl _ _ _ _ rfl _ _ rfl rfl _ _ (hrz _) ?_)
  go_ret
  refine ⟨_, rfl, ⟨rfl, .inr ⟨w.heap.size, G, cs, rfl, Nat.le_refl _, ?_, by omega, HG.out, by rw [HS.out, Nat.mul_one], by simp⟩⟩, (Below.refl _ _).drew.alloc (Nat.le_refl _) _⟩
  exact heap_alloc_last w.drew _

theorem flat_next {L : List (List Int)} {i : Nat} (h : i < L.length) : (L.take (i + 1)).flatten = (L.take i).flatten ++ L.getD i [] := by
  rw [List.take_add_one, List.flatten_append, List.getD_eq_getElem?_getD, List.getElem?_eq_getElem h]
  simp
theorem flat_le (L : List (List Int)) (i : Nat) : (L.take i).flatten.length ≤ L.flatten.length := by
  have e : L.flatten = (L.take i).flatten ++ (L.drop i).flatten := by rw [← List.flatten_append, List.take_append_drop]
  rw [e, List.length_append]
  omega
/-- slices of bytes, one by one -/
def CatOf (w : World) (vs : List Value) (L : List (List Int)) (m : Nat) : Prop := vs.length = m ∧ L.length = m ∧ ∀ i, i < m → Bs w (vs.getD i undef) (L.getD i [])
theorem CatOf.later {w w' : World} {vs : List Value} {L : List (List Int)} {m : Nat} (h : CatOf w vs L m) (hb : Below w.heap.size w w') : CatOf w' vs L m := ⟨h.1, h.2.1, fun i hi => (h.2.2 i hi).later hb⟩
theorem CatOf.at_ {w : World} {vs : List Value} {L : List (List Int)} {m : Nat} (h : CatOf w vs L m) {i : Nat} (hi : i < m) : ∃ ao cap, vs[i]? = some (.slice ao (L.getD i []).length cap) ∧ cap ≤ maxLen ∧ (L.getD i []).length ≤ cap ∧ Bs w (.slice ao (L.getD i []).length cap) (L.getD i []) := by
  have k := h.2.2 i hi
  have k0 := k
  obtain ⟨ao, cap, e, h1, h2, h3⟩ := k
  rw [e] at k0
  refine ⟨ao, cap, ?_, h1, h2, k0⟩
  rw [← e, List.getD_eq_getElem?_getD, List.getElem?_eq_getElem (by rw [h.1]; exact hi)]
  rfl

set_option linter.unusedSimpArgs false in
set_option maxRecDepth 100000 in
set_option maxHeartbeats 2000000 in
theorem con_cat {gs m : Nat} {vs : List Value} {L : List (List Int)} {w : World} (Bk : Blk w gs vs) (h : CatOf w vs L m) (hm : m ≤ 1000) (hp : 0 < L.flatten.length) (hl : L.flatten.length ≤ 1099511627776) :
    Calls Try.prog 17 #[.slice (some ⟨gs, 0, none⟩) m m] w fun e w' => ∃ v' : Value, e = .returned v' ∧ w'.ownsRow w.heap.size 5 1 v' L.flatten.length (u8s L.flatten) ∧ Below w.heap.size w w' := by
  have HC : Hid (CatOf w vs L m) := h
  have HB : Hid (Blk w gs vs) := Bk
  have ltg := Bk.lt
  have HF : Hid (∀ i, (L.take i).flatten.length ≤ L.flatten.length) := flat_le L
  have HN : Hid (∀ i, i < m → (L.take (i + 1)).flatten = (L.take i).flatten ++ L.getD i []) := fun i hi => flat_next (by rw [HC.out.2.1]; exact hi)
  have HE : Hid ((L.take m).flatten = L.flatten) := by show _ = _; rw [List.take_of_length_le (by rw [HC.out.2.1]; exact Nat.le_refl _)]
  clear h Bk
  obtain ⟨M, hM⟩ : ∃ M : Nat → List Int, ∀ i, (L.take i).flatten = M i := ⟨_, fun _ => rfl⟩
  have HM0 : Hid (M 0 = []) := by rw [← hM]; rfl
  obtain ⟨T, hT⟩ : ∃ T, L.flatten = T := ⟨_, rfl⟩
  rw [hT] at HE HF hp hl ⊢
  have HN2 : Hid (∀ i, i < m → M (i + 1) = M i ++ L.getD i []) := fun i hi => by rw [← hM, ← hM]; exact HN.out i hi
  have HF2 : Hid (∀ i, (M i).length ≤ T.length) := fun i => by rw [← hM]; exact HF.out i
  rw [hM] at HE
  clear HN HF hM hT
  go_enter Try.func17, Try.ntmps17
  go_wp2_with fail
  go_loop [3, 11] (fun sv iv => ∃ i : Nat, i ≤ m ∧ iv = .int .i64 i ∧ sv = .int .i64 (((M i).length : Nat) : Int)) (fun _ iv => m - (intOf iv).toNat)
  case atStart => exact ⟨0, by omega, rfl, by rw [HM0.out]; rfl⟩
  case round =>
    obtain ⟨i, hi, rfl, rfl⟩ := hrel
    have f1 := HF2.out i
    by_cases hil : i < m
    · obtain ⟨ao, cap, hv, c1, c2, _⟩ := HC.out.at_ hil
      have ci := HB.out.cell i _ hv
      unfold maxLen at c1
      have f2 := HF2.out (i + 1)
      have e2 : (M (i + 1)).length = (M i).length + (L.getD i []).length := by rw [HN2.out i hil, List.length_append]
      clear hv
      generalize (L.getD i []).length = q at *
      generalize hp1 : (M i).length = p1 at *
      have HE2 : Hid ((M (i + 1)).length = p1 + q) := e2
      have g1 : (i : Int) < (m : Int) := by omega
      have g2 : (0 : Int) ≤ (i : Int) := by omega
      have gi : IntKind.i64.wrap ((i : Int) + 1) = (i : Int) + 1 := by rw [IntKind.wrap_i64]; omega
      have w2 : IntKind.i64.wrap ((p1 : Int) + (q : Int)) = (p1 : Int) + (q : Int) := by rw [IntKind.wrap_i64]; omega
      have g3 : ¬ (p1 : Int) + (q : Int) < 0 := by omega
      clear e2 f2
      go_wp2_with fail
      go_round
      case rel => exact ⟨i + 1, by omega, by go_num, by rw [HE2.out]; go_num⟩
      case measure => simp [intOf]; omega
    · have HI : Hid (i = m) := by show i = m; omega
      have g1 : (m : Int) ≤ (i : Int) := by omega
      rw [HI.out, HE.out]
      go_wp2_with fail
      refine (con_growN (n := T.length) hp hl).mono ?_
      rintro e w3 ⟨v3, rfl, hown, hb⟩
      go_wp2_with fail
      obtain ⟨W, hW⟩ : ∃ z, z = w3 := ⟨_, rfl⟩
      rw [← hW] at hown hb ⊢
      clear hW
      go_loopw [6, 27] (fun nv iv wx => ∃ i : Nat, i ≤ m ∧ iv = .int .i64 i ∧ wx.ownsRow w.heap.size 5 1 nv (M i).length (u8s (M i)) ∧ Below w.heap.size w wx) (fun _ iv _ => m - (intOf iv).toNat)
      case atStart => exact ⟨0, by omega, rfl, by rw [HM0.out]; exact hown, hb⟩
      case round =>
        clear hown hb HI g1 hi f1
        obtain ⟨k, hk, rfl, hown, hb⟩ := hrel
        have f1 := HF2.out k
        by_cases hkl : k < m
        · obtain ⟨ao, cap, hv, c1, c2, hbs⟩ := (HC.out.later hb).at_ hkl
          have ci := (HB.out.below hb HB.out.lt).cell k _ hv
          have ltw := Nat.lt_of_lt_of_le ltg hb.size
          unfold maxLen at c1
          have f2 := HF2.out (k + 1)
          have e2 : (M (k + 1)).length = (M k).length + (L.getD k []).length := by rw [HN2.out k hkl, List.length_append]
          have HN3 : Hid _ := HN2.out k hkl
          have HE2 : Hid _ := e2
          clear hv
          have g1 : (k : Int) < (m : Int) := by omega
          have g2 : (0 : Int) ≤ (k : Int) := by omega
          have gi : IntKind.i64.wrap ((k : Int) + 1) = (k : Int) + 1 := by rw [IntKind.wrap_i64]; omega
          have h47 : (M k).length + (L.getD k []).length ≤ 140737488355328 := by omega
          clear e2 f2
          have hsz := hb.size
          go_wp2_with (first | (at_builtin; refine wpList_append_bs (by rfl) _ _ (by rfl) w.heap.size _ (M k).length (M k) (by rfl) hown _ (L.getD k []) (by rfl) hbs h47 hsz ?_; intro v5 w5 own5 hgrow hat) | fail)
          go_roundw
          case rel =>
            rw [← HN3.out, ← HE2.out] at own5
            exact ⟨k + 1, by omega, by go_num, own5, below_own (base := w.heap.size) hb hgrow hsz (fun g hg => own_geC hown hg) (Nat.le_refl _)⟩
          case measure => simp [intOf]; omega
        · have HI : Hid (k = m) := by show k = m; omega
          have g1 : (m : Int) ≤ (k : Int) := by omega
          go_wp2_with fail
          go_ret
          rw [HI.out, HE.out] at hown
          exact ⟨_, rfl, hown, hb⟩
end Go.Proofs.Ytogbmekgmjmonaa
