/- The library's Grow and Concat, as the program calls them. -/
import Derived.Test.YtbglkbfnhnmodaaDoorRows
import Derived.Test.YtbglkbfnhnmodaaDoorSSum
import Derived.Lib.AppendZerosOnto
import Derived.Lib.Walk
import Derived.Deep.WholeRow
import Derived.Deep.RegionHeld3
import Derived.Deep.DeepCutAuto
import Derived.Deep.DeepFit
namespace Go.Proofs.YtbglkbfnhnmodaaDoor
open Go.RowKit

theorem zc_size (n : Nat) : (Builtin.zeroCells (Value.int .u8 0).cells n).size = n := by
  simp [Builtin.zeroCells, Value.cells]

set_option maxRecDepth 100000 in
set_option maxHeartbeats 1000000 in
theorem con_grow {n : Nat} {w : World} (h0 : 0 < n) (hn : n ≤ 4096) :
    Calls Tryd.prog 33 #[.slice none 0 0, .int .i64 (n : Int)] w fun e w' => ∃ v' : Value, e = .returned v' ∧ w'.ownsRow w.heap.size 5 1 v' 0 (u8s []) ∧ Below w.heap.size w w' := by
  obtain ⟨i0, hi0, hz0, hz1, hz2⟩ := info_parts info_b8
  have hrz : ∀ ty, (Builtin.append_ #[22, 3] ty #[.slice none 0 0, .int .i64 (n : Int)]).run Tryd.prog w = .ok (.slice (some ⟨w.heap.size, 0, none⟩) n (grownCap w n 0 5)) (w.drew.alloc (.cells (([] : List Value).toArray ++ Builtin.zeroCells (Value.int .u8 0).cells n ++ Builtin.zeroCells (Value.int .u8 0).cells (grownCap w n 0 5 - n)) 5)) := fun ty => by
    have h := Lib.run_append_grow_zeros w 22 3 ty 5 i0 (.int .u8 0) .i64 .i64 Tryd.underlying22 Tryd.underlying3 hi0 hz0 none 0 0 [] (run_firstCells_none w.drew i0.size 0 0 0) n h0 (by rw [hz1]; decide) (by omega) (by omega) (by rw [hz2]; omega) (growslice_fits (by omega) (by rw [hz2]; omega))
    rw [Nat.zero_add] at h
    exact h
  have hG := grownCap_ge w n 0 5
  have hG2 := grownCap_le_maxLen w n 0 5 (by unfold maxLen; omega)
  generalize grownCap w n 0 5 = G at *
  have HS : Hid ((([] : List Value).toArray ++ Builtin.zeroCells (Value.int .u8 0).cells n ++ Builtin.zeroCells (Value.int .u8 0).cells (G - n)).size = G) := by
    show _ = _
    rw [Array.size_append, Array.size_append, zc_size, zc_size]
    simp
    omega
  generalize (([] : List Value).toArray ++ Builtin.zeroCells (Value.int .u8 0).cells n ++ Builtin.zeroCells (Value.int .u8 0).cells (G - n)) = cs at *
  have h1 : ¬ ((n : Int) < 0) := by omega
  have h3 : IntKind.i64.wrap (n : Int) = (n : Int) := by rw [IntKind.wrap_i64]; omega
  have h4 : (0 : Int) < (n : Int) := by omega
  have HG : Hid (G ≤ maxLen) := hG2
  unfold maxLen at hG2
  go_enter Tryd.func33, Tryd.ntmps33
  go_wp2_with (at_builtin; refine Lib.wpList_append_run _ rfl _ _ _ _ rfl _ _ rfl rfl _ _ (hrz _) ?_)
  go_ret
  refine ⟨_, rfl, ⟨rfl, .inr ⟨w.heap.size, G, cs, rfl, Nat.le_refl _, ?_, by omega, HG.out, by rw [HS.out, Nat.mul_one], by simp⟩⟩, (Below.refl _ _).drew.alloc (Nat.le_refl _) _⟩
  exact heap_alloc_last w.drew _

theorem bs_newx {w wx : World} {b o : Nat} {A : List Int} (hb0 : b < w.heap.size) (hc : ∀ j, j < A.length → w.cell? ⟨b, o + j, none⟩ = some (.int .u8 (A.getD j 0))) (hb : Below w.heap.size w wx) : ∀ j u, (u8s A)[j]? = some u → wx.cell? ((⟨b, o, none⟩ : Addr).add j) = some u := by
  intro j u hu
  have e : (⟨b, o, none⟩ : Addr).add j = ⟨b, o + j, none⟩ := by unfold Addr.add; split <;> simp_all
  have hj : j < A.length := by
    have := (List.getElem?_eq_some_iff.1 hu).1
    simpa [u8s] using this
  rw [u8s_get A j hj] at hu
  rw [e, ← hu]
  exact (hb.cell (p := ⟨b, o + j, none⟩) hb0).trans (hc j hj)

set_option maxRecDepth 100000 in
set_option maxHeartbeats 2000000 in
theorem con_concat {gs : Nat} {v1 v2 : Value} {A P : List Int} {w : World} (Bk : Blk w gs [v1, v2]) (h1 : Bs w v1 A) (h2 : Bs w v2 P) (hp : 0 < P.length) (hl : A.length + P.length ≤ 4096) :
    Calls Tryd.prog 19 #[.slice (some ⟨gs, 0, none⟩) 2 2] w fun e w' => ∃ v' : Value, e = .returned v' ∧ w'.ownsRow w.heap.size 5 1 v' (A.length + P.length) (u8s (A ++ P)) ∧ Below w.heap.size w w' := by
  obtain ⟨i0, hi0, hz0, hz1, hz2⟩ := info_parts info_b8
  obtain ⟨ao, ca, rfl, a1, a2, a3⟩ := h1
  obtain ⟨po, cp, rfl, p1, p2, p3⟩ := h2
  obtain ⟨bp, op, rfl, hbp, hcp⟩ := p3 hp
  have HA : Hid _ := a3
  have HP : Hid _ := hcp
  have HE : Hid (u8s A ++ u8s P = u8s (A ++ P)) := by simp [u8s, Hid]
  have HMa : Hid ((u8s A).length = A.length * 1) := by simp [u8s, Hid]
  have HMp : Hid ((u8s P).length = P.length * 1) := by simp [u8s, Hid]
  have HA0 : Hid (A.length = 0 → A = []) := List.eq_nil_of_length_eq_zero
  clear a3 p3 hcp
  unfold maxLen at a1 p1
  have Bk0 := Bk
  have lt := Bk.lt
  have c0 := Bk.cell 0 _ rfl
  have c1 := Bk.cell 1 _ rfl
  have w1 : IntKind.i64.wrap (A.length : Int) = (A.length : Int) := by rw [IntKind.wrap_i64]; omega
  have w2 : IntKind.i64.wrap ((A.length : Int) + (P.length : Int)) = (A.length : Int) + (P.length : Int) := by rw [IntKind.wrap_i64]; omega
  have g1 : ¬ (A.length : Int) < 0 := by omega
  have g2 : ¬ (A.length : Int) + (P.length : Int) < 0 := by omega
  have HC : Hid (((A.length + P.length : Nat) : Int) = (A.length : Int) + (P.length : Int)) := by show _ = _; omega
  go_enter Tryd.func19, Tryd.ntmps19
  go_wp2_with fail
  go_loop [3, 11] (fun sv iv => (iv = .int .i64 0 ∧ sv = .int .i64 0) ∨ (iv = .int .i64 1 ∧ sv = .int .i64 (A.length : Int)) ∨ (iv = .int .i64 2 ∧ sv = .int .i64 ((A.length : Int) + (P.length : Int)))) (fun _ iv => 2 - (intOf iv).toNat)
  case atStart => exact .inl ⟨rfl, rfl⟩
  case round =>
    rcases hrel with ⟨rfl, rfl⟩ | ⟨rfl, rfl⟩ | ⟨rfl, rfl⟩
    · go_wp2_with fail
      go_round
      case rel => exact .inr (.inl ⟨by go_num, by go_num⟩)
      case measure => simp [intOf]
    · go_wp2_with fail
      go_round
      case rel => exact .inr (.inr ⟨by go_num, by go_num⟩)
      case measure => simp [intOf]
    · rw [← HC.out]
      go_wp2_with fail
      refine (con_grow (n := A.length + P.length) (by omega) hl).mono ?_
      rintro e w3 ⟨v3, rfl, hown, hb⟩
      replace Bk := Bk.later hb
      clear lt c0 c1
      go_wp2_with fail
      obtain ⟨W, hW⟩ : ∃ z, z = w3 := ⟨_, rfl⟩
      rw [← hW] at hown hb Bk ⊢
      clear hW
      go_loopw [6, 27] (fun nv iv wx => ((iv = .int .i64 0 ∧ wx.ownsRow w.heap.size 5 1 nv 0 (u8s [])) ∨ (iv = .int .i64 1 ∧ wx.ownsRow w.heap.size 5 1 nv A.length (u8s A)) ∨ (iv = .int .i64 2 ∧ wx.ownsRow w.heap.size 5 1 nv (A.length + P.length) (u8s (A ++ P)))) ∧ Below w.heap.size w wx) (fun _ iv _ => 2 - (intOf iv).toNat)
      case atStart => exact ⟨.inl ⟨rfl, hown⟩, hb⟩
      case round =>
        clear hown Bk
        obtain ⟨hrel, hb⟩ := hrel
        have Bk := Bk0.below hb Bk0.lt
        have lt := Bk.lt
        have c0 := Bk.cell 0 _ rfl
        have c1 := Bk.cell 1 _ rfl
        have hsz := hb.size
        rcases hrel with ⟨rfl, hown⟩ | ⟨rfl, hown⟩ | ⟨rfl, hown⟩
        · by_cases h0 : A.length = 0
          · obtain rfl : A = [] := HA0.out h0
            have hown0 := hown
            have HW : Hid (Below w.heap.size w wr) := hb
            rw [show ([] : List Int).length = 0 from rfl] at *
            rcases hown with ⟨_, ⟨rfl, _⟩ | ⟨g, cap, cur, rfl, _, _, x4, x5, _, _⟩⟩
            all_goals cases ao
            all_goals try unfold maxLen at x5
            all_goals go_wp2
            all_goals go_roundw
            all_goals first
              | (show _ < _; simp [intOf]; done)
              | exact ⟨.inr (.inl ⟨by go_num, hown0⟩), HW.out⟩
          · obtain ⟨b, o, rfl, hb0, hc0⟩ := HA.out (by omega)
            have HN : Hid (∀ j u, (u8s A)[j]? = some u → wr.cell? ((⟨b, o, none⟩ : Addr).add j) = some u) := bs_newx hb0 hc0 hb
            clear hc0
            go_wp2_with (first | (at_builtin; refine wpList_append_lies _ (by rfl) _ _ _ (by rfl) w.heap.size 5 i0 _ 1 1 Tryd.underlying22 hi0 hz0 hz1 hz2 rfl (by omega) _ _ _ (by rfl) hown ⟨b, o, none⟩ A.length ca (u8s A) (by rfl) HMa.out HN.out (by simp [u8s, Value.oneCell']) (by omega) (by unfold maxLen; omega) (by omega) hsz wr.heap.size rfl ?_; intro gg cap1 w7 hown1 hgrow hat hlt1) | fail)
            go_roundw
            case rel => exact ⟨.inr (.inl ⟨by go_num, by simpa using hown1⟩), Below.grown hb hgrow hsz (fun j hj => own_ge hown hj)⟩
            case measure => simp [intOf]
        · have HN : Hid (∀ j u, (u8s P)[j]? = some u → wr.cell? ((⟨bp, op, none⟩ : Addr).add j) = some u) := bs_newx hbp HP.out hb
          go_wp2_with (first | (at_builtin; refine wpList_append_lies _ (by rfl) _ _ _ (by rfl) w.heap.size 5 i0 _ 1 1 Tryd.underlying22 hi0 hz0 hz1 hz2 rfl (by omega) _ _ _ (by rfl) hown ⟨bp, op, none⟩ P.length cp (u8s P) (by rfl) HMp.out HN.out (by simp [u8s, Value.oneCell']) (by omega) (by unfold maxLen; omega) (by omega) hsz wr.heap.size rfl ?_; intro gg cap1 w7 hown1 hgrow hat hlt1) | fail)
          go_roundw
          case rel => exact ⟨.inr (.inr ⟨by go_num, by rw [HE.out] at hown1; exact hown1⟩), Below.grown hb hgrow hsz (fun j hj => own_ge hown hj)⟩
          case measure => simp [intOf]
        · go_wp2_with fail
          go_ret
          exact ⟨_, rfl, hown, hb⟩
end Go.Proofs.YtbglkbfnhnmodaaDoor
