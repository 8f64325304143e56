/- The document's counter. -/
import Derived.Test.YtogbmekgmjmonaaRows
import Derived.Test.YtogbmekgmjmonaaGhNumG
import Derived.Test.YtogbmekgmjmonaaWpRowG
import Derived.Test.YtogbmekgmjmonaaAeNumG
import Derived.Deep.WholeRow
import Derived.Deep.RegionHeld3
import Derived.Deep.DeepCutAuto
import Derived.Deep.DeepFit
namespace Go.Proofs.Ytogbmekgmjmonaa
open Go.RowKit

theorem rangeG_set {f g : Nat → Int} {n k : Nat} (x : Int) (_ : k < n) (h1 : x = g k) (h2 : ∀ j, j ≠ k → f j = g j) : ((List.range n).map f).set k x = (List.range n).map g := by
  apply List.ext_getElem?
  intro j
  by_cases hj : j < n
  · by_cases e : k = j
    · subst e
      rw [List.getElem?_set_self (by simpa using hj)]
      simp [hj, h1]
    · rw [List.getElem?_set_ne e]
      simp only [List.getElem?_map, List.getElem?_range hj, Option.map_some, Option.some.injEq]
      exact h2 j (fun h => e h.symm)
  · rw [List.getElem?_eq_none (by simp; omega), List.getElem?_eq_none (by simp; omega)]
/-- a counter's block: the first k bytes of the nonce -/
def cZ (N : List Int) (k : Nat) : List Int := (List.range 16).map fun j => if j < k then N.getD j 0 else 0
/-- and t bytes of the number, the lowest first -/
def dZ (N : List Int) (n t : Nat) : List Int := (List.range 16).map fun j => if j < 12 then N.getD j 0 else if 16 - t ≤ j then ((n / 256 ^ (15 - j) % 256 : Nat) : Int) else 0
theorem cZ_len (N : List Int) (k : Nat) : (cZ N k).length = 16 := by simp [cZ]
theorem dZ_len (N : List Int) (n t : Nat) : (dZ N n t).length = 16 := by simp [dZ]
theorem cZ_0 (N : List Int) : cZ N 0 = List.replicate 16 0 := by simp [cZ]; rfl
theorem cZ_set {N : List Int} {k : Nat} (h : k < 16) : (cZ N k).set k (N.getD k 0) = cZ N (k + 1) := by
  refine rangeG_set _ h ?_ ?_
  · rw [if_pos (by omega)]
  · intro j hj
    by_cases e : j < k
    · rw [if_pos e, if_pos (by omega)]
    · rw [if_neg e, if_neg (by omega)]
theorem cdZ (N : List Int) (n : Nat) : cZ N 12 = dZ N n 0 := by
  unfold cZ dZ
  apply List.map_congr_left
  intro j hj
  have := List.mem_range.1 hj
  by_cases e : j < 12
  · rw [if_pos e, if_pos e]
  · rw [if_neg e, if_neg e, if_neg (by omega)]
theorem dZ_set {N : List Int} {n t : Nat} (h : t < 4) : (dZ N n t).set (15 - t) ((n / 256 ^ t % 256 : Nat) : Int) = dZ N n (t + 1) := by
  refine rangeG_set _ (by omega) ?_ ?_
  · rw [if_neg (by omega), if_pos (by omega), show 15 - (15 - t) = t by omega]
  · intro j hj
    by_cases e : j < 12
    · rw [if_pos e, if_pos e]
    · rw [if_neg e, if_neg e]
      by_cases e2 : 16 - t ≤ j
      · rw [if_pos e2, if_pos (by omega)]
      · rw [if_neg e2, if_neg (by omega)]
theorem dZ_4 (N : List Int) (n : Nat) : dZ N n 4 = ctrN N n := by
  unfold dZ ctrN
  apply List.map_congr_left
  intro j hj
  have := List.mem_range.1 hj
  by_cases e : j < 12
  · rw [if_pos e, if_pos e]
  · rw [if_neg e, if_neg e, if_pos (by omega)]

set_option linter.unusedSimpArgs false in
set_option maxRecDepth 100000 in
set_option maxHeartbeats 2000000 in
theorem r11_counter {nv : Value} {N : List Int} {n : Nat} {w : World} (hv : Bs w nv N) (l : N.length = 12) (hn : n ≤ 4294967295) :
    Calls Try.prog 20 #[nv, .int .i64 (n : Int)] w fun e w' => e = .returned (.agg (u8s (ctrN N n)).toArray) ∧ Below w.heap.size w w' := by
  obtain ⟨ao, cap, rfl, h1, h2, h3⟩ := hv
  rw [l] at h3 h2 ⊢
  obtain ⟨b, o, rfl, hb0, hc0⟩ := h3 (by omega)
  have HC : Hid _ := hc0
  clear hc0 h3 l
  unfold maxLen at h1
  have hz := zero_16.out
  have R0 := (Blk.new w (u8s (List.replicate 16 0)) 42 w.heap.size rfl).alloc (.cells (u8s (List.replicate 16 0)).toArray 42)
  have V0 := Blk.new (w.alloc (.cells (u8s (List.replicate 16 0)).toArray 42)) (u8s (List.replicate 16 0)) 42 (w.heap.size + 1) (by simp)
  have bel : Below w.heap.size w ((w.alloc (.cells (u8s (List.replicate 16 0)).toArray 42)).alloc (.cells (u8s (List.replicate 16 0)).toArray 42)) := (((Below.refl _ _).alloc (Nat.le_refl _) _).alloc (by simp) _)
  rw [← cZ_0 N] at V0
  obtain ⟨Z, hZ⟩ : ∃ Z, (u8s (List.replicate 16 0)) = Z := ⟨_, rfl⟩
  have HZl : Hid (Z.length = 16) := by rw [← hZ]; rfl
  have HZ : Hid (u8s (cZ N 0) = Z) := by rw [cZ_0]; exact hZ
  rw [cZ_0, hZ] at V0
  rw [hZ] at hz R0 bel
  clear hZ
  go_enter Try.func20, Try.ntmps20
  go_wp2_with fail
  clear hz
  obtain ⟨W, hW⟩ : ∃ z, z = (w.alloc (Obj.cells Z.toArray 42)).alloc (Obj.cells Z.toArray 42) := ⟨_, rfl⟩
  rw [← hW] at R0 V0 bel ⊢
  clear hW
  rw [← HZ.out] at V0
  go_loopw [6] (fun iv wx => ∃ k : Nat, k ≤ 12 ∧ iv = .int .i64 k ∧ Blk wx (w.heap.size + 1) (u8s (cZ N k)) ∧ Blk wx w.heap.size Z ∧ Below w.heap.size w wx) (fun iv _ => 12 - (intOf iv).toNat)
  case atStart => exact ⟨0, by omega, rfl, V0, R0, bel⟩
  case round =>
    clear V0 R0 bel
    obtain ⟨k, hk, rfl, V0, R0, bel⟩ := hrel
    by_cases hkl : k < 12
    · have g1 : (k : Int) < 12 := by omega
      have g2 : (0 : Int) ≤ (k : Int) := by omega
      have g3 : (k : Int) < 16 := by omega
      have HS : Hid _ := cZ_set (N := N) (k := k) (by omega)
      have ck := (bel.cell (p := ⟨b, o + k, none⟩) hb0).trans (HC.out k hkl)
      have cv := V0.cell k _ (u8s_get _ k (by rw [cZ_len]; omega))
      have fz := V0.frozen k
      have lv := V0.lt
      obtain ⟨x, hx⟩ : ∃ x, N.getD k 0 = x := ⟨_, rfl⟩
      rw [hx] at ck HS
      clear hx
      have HV := V0.setb k x
      rw [HS.out] at HV
      clear V0 HS
      go_wp2_with fail
      go_roundw
      case rel => exact ⟨k + 1, by omega, by go_num, HV, R0.other _ _ (by show w.heap.size ≠ w.heap.size + 1; omega), bel.setCell (by show w.heap.size ≤ w.heap.size + 1; omega) _⟩
      case measure => simp [intOf]; omega
    · have HK : Hid (k = 12) := by show k = 12; omega
      have g1 : (12 : Int) ≤ (k : Int) := by omega
      rw [HK.out, cdZ N n] at V0
      clear HC
      go_wp2_with fail
      obtain ⟨W1, hW1⟩ : ∃ z, z = wr := ⟨_, rfl⟩
      rw [← hW1] at V0 R0 bel ⊢
      clear hW1
      go_loopw [1, 7] (fun nv iv wx => ∃ (t : Nat) (y : Nat), t ≤ 4 ∧ iv = .int .i64 (15 - (t : Int)) ∧ nv = .int .i64 y ∧ Hid (y = n / 256 ^ t) ∧ y ≤ 4294967295 ∧ Blk wx (w.heap.size + 1) (u8s (dZ N n t)) ∧ Blk wx w.heap.size Z ∧ Below w.heap.size w wx) (fun _ iv _ => (intOf iv).toNat)
      case atStart => exact ⟨0, n, by omega, rfl, rfl, by show _ = _; simp, hn, V0, R0, bel⟩
      case round =>
        clear V0 R0 bel HK g1
        obtain ⟨t, y, ht, rfl, rfl, HY, hy, V0, R0, bel⟩ := hrel
        by_cases htl : t < 4
        · have g1 : (12 : Int) ≤ 15 - (t : Int) := by omega
          have g2 : (0 : Int) ≤ 15 - (t : Int) := by omega
          have g3 : 15 - (t : Int) < 16 := by omega
          have g4 : (15 - (t : Int)).toNat = 15 - t := by omega
          have g5 : IntKind.i64.wrap (15 - (t : Int) - 1) = 15 - ((t + 1 : Nat) : Int) := by rw [IntKind.wrap_i64]; omega
          have m1 : (y : Int).tmod 256 = ((y % 256 : Nat) : Int) := by rw [Int.tmod_eq_emod_of_nonneg (by omega)]; omega
          have m2 : IntKind.u8.wrap ((y % 256 : Nat) : Int) = ((y % 256 : Nat) : Int) := by rw [IntKind.wrap_u8]; omega
          have d1 : (y : Int).tdiv 256 = ((y / 256 : Nat) : Int) := by rw [Int.tdiv_eq_ediv_of_nonneg (by omega)]; omega
          have d2 : IntKind.i64.wrap ((y / 256 : Nat) : Int) = ((y / 256 : Nat) : Int) := by rw [IntKind.wrap_i64]; omega
          have HY2 : Hid (y / 256 = n / 256 ^ (t + 1)) := by show _ = _; rw [HY.out, Nat.pow_succ, Nat.div_div_eq_div_mul]
          have HS : Hid _ := dZ_set (N := N) (n := n) htl
          rw [← HY.out] at HS
          have cv := V0.cell (15 - t) _ (u8s_get _ (15 - t) (by rw [dZ_len]; omega))
          have fz := V0.frozen (15 - t)
          have lv := V0.lt
          obtain ⟨x, hx⟩ : ∃ x, ((y % 256 : Nat) : Int) = x := ⟨_, rfl⟩
          have hy2 : y / 256 ≤ 4294967295 := by omega
          obtain ⟨z, hz⟩ : ∃ z, y / 256 = z := ⟨_, rfl⟩
          rw [hx] at m1 m2 HS
          rw [hz] at d1 d2 HY2 hy2
          clear hx hz
          have HV := V0.setb (15 - t) x
          rw [HS.out] at HV
          clear V0 HS HY
          go_wp2_with fail
          go_roundw
          case rel => exact ⟨t + 1, z, by omega, rfl, rfl, HY2, hy2, HV, R0.other _ _ (by show w.heap.size ≠ w.heap.size + 1; omega), bel.setCell (by show w.heap.size ≤ w.heap.size + 1; omega) _⟩
          case measure => simp [intOf]; omega
        · have HT : Hid (t = 4) := by show t = 4; omega
          have g1 : ¬ (12 : Int) ≤ 15 - (t : Int) := by omega
          rw [HT.out, dZ_4] at V0
          obtain ⟨F, hF⟩ : ∃ F, u8s (ctrN N n) = F := ⟨_, rfl⟩
          have Fh : Hid (u8s (ctrN N n) = F) := hF
          have Fl : Hid (F.length = 16) := by show _ = _; rw [← hF, u8s, List.length_map]; exact ctrN_len N n
          have Fo : Hid (F.toArray.all (·.oneCell') = true) := by rw [← hF]; exact u8_ones _
          replace V0 : Blk wr (w.heap.size + 1) F := by rw [← hF]; exact V0
          clear hF
          obtain ⟨tR, hR⟩ := R0
          have HR : Hid _ := hR
          clear hR
          go_wp2_with (first
            | (refine wpList_load_run (by rfl) (by rfl) (by rfl) (V0.load Try.underlying42 rfl size_16 Fl.out) ?_
               refine wpList_store_row rfl 42 _ _ rfl (w.heap.size) F.toArray rfl rfl tR Z.toArray HR.out (by rw [size_16, List.size_toArray, Fl.out]) (by rw [List.size_toArray, List.size_toArray, Fl.out, HZl.out]) Fo.out ?_)
            | fail)
          exact bodyPost_ret (results_cell_row Try.results20 _ _ (w.heap.size) tR F.toArray (0, 0) _ rfl (setRow_heap _ _ _ _ _ _ HR.out) Try.underlying42 rfl (by rw [size_16, List.size_toArray, Fl.out])) rfl ⟨by rw [Fh.out], below_setRow bel (by omega) _⟩
end Go.Proofs.Ytogbmekgmjmonaa
