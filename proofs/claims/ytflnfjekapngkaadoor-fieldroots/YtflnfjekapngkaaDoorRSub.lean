/- The reference's Sub: a difference that is there. -/
import Derived.Test.YtflnfjekapngkaaDoorRows
import Derived.Test.YtflnfjekapngkaaDoorRAdd
namespace Go.Proofs.YtflnfjekapngkaaDoor
open Go.RowKit

theorem rsub_step (D E S : List Int) (k : Nat) (c d e : Int) (lS : S.length = k) (hd : D.getD k 0 = d) (he : E.getD k 0 = e)
    (h : v32 S - c * 4294967296 ^ k = v32 (D.take k) - v32 (E.take k)) :
    v32 (S ++ [(d + 4294967296 - e - c) % 4294967296]) - (1 - (d + 4294967296 - e - c) / 4294967296) * 4294967296 ^ (k + 1) = v32 (D.take (k + 1)) - v32 (E.take (k + 1)) := by
  have q := Int.mul_ediv_add_emod (d + 4294967296 - e - c) 4294967296
  simp only [v32] at *
  rw [pv_append, pv_take_more _ D k, pv_take_more _ E k, hd, he, lS, Int.pow_succ]
  simp only [pv]
  generalize (d + 4294967296 - e - c) / 4294967296 = x at *
  generalize (d + 4294967296 - e - c) % 4294967296 = r at *
  generalize (4294967296 : Int) ^ k = p at *
  have e' : d = 4294967296 * x + r - 4294967296 + e + c := by omega
  subst e'
  grind

set_option maxRecDepth 100000 in
set_option maxHeartbeats 1000000 in
theorem rsub_any (u v : Value) (X Y : Int) (w : World) (hu : NumIs w u X) (hv : NumIs w v Y) (hX : X < 4294967296 ^ 30) (hYX : Y ≤ X) :
    Calls Tryd.prog 36 #[u, v] w fun e w' => ∃ v', e = .returned v' ∧ NumIs w' v' (X - Y) ∧ Below w.heap.size w w' := by
  obtain ⟨i0, hi0, hz0, hz1, hz2⟩ := info_parts info_add
  obtain ⟨D, sD, dD, tD, rfl⟩ := hu
  obtain ⟨E, sE, dE, tE, rfl⟩ := hv
  have lD : D.length ≤ 30 := v32_len D dD tD 30 hX
  have lE : E.length ≤ D.length := by
    rcases Nat.lt_or_ge D.length E.length with h | h
    · have := v32_short D E dD dE tE h
      omega
    · exact h
  clear hX tD tE
  obtain ⟨Z, hZ⟩ : ∃ Z, v32 D - v32 E = Z := ⟨_, rfl⟩
  rw [hZ]
  have hZ0 : 0 ≤ Z := by omega
  have hZ' : Hid (v32 D - v32 E = Z) := hZ
  clear hZ hYX
  have F1 := sD.form
  have F2 := sE.form
  obtain ⟨ao, c1, rfl, -, k1, -⟩ := F1
  obtain ⟨bo, c2, rfl, -, k2, -⟩ := F2
  obtain ⟨l, hl⟩ : ∃ l, D.length = l := ⟨_, rfl⟩
  obtain ⟨m, hm⟩ : ∃ m, E.length = m := ⟨_, rfl⟩
  rw [hm, hl] at lE
  rw [hl] at sD lD ⊢
  rw [hm] at sE ⊢
  have HL : Hid (D.length = l ∧ E.length = m) := ⟨hl, hm⟩
  clear k1 k2 hl hm
  go_enter Tryd.func36, Tryd.ntmps36
  go_wp2
  go_loopw [5, 6, 7] (fun o cv i wr => ∃ (k : Nat) (c : Int) (S : List Int), i = .int .i64 k ∧ cv = .int .u64 c ∧ 0 ≤ c ∧ c ≤ 1 ∧ S.length = k ∧ dig S ∧ k ≤ l ∧ Hid (v32 S - c * 4294967296 ^ k = v32 (D.take k) - v32 (E.take k)) ∧ wr.ownsRow w.heap.size 22 1 o k (us S) ∧ Below w.heap.size w wr)
    (fun _ _ i _ => l - (intOf i).toNat)
  case atStart => exact ⟨0, 0, [], rfl, rfl, by omega, by omega, rfl, dig_nil, by omega, by show _ = _; simp [v32, pv], World.ownsRow_nil _ _ _ _, Below.refl _ _⟩
  case round =>
    obtain ⟨k, c, S, rfl, rfl, hc0, hc1, lS, dS, hkb, hv, hown, hbel⟩ := hrel
    have hsz := hbel.size
    by_cases hgo : k < l
    · obtain ⟨d, hd⟩ : ∃ d, D.getD k 0 = d := ⟨_, rfl⟩
      obtain ⟨e, he⟩ : ∃ e, E.getD k 0 = e := ⟨_, rfl⟩
      have bd : 0 ≤ d ∧ d < 4294967296 := hd ▸ dD k
      have be : 0 ≤ e ∧ e < 4294967296 := he ▸ dE k
      have bd0 := bd.1
      have bd1 := bd.2
      have be0 := be.1
      have be1 := be.2
      have st : Hid _ := rsub_step D E S k c d e lS hd he hv.out
      clear hv
      have sD' := sD.later hbel
      have sE' := sE.later hbel
      have g1 : (k : Int) < (l : Int) := by omega
      go_wp2_with fail
      refine (at_any _ D k _ sD').mono ?_
      rintro e1 w' ⟨rfl, hw⟩
      obtain rfl := hw.symm
      rw [hd]
      go_wp2_with fail
      refine (at_any _ E k _ sE').mono ?_
      rintro e1 w' ⟨rfl, hw⟩
      obtain rfl := hw.symm
      rw [he]
      go_wp2_with (first
        | (at_builtin; refine wpList_append_lies _ (by rfl) _ _ _ (by rfl) w.heap.size 22 i0 _ 1 8 Tryd.underlying28 hi0 hz0 hz1 hz2 rfl (by omega) _ _ _ (by rfl) (hown.alloc _) ⟨wr.heap.size, 0, none⟩ 1 1 [.int .u64 ((d + 4294967296 - e - c) % 4294967296)] (by rfl) (by rfl) (World.news_of_block (cs := #[.int .u64 ((d + 4294967296 - e - c) % 4294967296)]) (t := 22) (fr := (0, 0)) (heap_alloc_new wr _)) (by simp [Value.oneCell']) (by omega) (by unfold maxLen; omega) (by omega) (by simp; omega) (wr.heap.size + 1) (by simp) ?_; intro gg cap1 w1 hown1 hgrow hat hlt1))
      go_roundw
      case rel => exact ⟨k + 1, _, S ++ [(d + 4294967296 - e - c) % 4294967296], by go_num, rfl, by omega, by omega, by simp [lS], dig_snoc dS _ (by omega) (by omega), by omega, st, by rw [us_snoc] at hown1; exact hown1, hbel.trans (Below.grown ((Below.refl _ _).alloc (by omega) _) hgrow (by simp; omega) (fun j hj => own_from hown hj))⟩
      case measure => simp [intOf]; omega
    · have g1 : ¬ (k : Int) < (l : Int) := by omega
      have hN : Hid (v32 S = Z) := by
        have h := hv.out
        have b := v32_bound S dS
        rw [List.take_of_length_le (by rw [HL.out.1]; omega), List.take_of_length_le (by rw [HL.out.2]; omega), hZ'.out] at h
        rw [lS] at b
        show _ = _
        have hc : c = 0 ∨ c = 1 := by omega
        rcases hc with rfl | rfl <;> omega
      clear hv
      go_wp2_with fail
      refine (trim_any _ S _ (Sl.of_own hown)).mono ?_
      rintro e w' ⟨v', rfl, ht, hw⟩
      obtain rfl := hw.symm
      have hQ := ht.num dS
      rw [hN.out] at hQ
      go_wp2_with fail
      go_ret
      exact ⟨v', rfl, hQ, hbel⟩
end Go.Proofs.YtflnfjekapngkaaDoor
