/- The reference's Add: a sum. -/
import Derived.Test.YtflnfjekapngkaaDoorRows
import Derived.Test.YtflnfjekapngkaaDoorRAt
import Derived.Test.YtflnfjekapngkaaDoorRTrim
namespace Go.Proofs.YtflnfjekapngkaaDoor
open Go.RowKit

theorem info_add : (Tryd.prog.info? 22).map (fun i => (i.zero, i.size, i.bytes)) = some (some (.int .u64 0), 1, 8) := by kernel_rfl

theorem own_from {w : World} {base : Nat} {e : TypeId} {size : Nat} {v : Value} {n : Nat} {xs : List Value} {j : Nat} (h : w.ownsRow base e size v n xs) (hj : v.ownBlock = some j) : base ≤ j := by
  rcases h.2 with ⟨h1, _⟩ | ⟨g, c, cur, h1, h2, _⟩
  · rw [h1] at hj; simp [Value.ownBlock] at hj
  · rw [h1] at hj; simp [Value.ownBlock] at hj; omega

theorem pv_take_more (b : Int) (D : List Int) (k : Nat) : pv b (D.take (k + 1)) = pv b (D.take k) + b ^ k * D.getD k 0 := by
  by_cases h : k < D.length
  · exact pv_take b D k h
  · rw [List.take_of_length_le (by omega), List.take_of_length_le (by omega), getD_none D k (by omega)]; simp

theorem dig_snoc {S : List Int} (h : dig S) (s : Int) (h0 : 0 ≤ s) (h1 : s < 4294967296) : dig (S ++ [s]) := by
  intro j
  by_cases hj : j < S.length
  · have : (S ++ [s]).getD j 0 = S.getD j 0 := by simp [List.getD_eq_getElem?_getD, List.getElem?_append_left hj]
    rw [this]; exact h j
  · by_cases hj2 : j = S.length
    · subst hj2
      have : (S ++ [s]).getD S.length 0 = s := by simp [List.getD_eq_getElem?_getD]
      rw [this]; exact ⟨h0, h1⟩
    · rw [getD_none _ j (by simp; omega)]; decide

theorem radd_step (D E S : List Int) (k : Nat) (c d e : Int) (lS : S.length = k) (hd : D.getD k 0 = d) (he : E.getD k 0 = e)
    (h : v32 S + c * 4294967296 ^ k = v32 (D.take k) + v32 (E.take k)) :
    v32 (S ++ [(d + e + c) % 4294967296]) + (d + e + c) / 4294967296 * 4294967296 ^ (k + 1) = v32 (D.take (k + 1)) + v32 (E.take (k + 1)) := by
  have q := Int.mul_ediv_add_emod (d + e + c) 4294967296
  simp only [v32] at *
  rw [pv_append, pv_take_more _ D k, pv_take_more _ E k, hd, he, lS, Int.pow_succ]
  simp only [pv]
  generalize (d + e + c) / 4294967296 = x at *
  generalize (d + e + c) % 4294967296 = r at *
  generalize (4294967296 : Int) ^ k = p at *
  have e' : d = 4294967296 * x + r - e - c := by omega
  subst e'
  grind

set_option maxRecDepth 100000 in
set_option maxHeartbeats 1000000 in
theorem radd_any (u v : Value) (X Y : Int) (w : World) (hu : NumIs w u X) (hv : NumIs w v Y) (hX : X < 4294967296 ^ 30) (hY : Y < 4294967296 ^ 30) :
    Calls Tryd.prog 34 #[u, v] w fun e w' => ∃ v', e = .returned v' ∧ NumIs w' v' (X + Y) ∧ Below w.heap.size w w' := by
  obtain ⟨i0, hi0, hz0, hz1, hz2⟩ := info_parts info_add
  obtain ⟨D, sD, dD, tD, rfl⟩ := hu
  obtain ⟨E, sE, dE, tE, rfl⟩ := hv
  have lD : D.length ≤ 30 := v32_len D dD tD 30 hX
  have lE : E.length ≤ 30 := v32_len E dE tE 30 hY
  clear hX hY tD tE
  obtain ⟨Z, hZ⟩ : ∃ Z, v32 D + v32 E = Z := ⟨_, rfl⟩
  rw [hZ]
  have hZ' : Hid (v32 D + v32 E = Z) := hZ
  clear hZ
  have F1 := sD.form
  have F2 := sE.form
  obtain ⟨ao, c1, rfl, -, k1, -⟩ := F1
  obtain ⟨bo, c2, rfl, -, k2, -⟩ := F2
  obtain ⟨l, hl⟩ : ∃ l, D.length = l := ⟨_, rfl⟩
  obtain ⟨m, hm⟩ : ∃ m, E.length = m := ⟨_, rfl⟩
  rw [hl] at sD lD ⊢
  rw [hm] at sE lE ⊢
  have HL : Hid (D.length = l ∧ E.length = m) := ⟨hl, hm⟩
  clear k1 k2 hl hm
  go_enter Tryd.func34, Tryd.ntmps34
  go_wp2
  go_loopw [5, 6, 7] (fun o cv i wr => ∃ (k : Nat) (c : Int) (S : List Int), i = .int .i64 k ∧ cv = .int .u64 c ∧ 0 ≤ c ∧ c ≤ 1 ∧ S.length = k ∧ dig S ∧ (k ≤ l ∨ k ≤ m ∨ (k ≤ 31 ∧ c = 0)) ∧ Hid (v32 S + c * 4294967296 ^ k = v32 (D.take k) + v32 (E.take k)) ∧ wr.ownsRow w.heap.size 22 1 o k (us S) ∧ Below w.heap.size w wr)
    (fun _ _ i _ => 40 - (intOf i).toNat)
  case atStart => exact ⟨0, 0, [], rfl, rfl, by omega, by omega, rfl, dig_nil, by omega, by show _ = _; simp [v32, pv], World.ownsRow_nil _ _ _ _, Below.refl _ _⟩
  case round =>
    obtain ⟨k, c, S, rfl, rfl, hc0, hc1, lS, dS, hkb, hv, hown, hbel⟩ := hrel
    have hsz := hbel.size
    by_cases hgo : k < l ∨ k < m ∨ 0 < c
    · obtain ⟨d, hd⟩ : ∃ d, D.getD k 0 = d := ⟨_, rfl⟩
      obtain ⟨e, he⟩ : ∃ e, E.getD k 0 = e := ⟨_, rfl⟩
      have bd : 0 ≤ d ∧ d < 4294967296 := hd ▸ dD k
      have be : 0 ≤ e ∧ e < 4294967296 := he ▸ dE k
      have bd0 := bd.1
      have bd1 := bd.2
      have be0 := be.1
      have be1 := be.2
      have st : Hid _ := radd_step D E S k c d e lS hd he hv.out
      have hz : ¬ k < l → d = 0 := fun h => by rw [← hd]; exact getD_none D k (by rw [HL.out.1]; omega)
      have hz' : ¬ k < m → e = 0 := fun h => by rw [← he]; exact getD_none E k (by rw [HL.out.2]; omega)
      have nx : Hid (k + 1 ≤ l ∨ k + 1 ≤ m ∨ (k + 1 ≤ 31 ∧ (d + e + c) / 4294967296 = 0)) := by
        show _ ∨ _
        by_cases q1 : k < l
        · exact .inl q1
        · by_cases q2 : k < m
          · exact .inr (.inl q2)
          · have := hz q1
            have := hz' q2
            omega
      have kb : k ≤ 31 := by omega
      clear hz hz' hv
      have sD' := sD.later hbel
      have sE' := sE.later hbel
      have gd : (k : Int) < (l : Int) ∨ (¬ (k : Int) < (l : Int) ∧ (k : Int) < (m : Int)) ∨ (¬ (k : Int) < (l : Int) ∧ ¬ (k : Int) < (m : Int) ∧ 0 < c) := by omega
      clear hgo hkb
      rcases gd with g1 | ⟨g1, g2⟩ | ⟨g1, g2, g3⟩
      all_goals
        go_wp2_with fail
        refine (at_any _ D k _ sD').mono ?_
        rintro e1 w' ⟨rfl, hw⟩
        obtain rfl := hw.symm
        rw [hd]
        go_wp2_with fail
        refine (at_any _ E k _ sE').mono ?_
        rintro e1 w' ⟨rfl, hw⟩
        obtain rfl := hw.symm
        rw [he]
        go_wp2_with (first
          | (at_builtin; refine wpList_append_lies _ (by rfl) _ _ _ (by rfl) w.heap.size 22 i0 _ 1 8 Tryd.underlying28 hi0 hz0 hz1 hz2 rfl (by omega) _ _ _ (by rfl) (hown.alloc _) ⟨wr.heap.size, 0, none⟩ 1 1 [.int .u64 ((d + e + c) % 4294967296)] (by rfl) (by rfl) (World.news_of_block (cs := #[.int .u64 ((d + e + c) % 4294967296)]) (t := 22) (fr := (0, 0)) (heap_alloc_new wr _)) (by simp [Value.oneCell']) (by omega) (by unfold maxLen; omega) (by omega) (by simp; omega) (wr.heap.size + 1) (by simp) ?_; intro gg cap1 w1 hown1 hgrow hat hlt1))
        go_roundw
        case rel => exact ⟨k + 1, _, S ++ [(d + e + c) % 4294967296], by go_num, rfl, by omega, by omega, by simp [lS], dig_snoc dS _ (by omega) (by omega), nx.out, st, by rw [us_snoc] at hown1; exact hown1, hbel.trans (Below.grown ((Below.refl _ _).alloc (by omega) _) hgrow (by simp; omega) (fun j hj => own_from hown hj))⟩
        case measure => simp [intOf]; omega
    · have g1 : ¬ (k : Int) < (l : Int) := by omega
      have g2 : ¬ (k : Int) < (m : Int) := by omega
      have g3 : ¬ 0 < c := by omega
      have c0 : c = 0 := by omega
      have hN : Hid (v32 S = Z) := by
        have := hv.out
        rw [c0, List.take_of_length_le (by rw [HL.out.1]; omega), List.take_of_length_le (by rw [HL.out.2]; omega), hZ'.out] at this
        show _ = _
        omega
      clear hv
      go_wp2_with fail
      refine (trim_any _ S _ (Sl.of_own hown)).mono ?_
      rintro e w' ⟨v', rfl, ht, hw⟩
      obtain rfl := hw.symm
      have hQ := ht.num dS
      rw [hN.out] at hQ
      go_wp2_with fail
      go_ret
      exact ⟨v', rfl, hQ, hbel⟩
end Go.Proofs.YtflnfjekapngkaaDoor
