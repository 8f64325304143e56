/- The reference's cut: the digits below the twelfth, and those from there on. -/
import Derived.Test.YtflnfjekapngkaaDoorRows
import Derived.Test.YtflnfjekapngkaaDoorRTrim
import Derived.Test.YtflnfjekapngkaaDoorRAdd
import Derived.Test.YtflnfjekapngkaaDoorPut
import Derived.ArgAppend
import Derived.Deep.RegionHeld3
namespace Go.Proofs.YtflnfjekapngkaaDoor
open Go.RowKit

theorem pow_R : (18446744073709551616 : Int) ^ 6 = 4294967296 ^ 12 := by
  rw [show (18446744073709551616 : Int) = 4294967296 ^ 2 by decide, ← Int.pow_mul]

theorem nil_num (w : World) : NumIs w (.slice none 0 0) 0 := ⟨[], .inl ⟨rfl, rfl⟩, dig_nil, by simp [trd], rfl⟩

theorem cut_short {D : List Int} (hd : dig D) (h : D.length ≤ 12) : v32 D % 18446744073709551616 ^ 6 = v32 D ∧ v32 D / 18446744073709551616 ^ 6 = 0 := by
  have b := v32_bound D hd
  have p := pow32_mono D.length 12 h
  rw [pow_R]
  exact ⟨Int.emod_eq_of_lt b.1 (by omega), Int.ediv_eq_zero_of_lt b.1 (by omega)⟩

theorem cut_long {D : List Int} (hd : dig D) (h : 12 ≤ D.length) : v32 (D.take 12) = v32 D % 18446744073709551616 ^ 6 ∧ v32 (D.drop 12) = v32 D / 18446744073709551616 ^ 6 := by
  have e : v32 D = v32 (D.take 12) + 4294967296 ^ 12 * v32 (D.drop 12) := by
    have := pv_append 4294967296 (D.take 12) (D.drop 12)
    rw [List.take_append_drop, List.length_take, Nat.min_eq_left h] at this
    exact this
  have b := v32_bound (D.take 12) (dig_take hd 12)
  rw [List.length_take, Nat.min_eq_left h] at b
  rw [pow_R, e]
  have p := pow32_pos 12
  generalize (4294967296 : Int) ^ 12 = R at *
  generalize v32 (D.take 12) = x at *
  generalize v32 (D.drop 12) = y at *
  constructor
  · rw [Int.add_mul_emod_self_left, Int.emod_eq_of_lt b.1 b.2]
  · rw [Int.add_mul_ediv_left _ _ (by omega), Int.ediv_eq_zero_of_lt b.1 b.2]; omega

theorem drop_dig {D : List Int} (h : dig D) (n : Nat) : dig (D.drop n) := by
  intro j
  have : (D.drop n).getD j 0 = D.getD (n + j) 0 := by simp [List.getD_eq_getElem?_getD]
  rw [this]; exact h _

theorem drop_trd {D : List Int} (h : trd D) (n : Nat) (hl : n < D.length) : trd (D.drop n) := by
  intro h0
  have e : (D.drop n).getD ((D.drop n).length - 1) 0 = D.getD (D.length - 1) 0 := by
    simp only [List.getD_eq_getElem?_getD, List.getElem?_drop, List.length_drop]
    congr 2; omega
  rw [e]; exact h (by omega)

/-- append onto an empty slice without room: a new row, all else stands -/
theorem step_app {P : Program} {w : World} {ops : Array Oper} {o : Oper} {a : Act} {K : Act → World → Prop} {Q : Exit → Act → World → Prop} {E : Prop} (hgd : o.guard = none) (s x : Operand) (t : TypeId)
    (ho : o.op = .call { callee := .builtin .append, args := #[s, x], argTypes := #[t, t] })
    (e : TypeId) (i : TypeInfo) (z : Value) (ht : P.underlying t = some (.slice e)) (hi : P.info? e = some i) (hz : i.zero = some z) (hsize : i.size = 1) (hby : i.bytes = 8) (hzs : z.cells.size = 1)
    (b : Addr) (hs : a.eval s = .slice (some b) 0 0) (ad : Addr) (m c : Nat) (news : List Value) (hx : a.eval x = .slice (some ad) m c) (hl : news.length = m) (hnews : ∀ j u, news[j]? = some u → w.cell? (ad.add j) = some u) (hm : 0 < m) (hm2 : m ≤ 100)
    (h : ∀ v' w', w'.ownsRow w.heap.size e 1 v' m news → Below w.heap.size w w' → K (a.put o.dst v') w') :
    if Region.wanted o (yielded ops a.tmps) = true then Oper.wp P o a w K Q else E := by
  have hw : Region.wanted o (yielded ops a.tmps) = true := by simp [Region.wanted, hgd]
  rw [if_pos hw]
  obtain ⟨v', w', hrun, r1, r2⟩ := run_append_arg_grows (P := P) w t o.type e i z 1 8 ht hi hz hsize hby hzs (by omega) b 0 0 [] rfl (by simp) ad m c news (by omega) hnews (by omega) (by unfold maxLen; omega) (by omega)
  unfold Oper.wp
  simp [execOp, ho, resolve, invoke, builtin, hs, hx, hrun, Result.andThen]
  refine h v' w' (by simpa using r1) (Below.grown (Below.refl _ _) r2 (Nat.le_refl _) (fun k hk => by cases hk))

theorem src_cells {w wx : World} {b o m : Nat} {D N : List Int} (hc : ∀ j, j < D.length → w.cell? ⟨b, j, none⟩ = some (.int .u64 (D.getD j 0))) (hb : b < w.heap.size) (bel : Below w.heap.size w wx) (hm : N.length = m) (hN : ∀ j, j < m → o + j < D.length ∧ N.getD j 0 = D.getD (o + j) 0) :
    ∀ j u, (us N)[j]? = some u → wx.cell? ((⟨b, o, none⟩ : Addr).add j) = some u := by
  intro j u hu
  have hj : j < N.length := by
    have := (List.getElem?_eq_some_iff.1 hu).1
    simpa using this
  rw [us_get N j hj] at hu
  injection hu with hu
  rw [Addr.add_mid, bel.cell hb, hc (o + j) (hN j (by omega)).1, ← hu, (hN j (by omega)).2]

set_option maxRecDepth 100000 in
set_option maxHeartbeats 1000000 in
theorem cut_any (v : Value) (X : Int) (w : World) (hv : NumIs w v X) (hX : X < 4294967296 ^ 30) :
    Calls Tryd.prog 52 #[v] w fun e w' => ∃ lo hi, e = .returned (.tuple #[lo, hi]) ∧ NumIs w' lo (X % 18446744073709551616 ^ 6) ∧ NumIs w' hi (X / 18446744073709551616 ^ 6) ∧ Below w.heap.size w w' := by
  obtain ⟨D, sD, dD, tD, rfl⟩ := hv
  have lD : D.length ≤ 30 := v32_len D dD tD 30 hX
  clear hX
  by_cases h12 : D.length ≤ 12
  · obtain ⟨e1, e2⟩ := cut_short dD h12
    have N1 : Hid (NumIs w v (v32 D % 18446744073709551616 ^ 6)) := by show NumIs _ _ _; rw [e1]; exact ⟨D, sD, dD, tD, rfl⟩
    have N2 : Hid (NumIs w (.slice none 0 0) (v32 D / 18446744073709551616 ^ 6)) := by show NumIs _ _ _; rw [e2]; exact nil_num w
    clear e1 e2
    obtain ⟨ao, c1, rfl, m1, k1, -⟩ := sD.form
    obtain ⟨l, hl⟩ : ∃ l, D.length = l := ⟨_, rfl⟩
    rw [hl] at N1 h12 ⊢
    clear hl k1 lD
    have g1 : (l : Int) ≤ 12 := by omega
    go_enter Tryd.func52, Tryd.ntmps52
    go_wp2
    go_ret2
    exact ⟨_, _, rfl, N1.out, N2.out, Below.refl _ _⟩
  · obtain ⟨i0, hi0, hz0, hz1, hz2⟩ := info_parts info_add
    obtain ⟨e1, e2⟩ := cut_long dD (by omega)
    have E1 : Hid _ := e1
    have E2 : Hid _ := e2
    clear e1 e2
    rcases sD with ⟨rfl, rfl⟩ | ⟨b, cap, rfl, h2, h3, h4, h5⟩
    · exact absurd (Nat.zero_le 12) h12
    · have HC : Hid (∀ j, j < D.length → w.cell? ⟨b, j, none⟩ = some (.int .u64 (D.getD j 0))) := h5
      have h3' := h3
      unfold maxLen at h3'
      obtain ⟨l, hl⟩ : ∃ l, D.length = l := ⟨_, rfl⟩
      have HL : Hid _ := hl
      rw [hl] at h2 h12 lD ⊢
      clear hl h5
      have g1 : ¬ (l : Int) ≤ 12 := by omega
      have g2 : (12 : Int) ≤ (l : Int) := by omega
      have g3 : (12 : Int) ≤ (cap : Int) := by omega
      have g4 : (l : Int) ≤ (cap : Int) := by omega
      go_enter Tryd.func52, Tryd.ntmps52
      go_wp2
      have d1 : dig (D.take 12) := dig_take dD 12
      have d2 : dig (D.drop 12) := drop_dig dD 12
      have t2 : trd (D.drop 12) := drop_trd tD 12 (by rw [HL.out]; omega)
      have l1 : (D.take 12).length = 12 := by rw [List.length_take, HL.out]; omega
      have l2 : (D.drop 12).length = l - 12 := by rw [List.length_drop, HL.out]
      have c1 : Hid (∀ wx, Below w.heap.size w wx → ∀ j u, (us (D.take 12))[j]? = some u → wx.cell? ((⟨b, 0, none⟩ : Addr).add j) = some u) := fun wx hx => src_cells HC.out h4 hx l1 (fun j hj => ⟨by rw [HL.out]; omega, by simp [List.getD_eq_getElem?_getD, hj]⟩)
      have c2 : Hid (∀ wx, Below w.heap.size w wx → ∀ j u, (us (D.drop 12))[j]? = some u → wx.cell? ((⟨b, 12, none⟩ : Addr).add j) = some u) := fun wx hx => src_cells HC.out h4 hx l2 (fun j hj => ⟨by rw [HL.out]; omega, by simp [List.getD_eq_getElem?_getD]⟩)
      have L1 : Hid _ := l1
      have L2 : Hid _ := l2
      clear l1 l2
      go_region_held3 (fun wx => Below w.heap.size w wx)
        (first
          | with_reducible exact below_step (by assumption) hb
          | with_reducible exact below_alloc (by assumption)
          | with_reducible assumption
          | exact Below.drew (Below.refl _ _)
          | exact Below.drew (below_alloc (Below.refl _ _))
          | exact Below.drew (below_alloc (below_alloc (Below.refl _ _))))
        (first
          | (refine step_app (by rfl) _ _ _ (by rfl) 22 i0 _ Tryd.underlying28 hi0 hz0 hz1 hz2 (by rfl) _ (by rfl) ⟨b, 0, none⟩ 12 _ (us (D.take 12)) (by rfl) (by rw [List.length_map]; exact L1.out) (c1.out _ (by assumption)) (by omega) (by omega) ?_; intro vA wA hown hb; have SA := Sl.of_own hown; clear hown; (first | replace SB := SB.later hb | replace SB := (SB.alloc _).later hb | skip))
          | (refine step_app (by rfl) _ _ _ (by rfl) 22 i0 _ Tryd.underlying28 hi0 hz0 hz1 hz2 (by rfl) _ (by rfl) ⟨b, 12, none⟩ (l - 12) _ (us (D.drop 12)) (by rfl) (by rw [List.length_map]; exact L2.out) (c2.out _ (by assumption)) (by omega) (by omega) ?_; intro vB wB hown hb; have SB := Sl.of_own hown; clear hown; (first | replace SA := SA.later hb | replace SA := (SA.alloc _).later hb | skip); (first | replace NA := NA.later hb | replace NA := (NA.alloc _).later hb | skip))
          | (go_at_call 50; refine (trim_any _ (D.take 12) _ (by first | exact SA | exact SA.alloc _)).mono ?_; rintro e w' ⟨v', rfl, ht, hw⟩; obtain rfl := hw.symm; have NA := ht.num d1; clear ht hw))
      all_goals go_wp2
      all_goals go_ret2
      all_goals exact ⟨_, _, rfl, by rw [← E1.out]; exact NA, by rw [← E2.out]; exact ⟨_, SB, d2, t2, rfl⟩, by assumption⟩
end Go.Proofs.YtflnfjekapngkaaDoor
