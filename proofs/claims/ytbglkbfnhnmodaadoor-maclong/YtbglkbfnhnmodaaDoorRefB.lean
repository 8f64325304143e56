/- The reference's Mul: a product. -/
import Derived.Test.YtbglkbfnhnmodaaDoorRows
import Derived.Test.YtbglkbfnhnmodaaDoorRefA
import Derived.Deep.RegionHeld3
import Derived.Deep.OwnRows
namespace Go.Proofs.YtbglkbfnhnmodaaDoor
open Go.RowKit

theorem info_mul : (Tryd.prog.info? 26).map (fun i => (i.zero, i.size, i.bytes)) = some (some (.int .u64 0), 1, 8) := by kernel_rfl

theorem made_zero (n : Nat) : madeCells #[.int .u64 0] n = (us (List.replicate n 0)).toArray := by
  apply Array.ext
  · simp [madeCells]
  · intro i h1 h2
    simp [madeCells, Nat.mod_one]

theorem set_pv (b : Int) : ∀ (P : List Int) (k : Nat) (s : Int), k < P.length → pv b (P.set k s) = pv b P + (s - P.getD k 0) * b ^ k
  | [], k, s, h => absurd h (by simp)
  | p :: P, 0, s, _ => by simp [pv]; omega
  | p :: P, k + 1, s, h => by
    have ih := set_pv b P k s (by simpa using h)
    rw [List.set_cons_succ, pv, pv, ih, List.getD_cons_succ, Int.pow_succ]
    grind

theorem set_ne (S : List Int) (k j : Nat) (s : Int) (h : k ≠ j) : (S.set k s).getD j 0 = S.getD j 0 := by simp [List.getD_eq_getElem?_getD, h]

theorem dig_set {S : List Int} (h : dig S) (k : Nat) (s : Int) (h0 : 0 ≤ s) (h1 : s < 4294967296) : dig (S.set k s) := by
  intro j
  by_cases hj : k = j
  · subst hj
    by_cases hl : k < S.length
    · rw [getD_set_same S k s hl]; exact ⟨h0, h1⟩
    · rw [List.set_eq_of_length_le (by omega)]; exact h k
  · rw [set_ne _ _ _ _ hj]; exact h j

theorem pvm (D : List Int) (k : Nat) : v32 (D.take (k + 1)) = v32 (D.take k) + 4294967296 ^ k * D.getD k 0 := by
  by_cases h : k < D.length
  · exact pv_take _ D k h
  · rw [List.take_of_length_le (by omega), List.take_of_length_le (by omega), getD_none D k (by omega)]; simp

theorem rmul_step (R E : List Int) (k q : Nat) (V a b p r c : Int) (lR : k + q < R.length) (hp : a * b = p) (hr : R.getD (k + q) 0 = r) (hb : E.getD q 0 = b)
    (h : v32 R + c * 4294967296 ^ (k + q) = V + a * 4294967296 ^ k * v32 (E.take q)) :
    v32 (R.set (k + q) ((r + p + c) % 4294967296)) + (r + p + c) / 4294967296 * 4294967296 ^ (k + (q + 1)) = V + a * 4294967296 ^ k * v32 (E.take (q + 1)) := by
  have e := Int.mul_ediv_add_emod (r + p + c) 4294967296
  rw [pvm]
  simp only [v32] at *
  rw [set_pv _ R _ _ lR, hr, hb, ← Nat.add_assoc, Int.pow_succ]
  rw [Int.pow_add] at *
  generalize (r + p + c) / 4294967296 = x at *
  generalize (r + p + c) % 4294967296 = y at *
  generalize (4294967296 : Int) ^ k = u at *
  generalize (4294967296 : Int) ^ q = z at *
  generalize pv 4294967296 R = X at *
  generalize pv 4294967296 (E.take q) = Y at *
  have e2 : y = r + p + c - 4294967296 * x := by omega
  subst e2
  have e3 : X = V + a * u * Y - c * (u * z) := by omega
  subst e3
  subst hp
  grind

theorem rmul_row (R D E : List Int) (k q : Nat) (V a : Int) (hq : E.length ≤ q) (ha : D.getD k 0 = a) (hV : V = v32 (D.take k) * v32 E)
    (h : v32 R + 0 * 4294967296 ^ (k + q) = V + a * 4294967296 ^ k * v32 (E.take q)) : v32 R = v32 (D.take (k + 1)) * v32 E := by
  rw [List.take_of_length_le hq] at h
  rw [pvm, ha]
  subst hV
  generalize (4294967296 : Int) ^ k = z at *
  generalize v32 (D.take k) = X at *
  generalize v32 E = Y at *
  grind

theorem dprod_bd (a b : Int) (ha0 : 0 ≤ a) (ha : a < 4294967296) (hb0 : 0 ≤ b) (hb : b < 4294967296) : 0 ≤ a * b ∧ a * b ≤ 18446744065119617025 := by
  refine ⟨Int.mul_nonneg ha0 hb0, ?_⟩
  have := Int.mul_le_mul (show a ≤ 4294967295 by omega) (show b ≤ 4294967295 by omega) hb0 (by decide)
  omega

set_option maxRecDepth 100000 in
set_option maxHeartbeats 2000000 in
theorem rmul_any (u v : Value) (X Y : Int) (w : World) (hu : NumIs w u X) (hv : NumIs w v Y) (hX : X < 4294967296 ^ 30) (hY : Y < 4294967296 ^ 30) :
    Calls Tryd.prog 27 #[u, v] w fun e w' => ∃ v', e = .returned v' ∧ NumIs w' v' (X * Y) ∧ Below w.heap.size w w' := by
  obtain ⟨D, sD, dD, tD, rfl⟩ := hu
  obtain ⟨E, sE, dE, tE, rfl⟩ := hv
  have lD : D.length ≤ 30 := v32_len D dD tD 30 hX
  have lE : E.length ≤ 30 := v32_len E dE tE 30 hY
  clear hX hY tD tE
  obtain ⟨Z, hZ⟩ : ∃ Z, v32 D * v32 E = Z := ⟨_, rfl⟩
  rw [hZ]
  have hZ' : Hid (v32 D * v32 E = Z) := hZ
  clear hZ
  obtain ⟨ao, c1, rfl, m1, k1, f1⟩ := sD.form
  obtain ⟨bo, c2, rfl, -, k2, -⟩ := sE.form
  obtain ⟨l, hl⟩ : ∃ l, D.length = l := ⟨_, rfl⟩
  obtain ⟨m, hm⟩ : ∃ m, E.length = m := ⟨_, rfl⟩
  rw [hl] at f1 lD ⊢
  rw [hm] at sE lE ⊢
  have HL : Hid (D.length = l ∧ E.length = m) := ⟨hl, hm⟩
  unfold maxLen at m1
  clear k1 k2 hl hm sD
  have hmk := run_make_row' 53 26 (.int .u64 0) 8 Tryd.underlying53 info_mul rfl .i64 .i64 (l + m + 1) (by omega) (by omega)
  rw [made_zero] at hmk
  have ec : ((l + m + 1 : Nat) : Int) = (l : Int) + (m : Int) + 1 := by omega
  rw [ec] at hmk
  have B0 := Blk.new w (us (List.replicate (l + m + 1) 0)) 26 w.heap.size rfl
  have bel0 : Below w.heap.size w (w.alloc (.cells (us (List.replicate (l + m + 1) 0)).toArray 26)) := (Below.refl _ _).alloc (Nat.le_refl _) _
  generalize (us (List.replicate (l + m + 1) 0)).toArray = cs at hmk B0 bel0
  go_enter Tryd.func27, Tryd.ntmps27
  go_wp2
  clear hmk ec
  generalize w.alloc (.cells cs 26) = W at *
  go_loopw [6] (fun i wr => ∃ (k : Nat) (P : List Int), k ≤ l ∧ i = .int .i64 k ∧ P.length = l + m + 1 ∧ dig P ∧ Hid (v32 P = v32 (D.take k) * v32 E) ∧ Hid (∀ j, k + m ≤ j → P.getD j 0 = 0) ∧ Blk wr w.heap.size (us P) ∧ Below w.heap.size w wr)
    (fun i _ => l - (intOf i).toNat)
  case atStart => exact ⟨0, List.replicate (l + m + 1) 0, by omega, rfl, by simp, fun j => (by rw [getD_rep]; decide), by show _ = _; rw [v32, pv_zero _ _ (getD_rep _)]; simp [pv], fun j _ => getD_rep _ _, B0, bel0⟩
  case round =>
    obtain ⟨k, P, hk, rfl, lP, dP, hv, hz, hSP, hbel⟩ := hrel
    clear B0 bel0
    by_cases hlt : k < l
    · obtain ⟨b1, rfl, hb1, hc1⟩ := f1 (by omega)
      clear f1
      obtain ⟨a, hA⟩ : ∃ a, D.getD k 0 = a := ⟨_, rfl⟩
      have hax : 0 ≤ a ∧ a < 4294967296 := hA ▸ dD k
      have xa0 := hc1 k hlt
      rw [hA] at xa0
      obtain ⟨V, hV⟩ : ∃ V, V = v32 (D.take k) * v32 E := ⟨_, rfl⟩
      have HV : Hid _ := hV
      have HA : Hid _ := hA
      rw [← hV] at hv
      clear hV hA hc1
      have h1 : (k : Int) < (l : Int) := by omega
      go_wp2
      obtain ⟨wo, hwo⟩ : ∃ wo : World, wo = wr := ⟨_, rfl⟩
      go_loopw [7, 8] (fun cv j wq => ∃ (q : Nat) (c : Int) (R : List Int), j = .int .i64 q ∧ cv = .int .u64 c ∧ 0 ≤ c ∧ c < 4294967296 ∧ R.length = l + m + 1 ∧ dig R ∧ Hid (v32 R + c * 4294967296 ^ (k + q) = V + a * 4294967296 ^ k * v32 (E.take q)) ∧ (q ≤ m ∨ (q = m + 1 ∧ c = 0)) ∧ Hid (∀ j, k + m ≤ j → k + q ≤ j → R.getD j 0 = 0) ∧ Blk wq w.heap.size (us R) ∧ Below w.heap.size w wq)
        (fun _ j _ => m + 2 - (intOf j).toNat)
      case atStart => exact ⟨0, 0, P, rfl, rfl, by omega, by omega, lP, dP, by show _ = _; rw [hv.out]; simp [v32, pv], by omega, fun j hj _ => hz.out j hj, hSP, hbel⟩
      case round =>
        obtain ⟨q, c, R, rfl, rfl, hc0, hc1, lR, dR, hr, hqc, hzr, hTP, hbelr⟩ := hrel
        clear hSP hbel hwo hv
        by_cases hgo : q < m ∨ 0 < c
        · obtain ⟨b, hB⟩ : ∃ b, E.getD q 0 = b := ⟨_, rfl⟩
          have hbx : 0 ≤ b ∧ b < 4294967296 := hB ▸ dE q
          have hqm : q ≤ m := by omega
          obtain ⟨r, hR⟩ : ∃ r, R.getD (k + q) 0 = r := ⟨_, rfl⟩
          have hrx : 0 ≤ r ∧ r < 4294967296 := hR ▸ dR (k + q)
          have pb := dprod_bd a b hax.1 hax.2 hbx.1 hbx.2
          obtain ⟨p, hp⟩ : ∃ p, a * b = p := ⟨_, rfl⟩
          rw [hp] at pb
          have st : Hid _ := rmul_step R E k q V a b p r c (by omega) hp hR hB hr.out
          have xr := hTP.cell (k + q) _ (us_get R (k + q) (by omega))
          rw [hR] at xr
          have hf := hTP.frozen (k + q)
          have xa := (hbelr.cell (p := ⟨b1, k, none⟩) hb1).trans xa0
          have sE' : Sl wr.drew (.slice bo m c2) E := sE.later hbelr.drew
          have hN0 : ¬ q < m → b = 0 := fun h => by rw [← hB]; exact getD_none E q (by rw [HL.out.2]; omega)
          have hN1 : ¬ q < m → r = 0 := fun h => by rw [← hR]; exact hzr.out _ (by omega) (by omega)
          have hp0 : ¬ q < m → p = 0 := fun h => by rw [← hp, hN0 h]; simp
          have nx : Hid (q + 1 ≤ m ∨ (q + 1 = m + 1 ∧ (r + p + c) / 4294967296 = 0)) := by
            show _ ∨ _
            by_cases h : q < m
            · exact .inl h
            · have := hN1 h
              have := hp0 h
              omega
          have p0 := pb.1
          have p1 := pb.2
          have r0 := hrx.1
          have r1 := hrx.2
          have w1 : IntKind.u64.wrap p = p := by rw [IntKind.wrap_u64]; omega
          have w2 : IntKind.u64.wrap (r + p) = r + p := by rw [IntKind.wrap_u64]; omega
          have w3 : IntKind.u64.wrap (r + p + c) = r + p + c := by rw [IntKind.wrap_u64]; omega
          have g3 : (0 : Int) ≤ (k : Int) := by omega
          have g4 : IntKind.i64.wrap ((k : Int) + (q : Int)) = (k : Int) + (q : Int) := by rw [IntKind.wrap_i64]; omega
          have g5 : (0 : Int) ≤ (k : Int) + (q : Int) := by omega
          have g6 : (k : Int) + (q : Int) < (l : Int) + (m : Int) + 1 := by omega
          have g7 : ((k : Int) + (q : Int)).toNat = k + q := by omega
          have g8 : (k : Int) + (q : Int) < ((l + m + 1 : Nat) : Int) := by omega
          have gd : (q : Int) < (m : Int) ∨ (¬ (q : Int) < (m : Int) ∧ 0 < c) := by omega
          clear hR hN0 hN1 hp0 hr pb hrx hgo
          rcases gd with g1 | ⟨g1, g2⟩
          all_goals
            go_wp2
            go_region_held3 (fun w' => w'.cell? ⟨w.heap.size, k + q, none⟩ = some (.int .u64 r) ∧ w'.cell? ⟨b1, k, none⟩ = some (.int .u64 a)) (first | exact ⟨xr, xa⟩ | (go_split_ands; refine ⟨?_, ?_⟩ <;> assumption))
              ((go_at_call 35; refine (at_any _ E q _ (sE')).mono ?_; rintro e w' ⟨rfl, hw⟩; obtain rfl := hw.symm; rw [hB]))
            go_wp2
            go_roundw
            case rel => exact ⟨q + 1, _, R.set (k + q) ((r + p + c) % 4294967296), by go_num, rfl, by omega, by omega, by simpa using lR, dig_set dR _ _ (by omega) (by omega), st, nx.out, fun j hj hj2 => (by rw [set_ne _ _ _ _ (by omega)]; exact hzr.out j hj (by omega)), (hTP.setu _ _).drew, (hbelr.setCell (by simp) _).drew⟩
            case measure => simp [intOf]; omega
        · have hq : m ≤ q := by omega
          have hc : c = 0 := by omega
          have g1 : ¬ (q : Int) < (m : Int) := by omega
          have g2 : ¬ 0 < c := by omega
          have st : Hid (v32 R = v32 (D.take (k + 1)) * v32 E) := by
            have := hr.out
            rw [hc] at this
            exact rmul_row R D E k q V a (by rw [HL.out.2]; exact hq) HA.out HV.out this
          clear hr
          go_wp2
          go_roundw
          case rel => exact ⟨k + 1, R, by omega, by go_num, lR, dR, st, fun j hj => hzr.out j (by omega) (by omega), hTP, hbelr⟩
          case measure => simp [intOf]; omega
    · have h6 : (l : Int) ≤ (k : Int) := by omega
      have hN : Hid (v32 P = Z) := by
        have := hv.out
        rw [List.take_of_length_le (by rw [HL.out.1]; omega), hZ'.out] at this
        exact this
      clear hv
      have hSl : Sl wr (.slice (some ⟨w.heap.size, 0, none⟩) (l + m + 1) (l + m + 1)) P := .inr ⟨w.heap.size, l + m + 1, by rw [lP], by omega, by unfold maxLen; omega, hSP.lt, fun j hj => hSP.cell j _ (us_get P j hj)⟩
      go_wp2_with fail
      refine (trim_any _ P _ hSl).mono ?_
      rintro e w' ⟨v', rfl, ht, hw⟩
      obtain rfl := hw.symm
      have hQ := ht.num dP
      rw [hN.out] at hQ
      go_wp2_with fail
      go_ret
      exact ⟨v', rfl, hQ, hbel⟩
end Go.Proofs.YtbglkbfnhnmodaaDoor
