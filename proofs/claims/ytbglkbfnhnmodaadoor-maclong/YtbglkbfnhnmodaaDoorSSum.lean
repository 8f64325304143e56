/- The document's Sum: a digest. -/
import Derived.Test.YtbglkbfnhnmodaaDoorRows
import Derived.Test.YtbglkbfnhnmodaaDoorSStep
import Derived.Test.YtbglkbfnhnmodaaDoorSPad
import Derived.Test.YtbglkbfnhnmodaaDoorSMade
import Derived.Deep.WholeRow
import Derived.Deep.RegionHeld3
import Derived.Deep.DeepCutAuto
import Derived.Deep.DeepFit
namespace Go.Proofs.YtbglkbfnhnmodaaDoor
open Go.RowKit

/-- the words behind k blocks -/
def digN (K H M : List Int) : Nat → List Int
  | 0 => H
  | k + 1 => stepN K (digN K H M k) ((M.drop (128 * k)).take 128)
theorem digN_len {K H M : List Int} (h : H.length = 8) : ∀ k, (digN K H M k).length = 8
  | 0 => h
  | _ + 1 => stepN_len _ _ _
theorem stepN_fits (K H B : List Int) : fits (stepN K H B) := by
  intro j
  unfold stepN sumsN
  rw [List.getD_eq_getElem?_getD, List.getElem?_map]
  by_cases hj : j < 8
  · rw [List.getElem?_range hj]
    simp only [Option.map_some, Option.getD_some]
    rw [if_pos hj]
    omega
  · rw [List.getElem?_eq_none (by simpa using hj)]
    exact ⟨by simp, by simp⟩
theorem digN_fits {K H M : List Int} (h : fits H) : ∀ k, fits (digN K H M k)
  | 0 => h
  | _ + 1 => stepN_fits _ _ _
/-- the bytes of the first i words -/
def OutB (H : List Int) : Nat → List Int → Prop
  | 0, O => O = []
  | i + 1, O => ∃ O' X, O = O' ++ X ∧ OutB H i O' ∧ X.length = 8 ∧ byt X ∧ beN X = H.getD i 0
theorem OutB.len {H : List Int} : ∀ {i : Nat} {O : List Int}, OutB H i O → O.length = 8 * i
  | 0, O, h => by rw [show O = [] from h]; rfl
  | i + 1, O, h => by
    obtain ⟨O', X, rfl, h1, h2, _, _⟩ := h
    rw [List.length_append, h1.len, h2]; omega
theorem OutB.one {H : List Int} : ∀ {i : Nat} {O Q : List Int}, OutB H i O → OutB H i Q → O = Q
  | 0, O, Q, h, k => by rw [show O = [] from h, show Q = [] from k]
  | i + 1, O, Q, h, k => by
    obtain ⟨O', X, rfl, h1, h2, h3, h4⟩ := h
    obtain ⟨Q', Y, rfl, k1, k2, k3, k4⟩ := k
    rw [h1.one k1, beN_inj X Y (by rw [h2, k2]) h3 k3 (by rw [h4, k4])]
theorem own_lo {w : World} {j n c : Nat} (h : Value.ownBlock (.slice (some ⟨w.heap.size, 0, none⟩) n c) = some j) : w.heap.size ≤ j := by
  simp [Value.ownBlock] at h; omega
theorem bs_news {w : World} {b o : Nat} {B : List Int} (hb : b < w.heap.size) (hc : ∀ j, j < B.length → w.cell? ⟨b, o + j, none⟩ = some (.int .u8 (B.getD j 0))) (x : Obj) : ∀ j u, (u8s B)[j]? = some u → (w.alloc x).cell? ((⟨b, o, none⟩ : Addr).add j) = some u := fun j u hu => by
  have e0 : (⟨b, o, none⟩ : Addr).add j = ⟨b, o + j, none⟩ := by unfold Addr.add; split <;> simp_all
  have hj : j < B.length := by
    have := (List.getElem?_eq_some_iff.1 hu).1
    simpa using this
  rw [e0, World.cell?_alloc_lt _ _ _ hb, hc j hj]
  rw [u8s_get B j hj] at hu
  exact hu
theorem byt_app {A B : List Int} (hA : byt A) (hB : byt B) : byt (A ++ B) := by
  intro j
  by_cases h : j < A.length
  · rw [List.getD_eq_getElem?_getD, List.getElem?_append_left h, ← List.getD_eq_getElem?_getD]; exact hA j
  · rw [List.getD_eq_getElem?_getD, List.getElem?_append_right (by omega), ← List.getD_eq_getElem?_getD]; exact hB _
theorem row_u8 {w : World} {base : Nat} {e : TypeId} {g n cap : Nat} {D : List Int} (h : w.ownsRow base e 1 (.slice (some ⟨g, 0, none⟩) n cap) n (u8s D)) : base ≤ g ∧ ∃ cur, Blk w g cur ∧ (∀ j, j < n → cur[j]? = some (.int .u8 (D.getD j 0))) ∧ n ≤ cap ∧ cap ≤ maxLen := by
  obtain ⟨hl, h⟩ := h
  have hn : D.length = n := by simpa using hl
  rcases h with ⟨h1, h2⟩ | ⟨g', cap', cur, h1, h2, h3, h4, h5, h6, h7⟩
  · simp at h1
  · simp only [Value.slice.injEq, Option.some.injEq, Addr.mk.injEq] at h1
    obtain ⟨⟨rfl, _, _⟩, _, rfl⟩ := h1
    refine ⟨h2, cur.toList, ⟨e, by simpa using h3⟩, fun j hj => ?_, h4, h5⟩
    have e1 : (cur.toList.take (n * 1))[j]? = some (.int .u8 (D.getD j 0)) := by rw [h7]; exact u8s_get D j (by omega)
    rw [List.getElem?_take, if_pos (by omega)] at e1
    exact e1
theorem drop_get (M : List Int) (a n j : Nat) (hj : j < n) : ((M.drop a).take n).getD j 0 = M.getD (a + j) 0 := by
  rw [List.getD_eq_getElem?_getD, List.getElem?_take, if_pos hj, List.getElem?_drop, ← List.getD_eq_getElem?_getD]
theorem len_cut {M : List Int} {k : Nat} (h : 128 * k + 128 ≤ M.length) : ((M.drop (128 * k)).take 128).length = 128 := by
  rw [List.length_take, List.length_drop]; omega
theorem byt_cut {M : List Int} {k : Nat} (h : byt M) : byt ((M.drop (128 * k)).take 128) := by
  intro j
  by_cases hj : j < 128
  · rw [drop_get _ _ _ _ hj]; exact h _
  · rw [List.getD_eq_getElem?_getD, List.getElem?_take, if_neg hj]; exact ⟨by simp, by simp⟩
theorem bs_cut {w : World} {g n k cap : Nat} {cur : List Value} {M : List Int} (B : Blk w g cur) (hc : ∀ j, j < n → cur[j]? = some (.int .u8 (M.getD j 0))) (hk : 128 * k + 128 ≤ n) (hl : 128 * k + 128 ≤ M.length) (h1 : 128 ≤ cap) (h2 : cap ≤ maxLen) : Bs w (.slice (some ⟨g, 128 * k, none⟩) 128 cap) ((M.drop (128 * k)).take 128) := by
  have e := len_cut hl
  refine ⟨some ⟨g, 128 * k, none⟩, cap, by rw [e], h2, by rw [e]; exact h1, fun _ => ⟨g, 128 * k, rfl, B.lt, fun j hj => ?_⟩⟩
  rw [e] at hj
  rw [drop_get _ _ _ _ hj]
  exact B.cell (128 * k + j) _ (hc _ (by omega))
theorem r7_StepL {t0 t1 t2 t3 t4 t5 t6 t7 h0 h1 h2 h3 h4 h5 h6 h7 y0 y1 y2 y3 y4 y5 y6 y7 : Int} {K B : List Int} {v : Value} {kb kc : Nat} {w : World} (hK : ∀ j, j < 80 → w.cell? ⟨kb, j, none⟩ = some (.int .u64 (K.getD j 0))) (hv : Bs w v B) (hB : byt B) (l : B.length = 128) (hy : stepN K [h0, h1, h2, h3, h4, h5, h6, h7] B = [y0, y1, y2, y3, y4, y5, y6, y7]) :
    Calls Tryd.prog 30 #[.agg #[.slice (some ⟨kb, 0, none⟩) 80 kc, .int .u64 t0, .int .u64 t1, .int .u64 t2, .int .u64 t3, .int .u64 t4, .int .u64 t5, .int .u64 t6, .int .u64 t7], .agg #[.int .u64 h0, .int .u64 h1, .int .u64 h2, .int .u64 h3, .int .u64 h4, .int .u64 h5, .int .u64 h6, .int .u64 h7], v] w fun e w' => e = .returned (.agg #[.int .u64 y0, .int .u64 y1, .int .u64 y2, .int .u64 y3, .int .u64 y4, .int .u64 y5, .int .u64 y6, .int .u64 y7]) ∧ Below w.heap.size w w' := by
  refine (r7_Step hK hv hB l).mono ?_
  rintro e w' ⟨rfl, hb⟩
  rw [hy]
  exact ⟨rfl, hb⟩
/-- a digest as it lies -/
def SumIs (K H B O : List Int) : Prop := ∃ P : List Int, PadIs B.length P ∧ OutB (digN K H (B ++ P) ((B ++ P).length / 128)) 6 O
theorem SumIs.one {K H B O Q : List Int} (h : SumIs K H B O) (k : SumIs K H B Q) : O = Q := by
  obtain ⟨P, h1, h2⟩ := h
  obtain ⟨P', k1, k2⟩ := k
  obtain rfl := h1.one k1
  exact h2.one k2
def SumRet (w : World) (v : Value) (base : Nat) (K H B : List Int) : Prop := ∃ P O : List Int, PadIs B.length P ∧ OutB (digN K H (B ++ P) ((B ++ P).length / 128)) 6 O ∧ w.ownsRow base 5 1 v 48 (u8s O)
theorem own_mono {w : World} {base base2 : Nat} {e : TypeId} {v : Value} {n : Nat} {xs : List Value} (h : w.ownsRow base e 1 v n xs) (hb : base2 ≤ base) : w.ownsRow base2 e 1 v n xs := by
  obtain ⟨hl, h⟩ := h
  rcases h with h | ⟨g, cap, cur, h1, h2, h3⟩
  · exact ⟨hl, .inl h⟩
  · exact ⟨hl, .inr ⟨g, cap, cur, h1, Nat.le_trans hb h2, h3⟩⟩
theorem own_news {w : World} {base : Nat} {e : TypeId} {g n cap : Nat} {D : List Int} (h : w.ownsRow base e 1 (.slice (some ⟨g, 0, none⟩) n cap) n (u8s D)) : ∀ j u, (u8s D)[j]? = some u → w.cell? ((⟨g, 0, none⟩ : Addr).add j) = some u := fun j u hu => by
  have e0 : (⟨g, 0, none⟩ : Addr).add j = ⟨g, j, none⟩ := by unfold Addr.add; split <;> simp_all
  rw [e0]
  obtain ⟨hl, h⟩ := h
  rcases h with ⟨h1, h2⟩ | ⟨g', cap', cur, h1, h2, h3, h4, h5, h6, h7⟩
  · simp at h1
  · simp only [Value.slice.injEq, Option.some.injEq, Addr.mk.injEq] at h1
    obtain ⟨⟨rfl, _, _⟩, _, rfl⟩ := h1
    have B : Blk w g cur.toList := ⟨e, by simpa using h3⟩
    refine B.cell j u ?_
    have := hu
    rw [← h7, List.getElem?_take] at this
    split at this
    · exact this
    · simp at this

set_option linter.unusedSimpArgs false in
set_option maxRecDepth 100000 in
set_option maxHeartbeats 4000000 in
theorem r7_Sum {t0 t1 t2 t3 t4 t5 t6 t7 : Int} {K B : List Int} {v : Value} {kb kc : Nat} {w : World} (hK : ∀ j, j < 80 → w.cell? ⟨kb, j, none⟩ = some (.int .u64 (K.getD j 0))) (hv : Bs w v B) (hB : byt B) (l : B.length ≤ 20000) (fT : fits [t0, t1, t2, t3, t4, t5, t6, t7]) :
    Calls Tryd.prog 18 #[.agg #[.slice (some ⟨kb, 0, none⟩) 80 kc, .int .u64 t0, .int .u64 t1, .int .u64 t2, .int .u64 t3, .int .u64 t4, .int .u64 t5, .int .u64 t6, .int .u64 t7], v] w fun e w' => ∃ v' : Value, e = .returned v' ∧ SumRet w' v' w.heap.size K [t0, t1, t2, t3, t4, t5, t6, t7] B ∧ Below w.heap.size w w' := by
  obtain ⟨i0, hi0, hz0, hz1, hz2⟩ := info_parts info_b8
  have HKc : Hid (∀ j, j < 80 → w.cell? ⟨kb, j, none⟩ = some (.int .u64 (K.getD j 0))) := hK
  clear hK
  have B0 := Blk.new w [.slice (some ⟨kb, 0, none⟩) 80 kc, .int .u64 t0, .int .u64 t1, .int .u64 t2, .int .u64 t3, .int .u64 t4, .int .u64 t5, .int .u64 t6, .int .u64 t7] 29 (w.heap.size) rfl
  have bel : Below w.heap.size w (w.alloc (.cells [.slice (some ⟨kb, 0, none⟩) 80 kc, .int .u64 t0, .int .u64 t1, .int .u64 t2, .int .u64 t3, .int .u64 t4, .int .u64 t5, .int .u64 t6, .int .u64 t7].toArray 29)) := ((Below.refl _ _).alloc (Nat.le_refl _) _)
  go_enter Tryd.func18, Tryd.ntmps18
  go_upto_region 1 with fail
  try simp only [us, List.map_cons, List.map_nil] at bel
  generalize (w.alloc (Obj.cells #[.slice (some ⟨kb, 0, none⟩) 80 kc, .int .u64 t0, .int .u64 t1, .int .u64 t2, .int .u64 t3, .int .u64 t4, .int .u64 t5, .int .u64 t6, .int .u64 t7] 29)) = W at *
  replace hv := hv.later bel
  have lt0 := B0.lt
  go_cut [5] (fun av wx => wx.ownsRow (w.heap.size + 1) 5 1 av B.length (u8s B) ∧ Blk wx w.heap.size [.slice (some ⟨kb, 0, none⟩) 80 kc, .int .u64 t0, .int .u64 t1, .int .u64 t2, .int .u64 t3, .int .u64 t4, .int .u64 t5, .int .u64 t6, .int .u64 t7] ∧ Bs wx v B ∧ Below w.heap.size w wx)
  case first =>
    have hv0 := hv
    obtain ⟨ao, cap, rfl, c1, c2, c3⟩ := hv
    have own0 := own_made W [] 5 0 (w.heap.size + 1) rfl (by omega) (by decide)
    unfold maxLen at c1
    by_cases h0 : B.length = 0
    · obtain rfl : B = [] := List.eq_nil_of_length_eq_zero h0
      rw [show ([] : List Int).length = 0 from rfl]
      cases ao
      all_goals go_wp2
      all_goals go_meet
      all_goals exact ⟨own0, B0.alloc _, hv0.later ((Below.refl _ _).alloc (Nat.le_refl _) _), bel.alloc (by omega) _⟩
    · obtain ⟨b, o, rfl, hb0, hc0⟩ := c3 (by omega)
      have HN : Hid (∀ j u, (u8s B)[j]? = some u → (W.alloc (.cells #[] 5)).cell? ((⟨b, o, none⟩ : Addr).add j) = some u) := bs_news hb0 hc0 _
      have HM : Hid ((u8s B).length = B.length * 1) := by simp [u8s, Hid]
      clear c3 hc0
      go_wp2_with (first | (at_builtin; refine wpList_append_lies _ (by rfl) _ _ _ (by rfl) (w.heap.size + 1) 5 i0 _ 1 1 Tryd.underlying22 hi0 hz0 hz1 hz2 rfl (by omega) _ _ _ (by rfl) own0 ⟨b, o, none⟩ B.length cap (u8s B) (by rfl) HM.out HN.out (by simp [u8s, Value.oneCell']) (by omega) (by unfold maxLen; omega) (by omega) (by simp; omega) (W.heap.size + 1) (by simp) ?_; intro gg cap1 w1 hown1 hgrow hat hlt1) | fail)
      go_meet
      exact ⟨by simpa using hown1, blk_grown (base := (w.heap.size + 1)) (B0.alloc _) hgrow (by omega) (fun j hj => own_ge own0 hj), hv0.later (Below.grown ((Below.refl _ _).alloc (Nat.le_refl _) _) hgrow (by simp) (fun j hj => own_lo hj)), bel.trans (Below.grown ((Below.refl _ _).alloc (by omega) _) hgrow (by simp; omega) (fun j hj => Nat.le_trans (by omega) (own_ge own0 hj)))⟩
  case rest =>
    clear B0 hv bel lt0
    obtain ⟨hown, B0, hv, bel⟩ := hcut
    have hv0 := hv
    obtain ⟨ao, cap, rfl, c1, c2, c3⟩ := hv
    clear c3
    unfold maxLen at c1
    go_wp2_with fail
    refine (r7_Pad (n := B.length) (by omega)).mono ?_
    rintro e w2 ⟨pv, P, rfl, hP, hoP, hb⟩
    replace hown := own_later hown hb
    replace B0 := B0.later hb
    replace bel := below_step bel hb
    have hsz := bel.size
    have lt0 := B0.lt
    clear hb
    have pl := hP.len
    have zl : zsN B.length < 128 := Nat.mod_lt _ (by decide)
    have HPd : Hid (PadIs B.length P) := hP
    obtain ⟨gp, cp, rfl, hgp, hgp2, cp1, cp2⟩ := own_form hoP (by omega)
    have HN : Hid _ := own_news hoP
    have HM : Hid ((u8s P).length = P.length * 1) := by simp [u8s, Hid]
    have HE : Hid (u8s B ++ u8s P = u8s (B ++ P)) := by simp [u8s, Hid]
    have HQ : Hid (B.length + P.length = (B ++ P).length ∧ (B ++ P).length % 128 = 0) := by
      show _ ∧ _
      rw [List.length_append, pl]
      unfold zsN
      omega
    have hl2 : B.length + P.length ≤ 20500 := by omega
    have p0 : 0 < P.length := by omega
    clear hP hoP pl
    unfold maxLen at cp2
    go_upto_region 3 with (first | (at_builtin; refine wpList_append_lies _ (by rfl) _ _ _ (by rfl) (w.heap.size + 1) 5 i0 _ 1 1 Tryd.underlying22 hi0 hz0 hz1 hz2 rfl (by omega) _ _ _ (by rfl) hown ⟨gp, 0, none⟩ P.length cp (u8s P) (by rfl) HM.out HN.out (by simp [u8s, Value.oneCell']) (by omega) (by unfold maxLen; omega) (by omega) (by omega) w2.heap.size rfl ?_; intro gg cap1 w3 hown1 hgrow hat hlt1) | fail)
    rw [HE.out] at hown1
    replace B0 := blk_grown (base := (w.heap.size + 1)) B0 hgrow (by omega) (fun j hj => own_ge hown hj)
    replace bel := Below.grown bel hgrow hsz (fun j hj => Nat.le_trans (by omega) (own_ge hown hj))
    clear hgrow hat hown HN HM HE hsz
    obtain ⟨M, hM⟩ : ∃ M, B ++ P = M := ⟨_, rfl⟩
    rw [hM] at hown1 HQ
    have HMB : Hid (B ++ P = M) := hM
    have bM : Hid (byt M) := by rw [← hM]; exact byt_app hB HPd.out.byt
    clear hM
    obtain ⟨q, hq⟩ : ∃ q, M.length / 128 = q := ⟨_, rfl⟩
    have hq2 : B.length + P.length = 128 * q := by have := HQ.out; omega
    have HLq : Hid (M.length = 128 * q) := by have := HQ.out; show _ = _; omega
    have HQq : Hid (M.length / 128 = q) := hq
    clear hq
    obtain ⟨hg0, cur, BG, hcur, k1, k2⟩ := row_u8 hown1
    rw [hq2] at hcur k1
    have HG : Hid (∀ j, j < 128 * q → cur[j]? = some (.int .u8 (M.getD j 0))) := hcur
    clear hcur hown1
    unfold maxLen at k2
    have lg := BG.lt
    have lt0 := B0.lt
    have c1 := B0.cell 1 _ rfl
    have c2 := B0.cell 2 _ rfl
    have c3 := B0.cell 3 _ rfl
    have c4 := B0.cell 4 _ rfl
    have c5 := B0.cell 5 _ rfl
    have c6 := B0.cell 6 _ rfl
    have c7 := B0.cell 7 _ rfl
    have c8 := B0.cell 8 _ rfl
    replace B0 := B0.alloc (.cells [.int .u64 t0, .int .u64 t1, .int .u64 t2, .int .u64 t3, .int .u64 t4, .int .u64 t5, .int .u64 t6, .int .u64 t7].toArray 27)
    replace BG := BG.alloc (.cells [.int .u64 t0, .int .u64 t1, .int .u64 t2, .int .u64 t3, .int .u64 t4, .int .u64 t5, .int .u64 t6, .int .u64 t7].toArray 27)
    have BV := Blk.new w3 [.int .u64 t0, .int .u64 t1, .int .u64 t2, .int .u64 t3, .int .u64 t4, .int .u64 t5, .int .u64 t6, .int .u64 t7] 27 w3.heap.size rfl
    replace bel := below_alloc (o := .cells [.int .u64 t0, .int .u64 t1, .int .u64 t2, .int .u64 t3, .int .u64 t4, .int .u64 t5, .int .u64 t6, .int .u64 t7].toArray 27) bel
    have lw : ∀ z, z < w3.heap.size → z ≠ w3.heap.size := fun z h => Nat.ne_of_lt h
    go_wp2_with fail
    obtain ⟨bv, hbv⟩ : ∃ b, b = w3.heap.size := ⟨_, rfl⟩
    clear lw c1 c2 c3 c4 c5 c6 c7 c8
    generalize w3.alloc (Obj.cells #[.int .u64 t0, .int .u64 t1, .int .u64 t2, .int .u64 t3, .int .u64 t4, .int .u64 t5, .int .u64 t6, .int .u64 t7] 27) = W2 at *
    rw [← hbv] at BV lt0 lg ⊢
    clear hbv
    rw [hq2]
    go_loopw [7] (fun iv wx => ∃ k : Nat, k ≤ q ∧ iv = .int .i64 (128 * (k : Int)) ∧ Blk wx bv (us (digN K [t0, t1, t2, t3, t4, t5, t6, t7] M k)) ∧ Blk wx w.heap.size [.slice (some ⟨kb, 0, none⟩) 80 kc, .int .u64 t0, .int .u64 t1, .int .u64 t2, .int .u64 t3, .int .u64 t4, .int .u64 t5, .int .u64 t6, .int .u64 t7] ∧ Blk wx gg cur ∧ Below w.heap.size w wx) (fun iv _ => (128 * (q : Int) - intOf iv).toNat)
    case atStart => exact ⟨0, by omega, rfl, BV, B0, BG, bel⟩
    case round =>
      clear BV B0 BG bel
      obtain ⟨k, hk, rfl, BV, B0, BG, bel⟩ := hrel
      obtain ⟨x0, x1, x2, x3, x4, x5, x6, x7, hx⟩ := eight (digN_len (K := K) (H := [t0, t1, t2, t3, t4, t5, t6, t7]) (M := M) rfl k)
      by_cases hlt : k < q
      · have HS : Hid (digN K [t0, t1, t2, t3, t4, t5, t6, t7] M (k + 1) = stepN K (digN K [t0, t1, t2, t3, t4, t5, t6, t7] M k) ((M.drop (128 * k)).take 128)) := rfl
        rw [hx] at BV HS
        simp only [us, List.map_cons, List.map_nil] at BV
        clear hx
        have g1 : 128 * (k : Int) < ((128 * q : Nat) : Int) := by omega
        have g2 : (0 : Int) ≤ 128 * (k : Int) := by omega
        have gk : IntKind.i64.wrap (128 * (k : Int) + 128) = 128 * (k : Int) + 128 := by rw [IntKind.wrap_i64]; omega
        have g3 : 128 * (k : Int) ≤ 128 * (k : Int) + 128 := by omega
        have g4 : 128 * (k : Int) + 128 ≤ (cap1 : Int) := by omega
        have ne1 : ¬ cap1 = 128 * k := by omega
        have g5 : (128 * (k : Int)).toNat = 128 * k := by omega
        have g6 : (128 * (k : Int) + 128).toNat = 128 * k + 128 := by omega
        obtain ⟨y0, y1, y2, y3, y4, y5, y6, y7, hy⟩ := eight (stepN_len K [x0, x1, x2, x3, x4, x5, x6, x7] ((M.drop (128 * k)).take 128))
        rw [hy] at HS
        have HY : Hid (stepN K [x0, x1, x2, x3, x4, x5, x6, x7] ((M.drop (128 * k)).take 128) = [y0, y1, y2, y3, y4, y5, y6, y7]) := hy
        clear hy
        go_upto_region 7 with fail
        obtain ⟨S1, hS1, KL1, KA1, KD1, KS1, KQ1, KN1, KB1, KM1, KR1⟩ := held3 (w0 := w) (W := wr) [(w.heap.size, [.slice (some ⟨kb, 0, none⟩) 80 kc, .int .u64 t0, .int .u64 t1, .int .u64 t2, .int .u64 t3, .int .u64 t4, .int .u64 t5, .int .u64 t6, .int .u64 t7]), (gg, cur)] (by
          intro b X h
          simp only [List.mem_cons, List.not_mem_nil, or_false, Prod.mk.injEq] at h
          rcases h with ⟨rfl, rfl⟩ | ⟨rfl, rfl⟩
          · exact B0
          · exact BG) bel
        have kb1a : ∀ wx, Hd S1 wx → Blk wx w.heap.size [.slice (some ⟨kb, 0, none⟩) 80 kc, .int .u64 t0, .int .u64 t1, .int .u64 t2, .int .u64 t3, .int .u64 t4, .int .u64 t5, .int .u64 t6, .int .u64 t7] := fun wx h => KM1.out wx _ _ h (List.Mem.head _)
        have r0 := rulec kb1a 0 _ rfl
        have r1 := rulec kb1a 1 _ rfl
        have r2 := rulec kb1a 2 _ rfl
        have r3 := rulec kb1a 3 _ rfl
        have r4 := rulec kb1a 4 _ rfl
        have r5 := rulec kb1a 5 _ rfl
        have r6 := rulec kb1a 6 _ rfl
        have r7 := rulec kb1a 7 _ rfl
        have r8 := rulec kb1a 8 _ rfl
        have rl := ruleb kb1a
        clear kb1a
        have mq : ∀ c X, (c, X) ∈ [((w.heap.size : Nat), ([.slice (some ⟨kb, 0, none⟩) 80 kc, .int .u64 t0, .int .u64 t1, .int .u64 t2, .int .u64 t3, .int .u64 t4, .int .u64 t5, .int .u64 t6, .int .u64 t7] : List Value)), (gg, cur)] → c ≠ bv := by
          intro c X h
          simp only [List.mem_cons, List.not_mem_nil, or_false, Prod.mk.injEq] at h
          omega
        have bsz := bel.size
        clear B0 BG bel KS1 KR1 KA1 KN1
        refine wp_region_noPanic ?_
        refine wp_region_held_drew (S := Hd S1) (by kernel_rfl) (KD1.out _ hS1) (fun hHeld => ?_)
        clear hS1
        replace BV := BV.drew
        generalize World.drew _ = wd at *
        refine wpAnyH_take (i := 0) (v := ?_) rfl (by kernel_rfl) (by kernel_rfl) (by kernel_rfl) (fun _ _ _ h => h) (Or.inl ⟨by rfl, ?_⟩) (by assumption) ?_
        rotate_left
        · intro w hSw
          go_simp
          with_reducible rfl
        try simp only [Act.put, List.setIfInBounds_toArray, List.set_cons_zero, List.set_cons_succ]
        refine wpAnyH_take (i := 2) (v := ?_) rfl (by kernel_rfl) (by kernel_rfl) (by kernel_rfl) (fun _ _ _ h => h) (Or.inl ⟨by rfl, ?_⟩) (by assumption) ?_
        rotate_left
        · intro w hSw
          go_simp
          with_reducible rfl
        try simp only [Act.put, List.setIfInBounds_toArray, List.set_cons_zero, List.set_cons_succ]
        refine wpAnyH_take (i := 3) (v := ?_) rfl (by kernel_rfl) (by kernel_rfl) (by kernel_rfl) (fun _ _ _ h => h) (Or.inl ⟨by rfl, ?_⟩) (by assumption) ?_
        rotate_left
        · intro w hSw
          go_simp
          with_reducible rfl
        try simp only [Act.put, List.setIfInBounds_toArray, List.set_cons_zero, List.set_cons_succ]
        refine wpAnyH_take (i := 4) (v := ?_) rfl (by kernel_rfl) (by kernel_rfl) (by kernel_rfl) (fun _ _ _ h => h) (Or.inl ⟨by rfl, ?_⟩) (by assumption) ?_
        rotate_left
        · intro w hSw
          go_simp
          with_reducible rfl
        try simp only [Act.put, List.setIfInBounds_toArray, List.set_cons_zero, List.set_cons_succ]
        refine wpAnyH_take (i := 5) (v := ?_) rfl (by kernel_rfl) (by kernel_rfl) (by kernel_rfl) (fun _ _ _ h => h) (Or.inl ⟨by rfl, ?_⟩) (by assumption) ?_
        rotate_left
        · intro w hSw
          go_simp
          with_reducible rfl
        try simp only [Act.put, List.setIfInBounds_toArray, List.set_cons_zero, List.set_cons_succ]
        refine wpAnyH_take (i := 6) (v := ?_) rfl (by kernel_rfl) (by kernel_rfl) (by kernel_rfl) (fun _ _ _ h => h) (Or.inl ⟨by rfl, ?_⟩) (by assumption) ?_
        rotate_left
        · intro w hSw
          go_simp
          with_reducible rfl
        try simp only [Act.put, List.setIfInBounds_toArray, List.set_cons_zero, List.set_cons_succ]
        clear r0 r1 r2 r3 r4 r5 r6 r7 r8 rl
        refine wpAnyH_ready (rs := [1]) (by kernel_rfl) (by simp) ?_
        refine AllReadyH.cons rfl (fun K hK => ?_) ?_
        · have lts := BV.lt
          have e0 := BV.cell 0 _ rfl; have i0 := BV.frozen 0; have e1 := BV.cell 1 _ rfl; have i1 := BV.frozen 1; have e2 := BV.cell 2 _ rfl; have i2 := BV.frozen 2; have e3 := BV.cell 3 _ rfl; have i3 := BV.frozen 3; have e4 := BV.cell 4 _ rfl; have i4 := BV.frozen 4; have e5 := BV.cell 5 _ rfl; have i5 := BV.frozen 5; have e6 := BV.cell 6 _ rfl; have i6 := BV.frozen 6; have e7 := BV.cell 7 _ rfl; have i7 := BV.frozen 7
          go_simp
          refine hK.out _ _ ?_ (fun hHeld2 => ?_)
          · exact hHeld
          · clear hK K hHeld
            have hHeld := hHeld2
            clear hHeld2
            try simp only [Act.put, List.setIfInBounds_toArray, List.set_cons_zero, List.set_cons_succ]
            clear lts e0 i0 e1 i1 e2 i2 e3 i3 e4 i4 e5 i5 e6 i6 e7 i7
            refine wpAnyH_ready (rs := [7]) (by kernel_rfl) (by simp) ?_
            refine AllReadyH.cons rfl (fun K hK => ?_) ?_
            · go_simp
              go_fit (r7_StepL (fun j hj => cell_later (HKc.out j hj) (KB1.out _ hHeld)) (bs_cut (n := 128 * q) (KM1.out _ gg cur hHeld (List.Mem.tail _ (List.Mem.head _))) HG.out (by omega) (by have := HLq.out; omega) (by omega) (by unfold maxLen; omega)) (byt_cut bM.out) (len_cut (by have := HLq.out; omega)) HY.out)
              rintro e w' ⟨rfl, hb⟩
              refine hK.out _ _ ?_ (fun hHeld2 => ?_)
              · exact KL1.out _ _ hHeld hb
              · clear hK K hHeld
                have hHeld := hHeld2
                clear hHeld2
                try simp only [Act.put, List.setIfInBounds_toArray, List.set_cons_zero, List.set_cons_succ]
                replace BV := BV.later hb
                clear hb
                refine wpAnyH_ready (rs := [8]) (by kernel_rfl) (by simp) ?_
                refine AllReadyH.cons rfl (fun K hK => ?_) ?_
                · have lts := BV.lt
                  have e0 := BV.cell 0 _ rfl; have i0 := BV.frozen 0; have e1 := BV.cell 1 _ rfl; have i1 := BV.frozen 1; have e2 := BV.cell 2 _ rfl; have i2 := BV.frozen 2; have e3 := BV.cell 3 _ rfl; have i3 := BV.frozen 3; have e4 := BV.cell 4 _ rfl; have i4 := BV.frozen 4; have e5 := BV.cell 5 _ rfl; have i5 := BV.frozen 5; have e6 := BV.cell 6 _ rfl; have i6 := BV.frozen 6; have e7 := BV.cell 7 _ rfl; have i7 := BV.frozen 7
                  go_simp
                  refine hK.out _ _ ?_ (fun hHeld2 => ?_)
                  · exact (KQ1.out _ _ _ _ (KQ1.out _ _ _ _ (KQ1.out _ _ _ _ (KQ1.out _ _ _ _ (KQ1.out _ _ _ _ (KQ1.out _ _ _ _ (KQ1.out _ _ _ _ (KQ1.out _ _ _ _ hHeld (Or.inr mq) (by omega)) (Or.inr mq) (by omega)) (Or.inr mq) (by omega)) (Or.inr mq) (by omega)) (Or.inr mq) (by omega)) (Or.inr mq) (by omega)) (Or.inr mq) (by omega)) (Or.inr mq) (by omega))
                  · clear hK K hHeld
                    have hHeld := hHeld2
                    clear hHeld2
                    try simp only [Act.put, List.setIfInBounds_toArray, List.set_cons_zero, List.set_cons_succ]
                    clear lts e0 i0 e1 i1 e2 i2 e3 i3 e4 i4 e5 i5 e6 i6 e7 i7
                    replace BV := BV.on_put8 hHeld
                    refine wpAnyH_done (by kernel_rfl) ?_ _
                    refine NoPanic.normal ?_
                    have B0 := KM1.out _ w.heap.size _ hHeld (List.Mem.head _)
                    have BG := KM1.out _ gg cur hHeld (List.Mem.tail _ (List.Mem.head _))
                    have bel := KB1.out _ hHeld
                    clear hHeld mq KL1 KD1 KQ1 KB1 KM1
                    generalize World.setCell _ _ _ = w9 at *
                    go_wp2_with fail
                    go_roundw
                    case rel => exact ⟨k + 1, by omega, by go_num, by rw [HS.out]; exact BV, B0, BG, bel⟩
                    case measure => simp [intOf]; omega
                exact AllReadyH.nil
            exact AllReadyH.nil
        exact AllReadyH.nil
      · obtain rfl : k = q := by omega
        have fX := digN_fits (K := K) (M := M) fT k
        have HX : Hid (digN K [t0, t1, t2, t3, t4, t5, t6, t7] M k = [x0, x1, x2, x3, x4, x5, x6, x7]) := hx
        rw [hx] at BV fX
        clear hx
        have g1 : ¬ 128 * (k : Int) < ((128 * k : Nat) : Int) := by omega
        obtain ⟨X, hX⟩ : ∃ X : List Int, X = [x0, x1, x2, x3, x4, x5, x6, x7] := ⟨_, rfl⟩
        have lX : X.length = 8 := by rw [hX]; rfl
        rw [← hX] at BV fX HX
        clear hX BG B0
        have lv := BV.lt
        go_wp2_with fail
        obtain ⟨W3, hW3⟩ : ∃ z, z = wr := ⟨_, rfl⟩
        rw [← hW3] at BV bel lv ⊢
        clear hW3
        have bs3 := bel.size
        go_loopw [8, 9] (fun ov iv wx => ∃ (i : Nat) (O : List Int), i ≤ 6 ∧ iv = .int .i64 i ∧ wx.ownsRow W3.heap.size 5 1 ov (8 * i) (u8s O) ∧ Hid (OutB X i O) ∧ Blk wx bv (us X) ∧ Below w.heap.size w wx ∧ W3.heap.size ≤ wx.heap.size) (fun _ iv _ => 6 - (intOf iv).toNat)
        case atStart => exact ⟨0, [], by omega, rfl, World.ownsRow_nil _ _ _ _, rfl, BV, bel, Nat.le_refl _⟩
        case round =>
          clear BV bel
          obtain ⟨i, O, hi, rfl, hown, HO, BV, bel, hs3⟩ := hrel
          by_cases hil : i < 6
          · have cx := BV.cell i _ (us_get X i (by omega))
            have HY : Hid (X.getD i 0 = X.getD i 0) := rfl
            have fy := fX i
            obtain ⟨y, hy⟩ : ∃ y, X.getD i 0 = y := ⟨_, rfl⟩
            rw [hy] at cx fy
            have HYe : Hid (X.getD i 0 = y) := hy
            clear hy HY
            have g1 : (i : Int) < 6 := by omega
            have g2 : (0 : Int) ≤ (i : Int) := by omega
            have g3 : (i : Int) < 8 := by omega
            have g4 : (i : Int).toNat = i := by omega
            have gi : IntKind.i64.wrap ((i : Int) + 1) = (i : Int) + 1 := by rw [IntKind.wrap_i64]; omega
            have fN := fits_one1 fy.1 fy.2
            have SL := sl_one wr y 26
            have lv := BV.lt
            go_wp2_with fail
            replace bel := bel.alloc (by omega) (.cells #[.int .u64 y] 26)
            replace hown := hown.alloc (.cells #[.int .u64 y] 26)
            replace BV := BV.alloc (.cells #[.int .u64 y] 26)
            have hs4 : W3.heap.size ≤ (wr.alloc (.cells #[.int .u64 y] 26)).heap.size := by simp; omega
            clear hs3 lv cx
            generalize wr.alloc (Obj.cells #[.int .u64 y] 26) = W4 at *
            refine (of_any _ [y] _ SL (by simp) (by simp) fN).mono ?_
            rintro e w5 ⟨v5, rfl, N5, hb⟩
            replace hown := own_later hown hb
            replace BV := BV.later hb
            replace hs4 := Nat.le_trans hs4 hb.size
            replace bel := below_step bel hb
            clear hb SL
            have e1 : v64 [y] = y := by show y + 18446744073709551616 * 0 = _; omega
            rw [e1] at N5
            clear e1
            go_wp2_with fail
            refine (rbytes_any8 _ _ _ N5 (Int.lt_of_lt_of_le fy.2 (by decide))).mono ?_
            rintro e w6 ⟨gb, Z, rfl, BX, lZ, bZ, nZ, hb⟩
            replace hown := own_later hown hb
            replace BV := BV.later hb
            replace hs4 := Nat.le_trans hs4 hb.size
            replace bel := below_step bel hb
            clear hb N5
            have HO2 : Hid (OutB X (i + 1) (O ++ Z)) := ⟨O, Z, rfl, HO.out, lZ, bZ, by rw [nZ, HYe.out]⟩
            have HL : Hid (Z.length = 8) := lZ
            have HE : Hid (u8s O ++ u8s Z = u8s (O ++ Z)) := by simp [u8s, Hid]
            have HB : Hid _ := BX
            clear bZ nZ lZ BX
            go_wp2_with (first | (at_builtin; refine wpList_append_lies _ (by rfl) _ _ _ (by rfl) W3.heap.size 5 i0 _ 1 1 Tryd.underlying22 hi0 hz0 hz1 hz2 rfl (by omega) _ _ _ (by rfl) hown ⟨gb, 0, none⟩ 8 8 (u8s Z) (by rfl) (by simp [u8s, HL.out]) (blk_news HB.out) (by simp [u8s, Value.oneCell']) (by omega) (by unfold maxLen; omega) (by omega) (by omega) w6.heap.size rfl ?_; intro gg cap1 w7 hown1 hgrow hat hlt1) | fail)
            go_roundw
            case rel => exact ⟨i + 1, O ++ Z, by omega, by go_num, by rw [HE.out] at hown1; exact hown1, HO2, blk_grown (base := W3.heap.size) BV hgrow (by omega) (fun j hj => own_ge hown hj), Below.grown bel hgrow bel.size (fun j hj => Nat.le_trans (by omega) (own_ge hown hj)), Nat.le_trans hs4 hgrow.size⟩
            case measure => simp [intOf]; omega
          · obtain rfl : i = 6 := by omega
            have g1 : ¬ ((6 : Nat) : Int) < 6 := by omega
            go_wp2_with fail
            go_ret
            exact ⟨_, rfl, ⟨P, O, HPd.out, by rw [HMB.out, HQq.out, HX.out]; exact HO.out, own_mono hown bs3⟩, bel⟩

end Go.Proofs.YtbglkbfnhnmodaaDoor
