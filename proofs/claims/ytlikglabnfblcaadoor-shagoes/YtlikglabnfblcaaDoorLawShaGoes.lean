/- The law ShaGoes answers true: a digest goes block by block. -/
import Derived.Test.YtlikglabnfblcaaDoorRows
import Derived.Test.YtlikglabnfblcaaDoorSLaw
import Derived.Test.YtlikglabnfblcaaDoorLawShaSums
import Derived.Test.YtlikglabnfblcaaDoorSOut
import Derived.Deep.WholeRow
import Derived.Deep.RegionHeld3
import Derived.Deep.DeepCutAuto
import Derived.Deep.DeepFit
namespace Go.Proofs.YtlikglabnfblcaaDoor
open Go.RowKit

theorem bs_newsW {w : World} {b o n cap : Nat} {D : List Int} (h : Bs w (.slice (some ⟨b, o, none⟩) n cap) D) (h0 : 0 < n) : ∀ j u, (u8s D)[j]? = some u → w.cell? ((⟨b, o, none⟩ : Addr).add j) = some u := fun j u hu => by
  have hc := bs_cells h h0
  have e0 : (⟨b, o, none⟩ : Addr).add j = ⟨b, o + j, none⟩ := by unfold Addr.add; split <;> simp_all
  have hj : j < D.length := by
    have := (List.getElem?_eq_some_iff.1 hu).1
    simpa using this
  rw [e0, hc.2 j hj]
  rw [u8s_get D j hj] at hu
  exact hu

theorem new8_of {S : World → Prop} {w : World} {t : TypeId} (_ : Hd S (w.alloc (Obj.cells #[.int .u64 0, .int .u64 0, .int .u64 0, .int .u64 0, .int .u64 0, .int .u64 0, .int .u64 0, .int .u64 0] t))) : ∃ b, b = w.heap.size ∧ Blk (w.alloc (Obj.cells #[.int .u64 0, .int .u64 0, .int .u64 0, .int .u64 0, .int .u64 0, .int .u64 0, .int .u64 0, .int .u64 0] t)) b (us [0, 0, 0, 0, 0, 0, 0, 0]) := ⟨_, rfl, Blk.new w (us [0, 0, 0, 0, 0, 0, 0, 0]) t _ rfl⟩
theorem Blk.on_al {S : World → Prop} {w : World} {o : Obj} {b : Nat} {X : List Value} (B : Blk w b X) (_ : Hd S (w.alloc o)) : Blk (w.alloc o) b X := B.alloc o
theorem blk_put8 {w : World} {b : Nat} {x0 x1 x2 x3 x4 x5 x6 x7 y0 y1 y2 y3 y4 y5 y6 y7 : Int} (B : Blk w b (us [x0, x1, x2, x3, x4, x5, x6, x7])) : Blk (((((((((w.setCell ⟨b, 0, none⟩ (.int .u64 y0)).setCell ⟨b, 1, none⟩ (.int .u64 y1)).setCell ⟨b, 2, none⟩ (.int .u64 y2)).setCell ⟨b, 3, none⟩ (.int .u64 y3)).setCell ⟨b, 4, none⟩ (.int .u64 y4)).setCell ⟨b, 5, none⟩ (.int .u64 y5)).setCell ⟨b, 6, none⟩ (.int .u64 y6)).setCell ⟨b, 7, none⟩ (.int .u64 y7))) b (us [y0, y1, y2, y3, y4, y5, y6, y7]) :=
  (((((((B.setu 0 y0).setu 1 y1).setu 2 y2).setu 3 y3).setu 4 y4).setu 5 y5).setu 6 y6).setu 7 y7
theorem blk_far8 {w : World} {b c : Nat} {X : List Value} {y0 y1 y2 y3 y4 y5 y6 y7 : Int} (h : Blk w c X) (hc : c ≠ b) : Blk (((((((((w.setCell ⟨b, 0, none⟩ (.int .u64 y0)).setCell ⟨b, 1, none⟩ (.int .u64 y1)).setCell ⟨b, 2, none⟩ (.int .u64 y2)).setCell ⟨b, 3, none⟩ (.int .u64 y3)).setCell ⟨b, 4, none⟩ (.int .u64 y4)).setCell ⟨b, 5, none⟩ (.int .u64 y5)).setCell ⟨b, 6, none⟩ (.int .u64 y6)).setCell ⟨b, 7, none⟩ (.int .u64 y7))) c X := ((((((((h.other _ _ hc).other _ _ hc).other _ _ hc).other _ _ hc).other _ _ hc).other _ _ hc).other _ _ hc).other _ _ hc)

set_option linter.unusedSimpArgs false in
set_option maxRecDepth 100000 in
set_option maxHeartbeats 2000000 in
theorem goes_short {v : Value} {B : List Int} {w : World} (G : GlsS w) (hv : Bs w v B) (hB : byt B) (hl : ¬ 20000 < B.length) :
    Calls Tryd.prog 5 #[v] w fun e w' => e = .returned (.bool true) ∧ Below w.heap.size w w' := by
  obtain ⟨i0, hi0, hz0, hz1, hz2⟩ := info_parts info_b8
  have hv0 := hv
  obtain ⟨ao, cap, rfl, c1, c2, c3⟩ := hv0
  unfold maxLen at c1
  have hli : ¬ (20000 : Int) < ((B.length : Nat) : Int) := by omega
  clear c3
  go_enter Tryd.func5, Tryd.ntmps5
  go_upto_region 3 with fail
  obtain ⟨D, hD⟩ : ∃ D, D = B := ⟨_, rfl⟩
  rw [← hD] at hv hB hl c2 ⊢
  have bD : byt D := hB
  obtain ⟨n, lD⟩ : ∃ n, D.length = n := ⟨_, rfl⟩
  have hn : n ≤ 20000 := by omega
  rw [lD] at hv c2 ⊢
  have hli2 : ¬ (20000 : Int) < (n : Int) := by omega
  have hli3 : decide ((20000 : Int) < (n : Int)) = false := decide_eq_false hli2
  try rw [hli3]
  clear hli3
  have n2 : n ≤ 20000 := by omega
  have hc2 : n ≤ cap := by omega
  clear hD hB hl hli hn c2
  have HD : Hid (byt D) := bD
  have HLD : Hid (D.length = n) := lD
  clear bD
  have hvw := hv
  go_wp2_with fail
  refine (con_Pad (n := n) (by omega)).mono ?_
  rintro e w1 ⟨pv, P, rfl, hP, bP, bel⟩
  replace hv := hv.later bel
  have bs1 := bel.size
  have pl := hP.len
  have zl : zsN n < 128 := Nat.mod_lt _ (by decide)
  have HPd : Hid (PadIs n P) := hP
  have p0 : 0 < P.length := by omega
  have hl2 : n + P.length ≤ 20500 := by omega
  have HQ : Hid ((n + P.length) % 128 = 0) := by
    show _ = _
    rw [pl]
    unfold zsN
    omega
  clear pl zl hP
  obtain ⟨gp, op, cp, rfl, cp1, cp2⟩ := bP.form p0
  unfold maxLen at cp2
  have q1 := nil_ne
  go_upto_region 6 with fail
  have own0 := own_made w1 [] 5 0 w1.heap.size rfl (Nat.le_refl _) (by decide)
  have HM2 : Hid ((u8s P).length = P.length * 1) := by simp [u8s, Hid]
  have HP1 : Hid (∀ j u, (u8s P)[j]? = some u → (w1.alloc (.cells #[] 5)).cell? ((⟨gp, op, none⟩ : Addr).add j) = some u) := bs_newsW (bP.later ((Below.refl _ _).alloc (Nat.le_refl _) _)) p0
  go_cut [5] (fun av wx => ∃ gg cap1, av = .slice (some ⟨gg, 0, none⟩) (n + P.length) cap1 ∧ wx.ownsRow w1.heap.size 5 1 av (n + P.length) (u8s (D ++ P)) ∧ Below w1.heap.size w1 wx)
  case first =>
    by_cases h0 : n = 0
    · obtain rfl : D = [] := List.eq_nil_of_length_eq_zero (by omega)
      subst h0
      cases ao
      all_goals go_wp2_with (first | (at_builtin; refine wpList_append_lies _ (by rfl) _ _ _ (by rfl) w1.heap.size 5 i0 _ 1 1 Tryd.underlying24 hi0 hz0 hz1 hz2 rfl (by omega) _ _ _ (by rfl) own0 ⟨gp, op, none⟩ P.length cp (u8s P) (by rfl) HM2.out HP1.out (by simp [u8s, Value.oneCell']) (by omega) (by unfold maxLen; omega) (by omega) (by simp) (w1.heap.size + 1) (by simp) ?_; intro gg cap1 w2 hown1 hgrow hat hlt1) | fail)
      all_goals go_meet
      all_goals exact ⟨gg, cap1, by simp, by simpa using hown1, Below.grown ((Below.refl _ _).alloc (Nat.le_refl _) _) hgrow (by simp) (fun j hj => own_ge own0 hj)⟩
    · have hv1 := hv
      obtain ⟨b, o, cap', hve, _, _⟩ := hv1.form (by omega)
      simp only [Value.slice.injEq] at hve
      obtain ⟨rfl, -, -⟩ := hve
      have hc0 := bs_cells hv (by omega)
      have HN : Hid (∀ j u, (u8s D)[j]? = some u → (w1.alloc (.cells #[] 5)).cell? ((⟨b, o, none⟩ : Addr).add j) = some u) := bs_news hc0.1 hc0.2 _
      have HM : Hid ((u8s D).length = n * 1) := by simp [u8s, Hid, lD]
      clear hc0
      go_wp2_with (first | (at_builtin; refine wpList_append_lies _ (by rfl) _ _ _ (by rfl) w1.heap.size 5 i0 _ 1 1 Tryd.underlying24 hi0 hz0 hz1 hz2 rfl (by omega) _ _ _ (by rfl) own0 ⟨b, o, none⟩ n cap (u8s D) (by rfl) HM.out HN.out (by simp [u8s, Value.oneCell']) (by omega) (by unfold maxLen; omega) (by omega) (by simp) (w1.heap.size + 1) (by simp) ?_; intro gg cap1 w2 hown1 hgrow hat hlt1; replace hown1 : w2.ownsRow w1.heap.size 5 1 (.slice (some ⟨gg, 0, none⟩) n cap1) n (u8s D) := by simpa using hown1) | (at_builtin; refine wpList_append_lies _ (by rfl) _ _ _ (by rfl) w1.heap.size 5 i0 _ 1 1 Tryd.underlying24 hi0 hz0 hz1 hz2 rfl (by omega) _ _ _ (by rfl) hown1 ⟨gp, op, none⟩ P.length cp (u8s P) (by rfl) HM2.out (bs_newsW (bP.later (Below.grown ((Below.refl _ _).alloc (Nat.le_refl _) _) hgrow (by simp) (fun j hj => own_ge own0 hj))) p0) (by simp [u8s, Value.oneCell']) (by omega) (by unfold maxLen; omega) (by omega) (Nat.le_trans (by simp) hgrow.size) w2.heap.size rfl ?_; intro gg2 cap2 w3 hown2 hgrow2 hat2 hlt2) | fail)
      go_meet
      exact ⟨gg2, cap2, by simp, by simpa [u8s] using hown2, (Below.grown ((Below.refl _ _).alloc (Nat.le_refl _) _) hgrow (by simp) (fun j hj => own_ge own0 hj)).trans (Below.grown (Below.refl _ _) hgrow2 (Nat.le_trans (by simp) hgrow.size) (fun j hj => own_ge hown1 hj))⟩
  case rest =>
    obtain ⟨gg, cap1, rfl, hown, hbw⟩ := hcut
    replace bel := below_step bel hbw
    clear hbw own0 hv bP HP1 HM2
    obtain ⟨M, hM⟩ : ∃ M, D ++ P = M := ⟨_, rfl⟩
    have HMB : Hid (D ++ P = M) := hM
    rw [hM] at hown
    have lM : M.length = n + P.length := by rw [← hM, List.length_append, lD]
    have bM : Hid (byt M) := by rw [← hM]; exact byt_app HD.out HPd.out.byt
    obtain ⟨q, hq⟩ : ∃ q, (n + P.length) / 128 = q := ⟨_, rfl⟩
    have hq2 : n + P.length = 128 * q := by have := HQ.out; omega
    have HLq : Hid (M.length = 128 * q) := by show _ = _; omega
    have HQq : Hid (M.length / 128 = q) := by show _ = _; omega
    have qb : 128 * q ≤ 20500 := by omega
    rw [hq2] at hown ⊢
    clear hM hq lM hq2 hl2 lD
    obtain ⟨hg0, cur, BG, hcur, k1, k2⟩ := row_u8 hown
    have HG : Hid (∀ j, j < 128 * q → cur[j]? = some (.int .u8 (M.getD j 0))) := hcur
    clear hcur hown
    unfold maxLen at k2
    go_wp2_with fail
    refine (con_BeginL (G.below bel)).mono ?_
    rintro e w4 ⟨rfl, hb⟩
    replace BG := BG.later hb
    replace bel := below_step bel hb
    clear hb
    have lg := BG.lt
    have bs4 := bel.size
    replace BG := BG.alloc (.cells [.int .u64 14680500436340154072, .int .u64 7105036623409894663, .int .u64 10473403895298186519, .int .u64 1526699215303891257, .int .u64 7436329637833083697, .int .u64 10282925794625328401, .int .u64 15784041429090275239, .int .u64 5167115440072839076].toArray 23)
    have BV := Blk.new w4 [.int .u64 14680500436340154072, .int .u64 7105036623409894663, .int .u64 10473403895298186519, .int .u64 1526699215303891257, .int .u64 7436329637833083697, .int .u64 10282925794625328401, .int .u64 15784041429090275239, .int .u64 5167115440072839076] 23 w4.heap.size rfl
    replace bel := below_alloc (o := .cells [.int .u64 14680500436340154072, .int .u64 7105036623409894663, .int .u64 10473403895298186519, .int .u64 1526699215303891257, .int .u64 7436329637833083697, .int .u64 10282925794625328401, .int .u64 15784041429090275239, .int .u64 5167115440072839076].toArray 23) bel
    have lw : ∀ z, z < w4.heap.size → z ≠ w4.heap.size := fun z h => Nat.ne_of_lt h
    go_wp2_with fail
    obtain ⟨bv, hbv⟩ : ∃ b, b = w4.heap.size := ⟨_, rfl⟩
    clear lw
    generalize w4.alloc (Obj.cells #[.int .u64 14680500436340154072, .int .u64 7105036623409894663, .int .u64 10473403895298186519, .int .u64 1526699215303891257, .int .u64 7436329637833083697, .int .u64 10282925794625328401, .int .u64 15784041429090275239, .int .u64 5167115440072839076] 23) = W5 at *
    rw [← hbv] at BV lg bs4 ⊢
    clear hbv
    go_loopw [7] (fun iv wx => ∃ k : Nat, k ≤ q ∧ iv = .int .i64 (128 * (k : Int)) ∧ Blk wx bv (us (digN KS HS M k)) ∧ Blk wx gg cur ∧ Below w.heap.size w wx) (fun iv _ => (128 * (q : Int) + 128 - intOf iv).toNat)
    case atStart => exact ⟨0, by omega, rfl, BV, BG, bel⟩
    case round =>
      clear BV BG bel
      obtain ⟨k, hk, rfl, BV, BG, bel⟩ := hrel
      obtain ⟨x0, x1, x2, x3, x4, x5, x6, x7, hx⟩ := eight (digN_len (K := KS) (H := HS) (M := M) rfl k)
      by_cases hlt : k < q
      · have HS_ : Hid (digN KS HS M (k + 1) = stepN KS (digN KS HS M k) ((M.drop (128 * k)).take 128)) := rfl
        have fX := digN_fits (K := KS) (M := M) fits_HS k
        rw [hx] at BV HS_ fX
        simp only [us, List.map_cons, List.map_nil] at BV
        clear hx
        have g1 : 128 * (k : Int) + 128 ≤ ((128 * q : Nat) : Int) := by omega
        have g2 : (0 : Int) ≤ 128 * (k : Int) := by omega
        have gk : IntKind.i64.wrap (128 * (k : Int) + 128) = 128 * (k : Int) + 128 := by rw [IntKind.wrap_i64]; omega
        have g3 : 128 * (k : Int) ≤ 128 * (k : Int) + 128 := by omega
        have g4 : 128 * (k : Int) + 128 ≤ (cap1 : Int) := by omega
        have ne1 : ¬ cap1 = 128 * k := by omega
        have g5 : (128 * (k : Int)).toNat = 128 * k := by omega
        have g6 : (128 * (k : Int) + 128).toNat = 128 * k + 128 := by omega
        obtain ⟨y0, y1, y2, y3, y4, y5, y6, y7, hy⟩ := eight (stepN_len KS [x0, x1, x2, x3, x4, x5, x6, x7] ((M.drop (128 * k)).take 128))
        rw [hy] at HS_
        have HY : Hid (stepN KS [x0, x1, x2, x3, x4, x5, x6, x7] ((M.drop (128 * k)).take 128) = [y0, y1, y2, y3, y4, y5, y6, y7]) := hy
        clear hy
        go_upto_region 11 with fail
        obtain ⟨S1, hS1, KL1, KA1, KD1, KS1, KQ1, KN1, KB1, KM1, KR1⟩ := held3 (w0 := w) (W := wr) [(bv, [.int .u64 x0, .int .u64 x1, .int .u64 x2, .int .u64 x3, .int .u64 x4, .int .u64 x5, .int .u64 x6, .int .u64 x7]), (gg, cur)] (by
          intro b X h
          simp only [List.mem_cons, List.not_mem_nil, or_false, Prod.mk.injEq] at h
          rcases h with ⟨rfl, rfl⟩ | ⟨rfl, rfl⟩
          · exact BV
          · exact BG) bel
        have kb1a : ∀ wx, Hd S1 wx → Blk wx bv [.int .u64 x0, .int .u64 x1, .int .u64 x2, .int .u64 x3, .int .u64 x4, .int .u64 x5, .int .u64 x6, .int .u64 x7] := fun wx h => KM1.out wx _ _ h (List.Mem.head _)
        have r0 := rulec kb1a 0 _ rfl
        have r1 := rulec kb1a 1 _ rfl
        have r2 := rulec kb1a 2 _ rfl
        have r3 := rulec kb1a 3 _ rfl
        have r4 := rulec kb1a 4 _ rfl
        have r5 := rulec kb1a 5 _ rfl
        have r6 := rulec kb1a 6 _ rfl
        have r7 := rulec kb1a 7 _ rfl
        have rl := ruleb kb1a
        clear kb1a
        have bsz := bel.size
        clear BV BG bel KS1 KR1
        go_cut [8, 9] from 31 to 50 (fun vp ev wx => ∃ b2 : Nat, vp = .pointer (some ⟨b2, 0, none⟩) ∧ ev = .nilIface ∧ wr.heap.size ≤ b2 ∧ Blk wx b2 (us [y0, y1, y2, y3, y4, y5, y6, y7]) ∧ Hd S1 wx)
        case first =>
          refine wp_region_noPanic ?_
          refine wp_region_held_drew (S := Hd S1) (by kernel_rfl) (KD1.out _ hS1) (fun hHeld => ?_)
          clear hS1
          generalize World.drew _ = wd at *
          refine wpAnyH_take (i := 0) (v := ?_) rfl (by kernel_rfl) (by kernel_rfl) (by kernel_rfl) (fun _ _ _ h => h) (Or.inl ⟨by kernel_rfl, ?_⟩) (by assumption) ?_
          rotate_left
          · intro w hSw
            go_simp
            with_reducible rfl
          try simp only [Act.put, List.setIfInBounds_toArray, List.set_cons_zero, List.set_cons_succ]
          refine wpAnyH_take (i := 1) (v := ?_) rfl (by kernel_rfl) (by kernel_rfl) (by kernel_rfl) (fun _ _ _ h => h) (Or.inl ⟨by kernel_rfl, ?_⟩) (by assumption) ?_
          rotate_left
          · intro w hSw
            go_simp
            with_reducible rfl
          try simp only [Act.put, List.setIfInBounds_toArray, List.set_cons_zero, List.set_cons_succ]
          refine wpAnyH_take (i := 2) (v := ?_) rfl (by kernel_rfl) (by kernel_rfl) (by kernel_rfl) (fun _ _ _ h => h) (Or.inl ⟨by kernel_rfl, ?_⟩) (by assumption) ?_
          rotate_left
          · intro w hSw
            go_simp
            with_reducible rfl
          try simp only [Act.put, List.setIfInBounds_toArray, List.set_cons_zero, List.set_cons_succ]
          refine wpAnyH_take (i := 3) (v := ?_) rfl (by kernel_rfl) (by kernel_rfl) (by kernel_rfl) (fun _ _ _ h => h) (Or.inl ⟨by kernel_rfl, ?_⟩) (by assumption) ?_
          rotate_left
          · intro w hSw
            go_simp
            with_reducible rfl
          try simp only [Act.put, List.setIfInBounds_toArray, List.set_cons_zero, List.set_cons_succ]
          refine wpAnyH_take (i := 4) (v := ?_) rfl (by kernel_rfl) (by kernel_rfl) (by kernel_rfl) (fun _ _ _ h => h) (Or.inl ⟨by kernel_rfl, ?_⟩) (by assumption) ?_
          rotate_left
          · intro w hSw
            go_simp
            with_reducible rfl
          try simp only [Act.put, List.setIfInBounds_toArray, List.set_cons_zero, List.set_cons_succ]
          refine wpAnyH_take (i := 5) (v := ?_) rfl (by kernel_rfl) (by kernel_rfl) (by kernel_rfl) (fun _ _ _ h => h) (Or.inl ⟨by kernel_rfl, ?_⟩) (by assumption) ?_
          rotate_left
          · intro w hSw
            go_simp
            with_reducible rfl
          try simp only [Act.put, List.setIfInBounds_toArray, List.set_cons_zero, List.set_cons_succ]
          clear r0 r1 r2 r3 r4 r5 r6 r7 rl
          refine wpAnyH_ready (rs := [6, 10]) (by kernel_rfl) (by simp) ?_
          refine AllReadyH.cons rfl (fun K hK => ?_) ?_
          · go_simp
            go_fit (con_StepL (G.below (KB1.out _ hHeld)) fX (bs_cut (n := 128 * q) (KM1.out _ gg cur hHeld (List.Mem.tail _ (List.Mem.head _))) HG.out (by omega) (by have := HLq.out; omega) (by omega) (by unfold maxLen; omega)) (byt_cut bM.out) (len_cut (by have := HLq.out; omega)) HY.out)
            rintro e w' ⟨rfl, hb⟩
            refine hK.out _ _ ?_ (fun hHeld2 => ?_)
            · exact KL1.out _ _ hHeld hb
            · clear hK K hHeld
              have hHeld := hHeld2
              clear hHeld2
              try simp only [Act.put, List.setIfInBounds_toArray, List.set_cons_zero, List.set_cons_succ]
              clear hb
              refine wpAnyH_take (i := 7) (v := ?_) rfl (by kernel_rfl) (by kernel_rfl) (by kernel_rfl) (fun _ _ _ h => h) (Or.inl ⟨by kernel_rfl, ?_⟩) (by assumption) ?_
              rotate_left
              · intro w hSw
                go_simp
                with_reducible rfl
              try simp only [Act.put, List.setIfInBounds_toArray, List.set_cons_zero, List.set_cons_succ]
              refine wpAnyH_take (i := 8) (v := ?_) rfl (by kernel_rfl) (by kernel_rfl) (by kernel_rfl) (fun _ _ _ h => h) (Or.inl ⟨by kernel_rfl, ?_⟩) (by assumption) ?_
              rotate_left
              · intro w hSw
                go_simp
                with_reducible rfl
              try simp only [Act.put, List.setIfInBounds_toArray, List.set_cons_zero, List.set_cons_succ]
              refine wpAnyH_take (i := 9) (v := ?_) rfl (by kernel_rfl) (by kernel_rfl) (by kernel_rfl) (fun _ _ _ h => h) (Or.inl ⟨by kernel_rfl, ?_⟩) (by assumption) ?_
              rotate_left
              · intro w hSw
                go_simp
                with_reducible rfl
              try simp only [Act.put, List.setIfInBounds_toArray, List.set_cons_zero, List.set_cons_succ]
              refine wpAnyH_ready (rs := [10]) (by kernel_rfl) (by simp) ?_
              refine AllReadyH.cons rfl (fun K hK => ?_) ?_
              · have hlt2 := KN1.out _ hHeld
                go_simp
                refine hK.out _ _ ?_ (fun hHeld2 => ?_)
                · exact KA1.out _ _ hHeld
                · clear hK K hHeld
                  have hHeld := hHeld2
                  clear hHeld2
                  try simp only [Act.put, List.setIfInBounds_toArray, List.set_cons_zero, List.set_cons_succ]
                  obtain ⟨bn, hbn, BN⟩ := new8_of hHeld
                  rw [← hbn]
                  have lbn : wr.heap.size ≤ bn := by omega
                  clear hlt2 hbn
                  generalize World.alloc _ _ = w9 at *
                  refine wpAnyH_ready (rs := [11]) (by kernel_rfl) (by simp) ?_
                  refine AllReadyH.cons rfl (fun K hK => ?_) ?_
                  · have ltb := BN.lt
                    have e0 := BN.cell 0 _ rfl; have i0 := BN.frozen 0; have e1 := BN.cell 1 _ rfl; have i1 := BN.frozen 1; have e2 := BN.cell 2 _ rfl; have i2 := BN.frozen 2; have e3 := BN.cell 3 _ rfl; have i3 := BN.frozen 3; have e4 := BN.cell 4 _ rfl; have i4 := BN.frozen 4; have e5 := BN.cell 5 _ rfl; have i5 := BN.frozen 5; have e6 := BN.cell 6 _ rfl; have i6 := BN.frozen 6; have e7 := BN.cell 7 _ rfl; have i7 := BN.frozen 7
                    go_simp
                    refine hK.out _ _ ?_ (fun hHeld2 => ?_)
                    · exact (KQ1.out _ _ _ _ (KQ1.out _ _ _ _ (KQ1.out _ _ _ _ (KQ1.out _ _ _ _ (KQ1.out _ _ _ _ (KQ1.out _ _ _ _ (KQ1.out _ _ _ _ (KQ1.out _ _ _ _ hHeld (Or.inl (by omega)) (by omega)) (Or.inl (by omega)) (by omega)) (Or.inl (by omega)) (by omega)) (Or.inl (by omega)) (by omega)) (Or.inl (by omega)) (by omega)) (Or.inl (by omega)) (by omega)) (Or.inl (by omega)) (by omega)) (Or.inl (by omega)) (by omega))
                    · clear hK K hHeld
                      have hHeld := hHeld2
                      clear hHeld2
                      try simp only [Act.put, List.setIfInBounds_toArray, List.set_cons_zero, List.set_cons_succ]
                      clear ltb e0 i0 e1 i1 e2 i2 e3 i3 e4 i4 e5 i5 e6 i6 e7 i7
                      replace BN := BN.on_put8 hHeld
                      refine wpAnyH_ready (rs := [12]) (by kernel_rfl) (by simp) ?_
                      refine AllReadyH.cons rfl (fun K hK => ?_) ?_
                      · go_simp
                        refine hK.out _ _ ?_ (fun hHeld2 => ?_)
                        · exact hHeld
                        · clear hK K hHeld
                          have hHeld := hHeld2
                          clear hHeld2
                          try simp only [Act.put, List.setIfInBounds_toArray, List.set_cons_zero, List.set_cons_succ]
                          refine wpAnyH_done (by kernel_rfl) ?_ _
                          refine NoPanic.normal ?_
                          go_wp2_with fail
                          go_meet
                          exact ⟨bn, rfl, rfl, by omega, BN, hHeld⟩
                      exact AllReadyH.nil
                  exact AllReadyH.nil
              exact AllReadyH.nil
          refine AllReadyH.cons rfl (fun K hK => ?_) ?_
          · have hlt2 := KN1.out _ hHeld
            go_simp
            refine hK.out _ _ ?_ (fun hHeld2 => ?_)
            · exact KA1.out _ _ hHeld
            · clear hK K hHeld
              have hHeld := hHeld2
              clear hHeld2
              try simp only [Act.put, List.setIfInBounds_toArray, List.set_cons_zero, List.set_cons_succ]
              obtain ⟨bn, hbn, BN⟩ := new8_of hHeld
              rw [← hbn]
              have lbn : wr.heap.size ≤ bn := by omega
              clear hlt2 hbn
              generalize World.alloc _ _ = w9 at *
              refine wpAnyH_ready (rs := [6]) (by kernel_rfl) (by simp) ?_
              refine AllReadyH.cons rfl (fun K hK => ?_) ?_
              · go_simp
                go_fit (con_StepL (G.below (KB1.out _ hHeld)) fX (bs_cut (n := 128 * q) (KM1.out _ gg cur hHeld (List.Mem.tail _ (List.Mem.head _))) HG.out (by omega) (by have := HLq.out; omega) (by omega) (by unfold maxLen; omega)) (byt_cut bM.out) (len_cut (by have := HLq.out; omega)) HY.out)
                rintro e w' ⟨rfl, hb⟩
                refine hK.out _ _ ?_ (fun hHeld2 => ?_)
                · exact KL1.out _ _ hHeld hb
                · clear hK K hHeld
                  have hHeld := hHeld2
                  clear hHeld2
                  try simp only [Act.put, List.setIfInBounds_toArray, List.set_cons_zero, List.set_cons_succ]
                  replace BN := BN.later hb
                  clear hb
                  refine wpAnyH_take (i := 7) (v := ?_) rfl (by kernel_rfl) (by kernel_rfl) (by kernel_rfl) (fun _ _ _ h => h) (Or.inl ⟨by kernel_rfl, ?_⟩) (by assumption) ?_
                  rotate_left
                  · intro w hSw
                    go_simp
                    with_reducible rfl
                  try simp only [Act.put, List.setIfInBounds_toArray, List.set_cons_zero, List.set_cons_succ]
                  refine wpAnyH_take (i := 8) (v := ?_) rfl (by kernel_rfl) (by kernel_rfl) (by kernel_rfl) (fun _ _ _ h => h) (Or.inl ⟨by kernel_rfl, ?_⟩) (by assumption) ?_
                  rotate_left
                  · intro w hSw
                    go_simp
                    with_reducible rfl
                  try simp only [Act.put, List.setIfInBounds_toArray, List.set_cons_zero, List.set_cons_succ]
                  refine wpAnyH_take (i := 9) (v := ?_) rfl (by kernel_rfl) (by kernel_rfl) (by kernel_rfl) (fun _ _ _ h => h) (Or.inl ⟨by kernel_rfl, ?_⟩) (by assumption) ?_
                  rotate_left
                  · intro w hSw
                    go_simp
                    with_reducible rfl
                  try simp only [Act.put, List.setIfInBounds_toArray, List.set_cons_zero, List.set_cons_succ]
                  refine wpAnyH_ready (rs := [11]) (by kernel_rfl) (by simp) ?_
                  refine AllReadyH.cons rfl (fun K hK => ?_) ?_
                  · have ltb := BN.lt
                    have e0 := BN.cell 0 _ rfl; have i0 := BN.frozen 0; have e1 := BN.cell 1 _ rfl; have i1 := BN.frozen 1; have e2 := BN.cell 2 _ rfl; have i2 := BN.frozen 2; have e3 := BN.cell 3 _ rfl; have i3 := BN.frozen 3; have e4 := BN.cell 4 _ rfl; have i4 := BN.frozen 4; have e5 := BN.cell 5 _ rfl; have i5 := BN.frozen 5; have e6 := BN.cell 6 _ rfl; have i6 := BN.frozen 6; have e7 := BN.cell 7 _ rfl; have i7 := BN.frozen 7
                    go_simp
                    refine hK.out _ _ ?_ (fun hHeld2 => ?_)
                    · exact (KQ1.out _ _ _ _ (KQ1.out _ _ _ _ (KQ1.out _ _ _ _ (KQ1.out _ _ _ _ (KQ1.out _ _ _ _ (KQ1.out _ _ _ _ (KQ1.out _ _ _ _ (KQ1.out _ _ _ _ hHeld (Or.inl (by omega)) (by omega)) (Or.inl (by omega)) (by omega)) (Or.inl (by omega)) (by omega)) (Or.inl (by omega)) (by omega)) (Or.inl (by omega)) (by omega)) (Or.inl (by omega)) (by omega)) (Or.inl (by omega)) (by omega)) (Or.inl (by omega)) (by omega))
                    · clear hK K hHeld
                      have hHeld := hHeld2
                      clear hHeld2
                      try simp only [Act.put, List.setIfInBounds_toArray, List.set_cons_zero, List.set_cons_succ]
                      clear ltb e0 i0 e1 i1 e2 i2 e3 i3 e4 i4 e5 i5 e6 i6 e7 i7
                      replace BN := BN.on_put8 hHeld
                      refine wpAnyH_ready (rs := [12]) (by kernel_rfl) (by simp) ?_
                      refine AllReadyH.cons rfl (fun K hK => ?_) ?_
                      · go_simp
                        refine hK.out _ _ ?_ (fun hHeld2 => ?_)
                        · exact hHeld
                        · clear hK K hHeld
                          have hHeld := hHeld2
                          clear hHeld2
                          try simp only [Act.put, List.setIfInBounds_toArray, List.set_cons_zero, List.set_cons_succ]
                          refine wpAnyH_done (by kernel_rfl) ?_ _
                          refine NoPanic.normal ?_
                          go_wp2_with fail
                          go_meet
                          exact ⟨bn, rfl, rfl, by omega, BN, hHeld⟩
                      exact AllReadyH.nil
                  exact AllReadyH.nil
              exact AllReadyH.nil
          exact AllReadyH.nil
        case rest =>
          clear hS1
          obtain ⟨b2, rfl, rfl, hb2, B2, hS1⟩ := hcut
          have BV := KM1.out _ bv _ hS1 (List.Mem.head _)
          have BG := KM1.out _ gg cur hS1 (List.Mem.tail _ (List.Mem.head _))
          have bel := KB1.out _ hS1
          clear hS1 KL1 KA1 KD1 KQ1 KN1 KB1 KM1 rl r0 r1 r2 r3 r4 r5 r6 r7
          simp only [us, List.map_cons, List.map_nil] at B2
          have l2 := B2.lt
          have lv := BV.lt
          have e0 := B2.cell 0 _ rfl
          have e1 := B2.cell 1 _ rfl
          have e2 := B2.cell 2 _ rfl
          have e3 := B2.cell 3 _ rfl
          have e4 := B2.cell 4 _ rfl
          have e5 := B2.cell 5 _ rfl
          have e6 := B2.cell 6 _ rfl
          have e7 := B2.cell 7 _ rfl
          have d0 := BV.cell 0 _ rfl; have i0 := BV.frozen 0; have d1 := BV.cell 1 _ rfl; have i1 := BV.frozen 1; have d2 := BV.cell 2 _ rfl; have i2 := BV.frozen 2; have d3 := BV.cell 3 _ rfl; have i3 := BV.frozen 3; have d4 := BV.cell 4 _ rfl; have i4 := BV.frozen 4; have d5 := BV.cell 5 _ rfl; have i5 := BV.frozen 5; have d6 := BV.cell 6 _ rfl; have i6 := BV.frozen 6; have d7 := BV.cell 7 _ rfl; have i7 := BV.frozen 7
          go_wp2_with fail
          go_roundw
          case rel => exact ⟨k + 1, by omega, by go_num, by rw [HS_.out]; exact blk_put8 BV, blk_far8 BG (by omega), below_put8 bel (by omega)⟩
          case measure => simp [intOf]; omega
      · obtain rfl : k = q := by omega
        have g1 : ¬ 128 * (k : Int) + 128 ≤ ((128 * k : Nat) : Int) := by omega
        have gk : IntKind.i64.wrap (128 * (k : Int) + 128) = 128 * (k : Int) + 128 := by rw [IntKind.wrap_i64]; omega
        obtain ⟨X, hX⟩ : ∃ X, digN KS HS M k = X := ⟨_, rfl⟩
        have lX : X.length = 8 := by rw [← hX]; exact digN_len rfl k
        have fX : Hid (fits X) := by rw [← hX]; exact digN_fits fits_HS k
        have HX : Hid (digN KS HS M k = X) := hX
        rw [hX] at BV
        clear hX hx BG
        go_wp2_with fail
        refine (con_Sum (G.below bel) (hvw.later bel) HD.out (by rw [HLD.out]; exact n2)).mono ?_
        rintro e w6 ⟨v6, O, rfl, hS, b6, hb⟩
        replace BV := BV.later hb
        replace bel := below_step bel hb
        clear hb
        have l48 : O.length = 48 := hS.len
        obtain ⟨P', h1', h2'⟩ := hS
        rw [HLD.out] at h1'
        obtain rfl := HPd.out.one h1'
        rw [HMB.out, HQq.out, HX.out] at h2'
        have HO : Hid (OutB X 6 O) := h2'
        clear h1' h2'
        obtain ⟨g6, o6, k6, rfl, d1, d2⟩ := b6.form (by omega)
        rw [l48] at b6 d1 ⊢
        unfold maxLen at d2
        have c6 := bs_cells b6 (by decide)
        rw [l48] at c6
        have H6 : Hid (∀ j, j < 48 → w6.cell? ⟨g6, o6 + j, none⟩ = some (.int .u8 (O.getD j 0))) := c6.2
        have l6 := c6.1
        clear c6
        have m1 : ((128 * k : Nat) : Int).tmod 128 = 0 := by rw [Int.tmod_eq_emod_of_nonneg (by omega)]; omega
        have m2 : ((128 * k : Nat) : Int) % 128 = 0 := by omega
        go_wp2_with fail
        go_loopw [11] (fun iv wx => ∃ i : Nat, i ≤ 48 ∧ iv = .int .i64 i ∧ Below w6.heap.size w6 wx) (fun iv _ => 48 - (intOf iv).toNat)
        case atStart => exact ⟨0, by omega, rfl, Below.refl _ _⟩
        case round =>
          obtain ⟨i, hi, rfl, hbx⟩ := hrel
          by_cases hil : i < 48
          · have xs := cell_later (H6.out i hil) hbx
            have xh := cell_later (BV.cell (i / 8) _ (us_get X (i / 8) (by omega))) hbx
            have HB : Hid _ := HO.out.get i (by omega)
            have fx := fX.out (i / 8)
            obtain ⟨a, ha⟩ : ∃ a, O.getD i 0 = a := ⟨_, rfl⟩
            obtain ⟨x, hx⟩ : ∃ x, X.getD (i / 8) 0 = x := ⟨_, rfl⟩
            obtain ⟨r, hr⟩ : ∃ r, i % 8 = r := ⟨_, rfl⟩
            obtain ⟨d, hd⟩ : ∃ d, i / 8 = d := ⟨_, rfl⟩
            rw [ha] at xs HB
            rw [hx] at xh HB fx
            rw [hr] at HB
            rw [hd] at xh
            have t1 : (i : Int).tdiv 8 = (d : Int) := by rw [Int.tdiv_eq_ediv_of_nonneg (by omega)]; omega
            have t2 : (i : Int) / 8 = (d : Int) := by omega
            have t3 : (i : Int).tmod 8 = (r : Int) := by rw [Int.tmod_eq_emod_of_nonneg (by omega)]; omega
            have t4 : (i : Int) % 8 = (r : Int) := by omega
            have t5 : IntKind.i64.wrap (d : Int) = (d : Int) := by rw [IntKind.wrap_i64]; omega
            have t6 : IntKind.i64.wrap (8 * (r : Int)) = 8 * (r : Int) := by rw [IntKind.wrap_i64]; omega
            have t7 : IntKind.i64.wrap (56 - 8 * (r : Int)) = 56 - 8 * (r : Int) := by rw [IntKind.wrap_i64]; omega
            have t8 : ¬ (56 - 8 * (r : Int)) < 0 := by omega
            have t9 : (56 - 8 * (r : Int)).toNat = 56 - 8 * r := by omega
            have t0 : 8 * (r : Int) ≤ 56 := by omega
            have d8 : (d : Int) < 8 := by omega
            have d0 : (0 : Int) ≤ (d : Int) := by omega
            have dn : (d : Int).toNat = d := by omega
            have gA : (i : Int) < 48 := by omega
            have gB : (0 : Int) ≤ (i : Int) := by omega
            have gi : IntKind.i64.wrap ((i : Int) + 1) = (i : Int) + 1 := by rw [IntKind.wrap_i64]; omega
            have wv : IntKind.u8.wrap (x / 2 ^ (56 - 8 * r)) = a := by rw [HB.out]; exact IntKind.wrap_u8 _
            clear ha hx hr hd fx HB
            have lv := BV.lt
            have lv2 := Nat.lt_of_lt_of_le lv hbx.size
            go_upto_region 21 with fail
            go_region
            all_goals go_wp2
            all_goals go_roundw
            case rel => exact ⟨i + 1, by omega, by go_num, hbx.drew⟩
            case measure => simp [intOf]; omega
          · obtain rfl : i = 48 := by omega
            have gA : ¬ ((48 : Nat) : Int) < 48 := by omega
            go_wp2_with fail
            go_ret
            exact ⟨rfl, below_step bel hbx⟩

set_option linter.unusedSimpArgs false in
set_option maxRecDepth 100000 in
set_option maxHeartbeats 2000000 in
theorem goes_long {v : Value} {B : List Int} {w : World} (G : GlsS w) (hv : Bs w v B) (hB : byt B) (hl : 20000 < B.length) :
    Calls Tryd.prog 5 #[v] w fun e w' => e = .returned (.bool true) ∧ Below w.heap.size w w' := by
  obtain ⟨i0, hi0, hz0, hz1, hz2⟩ := info_parts info_b8
  have hv0 := hv
  obtain ⟨ao, cap, rfl, c1, c2, c3⟩ := hv0
  unfold maxLen at c1
  have hli : (20000 : Int) < ((B.length : Nat) : Int) := by omega
  obtain ⟨b, o, rfl, _, _⟩ := c3 (by omega)
  have hcap : (20000 : Int) ≤ (cap : Int) := by omega
  clear c3
  go_enter Tryd.func5, Tryd.ntmps5
  go_upto_region 3 with fail
  replace hv := bs_take hv hl
  obtain ⟨D, hD⟩ : ∃ D, B.take 20000 = D := ⟨_, rfl⟩
  have bD : byt D := by rw [← hD]; exact byt_take hB _
  have lD : D.length = 20000 := by rw [← hD, List.length_take]; omega
  rw [hD] at hv
  obtain ⟨n, hn⟩ : ∃ n, n = 20000 := ⟨_, rfl⟩
  rw [← hn] at hv lD ⊢
  have n1 : 0 < n := by omega
  have n2 : n ≤ 20000 := by omega
  have hc2 : n ≤ cap := by omega
  clear hD hB hl hli hcap c2 hn
  have HD : Hid (byt D) := bD
  have HLD : Hid (D.length = n) := lD
  clear bD
  have hvw := hv
  go_wp2_with fail
  refine (con_Pad (n := n) (by omega)).mono ?_
  rintro e w1 ⟨pv, P, rfl, hP, bP, bel⟩
  replace hv := hv.later bel
  have bs1 := bel.size
  have pl := hP.len
  have zl : zsN n < 128 := Nat.mod_lt _ (by decide)
  have HPd : Hid (PadIs n P) := hP
  have p0 : 0 < P.length := by omega
  have hl2 : n + P.length ≤ 20500 := by omega
  have HQ : Hid ((n + P.length) % 128 = 0) := by
    show _ = _
    rw [pl]
    unfold zsN
    omega
  clear pl zl hP
  obtain ⟨gp, op, cp, rfl, cp1, cp2⟩ := bP.form p0
  unfold maxLen at cp2
  have q1 := nil_ne
  go_upto_region 6 with fail
  have own0 := own_made w1 [] 5 0 w1.heap.size rfl (Nat.le_refl _) (by decide)
  have HM2 : Hid ((u8s P).length = P.length * 1) := by simp [u8s, Hid]
  have HP1 : Hid (∀ j u, (u8s P)[j]? = some u → (w1.alloc (.cells #[] 5)).cell? ((⟨gp, op, none⟩ : Addr).add j) = some u) := bs_newsW (bP.later ((Below.refl _ _).alloc (Nat.le_refl _) _)) p0
  go_cut [5] (fun av wx => ∃ gg cap1, av = .slice (some ⟨gg, 0, none⟩) (n + P.length) cap1 ∧ wx.ownsRow w1.heap.size 5 1 av (n + P.length) (u8s (D ++ P)) ∧ Below w1.heap.size w1 wx)
  case first =>
    have hc0 := bs_cells hv (by omega)
    have HN : Hid (∀ j u, (u8s D)[j]? = some u → (w1.alloc (.cells #[] 5)).cell? ((⟨b, o, none⟩ : Addr).add j) = some u) := bs_news hc0.1 hc0.2 _
    have HM : Hid ((u8s D).length = n * 1) := by simp [u8s, Hid, lD]
    clear hc0
    go_wp2_with (first | (at_builtin; refine wpList_append_lies _ (by rfl) _ _ _ (by rfl) w1.heap.size 5 i0 _ 1 1 Tryd.underlying24 hi0 hz0 hz1 hz2 rfl (by omega) _ _ _ (by rfl) own0 ⟨b, o, none⟩ n cap (u8s D) (by rfl) HM.out HN.out (by simp [u8s, Value.oneCell']) (by omega) (by unfold maxLen; omega) (by omega) (by simp) (w1.heap.size + 1) (by simp) ?_; intro gg cap1 w2 hown1 hgrow hat hlt1; replace hown1 : w2.ownsRow w1.heap.size 5 1 (.slice (some ⟨gg, 0, none⟩) n cap1) n (u8s D) := by simpa using hown1) | (at_builtin; refine wpList_append_lies _ (by rfl) _ _ _ (by rfl) w1.heap.size 5 i0 _ 1 1 Tryd.underlying24 hi0 hz0 hz1 hz2 rfl (by omega) _ _ _ (by rfl) hown1 ⟨gp, op, none⟩ P.length cp (u8s P) (by rfl) HM2.out (bs_newsW (bP.later (Below.grown ((Below.refl _ _).alloc (Nat.le_refl _) _) hgrow (by simp) (fun j hj => own_ge own0 hj))) p0) (by simp [u8s, Value.oneCell']) (by omega) (by unfold maxLen; omega) (by omega) (Nat.le_trans (by simp) hgrow.size) w2.heap.size rfl ?_; intro gg2 cap2 w3 hown2 hgrow2 hat2 hlt2) | fail)
    go_meet
    exact ⟨gg2, cap2, by simp, by simpa [u8s] using hown2, (Below.grown ((Below.refl _ _).alloc (Nat.le_refl _) _) hgrow (by simp) (fun j hj => own_ge own0 hj)).trans (Below.grown (Below.refl _ _) hgrow2 (Nat.le_trans (by simp) hgrow.size) (fun j hj => own_ge hown1 hj))⟩
  case rest =>
    obtain ⟨gg, cap1, rfl, hown, hbw⟩ := hcut
    replace bel := below_step bel hbw
    clear hbw own0 hv bP HP1 HM2
    obtain ⟨M, hM⟩ : ∃ M, D ++ P = M := ⟨_, rfl⟩
    have HMB : Hid (D ++ P = M) := hM
    rw [hM] at hown
    have lM : M.length = n + P.length := by rw [← hM, List.length_append, lD]
    have bM : Hid (byt M) := by rw [← hM]; exact byt_app HD.out HPd.out.byt
    obtain ⟨q, hq⟩ : ∃ q, (n + P.length) / 128 = q := ⟨_, rfl⟩
    have hq2 : n + P.length = 128 * q := by have := HQ.out; omega
    have HLq : Hid (M.length = 128 * q) := by show _ = _; omega
    have HQq : Hid (M.length / 128 = q) := by show _ = _; omega
    have qb : 128 * q ≤ 20500 := by omega
    rw [hq2] at hown ⊢
    clear hM hq lM hq2 hl2 lD
    obtain ⟨hg0, cur, BG, hcur, k1, k2⟩ := row_u8 hown
    have HG : Hid (∀ j, j < 128 * q → cur[j]? = some (.int .u8 (M.getD j 0))) := hcur
    clear hcur hown
    unfold maxLen at k2
    go_wp2_with fail
    refine (con_BeginL (G.below bel)).mono ?_
    rintro e w4 ⟨rfl, hb⟩
    replace BG := BG.later hb
    replace bel := below_step bel hb
    clear hb
    have lg := BG.lt
    have bs4 := bel.size
    replace BG := BG.alloc (.cells [.int .u64 14680500436340154072, .int .u64 7105036623409894663, .int .u64 10473403895298186519, .int .u64 1526699215303891257, .int .u64 7436329637833083697, .int .u64 10282925794625328401, .int .u64 15784041429090275239, .int .u64 5167115440072839076].toArray 23)
    have BV := Blk.new w4 [.int .u64 14680500436340154072, .int .u64 7105036623409894663, .int .u64 10473403895298186519, .int .u64 1526699215303891257, .int .u64 7436329637833083697, .int .u64 10282925794625328401, .int .u64 15784041429090275239, .int .u64 5167115440072839076] 23 w4.heap.size rfl
    replace bel := below_alloc (o := .cells [.int .u64 14680500436340154072, .int .u64 7105036623409894663, .int .u64 10473403895298186519, .int .u64 1526699215303891257, .int .u64 7436329637833083697, .int .u64 10282925794625328401, .int .u64 15784041429090275239, .int .u64 5167115440072839076].toArray 23) bel
    have lw : ∀ z, z < w4.heap.size → z ≠ w4.heap.size := fun z h => Nat.ne_of_lt h
    go_wp2_with fail
    obtain ⟨bv, hbv⟩ : ∃ b, b = w4.heap.size := ⟨_, rfl⟩
    clear lw
    generalize w4.alloc (Obj.cells #[.int .u64 14680500436340154072, .int .u64 7105036623409894663, .int .u64 10473403895298186519, .int .u64 1526699215303891257, .int .u64 7436329637833083697, .int .u64 10282925794625328401, .int .u64 15784041429090275239, .int .u64 5167115440072839076] 23) = W5 at *
    rw [← hbv] at BV lg bs4 ⊢
    clear hbv
    go_loopw [7] (fun iv wx => ∃ k : Nat, k ≤ q ∧ iv = .int .i64 (128 * (k : Int)) ∧ Blk wx bv (us (digN KS HS M k)) ∧ Blk wx gg cur ∧ Below w.heap.size w wx) (fun iv _ => (128 * (q : Int) + 128 - intOf iv).toNat)
    case atStart => exact ⟨0, by omega, rfl, BV, BG, bel⟩
    case round =>
      clear BV BG bel
      obtain ⟨k, hk, rfl, BV, BG, bel⟩ := hrel
      obtain ⟨x0, x1, x2, x3, x4, x5, x6, x7, hx⟩ := eight (digN_len (K := KS) (H := HS) (M := M) rfl k)
      by_cases hlt : k < q
      · have HS_ : Hid (digN KS HS M (k + 1) = stepN KS (digN KS HS M k) ((M.drop (128 * k)).take 128)) := rfl
        have fX := digN_fits (K := KS) (M := M) fits_HS k
        rw [hx] at BV HS_ fX
        simp only [us, List.map_cons, List.map_nil] at BV
        clear hx
        have g1 : 128 * (k : Int) + 128 ≤ ((128 * q : Nat) : Int) := by omega
        have g2 : (0 : Int) ≤ 128 * (k : Int) := by omega
        have gk : IntKind.i64.wrap (128 * (k : Int) + 128) = 128 * (k : Int) + 128 := by rw [IntKind.wrap_i64]; omega
        have g3 : 128 * (k : Int) ≤ 128 * (k : Int) + 128 := by omega
        have g4 : 128 * (k : Int) + 128 ≤ (cap1 : Int) := by omega
        have ne1 : ¬ cap1 = 128 * k := by omega
        have g5 : (128 * (k : Int)).toNat = 128 * k := by omega
        have g6 : (128 * (k : Int) + 128).toNat = 128 * k + 128 := by omega
        obtain ⟨y0, y1, y2, y3, y4, y5, y6, y7, hy⟩ := eight (stepN_len KS [x0, x1, x2, x3, x4, x5, x6, x7] ((M.drop (128 * k)).take 128))
        rw [hy] at HS_
        have HY : Hid (stepN KS [x0, x1, x2, x3, x4, x5, x6, x7] ((M.drop (128 * k)).take 128) = [y0, y1, y2, y3, y4, y5, y6, y7]) := hy
        clear hy
        go_upto_region 11 with fail
        obtain ⟨S1, hS1, KL1, KA1, KD1, KS1, KQ1, KN1, KB1, KM1, KR1⟩ := held3 (w0 := w) (W := wr) [(bv, [.int .u64 x0, .int .u64 x1, .int .u64 x2, .int .u64 x3, .int .u64 x4, .int .u64 x5, .int .u64 x6, .int .u64 x7]), (gg, cur)] (by
          intro b X h
          simp only [List.mem_cons, List.not_mem_nil, or_false, Prod.mk.injEq] at h
          rcases h with ⟨rfl, rfl⟩ | ⟨rfl, rfl⟩
          · exact BV
          · exact BG) bel
        have kb1a : ∀ wx, Hd S1 wx → Blk wx bv [.int .u64 x0, .int .u64 x1, .int .u64 x2, .int .u64 x3, .int .u64 x4, .int .u64 x5, .int .u64 x6, .int .u64 x7] := fun wx h => KM1.out wx _ _ h (List.Mem.head _)
        have r0 := rulec kb1a 0 _ rfl
        have r1 := rulec kb1a 1 _ rfl
        have r2 := rulec kb1a 2 _ rfl
        have r3 := rulec kb1a 3 _ rfl
        have r4 := rulec kb1a 4 _ rfl
        have r5 := rulec kb1a 5 _ rfl
        have r6 := rulec kb1a 6 _ rfl
        have r7 := rulec kb1a 7 _ rfl
        have rl := ruleb kb1a
        clear kb1a
        have bsz := bel.size
        clear BV BG bel KS1 KR1
        go_cut [8, 9] from 31 to 50 (fun vp ev wx => ∃ b2 : Nat, vp = .pointer (some ⟨b2, 0, none⟩) ∧ ev = .nilIface ∧ wr.heap.size ≤ b2 ∧ Blk wx b2 (us [y0, y1, y2, y3, y4, y5, y6, y7]) ∧ Hd S1 wx)
        case first =>
          refine wp_region_noPanic ?_
          refine wp_region_held_drew (S := Hd S1) (by kernel_rfl) (KD1.out _ hS1) (fun hHeld => ?_)
          clear hS1
          generalize World.drew _ = wd at *
          refine wpAnyH_take (i := 0) (v := ?_) rfl (by kernel_rfl) (by kernel_rfl) (by kernel_rfl) (fun _ _ _ h => h) (Or.inl ⟨by kernel_rfl, ?_⟩) (by assumption) ?_
          rotate_left
          · intro w hSw
            go_simp
            with_reducible rfl
          try simp only [Act.put, List.setIfInBounds_toArray, List.set_cons_zero, List.set_cons_succ]
          refine wpAnyH_take (i := 1) (v := ?_) rfl (by kernel_rfl) (by kernel_rfl) (by kernel_rfl) (fun _ _ _ h => h) (Or.inl ⟨by kernel_rfl, ?_⟩) (by assumption) ?_
          rotate_left
          · intro w hSw
            go_simp
            with_reducible rfl
          try simp only [Act.put, List.setIfInBounds_toArray, List.set_cons_zero, List.set_cons_succ]
          refine wpAnyH_take (i := 2) (v := ?_) rfl (by kernel_rfl) (by kernel_rfl) (by kernel_rfl) (fun _ _ _ h => h) (Or.inl ⟨by kernel_rfl, ?_⟩) (by assumption) ?_
          rotate_left
          · intro w hSw
            go_simp
            with_reducible rfl
          try simp only [Act.put, List.setIfInBounds_toArray, List.set_cons_zero, List.set_cons_succ]
          refine wpAnyH_take (i := 3) (v := ?_) rfl (by kernel_rfl) (by kernel_rfl) (by kernel_rfl) (fun _ _ _ h => h) (Or.inl ⟨by kernel_rfl, ?_⟩) (by assumption) ?_
          rotate_left
          · intro w hSw
            go_simp
            with_reducible rfl
          try simp only [Act.put, List.setIfInBounds_toArray, List.set_cons_zero, List.set_cons_succ]
          refine wpAnyH_take (i := 4) (v := ?_) rfl (by kernel_rfl) (by kernel_rfl) (by kernel_rfl) (fun _ _ _ h => h) (Or.inl ⟨by kernel_rfl, ?_⟩) (by assumption) ?_
          rotate_left
          · intro w hSw
            go_simp
            with_reducible rfl
          try simp only [Act.put, List.setIfInBounds_toArray, List.set_cons_zero, List.set_cons_succ]
          refine wpAnyH_take (i := 5) (v := ?_) rfl (by kernel_rfl) (by kernel_rfl) (by kernel_rfl) (fun _ _ _ h => h) (Or.inl ⟨by kernel_rfl, ?_⟩) (by assumption) ?_
          rotate_left
          · intro w hSw
            go_simp
            with_reducible rfl
          try simp only [Act.put, List.setIfInBounds_toArray, List.set_cons_zero, List.set_cons_succ]
          clear r0 r1 r2 r3 r4 r5 r6 r7 rl
          refine wpAnyH_ready (rs := [6, 10]) (by kernel_rfl) (by simp) ?_
          refine AllReadyH.cons rfl (fun K hK => ?_) ?_
          · go_simp
            go_fit (con_StepL (G.below (KB1.out _ hHeld)) fX (bs_cut (n := 128 * q) (KM1.out _ gg cur hHeld (List.Mem.tail _ (List.Mem.head _))) HG.out (by omega) (by have := HLq.out; omega) (by omega) (by unfold maxLen; omega)) (byt_cut bM.out) (len_cut (by have := HLq.out; omega)) HY.out)
            rintro e w' ⟨rfl, hb⟩
            refine hK.out _ _ ?_ (fun hHeld2 => ?_)
            · exact KL1.out _ _ hHeld hb
            · clear hK K hHeld
              have hHeld := hHeld2
              clear hHeld2
              try simp only [Act.put, List.setIfInBounds_toArray, List.set_cons_zero, List.set_cons_succ]
              clear hb
              refine wpAnyH_take (i := 7) (v := ?_) rfl (by kernel_rfl) (by kernel_rfl) (by kernel_rfl) (fun _ _ _ h => h) (Or.inl ⟨by kernel_rfl, ?_⟩) (by assumption) ?_
              rotate_left
              · intro w hSw
                go_simp
                with_reducible rfl
              try simp only [Act.put, List.setIfInBounds_toArray, List.set_cons_zero, List.set_cons_succ]
              refine wpAnyH_take (i := 8) (v := ?_) rfl (by kernel_rfl) (by kernel_rfl) (by kernel_rfl) (fun _ _ _ h => h) (Or.inl ⟨by kernel_rfl, ?_⟩) (by assumption) ?_
              rotate_left
              · intro w hSw
                go_simp
                with_reducible rfl
              try simp only [Act.put, List.setIfInBounds_toArray, List.set_cons_zero, List.set_cons_succ]
              refine wpAnyH_take (i := 9) (v := ?_) rfl (by kernel_rfl) (by kernel_rfl) (by kernel_rfl) (fun _ _ _ h => h) (Or.inl ⟨by kernel_rfl, ?_⟩) (by assumption) ?_
              rotate_left
              · intro w hSw
                go_simp
                with_reducible rfl
              try simp only [Act.put, List.setIfInBounds_toArray, List.set_cons_zero, List.set_cons_succ]
              refine wpAnyH_ready (rs := [10]) (by kernel_rfl) (by simp) ?_
              refine AllReadyH.cons rfl (fun K hK => ?_) ?_
              · have hlt2 := KN1.out _ hHeld
                go_simp
                refine hK.out _ _ ?_ (fun hHeld2 => ?_)
                · exact KA1.out _ _ hHeld
                · clear hK K hHeld
                  have hHeld := hHeld2
                  clear hHeld2
                  try simp only [Act.put, List.setIfInBounds_toArray, List.set_cons_zero, List.set_cons_succ]
                  obtain ⟨bn, hbn, BN⟩ := new8_of hHeld
                  rw [← hbn]
                  have lbn : wr.heap.size ≤ bn := by omega
                  clear hlt2 hbn
                  generalize World.alloc _ _ = w9 at *
                  refine wpAnyH_ready (rs := [11]) (by kernel_rfl) (by simp) ?_
                  refine AllReadyH.cons rfl (fun K hK => ?_) ?_
                  · have ltb := BN.lt
                    have e0 := BN.cell 0 _ rfl; have i0 := BN.frozen 0; have e1 := BN.cell 1 _ rfl; have i1 := BN.frozen 1; have e2 := BN.cell 2 _ rfl; have i2 := BN.frozen 2; have e3 := BN.cell 3 _ rfl; have i3 := BN.frozen 3; have e4 := BN.cell 4 _ rfl; have i4 := BN.frozen 4; have e5 := BN.cell 5 _ rfl; have i5 := BN.frozen 5; have e6 := BN.cell 6 _ rfl; have i6 := BN.frozen 6; have e7 := BN.cell 7 _ rfl; have i7 := BN.frozen 7
                    go_simp
                    refine hK.out _ _ ?_ (fun hHeld2 => ?_)
                    · exact (KQ1.out _ _ _ _ (KQ1.out _ _ _ _ (KQ1.out _ _ _ _ (KQ1.out _ _ _ _ (KQ1.out _ _ _ _ (KQ1.out _ _ _ _ (KQ1.out _ _ _ _ (KQ1.out _ _ _ _ hHeld (Or.inl (by omega)) (by omega)) (Or.inl (by omega)) (by omega)) (Or.inl (by omega)) (by omega)) (Or.inl (by omega)) (by omega)) (Or.inl (by omega)) (by omega)) (Or.inl (by omega)) (by omega)) (Or.inl (by omega)) (by omega)) (Or.inl (by omega)) (by omega))
                    · clear hK K hHeld
                      have hHeld := hHeld2
                      clear hHeld2
                      try simp only [Act.put, List.setIfInBounds_toArray, List.set_cons_zero, List.set_cons_succ]
                      clear ltb e0 i0 e1 i1 e2 i2 e3 i3 e4 i4 e5 i5 e6 i6 e7 i7
                      replace BN := BN.on_put8 hHeld
                      refine wpAnyH_ready (rs := [12]) (by kernel_rfl) (by simp) ?_
                      refine AllReadyH.cons rfl (fun K hK => ?_) ?_
                      · go_simp
                        refine hK.out _ _ ?_ (fun hHeld2 => ?_)
                        · exact hHeld
                        · clear hK K hHeld
                          have hHeld := hHeld2
                          clear hHeld2
                          try simp only [Act.put, List.setIfInBounds_toArray, List.set_cons_zero, List.set_cons_succ]
                          refine wpAnyH_done (by kernel_rfl) ?_ _
                          refine NoPanic.normal ?_
                          go_wp2_with fail
                          go_meet
                          exact ⟨bn, rfl, rfl, by omega, BN, hHeld⟩
                      exact AllReadyH.nil
                  exact AllReadyH.nil
              exact AllReadyH.nil
          refine AllReadyH.cons rfl (fun K hK => ?_) ?_
          · have hlt2 := KN1.out _ hHeld
            go_simp
            refine hK.out _ _ ?_ (fun hHeld2 => ?_)
            · exact KA1.out _ _ hHeld
            · clear hK K hHeld
              have hHeld := hHeld2
              clear hHeld2
              try simp only [Act.put, List.setIfInBounds_toArray, List.set_cons_zero, List.set_cons_succ]
              obtain ⟨bn, hbn, BN⟩ := new8_of hHeld
              rw [← hbn]
              have lbn : wr.heap.size ≤ bn := by omega
              clear hlt2 hbn
              generalize World.alloc _ _ = w9 at *
              refine wpAnyH_ready (rs := [6]) (by kernel_rfl) (by simp) ?_
              refine AllReadyH.cons rfl (fun K hK => ?_) ?_
              · go_simp
                go_fit (con_StepL (G.below (KB1.out _ hHeld)) fX (bs_cut (n := 128 * q) (KM1.out _ gg cur hHeld (List.Mem.tail _ (List.Mem.head _))) HG.out (by omega) (by have := HLq.out; omega) (by omega) (by unfold maxLen; omega)) (byt_cut bM.out) (len_cut (by have := HLq.out; omega)) HY.out)
                rintro e w' ⟨rfl, hb⟩
                refine hK.out _ _ ?_ (fun hHeld2 => ?_)
                · exact KL1.out _ _ hHeld hb
                · clear hK K hHeld
                  have hHeld := hHeld2
                  clear hHeld2
                  try simp only [Act.put, List.setIfInBounds_toArray, List.set_cons_zero, List.set_cons_succ]
                  replace BN := BN.later hb
                  clear hb
                  refine wpAnyH_take (i := 7) (v := ?_) rfl (by kernel_rfl) (by kernel_rfl) (by kernel_rfl) (fun _ _ _ h => h) (Or.inl ⟨by kernel_rfl, ?_⟩) (by assumption) ?_
                  rotate_left
                  · intro w hSw
                    go_simp
                    with_reducible rfl
                  try simp only [Act.put, List.setIfInBounds_toArray, List.set_cons_zero, List.set_cons_succ]
                  refine wpAnyH_take (i := 8) (v := ?_) rfl (by kernel_rfl) (by kernel_rfl) (by kernel_rfl) (fun _ _ _ h => h) (Or.inl ⟨by kernel_rfl, ?_⟩) (by assumption) ?_
                  rotate_left
                  · intro w hSw
                    go_simp
                    with_reducible rfl
                  try simp only [Act.put, List.setIfInBounds_toArray, List.set_cons_zero, List.set_cons_succ]
                  refine wpAnyH_take (i := 9) (v := ?_) rfl (by kernel_rfl) (by kernel_rfl) (by kernel_rfl) (fun _ _ _ h => h) (Or.inl ⟨by kernel_rfl, ?_⟩) (by assumption) ?_
                  rotate_left
                  · intro w hSw
                    go_simp
                    with_reducible rfl
                  try simp only [Act.put, List.setIfInBounds_toArray, List.set_cons_zero, List.set_cons_succ]
                  refine wpAnyH_ready (rs := [11]) (by kernel_rfl) (by simp) ?_
                  refine AllReadyH.cons rfl (fun K hK => ?_) ?_
                  · have ltb := BN.lt
                    have e0 := BN.cell 0 _ rfl; have i0 := BN.frozen 0; have e1 := BN.cell 1 _ rfl; have i1 := BN.frozen 1; have e2 := BN.cell 2 _ rfl; have i2 := BN.frozen 2; have e3 := BN.cell 3 _ rfl; have i3 := BN.frozen 3; have e4 := BN.cell 4 _ rfl; have i4 := BN.frozen 4; have e5 := BN.cell 5 _ rfl; have i5 := BN.frozen 5; have e6 := BN.cell 6 _ rfl; have i6 := BN.frozen 6; have e7 := BN.cell 7 _ rfl; have i7 := BN.frozen 7
                    go_simp
                    refine hK.out _ _ ?_ (fun hHeld2 => ?_)
                    · exact (KQ1.out _ _ _ _ (KQ1.out _ _ _ _ (KQ1.out _ _ _ _ (KQ1.out _ _ _ _ (KQ1.out _ _ _ _ (KQ1.out _ _ _ _ (KQ1.out _ _ _ _ (KQ1.out _ _ _ _ hHeld (Or.inl (by omega)) (by omega)) (Or.inl (by omega)) (by omega)) (Or.inl (by omega)) (by omega)) (Or.inl (by omega)) (by omega)) (Or.inl (by omega)) (by omega)) (Or.inl (by omega)) (by omega)) (Or.inl (by omega)) (by omega)) (Or.inl (by omega)) (by omega))
                    · clear hK K hHeld
                      have hHeld := hHeld2
                      clear hHeld2
                      try simp only [Act.put, List.setIfInBounds_toArray, List.set_cons_zero, List.set_cons_succ]
                      clear ltb e0 i0 e1 i1 e2 i2 e3 i3 e4 i4 e5 i5 e6 i6 e7 i7
                      replace BN := BN.on_put8 hHeld
                      refine wpAnyH_ready (rs := [12]) (by kernel_rfl) (by simp) ?_
                      refine AllReadyH.cons rfl (fun K hK => ?_) ?_
                      · go_simp
                        refine hK.out _ _ ?_ (fun hHeld2 => ?_)
                        · exact hHeld
                        · clear hK K hHeld
                          have hHeld := hHeld2
                          clear hHeld2
                          try simp only [Act.put, List.setIfInBounds_toArray, List.set_cons_zero, List.set_cons_succ]
                          refine wpAnyH_done (by kernel_rfl) ?_ _
                          refine NoPanic.normal ?_
                          go_wp2_with fail
                          go_meet
                          exact ⟨bn, rfl, rfl, by omega, BN, hHeld⟩
                      exact AllReadyH.nil
                  exact AllReadyH.nil
              exact AllReadyH.nil
          exact AllReadyH.nil
        case rest =>
          clear hS1
          obtain ⟨b2, rfl, rfl, hb2, B2, hS1⟩ := hcut
          have BV := KM1.out _ bv _ hS1 (List.Mem.head _)
          have BG := KM1.out _ gg cur hS1 (List.Mem.tail _ (List.Mem.head _))
          have bel := KB1.out _ hS1
          clear hS1 KL1 KA1 KD1 KQ1 KN1 KB1 KM1 rl r0 r1 r2 r3 r4 r5 r6 r7
          simp only [us, List.map_cons, List.map_nil] at B2
          have l2 := B2.lt
          have lv := BV.lt
          have e0 := B2.cell 0 _ rfl
          have e1 := B2.cell 1 _ rfl
          have e2 := B2.cell 2 _ rfl
          have e3 := B2.cell 3 _ rfl
          have e4 := B2.cell 4 _ rfl
          have e5 := B2.cell 5 _ rfl
          have e6 := B2.cell 6 _ rfl
          have e7 := B2.cell 7 _ rfl
          have d0 := BV.cell 0 _ rfl; have i0 := BV.frozen 0; have d1 := BV.cell 1 _ rfl; have i1 := BV.frozen 1; have d2 := BV.cell 2 _ rfl; have i2 := BV.frozen 2; have d3 := BV.cell 3 _ rfl; have i3 := BV.frozen 3; have d4 := BV.cell 4 _ rfl; have i4 := BV.frozen 4; have d5 := BV.cell 5 _ rfl; have i5 := BV.frozen 5; have d6 := BV.cell 6 _ rfl; have i6 := BV.frozen 6; have d7 := BV.cell 7 _ rfl; have i7 := BV.frozen 7
          go_wp2_with fail
          go_roundw
          case rel => exact ⟨k + 1, by omega, by go_num, by rw [HS_.out]; exact blk_put8 BV, blk_far8 BG (by omega), below_put8 bel (by omega)⟩
          case measure => simp [intOf]; omega
      · obtain rfl : k = q := by omega
        have g1 : ¬ 128 * (k : Int) + 128 ≤ ((128 * k : Nat) : Int) := by omega
        have gk : IntKind.i64.wrap (128 * (k : Int) + 128) = 128 * (k : Int) + 128 := by rw [IntKind.wrap_i64]; omega
        obtain ⟨X, hX⟩ : ∃ X, digN KS HS M k = X := ⟨_, rfl⟩
        have lX : X.length = 8 := by rw [← hX]; exact digN_len rfl k
        have fX : Hid (fits X) := by rw [← hX]; exact digN_fits fits_HS k
        have HX : Hid (digN KS HS M k = X) := hX
        rw [hX] at BV
        clear hX hx BG
        go_wp2_with fail
        refine (con_Sum (G.below bel) (hvw.later bel) HD.out (by rw [HLD.out]; exact n2)).mono ?_
        rintro e w6 ⟨v6, O, rfl, hS, b6, hb⟩
        replace BV := BV.later hb
        replace bel := below_step bel hb
        clear hb
        have l48 : O.length = 48 := hS.len
        obtain ⟨P', h1', h2'⟩ := hS
        rw [HLD.out] at h1'
        obtain rfl := HPd.out.one h1'
        rw [HMB.out, HQq.out, HX.out] at h2'
        have HO : Hid (OutB X 6 O) := h2'
        clear h1' h2'
        obtain ⟨g6, o6, k6, rfl, d1, d2⟩ := b6.form (by omega)
        rw [l48] at b6 d1 ⊢
        unfold maxLen at d2
        have c6 := bs_cells b6 (by decide)
        rw [l48] at c6
        have H6 : Hid (∀ j, j < 48 → w6.cell? ⟨g6, o6 + j, none⟩ = some (.int .u8 (O.getD j 0))) := c6.2
        have l6 := c6.1
        clear c6
        have m1 : ((128 * k : Nat) : Int).tmod 128 = 0 := by rw [Int.tmod_eq_emod_of_nonneg (by omega)]; omega
        have m2 : ((128 * k : Nat) : Int) % 128 = 0 := by omega
        go_wp2_with fail
        go_loopw [11] (fun iv wx => ∃ i : Nat, i ≤ 48 ∧ iv = .int .i64 i ∧ Below w6.heap.size w6 wx) (fun iv _ => 48 - (intOf iv).toNat)
        case atStart => exact ⟨0, by omega, rfl, Below.refl _ _⟩
        case round =>
          obtain ⟨i, hi, rfl, hbx⟩ := hrel
          by_cases hil : i < 48
          · have xs := cell_later (H6.out i hil) hbx
            have xh := cell_later (BV.cell (i / 8) _ (us_get X (i / 8) (by omega))) hbx
            have HB : Hid _ := HO.out.get i (by omega)
            have fx := fX.out (i / 8)
            obtain ⟨a, ha⟩ : ∃ a, O.getD i 0 = a := ⟨_, rfl⟩
            obtain ⟨x, hx⟩ : ∃ x, X.getD (i / 8) 0 = x := ⟨_, rfl⟩
            obtain ⟨r, hr⟩ : ∃ r, i % 8 = r := ⟨_, rfl⟩
            obtain ⟨d, hd⟩ : ∃ d, i / 8 = d := ⟨_, rfl⟩
            rw [ha] at xs HB
            rw [hx] at xh HB fx
            rw [hr] at HB
            rw [hd] at xh
            have t1 : (i : Int).tdiv 8 = (d : Int) := by rw [Int.tdiv_eq_ediv_of_nonneg (by omega)]; omega
            have t2 : (i : Int) / 8 = (d : Int) := by omega
            have t3 : (i : Int).tmod 8 = (r : Int) := by rw [Int.tmod_eq_emod_of_nonneg (by omega)]; omega
            have t4 : (i : Int) % 8 = (r : Int) := by omega
            have t5 : IntKind.i64.wrap (d : Int) = (d : Int) := by rw [IntKind.wrap_i64]; omega
            have t6 : IntKind.i64.wrap (8 * (r : Int)) = 8 * (r : Int) := by rw [IntKind.wrap_i64]; omega
            have t7 : IntKind.i64.wrap (56 - 8 * (r : Int)) = 56 - 8 * (r : Int) := by rw [IntKind.wrap_i64]; omega
            have t8 : ¬ (56 - 8 * (r : Int)) < 0 := by omega
            have t9 : (56 - 8 * (r : Int)).toNat = 56 - 8 * r := by omega
            have t0 : 8 * (r : Int) ≤ 56 := by omega
            have d8 : (d : Int) < 8 := by omega
            have d0 : (0 : Int) ≤ (d : Int) := by omega
            have dn : (d : Int).toNat = d := by omega
            have gA : (i : Int) < 48 := by omega
            have gB : (0 : Int) ≤ (i : Int) := by omega
            have gi : IntKind.i64.wrap ((i : Int) + 1) = (i : Int) + 1 := by rw [IntKind.wrap_i64]; omega
            have wv : IntKind.u8.wrap (x / 2 ^ (56 - 8 * r)) = a := by rw [HB.out]; exact IntKind.wrap_u8 _
            clear ha hx hr hd fx HB
            have lv := BV.lt
            have lv2 := Nat.lt_of_lt_of_le lv hbx.size
            go_upto_region 21 with fail
            go_region
            all_goals go_wp2
            all_goals go_roundw
            case rel => exact ⟨i + 1, by omega, by go_num, hbx.drew⟩
            case measure => simp [intOf]; omega
          · obtain rfl : i = 48 := by omega
            have gA : ¬ ((48 : Nat) : Int) < 48 := by omega
            go_wp2_with fail
            go_ret
            exact ⟨rfl, below_step bel hbx⟩

theorem law_shaGoes (v : Value) (B : List Int) (w : World) (G : GlsS w) (hv : Bs w v B) (hB : byt B) :
    Calls Tryd.prog 5 #[v] w fun e w' => e = .returned (.bool true) ∧ Below w.heap.size w w' := by
  by_cases hl : 20000 < B.length
  · exact goes_long G hv hB hl
  · exact goes_short G hv hB hl

end Go.Proofs.YtlikglabnfblcaaDoor
