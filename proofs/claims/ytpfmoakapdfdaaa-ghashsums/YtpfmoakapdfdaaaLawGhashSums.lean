/- The law GhashSums answers true: the sum of bytes that are xor of others of one length is xor of their sums. -/
import Derived.Test.YtpfmoakapdfdaaaRows
import Derived.Test.YtpfmoakapdfdaaaGhCut
import Derived.Test.YtpfmoakapdfdaaaGhPlus
import Derived.Laws.CopyOwn
import Derived.Deep.WholeRow
import Derived.Deep.RegionHeld3
import Derived.Deep.DeepCutAuto
import Derived.Deep.DeepFit
namespace Go.Proofs.Ytpfmoakapdfdaaa
open Go.RowKit

/-- xor of bytes, i of them so far -/
def xorL (C D : List Int) (i : Nat) : List Int := (List.range C.length).map fun j => if j < i then bits .xor .u8 (C.getD j 0) (D.getD j 0) else 0
theorem xorL_len (C D : List Int) (i : Nat) : (xorL C D i).length = C.length := by simp [xorL]
theorem xorL_get {C D : List Int} {i j : Nat} (h : j < C.length) : (xorL C D i).getD j 0 = if j < i then bits .xor .u8 (C.getD j 0) (D.getD j 0) else 0 := by
  simp [xorL, List.getD_eq_getElem?_getD, h]
theorem xorL_0 (C D : List Int) : xorL C D 0 = List.replicate C.length 0 := by
  unfold xorL
  rw [List.map_congr_left (g := fun _ => (0 : Int)) (fun j _ => by rw [if_neg (by omega)])]
  apply List.ext_getElem?
  intro j
  by_cases h : j < C.length
  · simp [h]
  · rw [List.getElem?_eq_none (by simp; omega), List.getElem?_eq_none (by simp; omega)]
theorem xorL_set {C D : List Int} {i : Nat} (h : i < C.length) : (xorL C D i).set i (bits .xor .u8 (C.getD i 0) (D.getD i 0)) = xorL C D (i + 1) := by
  apply List.ext_getElem?
  intro j
  by_cases hj : j < C.length
  · by_cases e : i = j
    · subst e
      rw [List.getElem?_set_self (by rw [xorL_len]; exact h)]
      simp [xorL, h]
    · rw [List.getElem?_set_ne e]
      simp only [xorL, List.getElem?_map, List.getElem?_range hj, Option.map_some, Option.some.injEq]
      by_cases l : j < i
      · rw [if_pos l, if_pos (by omega)]
      · rw [if_neg l, if_neg (by omega)]
  · rw [List.getElem?_eq_none (by rw [List.length_set, xorL_len]; omega), List.getElem?_eq_none (by rw [xorL_len]; omega)]
theorem xor00 : bits .xor .u8 0 0 = 0 := by decide
theorem xorL_byt {C D : List Int} (bC : byt C) (bD : byt D) (i : Nat) : byt (xorL C D i) := byt_of _ (fun j hj => by
  rw [xorL_len] at hj
  rw [xorL_get hj]
  split
  · exact xorb_byte (bC j) (bD j)
  · exact ⟨by decide, by decide⟩)
theorem fil_get (B : List Int) (j : Nat) : (filF B).getD j 0 = B.getD j 0 := by
  unfold filF
  rw [List.getD_eq_getElem?_getD, List.getElem?_append]
  by_cases h : j < B.length
  · rw [if_pos h, ← List.getD_eq_getElem?_getD]
  · rw [if_neg h, List.getElem?_replicate, List.getD_eq_getElem?_getD, List.getElem?_eq_none (by omega)]
    split <;> rfl
theorem hash_xor {H C D : List Int} (bC : byt C) (bD : byt D) (l : D.length = C.length) : hashB H (xorL C D C.length) = xkN (hashB H C) (hashB H D) := by
  have e1 : (filF (xorL C D C.length)).length = (filF C).length := by rw [filF_len, filF_len, xorL_len]
  have e2 : (filF D).length = (filF C).length := by rw [filF_len, filF_len, l]
  unfold hashB
  rw [e1, e2]
  refine hashQ_xor (filF_byt bC) (filF_byt bD) (fun j => ?_) (filF_byt (xorL_byt bC bD _)) _
  rw [fil_get, fil_get, fil_get]
  by_cases h : j < C.length
  · rw [xorL_get h, if_pos h]
  · rw [List.getD_eq_getElem?_getD, List.getElem?_eq_none (by rw [xorL_len]; omega), List.getD_eq_getElem?_getD, List.getElem?_eq_none (by omega), List.getD_eq_getElem?_getD, List.getElem?_eq_none (by omega)]
    exact xor00.symm

theorem bs_below {w w' : World} {v : Value} {B : List Int} {g : Nat} (h : Bs w v B) (hb : Below g w w') (hg : g = w.heap.size) : Bs w' v B := by
  subst hg
  exact h.later hb
theorem Blk.set8G {w : World} {b : Nat} {S : List Int} (h : Blk w b (u8s S)) (k : Nat) (s : Int) : Blk (w.setCell ⟨b, k, none⟩ (.int .u8 s)) b (u8s (S.set k s)) := h.setb k s
set_option linter.unusedSimpArgs false in
set_option maxRecDepth 100000 in
set_option maxHeartbeats 4000000 in
theorem sums_long {H A B : List Int} {av bv : Value} {w : World} (lH : H.length = 16) (bH : byt H) (ha : Bs w av A) (bA : byt A) (hb : Bs w bv B) (bB : byt B) (hll : (A.take 600).length < (B.take 600).length) :
    Calls Try.prog 7 #[.agg (u8s H).toArray, av, bv] w fun e w' => e = .returned (.bool true) ∧ Below w.heap.size w w' := by
  obtain ⟨FH, hFH⟩ : ∃ F, u8s (H) = F := ⟨_, rfl⟩
  have FHh : Hid (u8s (H) = FH) := hFH
  have FHl : Hid (FH.length = 16) := by rw [← hFH, List.length_map]; exact lH
  obtain ⟨O1, hO1⟩ : ∃ F, u8s (oneB) = F := ⟨_, rfl⟩
  have O1h : Hid (u8s (oneB) = O1) := hO1
  have O1l : Hid (O1.length = 16) := by rw [← hO1, List.length_map]; exact rfl
  have HH : Hid (byt H ∧ H.length = 16) := ⟨bH, lH⟩
  have HBA : Hid (byt A) := bA
  have HBB : Hid (byt B) := bB
  rw [hFH]
  clear hFH hO1 lH bH bB bA
  have B0 := Blk.new w FH 22 w.heap.size rfl
  have bel : Below w.heap.size w (w.alloc (.cells FH.toArray 22)) := (Below.refl _ _).alloc (Nat.le_refl _) _
  go_enter Try.func7, Try.ntmps7
  go_upto_region 1 with fail
  generalize w.alloc (Obj.cells FH.toArray 22) = W at *
  replace ha := ha.later bel
  replace hb := hb.later bel
  go_wp2_with fail
  refine (con_cut ha).mono ?_
  rintro e wz ⟨v1, rfl, hP, hz9⟩
  rw [hz9]
  clear hz9 wz ha
  obtain ⟨P, eP⟩ : ∃ z, A.take 600 = z := ⟨_, rfl⟩
  rw [eP] at hll
  rw [eP] at hP
  have bP : Hid (byt P) := by rw [← eP]; exact byt_takeG HBA.out 600
  have lP : P.length ≤ 600 := by rw [← eP, List.length_take]; omega
  clear eP
  go_wp2_with fail
  refine (con_cut hb).mono ?_
  rintro e wz ⟨v2, rfl, hQ, hz9⟩
  rw [hz9]
  clear hz9 wz hb
  obtain ⟨Q, eQ⟩ : ∃ z, B.take 600 = z := ⟨_, rfl⟩
  rw [eQ] at hll
  rw [eQ] at hQ
  have bQ : Hid (byt Q) := by rw [← eQ]; exact byt_takeG HBB.out 600
  have lQ : Q.length ≤ 600 := by rw [← eQ, List.length_take]; omega
  clear eQ
  have hP0 := hP
  obtain ⟨aP, kP, rfl, p1, p2, p3⟩ := hP0
  clear p3
  unfold maxLen at p1
  have hQ0 := hQ
  obtain ⟨aQ, kQ, rfl, q1, q2, q3⟩ := hQ0
  clear q3
  unfold maxLen at q1
  have g1 : ((P.length : Nat) : Int) < ((Q.length : Nat) : Int) := by omega
  have g2 : (0 : Int) ≤ ((P.length : Nat) : Int) := by omega
  have g3 : ((P.length : Nat) : Int) ≤ (kQ : Int) := by omega
  have g4 : P.length ≤ kQ := by omega
  have g5 : ((P.length : Nat) : Int) ≤ (kP : Int) := by omega
  have hC := bs_uptoG hP rfl (Nat.le_refl P.length)
  have hD := bs_uptoG hQ rfl (show P.length ≤ Q.length by omega)
  obtain ⟨n, hn⟩ : ∃ n, P.length = n := ⟨_, rfl⟩
  obtain ⟨C, eC⟩ : ∃ z, P.take P.length = z := ⟨_, rfl⟩
  obtain ⟨D, eD⟩ : ∃ z, Q.take P.length = z := ⟨_, rfl⟩
  have lC : Hid (C.length = n) := by rw [← eC, List.length_take]; show _ = _; omega
  have lD : Hid (D.length = n) := by rw [← eD, List.length_take]; show _ = _; omega
  have bC : Hid (byt C) := by rw [← eC]; exact byt_takeG bP.out _
  have bD : Hid (byt D) := by rw [← eD]; exact byt_takeG bQ.out _
  rw [eC] at hC
  rw [eD] at hD
  clear eC eD
  have nl : n ≤ 600 := by omega
  rw [hn] at hC hD
  have HN : Hid _ := hn
  clear hn
  go_upto_region 6 with fail
  rw [HN.out]
  try clear g1 g2 g3 g4
  try clear g5
  clear hP hQ
  have hC0 := hC
  obtain ⟨aC, kC, eC, x1, x2, x3⟩ := hC0
  rw [lC.out] at eC x2 x3
  obtain ⟨rfl, rfl⟩ : aP = aC ∧ kP = kC := by simpa using eC
  have hD0 := hD
  obtain ⟨aD, kD, eD, y1, y2, y3⟩ := hD0
  rw [lD.out] at eD y2 y3
  obtain ⟨rfl, rfl⟩ : aQ = aD ∧ kQ = kD := by simpa using eD
  clear x1 y1 eC eD
  have HX : Hid _ := x3
  have HY : Hid _ := y3
  clear x3 y3
  have hmk := run_make_row' 27 5 (.int .u8 0) 1 Try.underlying27 info_b16 rfl .i64 .i64 n (by omega) (by omega) W
  rw [made_zero] at hmk
  have BZ := Blk.new W (u8s (List.replicate n 0)) 5 W.heap.size rfl
  have bz : Below W.heap.size W (W.alloc (.cells (u8s (List.replicate n 0)).toArray 5)) := (Below.refl _ _).alloc (Nat.le_refl _) _
  obtain ⟨WZ, hWZ⟩ : ∃ Z, Z = W.alloc (.cells (u8s (List.replicate n 0)).toArray 5) := ⟨_, rfl⟩
  rw [← hWZ] at hmk BZ bz
  clear hWZ
  rw [show List.replicate n (0 : Int) = xorL C D 0 by rw [xorL_0, lC.out]] at BZ
  go_wp2_with fail
  clear hmk
  have gH : w.heap.size < W.heap.size := B0.lt
  obtain ⟨gb, hgb⟩ : ∃ g, g = W.heap.size := ⟨_, rfl⟩
  rw [← hgb] at BZ bz gH ⊢
  have HGB : Hid (gb = W.heap.size) := hgb
  clear hgb
  go_loopw [8] (fun iv wx => ∃ i : Nat, i ≤ n ∧ iv = .int .i64 i ∧ Blk wx gb (u8s (xorL C D i)) ∧ Below gb W wx) (fun iv _ => n - (intOf iv).toNat)
  case atStart => exact ⟨0, by omega, rfl, BZ, bz⟩
  case round =>
    clear BZ bz
    obtain ⟨i, hi, rfl, BZ, bz⟩ := hrel
    by_cases hil : i < n
    · have gA : (i : Int) < (n : Int) := by omega
      have g0 : (0 : Int) ≤ (i : Int) := by omega
      have g3 : (i : Int).toNat = i := by omega
      have gi : IntKind.i64.wrap ((i : Int) + 1) = (i : Int) + 1 := by rw [IntKind.wrap_i64]; omega
      obtain ⟨bC1, oC, rfl, pl, pc⟩ := HX.out (by omega)
      obtain ⟨bD1, oD, rfl, ql, qc⟩ := HY.out (by omega)
      have cC := (bz.cell (p := ⟨bC1, oC + i, none⟩) (by rw [HGB.out]; exact pl)).trans (pc i hil)
      have cD := (bz.cell (p := ⟨bD1, oD + i, none⟩) (by rw [HGB.out]; exact ql)).trans (qc i hil)
      have HS : Hid _ := xorL_set (C := C) (D := D) (i := i) (by rw [lC.out]; exact hil)
      have cz := BZ.cell i _ (u8s_get _ i (by rw [xorL_len, lC.out]; exact hil))
      have fz := BZ.frozen i
      have lz := BZ.lt
      obtain ⟨x, hx⟩ : ∃ x, C.getD i 0 = x := ⟨_, rfl⟩
      obtain ⟨y, hy⟩ : ∃ y, D.getD i 0 = y := ⟨_, rfl⟩
      rw [hx] at cC HS
      rw [hy] at cD HS
      clear hx hy pc qc
      have l1 := Nat.lt_of_lt_of_le (show bC1 < gb by rw [HGB.out]; exact pl) (show gb ≤ wr.heap.size by omega)
      have l2 := Nat.lt_of_lt_of_le (show bD1 < gb by rw [HGB.out]; exact ql) (show gb ≤ wr.heap.size by omega)
      go_upto_region 10 with fail
      go_region
      all_goals go_wp2_with fail
      all_goals go_roundw
      case rel =>
        replace BZ := BZ.set8G i (bits .xor .u8 x y)
        rw [HS.out] at BZ
        exact ⟨i + 1, by omega, by go_num, BZ.drew, (bz.setCell (Nat.le_refl _) _).drew⟩
      case measure => simp [intOf]; omega
    · have HI : Hid (i = n) := by show i = n; omega
      have gA : ¬ (i : Int) < (n : Int) := by omega
      rw [HI.out] at BZ
      replace B0 := B0.below bz gH
      replace hC := bs_below hC bz HGB.out
      replace hD := bs_below hD bz HGB.out
      replace bel := bel.trans (bz.mono (by omega))
      clear bz HX HY
      have hE := BZ.bs (show (xorL C D n).length = n by rw [xorL_len]; exact lC.out) (by unfold maxLen; omega)
      have HEx : Hid (hashB H (xorL C D n) = xkN (hashB H C) (hashB H D)) := by have := hash_xor (H := H) bC.out bD.out (by rw [lC.out, lD.out]); rw [lC.out] at this; exact this
      have bE : Hid (byt (xorL C D n)) := xorL_byt bC.out bD.out n
      clear BZ
      obtain ⟨Wf, hWf⟩ : ∃ z, z = wr := ⟨_, rfl⟩
      rw [← hWf] at hC hD hE B0 bel ⊢
      clear hWf
      go_upto_region 11 with fail
      obtain ⟨YE, hYE⟩ : ∃ F, u8s (hashB H (xorL C D n)) = F := ⟨_, rfl⟩
      have YEh : Hid (u8s (hashB H (xorL C D n)) = YE) := hYE
      have YEl : Hid (YE.length = 16) := by rw [← hYE, List.length_map]; exact hashB_len _ _
      obtain ⟨YC, hYC⟩ : ∃ F, u8s (hashB H C) = F := ⟨_, rfl⟩
      have YCh : Hid (u8s (hashB H C) = YC) := hYC
      have YCl : Hid (YC.length = 16) := by rw [← hYC, List.length_map]; exact hashB_len _ _
      obtain ⟨YD, hYD⟩ : ∃ F, u8s (hashB H D) = F := ⟨_, rfl⟩
      have YDh : Hid (u8s (hashB H D) = YD) := hYD
      have YDl : Hid (YD.length = 16) := by rw [← hYD, List.length_map]; exact hashB_len _ _
      have YEr : Hid (u8s (xkN (hashB H C) (hashB H D)) = YE) := by rw [← HEx.out]; exact hYE
      clear hYE hYC hYD
      have HL1 : Hid ((xorL C D n).length ≤ 1099511627776) := by show _ ≤ _; rw [xorL_len, lC.out]; omega
      have HL2 : Hid (C.length ≤ 1099511627776) := by show _ ≤ _; rw [lC.out]; omega
      have HL3 : Hid (D.length ≤ 1099511627776) := by show _ ≤ _; rw [lD.out]; omega
      obtain ⟨S1, hS1, KL1, KA1, KD1, KS1, KQ1, KN1, KB1, KM1, KR1⟩ := held3 (w0 := Wf) (W := Wf) [(w.heap.size, FH)] (by
        intro b X h
        simp only [List.mem_cons, List.not_mem_nil, or_false, Prod.mk.injEq] at h
        obtain ⟨rfl, rfl⟩ := h
        exact B0) (Below.refl _ _)
      have rH : Hid (∀ wx, Hd S1 wx → (loadVar 22 ⟨w.heap.size, 0, none⟩).run Try.prog wx = .ok (.agg FH.toArray) wx) := fun wx h => (KM1.out wx (w.heap.size) _ h (List.Mem.head _)).load Try.underlying22 rfl size_16 FHl.out
      have q8 : ∀ w : World, (Op.equalIn 10000 22 (.agg YE.toArray) (.agg YE.toArray)).run Try.prog w = .ok true w := eql_same16 YEh.out YEl.out
      have q9 : ∀ w : World, (Op.equalIn 10000 22 (.agg O1.toArray) (.agg O1.toArray)).run Try.prog w = .ok true w := eql_same16 O1h.out O1l.out
      clear KS1 KQ1 KN1 KR1 KM1 B0
      refine wp_region_noPanic ?_
      refine wp_region_held_drew (S := Hd S1) (by kernel_rfl) (KD1.out _ hS1) (fun hHeld => ?_)
      clear hS1
      generalize World.drew _ = wd at *
      refine wpAnyH_take (i := 0) (v := .agg FH.toArray) rfl (by kernel_rfl) (by kernel_rfl) (by kernel_rfl) (fun _ _ _ h => h) (Or.inl ⟨by rfl, fun wx h => exec_load rfl rfl (rH.out wx h)⟩) (by assumption) ?_
      try simp only [Act.put, List.getElem_toArray, List.getElem_cons_zero, List.getElem_cons_succ, List.setIfInBounds_toArray, List.set_cons_zero, List.set_cons_succ]
      refine wpAnyH_take (i := 1) (v := ?_) rfl (by kernel_rfl) (by kernel_rfl) (by kernel_rfl) (fun _ _ _ h => h) (Or.inl ⟨by rfl, ?_⟩) (by assumption) ?_
      rotate_left
      · intro w hSw
        go_simp
        with_reducible rfl
      try simp only [Act.put, List.getElem_toArray, List.getElem_cons_zero, List.getElem_cons_succ, List.setIfInBounds_toArray, List.set_cons_zero, List.set_cons_succ]
      refine wpAnyH_take (i := 3) (v := .agg FH.toArray) rfl (by kernel_rfl) (by kernel_rfl) (by kernel_rfl) (fun _ _ _ h => h) (Or.inl ⟨by rfl, fun wx h => exec_load rfl rfl (rH.out wx h)⟩) (by assumption) ?_
      try simp only [Act.put, List.getElem_toArray, List.getElem_cons_zero, List.getElem_cons_succ, List.setIfInBounds_toArray, List.set_cons_zero, List.set_cons_succ]
      refine wpAnyH_take (i := 4) (v := ?_) rfl (by kernel_rfl) (by kernel_rfl) (by kernel_rfl) (fun _ _ _ h => h) (Or.inl ⟨by rfl, ?_⟩) (by assumption) ?_
      rotate_left
      · intro w hSw
        go_simp
        with_reducible rfl
      try simp only [Act.put, List.getElem_toArray, List.getElem_cons_zero, List.getElem_cons_succ, List.setIfInBounds_toArray, List.set_cons_zero, List.set_cons_succ]
      refine wpAnyH_take (i := 6) (v := .agg FH.toArray) rfl (by kernel_rfl) (by kernel_rfl) (by kernel_rfl) (fun _ _ _ h => h) (Or.inl ⟨by rfl, fun wx h => exec_load rfl rfl (rH.out wx h)⟩) (by assumption) ?_
      try simp only [Act.put, List.getElem_toArray, List.getElem_cons_zero, List.getElem_cons_succ, List.setIfInBounds_toArray, List.set_cons_zero, List.set_cons_succ]
      refine wpAnyH_take (i := 7) (v := ?_) rfl (by kernel_rfl) (by kernel_rfl) (by kernel_rfl) (fun _ _ _ h => h) (Or.inl ⟨by rfl, ?_⟩) (by assumption) ?_
      rotate_left
      · intro w hSw
        go_simp
        with_reducible rfl
      try simp only [Act.put, List.getElem_toArray, List.getElem_cons_zero, List.getElem_cons_succ, List.setIfInBounds_toArray, List.set_cons_zero, List.set_cons_succ]
      refine wpAnyH_ready (rs := [2]) (by kernel_rfl) (by simp) ?_
      refine AllReadyH.cons rfl (fun K hK => ?_) ?_
      · go_simp
        go_fit (con_HashL FHh.out YEh.out HH.out.2 HH.out.1 (hE.later (KB1.out _ hHeld)) bE.out HL1.out)
        rintro e w2 ⟨rfl, hb⟩
        refine hK.out _ _ ?_ (fun hHeld2 => ?_)
        · exact KL1.out _ _ hHeld hb
        · clear hK K hHeld
          have hHeld := hHeld2
          clear hHeld2
          try simp only [Act.put, List.getElem_toArray, List.getElem_cons_zero, List.getElem_cons_succ, List.setIfInBounds_toArray, List.set_cons_zero, List.set_cons_succ]
          clear hb
          refine wpAnyH_ready (rs := [5]) (by kernel_rfl) (by simp) ?_
          refine AllReadyH.cons rfl (fun K hK => ?_) ?_
          · go_simp
            go_fit (con_HashL FHh.out YCh.out HH.out.2 HH.out.1 (hC.later (KB1.out _ hHeld)) bC.out HL2.out)
            rintro e w3 ⟨rfl, hb⟩
            refine hK.out _ _ ?_ (fun hHeld2 => ?_)
            · exact KL1.out _ _ hHeld hb
            · clear hK K hHeld
              have hHeld := hHeld2
              clear hHeld2
              try simp only [Act.put, List.getElem_toArray, List.getElem_cons_zero, List.getElem_cons_succ, List.setIfInBounds_toArray, List.set_cons_zero, List.set_cons_succ]
              clear hb
              refine wpAnyH_ready (rs := [8]) (by kernel_rfl) (by simp) ?_
              refine AllReadyH.cons rfl (fun K hK => ?_) ?_
              · go_simp
                go_fit (con_HashL FHh.out YDh.out HH.out.2 HH.out.1 (hD.later (KB1.out _ hHeld)) bD.out HL3.out)
                rintro e w4 ⟨rfl, hb⟩
                refine hK.out _ _ ?_ (fun hHeld2 => ?_)
                · exact KL1.out _ _ hHeld hb
                · clear hK K hHeld
                  have hHeld := hHeld2
                  clear hHeld2
                  try simp only [Act.put, List.getElem_toArray, List.getElem_cons_zero, List.getElem_cons_succ, List.setIfInBounds_toArray, List.set_cons_zero, List.set_cons_succ]
                  clear hb
                  refine wpAnyH_ready (rs := [9]) (by kernel_rfl) (by simp) ?_
                  refine AllReadyH.cons rfl (fun K hK => ?_) ?_
                  · go_simp
                    go_fit (con_plusL YCh.out YDh.out YEr.out (hashB_len _ _) (hashB_len _ _))
                    rintro e w5 ⟨rfl, hb⟩
                    refine hK.out _ _ ?_ (fun hHeld2 => ?_)
                    · exact KL1.out _ _ hHeld hb
                    · clear hK K hHeld
                      have hHeld := hHeld2
                      clear hHeld2
                      try simp only [Act.put, List.getElem_toArray, List.getElem_cons_zero, List.getElem_cons_succ, List.setIfInBounds_toArray, List.set_cons_zero, List.set_cons_succ]
                      clear hb
                      refine wpAnyH_take (i := 10) (v := ?_) rfl (by kernel_rfl) (by kernel_rfl) (by kernel_rfl) (fun _ _ _ h => h) (Or.inl ⟨by rfl, ?_⟩) (by assumption) ?_
                      rotate_left
                      · intro w hSw
                        go_simp
                        with_reducible rfl
                      try simp only [Act.put, List.getElem_toArray, List.getElem_cons_zero, List.getElem_cons_succ, List.setIfInBounds_toArray, List.set_cons_zero, List.set_cons_succ]
                      refine wpAnyH_take (i := 11) (v := ?_) rfl (by kernel_rfl) (by kernel_rfl) (by kernel_rfl) (fun _ _ _ h => h) (Or.inl ⟨by rfl, ?_⟩) (by assumption) ?_
                      rotate_left
                      · intro w hSw
                        go_simp
                        with_reducible rfl
                      try simp only [Act.put, List.getElem_toArray, List.getElem_cons_zero, List.getElem_cons_succ, List.setIfInBounds_toArray, List.set_cons_zero, List.set_cons_succ]
                      refine wpAnyH_ready (rs := [12, 13]) (by kernel_rfl) (by simp) ?_
                      refine AllReadyH.cons rfl (fun K hK => ?_) ?_
                      · go_simp
                        go_fit (con_oneL O1h.out)
                        rintro e w6 ⟨rfl, hb⟩
                        refine hK.out _ _ ?_ (fun hHeld2 => ?_)
                        · exact KL1.out _ _ hHeld hb
                        · clear hK K hHeld
                          have hHeld := hHeld2
                          clear hHeld2
                          try simp only [Act.put, List.getElem_toArray, List.getElem_cons_zero, List.getElem_cons_succ, List.setIfInBounds_toArray, List.set_cons_zero, List.set_cons_succ]
                          clear hb
                          refine wpAnyH_ready (rs := [13]) (by kernel_rfl) (by simp) ?_
                          refine AllReadyH.cons rfl (fun K hK => ?_) ?_
                          · go_simp
                            refine hK.out _ _ ?_ (fun hHeld2 => ?_)
                            · exact KA1.out _ _ hHeld
                            · clear hK K hHeld
                              have hHeld := hHeld2
                              clear hHeld2
                              try simp only [Act.put, List.getElem_toArray, List.getElem_cons_zero, List.getElem_cons_succ, List.setIfInBounds_toArray, List.set_cons_zero, List.set_cons_succ]
                              have b1 := bs_one w6 128
                              obtain ⟨g9, hg9⟩ : ∃ b, b = w6.heap.size := ⟨_, rfl⟩
                              obtain ⟨w7, hw9⟩ : ∃ z, z = w6.alloc (Obj.cells #[.int .u8 128] 5) := ⟨_, rfl⟩
                              rw [← hw9] at hHeld b1 ⊢
                              rw [← hg9] at b1 ⊢
                              clear hg9 hw9
                              refine wpAnyH_ready (rs := [14]) (by kernel_rfl) (by simp) ?_
                              refine AllReadyH.cons rfl (fun K hK => ?_) ?_
                              · go_simp
                                go_fit (con_Hash1 O1h.out b1)
                                rintro e w8 ⟨rfl, hb⟩
                                refine hK.out _ _ ?_ (fun hHeld2 => ?_)
                                · exact KL1.out _ _ hHeld hb
                                · clear hK K hHeld
                                  have hHeld := hHeld2
                                  clear hHeld2
                                  try simp only [Act.put, List.getElem_toArray, List.getElem_cons_zero, List.getElem_cons_succ, List.setIfInBounds_toArray, List.set_cons_zero, List.set_cons_succ]
                                  clear hb b1
                                  refine wpAnyH_ready (rs := [15]) (by kernel_rfl) (by simp) ?_
                                  refine AllReadyH.cons rfl (fun K hK => ?_) ?_
                                  · go_simp
                                    go_fit (con_oneL O1h.out)
                                    rintro e w9 ⟨rfl, hb⟩
                                    refine hK.out _ _ ?_ (fun hHeld2 => ?_)
                                    · exact KL1.out _ _ hHeld hb
                                    · clear hK K hHeld
                                      have hHeld := hHeld2
                                      clear hHeld2
                                      try simp only [Act.put, List.getElem_toArray, List.getElem_cons_zero, List.getElem_cons_succ, List.setIfInBounds_toArray, List.set_cons_zero, List.set_cons_succ]
                                      clear hb
                                      refine wpAnyH_take (i := 16) (v := ?_) rfl (by kernel_rfl) (by kernel_rfl) (by kernel_rfl) (fun _ _ _ h => h) (Or.inl ⟨by rfl, ?_⟩) (by assumption) ?_
                                      rotate_left
                                      · intro w hSw
                                        go_simp
                                        with_reducible rfl
                                      try simp only [Act.put, List.getElem_toArray, List.getElem_cons_zero, List.getElem_cons_succ, List.setIfInBounds_toArray, List.set_cons_zero, List.set_cons_succ]
                                      refine wpAnyH_take (i := 17) (v := ?_) rfl (by kernel_rfl) (by kernel_rfl) (by kernel_rfl) (fun _ _ _ h => h) (Or.inl ⟨by rfl, ?_⟩) (by assumption) ?_
                                      rotate_left
                                      · intro w hSw
                                        go_simp
                                        with_reducible rfl
                                      try simp only [Act.put, List.getElem_toArray, List.getElem_cons_zero, List.getElem_cons_succ, List.setIfInBounds_toArray, List.set_cons_zero, List.set_cons_succ]
                                      refine wpAnyH_ready (rs := [18]) (by kernel_rfl) (by simp) ?_
                                      refine AllReadyH.cons rfl (fun K hK => ?_) ?_
                                      · go_simp
                                        refine hK.out _ _ ?_ (fun hHeld2 => ?_)
                                        · exact hHeld
                                        · clear hK K hHeld
                                          have hHeld := hHeld2
                                          clear hHeld2
                                          try simp only [Act.put, List.getElem_toArray, List.getElem_cons_zero, List.getElem_cons_succ, List.setIfInBounds_toArray, List.set_cons_zero, List.set_cons_succ]
                                          refine wpAnyH_done (by kernel_rfl) ?_ _
                                          refine NoPanic.normal ?_
                                          go_wp2_with fail
                                          go_ret
                                          exact ⟨rfl, below_step bel (KB1.out _ hHeld)⟩
                                      exact AllReadyH.nil
                                  exact AllReadyH.nil
                              exact AllReadyH.nil
                          exact AllReadyH.nil
                      refine AllReadyH.cons rfl (fun K hK => ?_) ?_
                      · go_simp
                        refine hK.out _ _ ?_ (fun hHeld2 => ?_)
                        · exact KA1.out _ _ hHeld
                        · clear hK K hHeld
                          have hHeld := hHeld2
                          clear hHeld2
                          try simp only [Act.put, List.getElem_toArray, List.getElem_cons_zero, List.getElem_cons_succ, List.setIfInBounds_toArray, List.set_cons_zero, List.set_cons_succ]
                          have b1 := bs_one w5 128
                          obtain ⟨g9, hg9⟩ : ∃ b, b = w5.heap.size := ⟨_, rfl⟩
                          obtain ⟨w7, hw9⟩ : ∃ z, z = w5.alloc (Obj.cells #[.int .u8 128] 5) := ⟨_, rfl⟩
                          rw [← hw9] at hHeld b1 ⊢
                          rw [← hg9] at b1 ⊢
                          clear hg9 hw9
                          refine wpAnyH_ready (rs := [12]) (by kernel_rfl) (by simp) ?_
                          refine AllReadyH.cons rfl (fun K hK => ?_) ?_
                          · go_simp
                            go_fit (con_oneL O1h.out)
                            rintro e w6 ⟨rfl, hb⟩
                            refine hK.out _ _ ?_ (fun hHeld2 => ?_)
                            · exact KL1.out _ _ hHeld hb
                            · clear hK K hHeld
                              have hHeld := hHeld2
                              clear hHeld2
                              try simp only [Act.put, List.getElem_toArray, List.getElem_cons_zero, List.getElem_cons_succ, List.setIfInBounds_toArray, List.set_cons_zero, List.set_cons_succ]
                              replace b1 := b1.later hb
                              clear hb
                              refine wpAnyH_ready (rs := [14]) (by kernel_rfl) (by simp) ?_
                              refine AllReadyH.cons rfl (fun K hK => ?_) ?_
                              · go_simp
                                go_fit (con_Hash1 O1h.out b1)
                                rintro e w8 ⟨rfl, hb⟩
                                refine hK.out _ _ ?_ (fun hHeld2 => ?_)
                                · exact KL1.out _ _ hHeld hb
                                · clear hK K hHeld
                                  have hHeld := hHeld2
                                  clear hHeld2
                                  try simp only [Act.put, List.getElem_toArray, List.getElem_cons_zero, List.getElem_cons_succ, List.setIfInBounds_toArray, List.set_cons_zero, List.set_cons_succ]
                                  clear hb b1
                                  refine wpAnyH_ready (rs := [15]) (by kernel_rfl) (by simp) ?_
                                  refine AllReadyH.cons rfl (fun K hK => ?_) ?_
                                  · go_simp
                                    go_fit (con_oneL O1h.out)
                                    rintro e w9 ⟨rfl, hb⟩
                                    refine hK.out _ _ ?_ (fun hHeld2 => ?_)
                                    · exact KL1.out _ _ hHeld hb
                                    · clear hK K hHeld
                                      have hHeld := hHeld2
                                      clear hHeld2
                                      try simp only [Act.put, List.getElem_toArray, List.getElem_cons_zero, List.getElem_cons_succ, List.setIfInBounds_toArray, List.set_cons_zero, List.set_cons_succ]
                                      clear hb
                                      refine wpAnyH_take (i := 16) (v := ?_) rfl (by kernel_rfl) (by kernel_rfl) (by kernel_rfl) (fun _ _ _ h => h) (Or.inl ⟨by rfl, ?_⟩) (by assumption) ?_
                                      rotate_left
                                      · intro w hSw
                                        go_simp
                                        with_reducible rfl
                                      try simp only [Act.put, List.getElem_toArray, List.getElem_cons_zero, List.getElem_cons_succ, List.setIfInBounds_toArray, List.set_cons_zero, List.set_cons_succ]
                                      refine wpAnyH_take (i := 17) (v := ?_) rfl (by kernel_rfl) (by kernel_rfl) (by kernel_rfl) (fun _ _ _ h => h) (Or.inl ⟨by rfl, ?_⟩) (by assumption) ?_
                                      rotate_left
                                      · intro w hSw
                                        go_simp
                                        with_reducible rfl
                                      try simp only [Act.put, List.getElem_toArray, List.getElem_cons_zero, List.getElem_cons_succ, List.setIfInBounds_toArray, List.set_cons_zero, List.set_cons_succ]
                                      refine wpAnyH_ready (rs := [18]) (by kernel_rfl) (by simp) ?_
                                      refine AllReadyH.cons rfl (fun K hK => ?_) ?_
                                      · go_simp
                                        refine hK.out _ _ ?_ (fun hHeld2 => ?_)
                                        · exact hHeld
                                        · clear hK K hHeld
                                          have hHeld := hHeld2
                                          clear hHeld2
                                          try simp only [Act.put, List.getElem_toArray, List.getElem_cons_zero, List.getElem_cons_succ, List.setIfInBounds_toArray, List.set_cons_zero, List.set_cons_succ]
                                          refine wpAnyH_done (by kernel_rfl) ?_ _
                                          refine NoPanic.normal ?_
                                          go_wp2_with fail
                                          go_ret
                                          exact ⟨rfl, below_step bel (KB1.out _ hHeld)⟩
                                      exact AllReadyH.nil
                                  exact AllReadyH.nil
                              exact AllReadyH.nil
                          exact AllReadyH.nil
                      exact AllReadyH.nil
                  exact AllReadyH.nil
              exact AllReadyH.nil
          exact AllReadyH.nil
      exact AllReadyH.nil
set_option linter.unusedSimpArgs false in
set_option maxRecDepth 100000 in
set_option maxHeartbeats 4000000 in
theorem sums_short {H A B : List Int} {av bv : Value} {w : World} (lH : H.length = 16) (bH : byt H) (ha : Bs w av A) (bA : byt A) (hb : Bs w bv B) (bB : byt B) (hll : ¬ (A.take 600).length < (B.take 600).length) :
    Calls Try.prog 7 #[.agg (u8s H).toArray, av, bv] w fun e w' => e = .returned (.bool true) ∧ Below w.heap.size w w' := by
  obtain ⟨FH, hFH⟩ : ∃ F, u8s (H) = F := ⟨_, rfl⟩
  have FHh : Hid (u8s (H) = FH) := hFH
  have FHl : Hid (FH.length = 16) := by rw [← hFH, List.length_map]; exact lH
  obtain ⟨O1, hO1⟩ : ∃ F, u8s (oneB) = F := ⟨_, rfl⟩
  have O1h : Hid (u8s (oneB) = O1) := hO1
  have O1l : Hid (O1.length = 16) := by rw [← hO1, List.length_map]; exact rfl
  have HH : Hid (byt H ∧ H.length = 16) := ⟨bH, lH⟩
  have HBA : Hid (byt A) := bA
  have HBB : Hid (byt B) := bB
  rw [hFH]
  clear hFH hO1 lH bH bB bA
  have B0 := Blk.new w FH 22 w.heap.size rfl
  have bel : Below w.heap.size w (w.alloc (.cells FH.toArray 22)) := (Below.refl _ _).alloc (Nat.le_refl _) _
  go_enter Try.func7, Try.ntmps7
  go_upto_region 1 with fail
  generalize w.alloc (Obj.cells FH.toArray 22) = W at *
  replace ha := ha.later bel
  replace hb := hb.later bel
  go_wp2_with fail
  refine (con_cut ha).mono ?_
  rintro e wz ⟨v1, rfl, hP, hz9⟩
  rw [hz9]
  clear hz9 wz ha
  obtain ⟨P, eP⟩ : ∃ z, A.take 600 = z := ⟨_, rfl⟩
  rw [eP] at hll
  rw [eP] at hP
  have bP : Hid (byt P) := by rw [← eP]; exact byt_takeG HBA.out 600
  have lP : P.length ≤ 600 := by rw [← eP, List.length_take]; omega
  clear eP
  go_wp2_with fail
  refine (con_cut hb).mono ?_
  rintro e wz ⟨v2, rfl, hQ, hz9⟩
  rw [hz9]
  clear hz9 wz hb
  obtain ⟨Q, eQ⟩ : ∃ z, B.take 600 = z := ⟨_, rfl⟩
  rw [eQ] at hll
  rw [eQ] at hQ
  have bQ : Hid (byt Q) := by rw [← eQ]; exact byt_takeG HBB.out 600
  have lQ : Q.length ≤ 600 := by rw [← eQ, List.length_take]; omega
  clear eQ
  have hP0 := hP
  obtain ⟨aP, kP, rfl, p1, p2, p3⟩ := hP0
  clear p3
  unfold maxLen at p1
  have hQ0 := hQ
  obtain ⟨aQ, kQ, rfl, q1, q2, q3⟩ := hQ0
  clear q3
  unfold maxLen at q1
  have g1 : ¬ ((P.length : Nat) : Int) < ((Q.length : Nat) : Int) := by omega
  have g2 : (0 : Int) ≤ ((Q.length : Nat) : Int) := by omega
  have g3 : ((Q.length : Nat) : Int) ≤ (kP : Int) := by omega
  have g4 : Q.length ≤ kP := by omega
  have hC := bs_uptoG hP rfl (show Q.length ≤ P.length by omega)
  have hD := bs_uptoG hQ rfl (Nat.le_refl Q.length)
  obtain ⟨n, hn⟩ : ∃ n, Q.length = n := ⟨_, rfl⟩
  obtain ⟨C, eC⟩ : ∃ z, P.take Q.length = z := ⟨_, rfl⟩
  obtain ⟨D, eD⟩ : ∃ z, Q.take Q.length = z := ⟨_, rfl⟩
  have lC : Hid (C.length = n) := by rw [← eC, List.length_take]; show _ = _; omega
  have lD : Hid (D.length = n) := by rw [← eD, List.length_take]; show _ = _; omega
  have bC : Hid (byt C) := by rw [← eC]; exact byt_takeG bP.out _
  have bD : Hid (byt D) := by rw [← eD]; exact byt_takeG bQ.out _
  rw [eC] at hC
  rw [eD] at hD
  clear eC eD
  have nl : n ≤ 600 := by omega
  rw [hn] at hC hD
  have HN : Hid _ := hn
  clear hn
  go_upto_region 6 with fail
  rw [HN.out]
  try clear g1 g2 g3 g4
  try clear g5
  clear hP hQ
  have hC0 := hC
  obtain ⟨aC, kC, eC, x1, x2, x3⟩ := hC0
  rw [lC.out] at eC x2 x3
  obtain ⟨rfl, rfl⟩ : aP = aC ∧ kP = kC := by simpa using eC
  have hD0 := hD
  obtain ⟨aD, kD, eD, y1, y2, y3⟩ := hD0
  rw [lD.out] at eD y2 y3
  obtain ⟨rfl, rfl⟩ : aQ = aD ∧ kQ = kD := by simpa using eD
  clear x1 y1 eC eD
  have HX : Hid _ := x3
  have HY : Hid _ := y3
  clear x3 y3
  have hmk := run_make_row' 27 5 (.int .u8 0) 1 Try.underlying27 info_b16 rfl .i64 .i64 n (by omega) (by omega) W
  rw [made_zero] at hmk
  have BZ := Blk.new W (u8s (List.replicate n 0)) 5 W.heap.size rfl
  have bz : Below W.heap.size W (W.alloc (.cells (u8s (List.replicate n 0)).toArray 5)) := (Below.refl _ _).alloc (Nat.le_refl _) _
  obtain ⟨WZ, hWZ⟩ : ∃ Z, Z = W.alloc (.cells (u8s (List.replicate n 0)).toArray 5) := ⟨_, rfl⟩
  rw [← hWZ] at hmk BZ bz
  clear hWZ
  rw [show List.replicate n (0 : Int) = xorL C D 0 by rw [xorL_0, lC.out]] at BZ
  go_wp2_with fail
  clear hmk
  have gH : w.heap.size < W.heap.size := B0.lt
  obtain ⟨gb, hgb⟩ : ∃ g, g = W.heap.size := ⟨_, rfl⟩
  rw [← hgb] at BZ bz gH ⊢
  have HGB : Hid (gb = W.heap.size) := hgb
  clear hgb
  go_loopw [8] (fun iv wx => ∃ i : Nat, i ≤ n ∧ iv = .int .i64 i ∧ Blk wx gb (u8s (xorL C D i)) ∧ Below gb W wx) (fun iv _ => n - (intOf iv).toNat)
  case atStart => exact ⟨0, by omega, rfl, BZ, bz⟩
  case round =>
    clear BZ bz
    obtain ⟨i, hi, rfl, BZ, bz⟩ := hrel
    by_cases hil : i < n
    · have gA : (i : Int) < (n : Int) := by omega
      have g0 : (0 : Int) ≤ (i : Int) := by omega
      have g3 : (i : Int).toNat = i := by omega
      have gi : IntKind.i64.wrap ((i : Int) + 1) = (i : Int) + 1 := by rw [IntKind.wrap_i64]; omega
      obtain ⟨bC1, oC, rfl, pl, pc⟩ := HX.out (by omega)
      obtain ⟨bD1, oD, rfl, ql, qc⟩ := HY.out (by omega)
      have cC := (bz.cell (p := ⟨bC1, oC + i, none⟩) (by rw [HGB.out]; exact pl)).trans (pc i hil)
      have cD := (bz.cell (p := ⟨bD1, oD + i, none⟩) (by rw [HGB.out]; exact ql)).trans (qc i hil)
      have HS : Hid _ := xorL_set (C := C) (D := D) (i := i) (by rw [lC.out]; exact hil)
      have cz := BZ.cell i _ (u8s_get _ i (by rw [xorL_len, lC.out]; exact hil))
      have fz := BZ.frozen i
      have lz := BZ.lt
      obtain ⟨x, hx⟩ : ∃ x, C.getD i 0 = x := ⟨_, rfl⟩
      obtain ⟨y, hy⟩ : ∃ y, D.getD i 0 = y := ⟨_, rfl⟩
      rw [hx] at cC HS
      rw [hy] at cD HS
      clear hx hy pc qc
      have l1 := Nat.lt_of_lt_of_le (show bC1 < gb by rw [HGB.out]; exact pl) (show gb ≤ wr.heap.size by omega)
      have l2 := Nat.lt_of_lt_of_le (show bD1 < gb by rw [HGB.out]; exact ql) (show gb ≤ wr.heap.size by omega)
      go_upto_region 10 with fail
      go_region
      all_goals go_wp2_with fail
      all_goals go_roundw
      case rel =>
        replace BZ := BZ.set8G i (bits .xor .u8 x y)
        rw [HS.out] at BZ
        exact ⟨i + 1, by omega, by go_num, BZ.drew, (bz.setCell (Nat.le_refl _) _).drew⟩
      case measure => simp [intOf]; omega
    · have HI : Hid (i = n) := by show i = n; omega
      have gA : ¬ (i : Int) < (n : Int) := by omega
      rw [HI.out] at BZ
      replace B0 := B0.below bz gH
      replace hC := bs_below hC bz HGB.out
      replace hD := bs_below hD bz HGB.out
      replace bel := bel.trans (bz.mono (by omega))
      clear bz HX HY
      have hE := BZ.bs (show (xorL C D n).length = n by rw [xorL_len]; exact lC.out) (by unfold maxLen; omega)
      have HEx : Hid (hashB H (xorL C D n) = xkN (hashB H C) (hashB H D)) := by have := hash_xor (H := H) bC.out bD.out (by rw [lC.out, lD.out]); rw [lC.out] at this; exact this
      have bE : Hid (byt (xorL C D n)) := xorL_byt bC.out bD.out n
      clear BZ
      obtain ⟨Wf, hWf⟩ : ∃ z, z = wr := ⟨_, rfl⟩
      rw [← hWf] at hC hD hE B0 bel ⊢
      clear hWf
      go_upto_region 11 with fail
      obtain ⟨YE, hYE⟩ : ∃ F, u8s (hashB H (xorL C D n)) = F := ⟨_, rfl⟩
      have YEh : Hid (u8s (hashB H (xorL C D n)) = YE) := hYE
      have YEl : Hid (YE.length = 16) := by rw [← hYE, List.length_map]; exact hashB_len _ _
      obtain ⟨YC, hYC⟩ : ∃ F, u8s (hashB H C) = F := ⟨_, rfl⟩
      have YCh : Hid (u8s (hashB H C) = YC) := hYC
      have YCl : Hid (YC.length = 16) := by rw [← hYC, List.length_map]; exact hashB_len _ _
      obtain ⟨YD, hYD⟩ : ∃ F, u8s (hashB H D) = F := ⟨_, rfl⟩
      have YDh : Hid (u8s (hashB H D) = YD) := hYD
      have YDl : Hid (YD.length = 16) := by rw [← hYD, List.length_map]; exact hashB_len _ _
      have YEr : Hid (u8s (xkN (hashB H C) (hashB H D)) = YE) := by rw [← HEx.out]; exact hYE
      clear hYE hYC hYD
      have HL1 : Hid ((xorL C D n).length ≤ 1099511627776) := by show _ ≤ _; rw [xorL_len, lC.out]; omega
      have HL2 : Hid (C.length ≤ 1099511627776) := by show _ ≤ _; rw [lC.out]; omega
      have HL3 : Hid (D.length ≤ 1099511627776) := by show _ ≤ _; rw [lD.out]; omega
      obtain ⟨S1, hS1, KL1, KA1, KD1, KS1, KQ1, KN1, KB1, KM1, KR1⟩ := held3 (w0 := Wf) (W := Wf) [(w.heap.size, FH)] (by
        intro b X h
        simp only [List.mem_cons, List.not_mem_nil, or_false, Prod.mk.injEq] at h
        obtain ⟨rfl, rfl⟩ := h
        exact B0) (Below.refl _ _)
      have rH : Hid (∀ wx, Hd S1 wx → (loadVar 22 ⟨w.heap.size, 0, none⟩).run Try.prog wx = .ok (.agg FH.toArray) wx) := fun wx h => (KM1.out wx (w.heap.size) _ h (List.Mem.head _)).load Try.underlying22 rfl size_16 FHl.out
      have q8 : ∀ w : World, (Op.equalIn 10000 22 (.agg YE.toArray) (.agg YE.toArray)).run Try.prog w = .ok true w := eql_same16 YEh.out YEl.out
      have q9 : ∀ w : World, (Op.equalIn 10000 22 (.agg O1.toArray) (.agg O1.toArray)).run Try.prog w = .ok true w := eql_same16 O1h.out O1l.out
      clear KS1 KQ1 KN1 KR1 KM1 B0
      refine wp_region_noPanic ?_
      refine wp_region_held_drew (S := Hd S1) (by kernel_rfl) (KD1.out _ hS1) (fun hHeld => ?_)
      clear hS1
      generalize World.drew _ = wd at *
      refine wpAnyH_take (i := 0) (v := .agg FH.toArray) rfl (by kernel_rfl) (by kernel_rfl) (by kernel_rfl) (fun _ _ _ h => h) (Or.inl ⟨by rfl, fun wx h => exec_load rfl rfl (rH.out wx h)⟩) (by assumption) ?_
      try simp only [Act.put, List.getElem_toArray, List.getElem_cons_zero, List.getElem_cons_succ, List.setIfInBounds_toArray, List.set_cons_zero, List.set_cons_succ]
      refine wpAnyH_take (i := 1) (v := ?_) rfl (by kernel_rfl) (by kernel_rfl) (by kernel_rfl) (fun _ _ _ h => h) (Or.inl ⟨by rfl, ?_⟩) (by assumption) ?_
      rotate_left
      · intro w hSw
        go_simp
        with_reducible rfl
      try simp only [Act.put, List.getElem_toArray, List.getElem_cons_zero, List.getElem_cons_succ, List.setIfInBounds_toArray, List.set_cons_zero, List.set_cons_succ]
      refine wpAnyH_take (i := 3) (v := .agg FH.toArray) rfl (by kernel_rfl) (by kernel_rfl) (by kernel_rfl) (fun _ _ _ h => h) (Or.inl ⟨by rfl, fun wx h => exec_load rfl rfl (rH.out wx h)⟩) (by assumption) ?_
      try simp only [Act.put, List.getElem_toArray, List.getElem_cons_zero, List.getElem_cons_succ, List.setIfInBounds_toArray, List.set_cons_zero, List.set_cons_succ]
      refine wpAnyH_take (i := 4) (v := ?_) rfl (by kernel_rfl) (by kernel_rfl) (by kernel_rfl) (fun _ _ _ h => h) (Or.inl ⟨by rfl, ?_⟩) (by assumption) ?_
      rotate_left
      · intro w hSw
        go_simp
        with_reducible rfl
      try simp only [Act.put, List.getElem_toArray, List.getElem_cons_zero, List.getElem_cons_succ, List.setIfInBounds_toArray, List.set_cons_zero, List.set_cons_succ]
      refine wpAnyH_take (i := 6) (v := .agg FH.toArray) rfl (by kernel_rfl) (by kernel_rfl) (by kernel_rfl) (fun _ _ _ h => h) (Or.inl ⟨by rfl, fun wx h => exec_load rfl rfl (rH.out wx h)⟩) (by assumption) ?_
      try simp only [Act.put, List.getElem_toArray, List.getElem_cons_zero, List.getElem_cons_succ, List.setIfInBounds_toArray, List.set_cons_zero, List.set_cons_succ]
      refine wpAnyH_take (i := 7) (v := ?_) rfl (by kernel_rfl) (by kernel_rfl) (by kernel_rfl) (fun _ _ _ h => h) (Or.inl ⟨by rfl, ?_⟩) (by assumption) ?_
      rotate_left
      · intro w hSw
        go_simp
        with_reducible rfl
      try simp only [Act.put, List.getElem_toArray, List.getElem_cons_zero, List.getElem_cons_succ, List.setIfInBounds_toArray, List.set_cons_zero, List.set_cons_succ]
      refine wpAnyH_ready (rs := [2]) (by kernel_rfl) (by simp) ?_
      refine AllReadyH.cons rfl (fun K hK => ?_) ?_
      · go_simp
        go_fit (con_HashL FHh.out YEh.out HH.out.2 HH.out.1 (hE.later (KB1.out _ hHeld)) bE.out HL1.out)
        rintro e w2 ⟨rfl, hb⟩
        refine hK.out _ _ ?_ (fun hHeld2 => ?_)
        · exact KL1.out _ _ hHeld hb
        · clear hK K hHeld
          have hHeld := hHeld2
          clear hHeld2
          try simp only [Act.put, List.getElem_toArray, List.getElem_cons_zero, List.getElem_cons_succ, List.setIfInBounds_toArray, List.set_cons_zero, List.set_cons_succ]
          clear hb
          refine wpAnyH_ready (rs := [5]) (by kernel_rfl) (by simp) ?_
          refine AllReadyH.cons rfl (fun K hK => ?_) ?_
          · go_simp
            go_fit (con_HashL FHh.out YCh.out HH.out.2 HH.out.1 (hC.later (KB1.out _ hHeld)) bC.out HL2.out)
            rintro e w3 ⟨rfl, hb⟩
            refine hK.out _ _ ?_ (fun hHeld2 => ?_)
            · exact KL1.out _ _ hHeld hb
            · clear hK K hHeld
              have hHeld := hHeld2
              clear hHeld2
              try simp only [Act.put, List.getElem_toArray, List.getElem_cons_zero, List.getElem_cons_succ, List.setIfInBounds_toArray, List.set_cons_zero, List.set_cons_succ]
              clear hb
              refine wpAnyH_ready (rs := [8]) (by kernel_rfl) (by simp) ?_
              refine AllReadyH.cons rfl (fun K hK => ?_) ?_
              · go_simp
                go_fit (con_HashL FHh.out YDh.out HH.out.2 HH.out.1 (hD.later (KB1.out _ hHeld)) bD.out HL3.out)
                rintro e w4 ⟨rfl, hb⟩
                refine hK.out _ _ ?_ (fun hHeld2 => ?_)
                · exact KL1.out _ _ hHeld hb
                · clear hK K hHeld
                  have hHeld := hHeld2
                  clear hHeld2
                  try simp only [Act.put, List.getElem_toArray, List.getElem_cons_zero, List.getElem_cons_succ, List.setIfInBounds_toArray, List.set_cons_zero, List.set_cons_succ]
                  clear hb
                  refine wpAnyH_ready (rs := [9]) (by kernel_rfl) (by simp) ?_
                  refine AllReadyH.cons rfl (fun K hK => ?_) ?_
                  · go_simp
                    go_fit (con_plusL YCh.out YDh.out YEr.out (hashB_len _ _) (hashB_len _ _))
                    rintro e w5 ⟨rfl, hb⟩
                    refine hK.out _ _ ?_ (fun hHeld2 => ?_)
                    · exact KL1.out _ _ hHeld hb
                    · clear hK K hHeld
                      have hHeld := hHeld2
                      clear hHeld2
                      try simp only [Act.put, List.getElem_toArray, List.getElem_cons_zero, List.getElem_cons_succ, List.setIfInBounds_toArray, List.set_cons_zero, List.set_cons_succ]
                      clear hb
                      refine wpAnyH_take (i := 10) (v := ?_) rfl (by kernel_rfl) (by kernel_rfl) (by kernel_rfl) (fun _ _ _ h => h) (Or.inl ⟨by rfl, ?_⟩) (by assumption) ?_
                      rotate_left
                      · intro w hSw
                        go_simp
                        with_reducible rfl
                      try simp only [Act.put, List.getElem_toArray, List.getElem_cons_zero, List.getElem_cons_succ, List.setIfInBounds_toArray, List.set_cons_zero, List.set_cons_succ]
                      refine wpAnyH_take (i := 11) (v := ?_) rfl (by kernel_rfl) (by kernel_rfl) (by kernel_rfl) (fun _ _ _ h => h) (Or.inl ⟨by rfl, ?_⟩) (by assumption) ?_
                      rotate_left
                      · intro w hSw
                        go_simp
                        with_reducible rfl
                      try simp only [Act.put, List.getElem_toArray, List.getElem_cons_zero, List.getElem_cons_succ, List.setIfInBounds_toArray, List.set_cons_zero, List.set_cons_succ]
                      refine wpAnyH_ready (rs := [12, 13]) (by kernel_rfl) (by simp) ?_
                      refine AllReadyH.cons rfl (fun K hK => ?_) ?_
                      · go_simp
                        go_fit (con_oneL O1h.out)
                        rintro e w6 ⟨rfl, hb⟩
                        refine hK.out _ _ ?_ (fun hHeld2 => ?_)
                        · exact KL1.out _ _ hHeld hb
                        · clear hK K hHeld
                          have hHeld := hHeld2
                          clear hHeld2
                          try simp only [Act.put, List.getElem_toArray, List.getElem_cons_zero, List.getElem_cons_succ, List.setIfInBounds_toArray, List.set_cons_zero, List.set_cons_succ]
                          clear hb
                          refine wpAnyH_ready (rs := [13]) (by kernel_rfl) (by simp) ?_
                          refine AllReadyH.cons rfl (fun K hK => ?_) ?_
                          · go_simp
                            refine hK.out _ _ ?_ (fun hHeld2 => ?_)
                            · exact KA1.out _ _ hHeld
                            · clear hK K hHeld
                              have hHeld := hHeld2
                              clear hHeld2
                              try simp only [Act.put, List.getElem_toArray, List.getElem_cons_zero, List.getElem_cons_succ, List.setIfInBounds_toArray, List.set_cons_zero, List.set_cons_succ]
                              have b1 := bs_one w6 128
                              obtain ⟨g9, hg9⟩ : ∃ b, b = w6.heap.size := ⟨_, rfl⟩
                              obtain ⟨w7, hw9⟩ : ∃ z, z = w6.alloc (Obj.cells #[.int .u8 128] 5) := ⟨_, rfl⟩
                              rw [← hw9] at hHeld b1 ⊢
                              rw [← hg9] at b1 ⊢
                              clear hg9 hw9
                              refine wpAnyH_ready (rs := [14]) (by kernel_rfl) (by simp) ?_
                              refine AllReadyH.cons rfl (fun K hK => ?_) ?_
                              · go_simp
                                go_fit (con_Hash1 O1h.out b1)
                                rintro e w8 ⟨rfl, hb⟩
                                refine hK.out _ _ ?_ (fun hHeld2 => ?_)
                                · exact KL1.out _ _ hHeld hb
                                · clear hK K hHeld
                                  have hHeld := hHeld2
                                  clear hHeld2
                                  try simp only [Act.put, List.getElem_toArray, List.getElem_cons_zero, List.getElem_cons_succ, List.setIfInBounds_toArray, List.set_cons_zero, List.set_cons_succ]
                                  clear hb b1
                                  refine wpAnyH_ready (rs := [15]) (by kernel_rfl) (by simp) ?_
                                  refine AllReadyH.cons rfl (fun K hK => ?_) ?_
                                  · go_simp
                                    go_fit (con_oneL O1h.out)
                                    rintro e w9 ⟨rfl, hb⟩
                                    refine hK.out _ _ ?_ (fun hHeld2 => ?_)
                                    · exact KL1.out _ _ hHeld hb
                                    · clear hK K hHeld
                                      have hHeld := hHeld2
                                      clear hHeld2
                                      try simp only [Act.put, List.getElem_toArray, List.getElem_cons_zero, List.getElem_cons_succ, List.setIfInBounds_toArray, List.set_cons_zero, List.set_cons_succ]
                                      clear hb
                                      refine wpAnyH_take (i := 16) (v := ?_) rfl (by kernel_rfl) (by kernel_rfl) (by kernel_rfl) (fun _ _ _ h => h) (Or.inl ⟨by rfl, ?_⟩) (by assumption) ?_
                                      rotate_left
                                      · intro w hSw
                                        go_simp
                                        with_reducible rfl
                                      try simp only [Act.put, List.getElem_toArray, List.getElem_cons_zero, List.getElem_cons_succ, List.setIfInBounds_toArray, List.set_cons_zero, List.set_cons_succ]
                                      refine wpAnyH_take (i := 17) (v := ?_) rfl (by kernel_rfl) (by kernel_rfl) (by kernel_rfl) (fun _ _ _ h => h) (Or.inl ⟨by rfl, ?_⟩) (by assumption) ?_
                                      rotate_left
                                      · intro w hSw
                                        go_simp
                                        with_reducible rfl
                                      try simp only [Act.put, List.getElem_toArray, List.getElem_cons_zero, List.getElem_cons_succ, List.setIfInBounds_toArray, List.set_cons_zero, List.set_cons_succ]
                                      refine wpAnyH_ready (rs := [18]) (by kernel_rfl) (by simp) ?_
                                      refine AllReadyH.cons rfl (fun K hK => ?_) ?_
                                      · go_simp
                                        refine hK.out _ _ ?_ (fun hHeld2 => ?_)
                                        · exact hHeld
                                        · clear hK K hHeld
                                          have hHeld := hHeld2
                                          clear hHeld2
                                          try simp only [Act.put, List.getElem_toArray, List.getElem_cons_zero, List.getElem_cons_succ, List.setIfInBounds_toArray, List.set_cons_zero, List.set_cons_succ]
                                          refine wpAnyH_done (by kernel_rfl) ?_ _
                                          refine NoPanic.normal ?_
                                          go_wp2_with fail
                                          go_ret
                                          exact ⟨rfl, below_step bel (KB1.out _ hHeld)⟩
                                      exact AllReadyH.nil
                                  exact AllReadyH.nil
                              exact AllReadyH.nil
                          exact AllReadyH.nil
                      refine AllReadyH.cons rfl (fun K hK => ?_) ?_
                      · go_simp
                        refine hK.out _ _ ?_ (fun hHeld2 => ?_)
                        · exact KA1.out _ _ hHeld
                        · clear hK K hHeld
                          have hHeld := hHeld2
                          clear hHeld2
                          try simp only [Act.put, List.getElem_toArray, List.getElem_cons_zero, List.getElem_cons_succ, List.setIfInBounds_toArray, List.set_cons_zero, List.set_cons_succ]
                          have b1 := bs_one w5 128
                          obtain ⟨g9, hg9⟩ : ∃ b, b = w5.heap.size := ⟨_, rfl⟩
                          obtain ⟨w7, hw9⟩ : ∃ z, z = w5.alloc (Obj.cells #[.int .u8 128] 5) := ⟨_, rfl⟩
                          rw [← hw9] at hHeld b1 ⊢
                          rw [← hg9] at b1 ⊢
                          clear hg9 hw9
                          refine wpAnyH_ready (rs := [12]) (by kernel_rfl) (by simp) ?_
                          refine AllReadyH.cons rfl (fun K hK => ?_) ?_
                          · go_simp
                            go_fit (con_oneL O1h.out)
                            rintro e w6 ⟨rfl, hb⟩
                            refine hK.out _ _ ?_ (fun hHeld2 => ?_)
                            · exact KL1.out _ _ hHeld hb
                            · clear hK K hHeld
                              have hHeld := hHeld2
                              clear hHeld2
                              try simp only [Act.put, List.getElem_toArray, List.getElem_cons_zero, List.getElem_cons_succ, List.setIfInBounds_toArray, List.set_cons_zero, List.set_cons_succ]
                              replace b1 := b1.later hb
                              clear hb
                              refine wpAnyH_ready (rs := [14]) (by kernel_rfl) (by simp) ?_
                              refine AllReadyH.cons rfl (fun K hK => ?_) ?_
                              · go_simp
                                go_fit (con_Hash1 O1h.out b1)
                                rintro e w8 ⟨rfl, hb⟩
                                refine hK.out _ _ ?_ (fun hHeld2 => ?_)
                                · exact KL1.out _ _ hHeld hb
                                · clear hK K hHeld
                                  have hHeld := hHeld2
                                  clear hHeld2
                                  try simp only [Act.put, List.getElem_toArray, List.getElem_cons_zero, List.getElem_cons_succ, List.setIfInBounds_toArray, List.set_cons_zero, List.set_cons_succ]
                                  clear hb b1
                                  refine wpAnyH_ready (rs := [15]) (by kernel_rfl) (by simp) ?_
                                  refine AllReadyH.cons rfl (fun K hK => ?_) ?_
                                  · go_simp
                                    go_fit (con_oneL O1h.out)
                                    rintro e w9 ⟨rfl, hb⟩
                                    refine hK.out _ _ ?_ (fun hHeld2 => ?_)
                                    · exact KL1.out _ _ hHeld hb
                                    · clear hK K hHeld
                                      have hHeld := hHeld2
                                      clear hHeld2
                                      try simp only [Act.put, List.getElem_toArray, List.getElem_cons_zero, List.getElem_cons_succ, List.setIfInBounds_toArray, List.set_cons_zero, List.set_cons_succ]
                                      clear hb
                                      refine wpAnyH_take (i := 16) (v := ?_) rfl (by kernel_rfl) (by kernel_rfl) (by kernel_rfl) (fun _ _ _ h => h) (Or.inl ⟨by rfl, ?_⟩) (by assumption) ?_
                                      rotate_left
                                      · intro w hSw
                                        go_simp
                                        with_reducible rfl
                                      try simp only [Act.put, List.getElem_toArray, List.getElem_cons_zero, List.getElem_cons_succ, List.setIfInBounds_toArray, List.set_cons_zero, List.set_cons_succ]
                                      refine wpAnyH_take (i := 17) (v := ?_) rfl (by kernel_rfl) (by kernel_rfl) (by kernel_rfl) (fun _ _ _ h => h) (Or.inl ⟨by rfl, ?_⟩) (by assumption) ?_
                                      rotate_left
                                      · intro w hSw
                                        go_simp
                                        with_reducible rfl
                                      try simp only [Act.put, List.getElem_toArray, List.getElem_cons_zero, List.getElem_cons_succ, List.setIfInBounds_toArray, List.set_cons_zero, List.set_cons_succ]
                                      refine wpAnyH_ready (rs := [18]) (by kernel_rfl) (by simp) ?_
                                      refine AllReadyH.cons rfl (fun K hK => ?_) ?_
                                      · go_simp
                                        refine hK.out _ _ ?_ (fun hHeld2 => ?_)
                                        · exact hHeld
                                        · clear hK K hHeld
                                          have hHeld := hHeld2
                                          clear hHeld2
                                          try simp only [Act.put, List.getElem_toArray, List.getElem_cons_zero, List.getElem_cons_succ, List.setIfInBounds_toArray, List.set_cons_zero, List.set_cons_succ]
                                          refine wpAnyH_done (by kernel_rfl) ?_ _
                                          refine NoPanic.normal ?_
                                          go_wp2_with fail
                                          go_ret
                                          exact ⟨rfl, below_step bel (KB1.out _ hHeld)⟩
                                      exact AllReadyH.nil
                                  exact AllReadyH.nil
                              exact AllReadyH.nil
                          exact AllReadyH.nil
                      exact AllReadyH.nil
                  exact AllReadyH.nil
              exact AllReadyH.nil
          exact AllReadyH.nil
      exact AllReadyH.nil
theorem law_ghashSums (H : List Int) (av : Value) (A : List Int) (bv : Value) (B : List Int) (w : World) (lH : H.length = 16) (bH : byt H) (ha : Bs w av A) (bA : byt A) (hb : Bs w bv B) (bB : byt B) :
    Calls Try.prog 7 #[.agg (u8s H).toArray, av, bv] w fun e w' => e = .returned (.bool true) ∧ Below w.heap.size w w' := by
  by_cases h : (A.take 600).length < (B.take 600).length
  · exact sums_long lH bH ha bA hb bB h
  · exact sums_short lH bH ha bA hb bB h
end Go.Proofs.Ytpfmoakapdfdaaa
