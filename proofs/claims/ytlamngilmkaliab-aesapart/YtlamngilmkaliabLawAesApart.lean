/- The law AesApart answers true: two blocks have one code under one key only if they are one block. -/
import Derived.Test.YtlamngilmkaliabRows
import Derived.Test.YtlamngilmkaliabAeCodeE
import Derived.Test.YtlamngilmkaliabAeInv
import Derived.Test.YtlamngilmkaliabAeZero
import Derived.Test.YtlamngilmkaliabEqB
import Derived.Test.YtlamngilmkaliabSStr
import Derived.Test.YtlamngilmkaliabShape
import Derived.Test.YtlamngilmkaliabTakeRow
import Derived.Deep.WholeRow
import Derived.Deep.RegionHeld3
import Derived.Deep.DeepCutAuto
import Derived.Deep.DeepFit
namespace Go.Proofs.Ytlamngilmkaliab
open Go.RowKit

theorem con_EncryptL {kv : Value} {K S : List Int} {F G : List Value} {w : World} (hF : u8s S = F) (hG : u8s (encN K S 15) = G) (hk : Bs w kv K) (bK : byt K) (lK : K.length = 32) (l : S.length = 16) (b : byt S) :
    Calls Try.prog 4 #[kv, .agg F.toArray] w fun e w' => e = .returned (.tuple #[.agg G.toArray, .nilIface]) ∧ Below w.heap.size w w' := by
  subst hF hG
  exact con_Encrypt hk bK lK l b
theorem con_EncryptZ {kv : Value} {cs : Array Value} {E : List Value} {w : World} (hC : (u8s (List.replicate 16 (0 : Int))).toArray = cs) (hE : u8s [220, 149, 192, 120, 162, 64, 137, 137, 173, 72, 162, 20, 146, 132, 32, 135] = E) (hk : Bs w kv (List.replicate 32 0)) :
    Calls Try.prog 4 #[kv, .agg cs] w fun e w' => e = .returned (.tuple #[.agg E.toArray, .nilIface]) ∧ Below w.heap.size w w' := by
  subst hC hE
  exact con_EncryptL rfl (congrArg u8s enc_zero) hk (byt_rep 32) List.length_replicate List.length_replicate (byt_rep 16)
theorem enc_eq {K A B : List Int} (bK : byt K) (lA : A.length = 16) (lB : B.length = 16) (bA : byt A) (bB : byt B) : decide (encN K A 15 = encN K B 15) = decide (A = B) := by
  by_cases h : A = B
  · subst h
    rw [decide_eq_true rfl, decide_eq_true rfl]
  · rw [decide_eq_false h, decide_eq_false]
    intro e
    exact h (encN_inj bK lA lB bA bB 15 e)
theorem bool_eq (q : Bool) : (q == q) = true := by cases q <;> rfl
set_option linter.unusedSimpArgs false in
set_option maxRecDepth 100000 in
set_option maxHeartbeats 4000000 in
theorem law_aesApart (K : List Int) (A : List Int) (B : List Int) (w : World) (lK : K.length = 32) (bK : byt K) (lA : A.length = 16) (bA : byt A) (lB : B.length = 16) (bB : byt B) :
    Calls Try.prog 3 #[.agg (u8s K).toArray, .agg (u8s A).toArray, .agg (u8s B).toArray] w fun e w' => e = .returned (.bool true) ∧ Below w.heap.size w w' := by
  obtain ⟨FA, hFA⟩ : ∃ F, u8s (A) = F := ⟨_, rfl⟩
  have FAh : Hid (u8s (A) = FA) := hFA
  have FAo : Hid (FA.toArray.all (·.oneCell') = true) := by rw [← hFA]; exact u8_ones _
  have FAl : Hid (FA.length = 16) := by rw [← hFA, List.length_map]; exact lA
  obtain ⟨FB, hFB⟩ : ∃ F, u8s (B) = F := ⟨_, rfl⟩
  have FBh : Hid (u8s (B) = FB) := hFB
  have FBo : Hid (FB.toArray.all (·.oneCell') = true) := by rw [← hFB]; exact u8_ones _
  have FBl : Hid (FB.length = 16) := by rw [← hFB, List.length_map]; exact lB
  obtain ⟨GA, hGA⟩ : ∃ F, u8s (encN K A 15) = F := ⟨_, rfl⟩
  have GAh : Hid (u8s (encN K A 15) = GA) := hGA
  have GAo : Hid (GA.toArray.all (·.oneCell') = true) := by rw [← hGA]; exact u8_ones _
  have GAl : Hid (GA.length = 16) := by rw [← hGA, List.length_map]; exact encN_len lA 15
  obtain ⟨GB, hGB⟩ : ∃ F, u8s (encN K B 15) = F := ⟨_, rfl⟩
  have GBh : Hid (u8s (encN K B 15) = GB) := hGB
  have GBo : Hid (GB.toArray.all (·.oneCell') = true) := by rw [← hGB]; exact u8_ones _
  have GBl : Hid (GB.length = 16) := by rw [← hGB, List.length_map]; exact encN_len lB 15
  obtain ⟨E, hE⟩ : ∃ F, u8s (([220, 149, 192, 120, 162, 64, 137, 137, 173, 72, 162, 20, 146, 132, 32, 135] : List Int)) = F := ⟨_, rfl⟩
  have Eh : Hid (u8s (([220, 149, 192, 120, 162, 64, 137, 137, 173, 72, 162, 20, 146, 132, 32, 135] : List Int)) = E) := hE
  have Eo : Hid (E.toArray.all (·.oneCell') = true) := by rw [← hE]; exact u8_ones _
  have El : Hid (E.length = 16) := by rw [← hE, List.length_map]; exact rfl
  have HE0 : Hid (E[0]? = some (.int .u8 220)) := by rw [← hE]; rfl
  have HA : Hid (byt A) := bA
  have HAl : Hid (A.length = 16) := lA
  have HB : Hid (byt B) := bB
  have HBl : Hid (B.length = 16) := lB
  have HKb : Hid (byt K) := bK
  have HKl : Hid (K.length = 32) := lK
  have hz := zero_16.out
  obtain ⟨cs, hcs⟩ : ∃ z, (u8s (List.replicate 16 (0 : Int))).toArray = z := ⟨_, rfl⟩
  have HC : Hid ((u8s (List.replicate 16 (0 : Int))).toArray = cs) := hcs
  have HZ : Hid (cs.size = 16) := by rw [← hcs]; rfl
  rw [hcs] at hz
  clear hcs
  obtain ⟨q, hq⟩ : ∃ q, decide (A = B) = q := ⟨_, rfl⟩
  have q1 : ∀ w : World, (Op.equalIn 10000 23 (.agg FA.toArray) (.agg FB.toArray)).run Try.prog w = .ok q w := by
    rw [← hFA, ← hFB, ← hq]
    exact eql_16 lA lB
  have q2 : ∀ w : World, (Op.equalIn 10000 23 (.agg GA.toArray) (.agg GB.toArray)).run Try.prog w = .ok q w := by
    rw [← hGA, ← hGB, ← hq]
    intro w
    rw [eql_16 (encN_len lA 15) (encN_len lB 15) w, enc_eq bK lA lB bA bB]
  have HQ1 : Hid _ := q1
  have HQ2 : Hid _ := q2
  clear q1 q2 hq
  rw [hFA, hFB]
  obtain ⟨FK, hFK⟩ : ∃ F, u8s K = F := ⟨_, rfl⟩
  have FKh : Hid (u8s K = FK) := hFK
  rw [hFK]
  clear hFA hFB hGA hGB hE hFK lA bA lB bB lK bK
  have BK := ((Blk.new w FK 22 w.heap.size rfl).alloc (.cells FA.toArray 23)).alloc (.cells FB.toArray 23)
  have B0 := (Blk.new (w.alloc (.cells FK.toArray 22)) FA 23 (w.heap.size + 1) (by simp)).alloc (.cells FB.toArray 23)
  have B1 := Blk.new ((w.alloc (.cells FK.toArray 22)).alloc (.cells FA.toArray 23)) FB 23 (w.heap.size + 1 + 1) (by simp)
  have bel : Below w.heap.size w (((w.alloc (.cells FK.toArray 22)).alloc (.cells FA.toArray 23)).alloc (.cells FB.toArray 23)) := ((((Below.refl _ _).alloc (Nat.le_refl _) _).alloc (by simp) _).alloc (by simp; omega) _)
  go_enter Try.func3, Try.ntmps3
  go_upto_region 1 with fail
  generalize (((w.alloc (.cells FK.toArray 22)).alloc (.cells FA.toArray 23)).alloc (.cells FB.toArray 23)) = W at *
  go_wp2_with fail
  have lt1 := B1.lt
  go_loopw [7, 8] (fun kv iv wx => ∃ i : Nat, i ≤ 32 ∧ iv = .int .i64 i ∧ wx.ownsRow W.heap.size 5 1 kv i (u8s (K.take i)) ∧ Below W.heap.size W wx) (fun _ iv _ => 32 - (intOf iv).toNat)
  case atStart => exact ⟨0, by omega, rfl, World.ownsRow_nil _ _ _ _, Below.refl _ _⟩
  case round =>
    obtain ⟨i, hi, rfl, own, hbx⟩ := hrel
    by_cases hil : i < 32
    · have gA : (i : Int) < 32 := by omega
      have gB : (0 : Int) ≤ (i : Int) := by omega
      have gi : IntKind.i64.wrap ((i : Int) + 1) = (i : Int) + 1 := by rw [IntKind.wrap_i64]; omega
      have ck := (BK.below hbx BK.lt).cell i _ (by rw [← FKh.out]; exact u8s_get K i (by rw [HKl.out]; exact hil))
      have HN : Hid _ := take_next (k := K) (i := i) (by rw [HKl.out]; exact hil)
      obtain ⟨y, hy⟩ : ∃ y, K.getD i 0 = y := ⟨_, rfl⟩
      rw [hy] at ck HN
      clear hy
      have b1 := bs_one wr y
      have hsx := hbx.size
      have ltk := Nat.lt_of_lt_of_le BK.lt hsx
      go_wp2_with (first | (at_builtin; refine wpList_append_bs (by rfl) _ _ (by rfl) W.heap.size _ i (K.take i) (by rfl) (own.alloc _) _ [y] (by rfl) b1 (by simp; omega) (by simp; omega) ?_; intro v5 w5 own5 hgrow hat) | fail)
      go_roundw
      case rel =>
        rw [HN.out] at own5
        exact ⟨i + 1, by omega, by go_num, own5, below_own (base := W.heap.size) (hbx.alloc hsx (.cells #[.int .u8 y] 5)) hgrow (by simp; omega) (fun g hg => own_geA own hg) (Nat.le_refl _)⟩
      case measure => simp [intOf]; omega
    · have HI : Hid (i = 32) := by show i = 32; omega
      have gA : (32 : Int) ≤ (i : Int) := by omega
      have hk := Bs.of_own own
      rw [HI.out, List.take_of_length_le (by rw [HKl.out]; exact Nat.le_refl _)] at hk
      clear own
      replace B0 := B0.below hbx B0.lt
      replace B1 := B1.below hbx B1.lt
      replace bel := below_step bel hbx
      clear hbx BK lt1
      have hk0 := hk
      obtain ⟨ao, cap, rfl, c1, c2, c3⟩ := hk0
      clear c3
      unfold maxLen at c1
      obtain ⟨W1, hW1⟩ : ∃ z, z = wr := ⟨_, rfl⟩
      rw [← hW1] at hk B0 B1 bel ⊢
      clear hW1
      go_wp2_with (first | (refine wpList_load_run (by rfl) (by rfl) (by rfl) (B0.load Try.underlying23 rfl size_16 FAl.out) ?_) | fail)
      refine (con_EncryptL FAh.out GAh.out hk HKb.out HKl.out HAl.out HA.out).mono ?_
      rintro e w1 ⟨rfl, hb⟩
      replace B0 := B0.later hb
      replace B1 := B1.later hb
      replace hk := hk.later hb
      replace bel := below_step bel hb
      clear hb
      go_upto_region 7 with (first | (refine wpList_store_row rfl 23 _ _ rfl w1.heap.size GA.toArray rfl rfl 23 cs (heap_alloc_last _ _) (by rw [size_16, List.size_toArray, GAl.out]) (by rw [HZ.out, List.size_toArray, GAl.out]) GAo.out ?_; rw [World.setRow_alloc_new]) | fail)
      replace hk := hk.later ((Below.refl _ _).alloc (Nat.le_refl _) (.cells GA.toArray 23))
      have Bg1 := Blk.new w1 GA 23 w1.heap.size rfl
      replace B0 := B0.alloc (.cells GA.toArray 23)
      replace B1 := B1.alloc (.cells GA.toArray 23)
      replace bel := below_alloc (o := .cells GA.toArray 23) bel
      obtain ⟨g1, hg1⟩ : ∃ b, b = w1.heap.size := ⟨_, rfl⟩
      generalize w1.alloc (Obj.cells GA.toArray 23) = W2 at *
      rw [← hg1] at Bg1 ⊢
      clear hg1
      go_wp2_with (first | (refine wpList_load_run (by rfl) (by rfl) (by rfl) (B1.load Try.underlying23 rfl size_16 FBl.out) ?_) | fail)
      refine (con_EncryptL FBh.out GBh.out hk HKb.out HKl.out HBl.out HB.out).mono ?_
      rintro e w2 ⟨rfl, hb⟩
      replace B0 := B0.later hb
      replace B1 := B1.later hb
      replace Bg1 := Bg1.later hb
      replace hk := hk.later hb
      replace bel := below_step bel hb
      clear hb
      go_upto_region 8 with (first | (refine wpList_store_row rfl 23 _ _ rfl w2.heap.size GB.toArray rfl rfl 23 cs (heap_alloc_last _ _) (by rw [size_16, List.size_toArray, GBl.out]) (by rw [HZ.out, List.size_toArray, GBl.out]) GBo.out ?_; rw [World.setRow_alloc_new]) | fail)
      clear hk
      have Bg2 := Blk.new w2 GB 23 w2.heap.size rfl
      replace B0 := B0.alloc (.cells GB.toArray 23)
      replace B1 := B1.alloc (.cells GB.toArray 23)
      replace Bg1 := Bg1.alloc (.cells GB.toArray 23)
      replace bel := below_alloc (o := .cells GB.toArray 23) bel
      obtain ⟨g2, hg2⟩ : ∃ b, b = w2.heap.size := ⟨_, rfl⟩
      generalize w2.alloc (Obj.cells GB.toArray 23) = W3 at *
      rw [← hg2] at Bg2 ⊢
      clear hg2
      have hmk := run_make_row' 24 5 (.int .u8 0) 1 Try.underlying24 info_b16 rfl .i64 .i64 32 (by decide) (by decide) W3
      rw [made_zero] at hmk
      have BZ := Blk.new W3 (u8s (List.replicate 32 0)) 5 W3.heap.size rfl
      have bz : Below W3.heap.size W3 (W3.alloc (.cells (u8s (List.replicate 32 0)).toArray 5)) := (Below.refl _ _).alloc (Nat.le_refl _) _
      obtain ⟨WZ, hWZ⟩ : ∃ W, W = W3.alloc (.cells (u8s (List.replicate 32 0)).toArray 5) := ⟨_, rfl⟩
      rw [← hWZ] at hmk BZ bz
      replace hmk : (Instr.makeSlice 24 (.int .i64 32) (.int .i64 32)).run Try.prog W3 = .ok (.slice (some ⟨W3.heap.size, 0, none⟩) 32 32) WZ := hmk
      clear hWZ
      go_wp2_with fail
      refine (con_EncryptZ HC.out Eh.out (BZ.bs List.length_replicate (by decide))).mono ?_
      rintro e w3 ⟨rfl, hb⟩
      replace hb := below_step bz hb
      clear bz BZ hmk
      replace B0 := B0.later hb
      replace B1 := B1.later hb
      replace Bg1 := Bg1.later hb
      replace Bg2 := Bg2.later hb
      replace bel := below_step bel hb
      clear hb
      go_upto_region 9 with (first | (refine wpList_store_row rfl 23 _ _ rfl w3.heap.size E.toArray rfl rfl 23 cs (heap_alloc_last _ _) (by rw [size_16, List.size_toArray, El.out]) (by rw [HZ.out, List.size_toArray, El.out]) Eo.out ?_; rw [World.setRow_alloc_new]) | fail)
      have Bg3 := Blk.new w3 E 23 w3.heap.size rfl
      replace B0 := B0.alloc (.cells E.toArray 23)
      replace B1 := B1.alloc (.cells E.toArray 23)
      replace Bg1 := Bg1.alloc (.cells E.toArray 23)
      replace Bg2 := Bg2.alloc (.cells E.toArray 23)
      replace bel := below_alloc (o := .cells E.toArray 23) bel
      obtain ⟨g3, hg3⟩ : ∃ b, b = w3.heap.size := ⟨_, rfl⟩
      generalize w3.alloc (Obj.cells E.toArray 23) = W4 at *
      rw [← hg3] at Bg3 ⊢
      clear hg3
      obtain ⟨S1, hS1, KL1, KA1, KD1, KS1, KQ1, KN1, KB1, KM1, KR1⟩ := held3 (w0 := W4) (W := W4) [(w.heap.size + 1, FA), (w.heap.size + 1 + 1, FB), (g1, GA), (g2, GB), (g3, E)] (by
        intro b X h
        simp only [List.mem_cons, List.not_mem_nil, or_false, Prod.mk.injEq] at h
        rcases h with ⟨rfl, rfl⟩ | ⟨rfl, rfl⟩ | ⟨rfl, rfl⟩ | ⟨rfl, rfl⟩ | ⟨rfl, rfl⟩
        · exact B0
        · exact B1
        · exact Bg1
        · exact Bg2
        · exact Bg3) (Below.refl _ _)
      have rA : Hid (∀ wx, Hd S1 wx → (loadVar 23 ⟨w.heap.size + 1, 0, none⟩).run Try.prog wx = .ok (.agg FA.toArray) wx) := fun wx h => (KM1.out wx (w.heap.size + 1) _ h (List.Mem.head _)).load Try.underlying23 rfl size_16 FAl.out
      have rB : Hid (∀ wx, Hd S1 wx → (loadVar 23 ⟨w.heap.size + 1 + 1, 0, none⟩).run Try.prog wx = .ok (.agg FB.toArray) wx) := fun wx h => (KM1.out wx (w.heap.size + 1 + 1) _ h (List.Mem.tail _ (List.Mem.head _))).load Try.underlying23 rfl size_16 FBl.out
      have r1 : Hid (∀ wx, Hd S1 wx → (loadVar 23 ⟨g1, 0, none⟩).run Try.prog wx = .ok (.agg GA.toArray) wx) := fun wx h => (KM1.out wx (g1) _ h (List.Mem.tail _ (List.Mem.tail _ (List.Mem.head _)))).load Try.underlying23 rfl size_16 GAl.out
      have r2 : Hid (∀ wx, Hd S1 wx → (loadVar 23 ⟨g2, 0, none⟩).run Try.prog wx = .ok (.agg GB.toArray) wx) := fun wx h => (KM1.out wx (g2) _ h (List.Mem.tail _ (List.Mem.tail _ (List.Mem.tail _ (List.Mem.head _))))).load Try.underlying23 rfl size_16 GBl.out
      have re : ∀ wx, Hd S1 wx → wx.cell? ⟨g3, 0, none⟩ = some (.int .u8 220) := fun wx h => (KM1.out wx g3 _ h (List.Mem.tail _ (List.Mem.tail _ (List.Mem.tail _ (List.Mem.tail _ (List.Mem.head _)))))).cell 0 _ HE0.out
      have q1 := HQ1.out
      have q2 := HQ2.out
      have q3 := nil_eq
      have q4 := bool_eq q
      clear KS1 KQ1 KN1 KR1 KA1 KM1 KL1 B0 B1 Bg1 Bg2 Bg3 hz
      refine wp_region_noPanic ?_
      refine wp_region_held_drew (S := Hd S1) (by kernel_rfl) (KD1.out _ hS1) (fun hHeld => ?_)
      clear hS1
      generalize World.drew _ = wd at *
      refine wpAnyH_take (i := 0) (v := ?_) rfl (by kernel_rfl) (by kernel_rfl) (by kernel_rfl) (fun _ _ _ h => h) (Or.inl ⟨by rfl, ?_⟩) (by assumption) ?_
      rotate_left
      · intro w hSw
        go_simp
        with_reducible rfl
      try simp only [Act.put, List.getElem_toArray, List.getElem_cons_zero, List.getElem_cons_succ, List.setIfInBounds_toArray, List.set_cons_zero, List.set_cons_succ]
      refine wpAnyH_take (i := 1) (v := ?_) rfl (by kernel_rfl) (by kernel_rfl) (by kernel_rfl) (fun _ _ _ h => h) (Or.inl ⟨by rfl, ?_⟩) (by assumption) ?_
      rotate_left
      · intro w hSw
        go_simp
        with_reducible rfl
      try simp only [Act.put, List.getElem_toArray, List.getElem_cons_zero, List.getElem_cons_succ, List.setIfInBounds_toArray, List.set_cons_zero, List.set_cons_succ]
      refine wpAnyH_take (i := 2) (v := ?_) rfl (by kernel_rfl) (by kernel_rfl) (by kernel_rfl) (fun _ _ _ h => h) (Or.inl ⟨by rfl, ?_⟩) (by assumption) ?_
      rotate_left
      · intro w hSw
        go_simp
        with_reducible rfl
      try simp only [Act.put, List.getElem_toArray, List.getElem_cons_zero, List.getElem_cons_succ, List.setIfInBounds_toArray, List.set_cons_zero, List.set_cons_succ]
      refine wpAnyH_take (i := 3) (v := ?_) rfl (by kernel_rfl) (by kernel_rfl) (by kernel_rfl) (fun _ _ _ h => h) (Or.inl ⟨by rfl, ?_⟩) (by assumption) ?_
      rotate_left
      · intro w hSw
        go_simp
        with_reducible rfl
      try simp only [Act.put, List.getElem_toArray, List.getElem_cons_zero, List.getElem_cons_succ, List.setIfInBounds_toArray, List.set_cons_zero, List.set_cons_succ]
      refine wpAnyH_take (i := 4) (v := ?_) rfl (by kernel_rfl) (by kernel_rfl) (by kernel_rfl) (fun _ _ _ h => h) (Or.inl ⟨by rfl, ?_⟩) (by assumption) ?_
      rotate_left
      · intro w hSw
        go_simp
        with_reducible rfl
      try simp only [Act.put, List.getElem_toArray, List.getElem_cons_zero, List.getElem_cons_succ, List.setIfInBounds_toArray, List.set_cons_zero, List.set_cons_succ]
      refine wpAnyH_take (i := 5) (v := ?_) rfl (by kernel_rfl) (by kernel_rfl) (by kernel_rfl) (fun _ _ _ h => h) (Or.inl ⟨by rfl, ?_⟩) (by assumption) ?_
      rotate_left
      · intro w hSw
        go_simp
        with_reducible rfl
      try simp only [Act.put, List.getElem_toArray, List.getElem_cons_zero, List.getElem_cons_succ, List.setIfInBounds_toArray, List.set_cons_zero, List.set_cons_succ]
      refine wpAnyH_take (i := 6) (v := ?_) rfl (by kernel_rfl) (by kernel_rfl) (by kernel_rfl) (fun _ _ _ h => h) (Or.inl ⟨by rfl, ?_⟩) (by assumption) ?_
      rotate_left
      · intro w hSw
        go_simp
        with_reducible rfl
      try simp only [Act.put, List.getElem_toArray, List.getElem_cons_zero, List.getElem_cons_succ, List.setIfInBounds_toArray, List.set_cons_zero, List.set_cons_succ]
      refine wpAnyH_take (i := 7) (v := ?_) rfl (by kernel_rfl) (by kernel_rfl) (by kernel_rfl) (fun _ _ _ h => h) (Or.inl ⟨by rfl, ?_⟩) (by assumption) ?_
      rotate_left
      · intro w hSw
        go_simp
        with_reducible rfl
      try simp only [Act.put, List.getElem_toArray, List.getElem_cons_zero, List.getElem_cons_succ, List.setIfInBounds_toArray, List.set_cons_zero, List.set_cons_succ]
      refine wpAnyH_take (i := 8) (v := ?_) rfl (by kernel_rfl) (by kernel_rfl) (by kernel_rfl) (fun _ _ _ h => h) (Or.inl ⟨by rfl, ?_⟩) (by assumption) ?_
      rotate_left
      · intro w hSw
        go_simp
        with_reducible rfl
      try simp only [Act.put, List.getElem_toArray, List.getElem_cons_zero, List.getElem_cons_succ, List.setIfInBounds_toArray, List.set_cons_zero, List.set_cons_succ]
      refine wpAnyH_take (i := 9) (v := ?_) rfl (by kernel_rfl) (by kernel_rfl) (by kernel_rfl) (fun _ _ _ h => h) (Or.inl ⟨by rfl, ?_⟩) (by assumption) ?_
      rotate_left
      · intro w hSw
        go_simp
        with_reducible rfl
      try simp only [Act.put, List.getElem_toArray, List.getElem_cons_zero, List.getElem_cons_succ, List.setIfInBounds_toArray, List.set_cons_zero, List.set_cons_succ]
      refine wpAnyH_take (i := 10) (v := ?_) rfl (by kernel_rfl) (by kernel_rfl) (by kernel_rfl) (fun _ _ _ h => h) (Or.inl ⟨by rfl, ?_⟩) (by assumption) ?_
      rotate_left
      · intro w hSw
        go_simp
        with_reducible rfl
      try simp only [Act.put, List.getElem_toArray, List.getElem_cons_zero, List.getElem_cons_succ, List.setIfInBounds_toArray, List.set_cons_zero, List.set_cons_succ]
      refine wpAnyH_take (i := 11) (v := ?_) rfl (by kernel_rfl) (by kernel_rfl) (by kernel_rfl) (fun _ _ _ h => h) (Or.inl ⟨by rfl, ?_⟩) (by assumption) ?_
      rotate_left
      · intro w hSw
        go_simp
        with_reducible rfl
      try simp only [Act.put, List.getElem_toArray, List.getElem_cons_zero, List.getElem_cons_succ, List.setIfInBounds_toArray, List.set_cons_zero, List.set_cons_succ]
      refine wpAnyH_take (i := 12) (v := ?_) rfl (by kernel_rfl) (by kernel_rfl) (by kernel_rfl) (fun _ _ _ h => h) (Or.inl ⟨by rfl, ?_⟩) (by assumption) ?_
      rotate_left
      · intro w hSw
        go_simp
        with_reducible rfl
      try simp only [Act.put, List.getElem_toArray, List.getElem_cons_zero, List.getElem_cons_succ, List.setIfInBounds_toArray, List.set_cons_zero, List.set_cons_succ]
      refine wpAnyH_take (i := 13) (v := ?_) rfl (by kernel_rfl) (by kernel_rfl) (by kernel_rfl) (fun _ _ _ h => h) (Or.inl ⟨by rfl, ?_⟩) (by assumption) ?_
      rotate_left
      · intro w hSw
        go_simp
        with_reducible rfl
      try simp only [Act.put, List.getElem_toArray, List.getElem_cons_zero, List.getElem_cons_succ, List.setIfInBounds_toArray, List.set_cons_zero, List.set_cons_succ]
      refine wpAnyH_take (i := 14) (v := ?_) rfl (by kernel_rfl) (by kernel_rfl) (by kernel_rfl) (fun _ _ _ h => h) (Or.inl ⟨by rfl, ?_⟩) (by assumption) ?_
      rotate_left
      · intro w hSw
        go_simp
        with_reducible rfl
      try simp only [Act.put, List.getElem_toArray, List.getElem_cons_zero, List.getElem_cons_succ, List.setIfInBounds_toArray, List.set_cons_zero, List.set_cons_succ]
      refine wpAnyH_take (i := 15) (v := ?_) rfl (by kernel_rfl) (by kernel_rfl) (by kernel_rfl) (fun _ _ _ h => h) (Or.inl ⟨by rfl, ?_⟩) (by assumption) ?_
      rotate_left
      · intro w hSw
        go_simp
        with_reducible rfl
      try simp only [Act.put, List.getElem_toArray, List.getElem_cons_zero, List.getElem_cons_succ, List.setIfInBounds_toArray, List.set_cons_zero, List.set_cons_succ]
      refine wpAnyH_take (i := 16) (v := .agg GA.toArray) rfl (by kernel_rfl) (by kernel_rfl) (by kernel_rfl) (fun _ _ _ h => h) (Or.inl ⟨by rfl, fun wx h => exec_load rfl rfl (r1.out wx h)⟩) (by assumption) ?_
      try simp only [Act.put, List.getElem_toArray, List.getElem_cons_zero, List.getElem_cons_succ, List.setIfInBounds_toArray, List.set_cons_zero, List.set_cons_succ]
      refine wpAnyH_take (i := 17) (v := .agg GB.toArray) rfl (by kernel_rfl) (by kernel_rfl) (by kernel_rfl) (fun _ _ _ h => h) (Or.inl ⟨by rfl, fun wx h => exec_load rfl rfl (r2.out wx h)⟩) (by assumption) ?_
      try simp only [Act.put, List.getElem_toArray, List.getElem_cons_zero, List.getElem_cons_succ, List.setIfInBounds_toArray, List.set_cons_zero, List.set_cons_succ]
      refine wpAnyH_take (i := 18) (v := ?_) rfl (by kernel_rfl) (by kernel_rfl) (by kernel_rfl) (fun _ _ _ h => h) (Or.inl ⟨by rfl, ?_⟩) (by assumption) ?_
      rotate_left
      · intro w hSw
        go_simp
        with_reducible rfl
      try simp only [Act.put, List.getElem_toArray, List.getElem_cons_zero, List.getElem_cons_succ, List.setIfInBounds_toArray, List.set_cons_zero, List.set_cons_succ]
      refine wpAnyH_take (i := 19) (v := .agg FA.toArray) rfl (by kernel_rfl) (by kernel_rfl) (by kernel_rfl) (fun _ _ _ h => h) (Or.inl ⟨by rfl, fun wx h => exec_load rfl rfl (rA.out wx h)⟩) (by assumption) ?_
      try simp only [Act.put, List.getElem_toArray, List.getElem_cons_zero, List.getElem_cons_succ, List.setIfInBounds_toArray, List.set_cons_zero, List.set_cons_succ]
      refine wpAnyH_take (i := 20) (v := .agg FB.toArray) rfl (by kernel_rfl) (by kernel_rfl) (by kernel_rfl) (fun _ _ _ h => h) (Or.inl ⟨by rfl, fun wx h => exec_load rfl rfl (rB.out wx h)⟩) (by assumption) ?_
      try simp only [Act.put, List.getElem_toArray, List.getElem_cons_zero, List.getElem_cons_succ, List.setIfInBounds_toArray, List.set_cons_zero, List.set_cons_succ]
      refine wpAnyH_take (i := 21) (v := ?_) rfl (by kernel_rfl) (by kernel_rfl) (by kernel_rfl) (fun _ _ _ h => h) (Or.inl ⟨by rfl, ?_⟩) (by assumption) ?_
      rotate_left
      · intro w hSw
        go_simp
        with_reducible rfl
      try simp only [Act.put, List.getElem_toArray, List.getElem_cons_zero, List.getElem_cons_succ, List.setIfInBounds_toArray, List.set_cons_zero, List.set_cons_succ]
      refine wpAnyH_take (i := 22) (v := ?_) rfl (by kernel_rfl) (by kernel_rfl) (by kernel_rfl) (fun _ _ _ h => h) (Or.inl ⟨by rfl, ?_⟩) (by assumption) ?_
      rotate_left
      · intro w hSw
        go_simp
        with_reducible rfl
      try simp only [Act.put, List.getElem_toArray, List.getElem_cons_zero, List.getElem_cons_succ, List.setIfInBounds_toArray, List.set_cons_zero, List.set_cons_succ]
      refine wpAnyH_take (i := 23) (v := ?_) rfl (by kernel_rfl) (by kernel_rfl) (by kernel_rfl) (fun _ _ _ h => h) (Or.inl ⟨by rfl, ?_⟩) (by assumption) ?_
      rotate_left
      · intro w hSw
        go_simp
        with_reducible rfl
      try simp only [Act.put, List.getElem_toArray, List.getElem_cons_zero, List.getElem_cons_succ, List.setIfInBounds_toArray, List.set_cons_zero, List.set_cons_succ]
      refine wpAnyH_ready (rs := [24]) (by kernel_rfl) (by simp) ?_
      refine AllReadyH.cons rfl (fun K hK => ?_) ?_
      · go_simp
        refine hK.out _ _ ?_ (fun hHeld2 => ?_)
        · exact hHeld
        · clear hK K hHeld
          have hHeld := hHeld2
          clear hHeld2
          try simp only [Act.put, List.getElem_toArray, List.getElem_cons_zero, List.getElem_cons_succ, List.setIfInBounds_toArray, List.set_cons_zero, List.set_cons_succ]
          refine wpAnyH_done (by kernel_rfl) ?_ _
          refine NoPanic.normal ?_
          go_wp2_with fail
          go_ret
          exact ⟨rfl, below_step bel (KB1.out _ hHeld)⟩
      exact AllReadyH.nil
end Go.Proofs.Ytlamngilmkaliab
