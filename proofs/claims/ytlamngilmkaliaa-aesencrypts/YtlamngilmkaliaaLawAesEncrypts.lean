/- The law AesEncrypts answers true: any block's code by any key, or that it is none. -/
import Derived.Test.YtlamngilmkaliaaRows
import Derived.Test.YtlamngilmkaliaaAeCodeE
import Derived.Test.YtlamngilmkaliaaAeEnc
import Derived.Test.YtlamngilmkaliaaAeZero
import Derived.Test.YtlamngilmkaliaaEqB
import Derived.Test.YtlamngilmkaliaaSStr
import Derived.Test.YtlamngilmkaliaaShape
import Derived.Test.YtlamngilmkaliaaTakeRow
import Derived.Deep.WholeRow
import Derived.Deep.RegionHeld3
import Derived.Deep.DeepCutAuto
import Derived.Deep.DeepFit
namespace Go.Proofs.Ytlamngilmkaliaa
open Go.RowKit

theorem con_EncryptL {kv : Value} {K S : List Int} {F G : List Value} {w : World} (hF : u8s S = F) (hG : u8s (encN K S 15) = G) (hk : Bs w kv K) (bK : byt K) (lK : K.length = 32) (l : S.length = 16) (b : byt S) :
    Calls Try.prog 20 #[kv, .agg F.toArray] w fun e w' => e = .returned (.tuple #[.agg G.toArray, .nilIface]) ∧ Below w.heap.size w w' := by
  subst hF hG
  exact con_Encrypt hk bK lK l b
theorem con_EncryptZ {kv : Value} {cs : Array Value} {E : List Value} {w : World} (hC : (u8s (List.replicate 16 (0 : Int))).toArray = cs) (hE : u8s [220, 149, 192, 120, 162, 64, 137, 137, 173, 72, 162, 20, 146, 132, 32, 135] = E) (hk : Bs w kv (List.replicate 32 0)) :
    Calls Try.prog 20 #[kv, .agg cs] w fun e w' => e = .returned (.tuple #[.agg E.toArray, .nilIface]) ∧ Below w.heap.size w w' := by
  subst hC hE
  exact con_EncryptL rfl (congrArg u8s enc_zero) hk (byt_rep 32) List.length_replicate List.length_replicate (byt_rep 16)
theorem con_EncryptBadL {kv : Value} {K S : List Int} {F G : List Value} {w : World} (hF : u8s S = F) (hC : u8s (List.replicate 16 (0 : Int)) = G) (hk : Bs w kv K) (lK : ¬ K.length = 32) (l : S.length = 16) (b : byt S) :
    Calls Try.prog 20 #[kv, .agg F.toArray] w fun e w' => e = .returned (.tuple #[.agg G.toArray, .iface 35 (.int .i64 1)]) ∧ Below w.heap.size w w' := by
  subst hF hC
  exact con_EncryptBad hk lK l b
theorem r9_EncryptL {boxv kv : Value} {K S : List Int} {F G : List Value} {w : World} (hF : u8s S = F) (hG : u8s (encN K S 15) = G) (hbox : Bs w boxv (boxN 256)) (hkey : Bs w kv K) (bK : byt K) (lK : K.length = 32) (bS : byt S) (l : S.length = 16) :
    Calls Try.prog 21 #[boxv, kv, .agg F.toArray] w fun e w' => e = .returned (.agg G.toArray) ∧ Below w.heap.size w w' := by
  subst hF hG
  exact r9_Encrypt hbox hkey bK lK bS l
set_option linter.unusedSimpArgs false in
set_option maxRecDepth 100000 in
set_option maxHeartbeats 4000000 in
theorem encrypts_bad {kv : Value} {K S : List Int} {w : World} (hk : Bs w kv K) (bK : byt K) (l : S.length = 16) (b : byt S) (HL : Hid (¬ K.length = 32)) :
    Calls Try.prog 8 #[kv, .agg (u8s S).toArray] w fun e w' => e = .returned (.bool true) ∧ Below w.heap.size w w' := by
  obtain ⟨F, hF⟩ : ∃ F, u8s (S) = F := ⟨_, rfl⟩
  have Fh : Hid (u8s (S) = F) := hF
  have Fo : Hid (F.toArray.all (·.oneCell') = true) := by rw [← hF]; exact u8_ones _
  have Fl : Hid (F.length = 16) := by rw [← hF, List.length_map]; exact l
  obtain ⟨G, hG⟩ : ∃ F, u8s (List.replicate 16 (0 : Int)) = F := ⟨_, rfl⟩
  have Gh : Hid (u8s (List.replicate 16 (0 : Int)) = G) := hG
  have Go : Hid (G.toArray.all (·.oneCell') = true) := by rw [← hG]; exact u8_ones _
  have Gl : Hid (G.length = 16) := by rw [← hG, List.length_map]; exact List.length_replicate
  obtain ⟨E, hE⟩ : ∃ F, u8s (([220, 149, 192, 120, 162, 64, 137, 137, 173, 72, 162, 20, 146, 132, 32, 135] : List Int)) = F := ⟨_, rfl⟩
  have Eh : Hid (u8s (([220, 149, 192, 120, 162, 64, 137, 137, 173, 72, 162, 20, 146, 132, 32, 135] : List Int)) = E) := hE
  have Eo : Hid (E.toArray.all (·.oneCell') = true) := by rw [← hE]; exact u8_ones _
  have El : Hid (E.length = 16) := by rw [← hE, List.length_map]; exact rfl
  have HE0 : Hid (E[0]? = some (.int .u8 220)) := by rw [← hE]; rfl
  have HS : Hid (byt S) := b
  have HSl : Hid (S.length = 16) := l
  have HKb : Hid (byt K) := bK
  have hz := zero_16.out
  obtain ⟨cs, hcs⟩ : ∃ z, (u8s (List.replicate 16 (0 : Int))).toArray = z := ⟨_, rfl⟩
  have HC : Hid ((u8s (List.replicate 16 (0 : Int))).toArray = cs) := hcs
  have HZ : Hid (cs.size = 16) := by rw [← hcs]; rfl
  rw [hcs] at hz
  clear hcs
  rw [hF]
  clear hF hG hE l b bK
  have B0 := Blk.new w F 26 w.heap.size rfl
  have bel : Below w.heap.size w (w.alloc (.cells F.toArray 26)) := (Below.refl _ _).alloc (Nat.le_refl _) _
  have hk0 := hk
  obtain ⟨ao, cap, rfl, c1, c2, c3⟩ := hk0
  clear c3
  unfold maxLen at c1
  go_enter Try.func8, Try.ntmps8
  go_upto_region 1 with fail
  generalize w.alloc (Obj.cells F.toArray 26) = W at *
  replace hk := hk.later bel
  have lt0 := B0.lt
  go_wp2_with (first | (refine wpList_load_run (by rfl) (by rfl) (by rfl) (B0.load Try.underlying26 rfl size_16 Fl.out) ?_) | fail)
  refine (con_EncryptBadL Fh.out Gh.out hk HL.out HSl.out HS.out).mono ?_
  rintro e w1 ⟨rfl, hb⟩
  clear lt0
  replace B0 := B0.later hb
  replace hk := hk.later hb
  replace bel := below_step bel hb
  clear hb
  go_upto_region 2 with (first | (refine wpList_store_row rfl 26 _ _ rfl w1.heap.size G.toArray rfl rfl 26 cs (heap_alloc_last _ _) (by rw [size_16, List.size_toArray, Gl.out]) (by rw [HZ.out, List.size_toArray, Gl.out]) Go.out ?_; rw [World.setRow_alloc_new]) | fail)
  replace hk := hk.later ((Below.refl _ _).alloc (Nat.le_refl _) (.cells G.toArray 26))
  have Bg1 := Blk.new w1 G 26 w1.heap.size rfl
  replace B0 := B0.alloc (.cells G.toArray 26)
  replace bel := below_alloc (o := .cells G.toArray 26) bel
  obtain ⟨g1, hg1⟩ : ∃ b, b = w1.heap.size := ⟨_, rfl⟩
  generalize w1.alloc (Obj.cells G.toArray 26) = W1 at *
  rw [← hg1] at Bg1 ⊢
  clear hg1
  have hmk := run_make_row' 29 5 (.int .u8 0) 1 Try.underlying29 info_b16 rfl .i64 .i64 32 (by decide) (by decide) W1
  rw [made_zero] at hmk
  have BZ := Blk.new W1 (u8s (List.replicate 32 0)) 5 W1.heap.size rfl
  have bz : Below W1.heap.size W1 (W1.alloc (.cells (u8s (List.replicate 32 0)).toArray 5)) := (Below.refl _ _).alloc (Nat.le_refl _) _
  obtain ⟨WZ, hWZ⟩ : ∃ W, W = W1.alloc (.cells (u8s (List.replicate 32 0)).toArray 5) := ⟨_, rfl⟩
  rw [← hWZ] at hmk BZ bz
  replace hmk : (Instr.makeSlice 29 (.int .i64 32) (.int .i64 32)).run Try.prog W1 = .ok (.slice (some ⟨W1.heap.size, 0, none⟩) 32 32) WZ := hmk
  clear hWZ
  go_wp2_with fail
  refine (con_EncryptZ HC.out Eh.out (BZ.bs List.length_replicate (by decide))).mono ?_
  rintro e w2 ⟨rfl, hb⟩
  replace hb := below_step bz hb
  clear bz BZ hmk
  replace B0 := B0.later hb
  replace Bg1 := Bg1.later hb
  replace hk := hk.later hb
  replace bel := below_step bel hb
  clear hb
  go_upto_region 3 with (first | (refine wpList_store_row rfl 26 _ _ rfl w2.heap.size E.toArray rfl rfl 26 cs (heap_alloc_last _ _) (by rw [size_16, List.size_toArray, El.out]) (by rw [HZ.out, List.size_toArray, El.out]) Eo.out ?_; rw [World.setRow_alloc_new]) | fail)
  replace hk := hk.later ((Below.refl _ _).alloc (Nat.le_refl _) (.cells E.toArray 26))
  have Bg2 := Blk.new w2 E 26 w2.heap.size rfl
  replace B0 := B0.alloc (.cells E.toArray 26)
  replace Bg1 := Bg1.alloc (.cells E.toArray 26)
  replace bel := below_alloc (o := .cells E.toArray 26) bel
  obtain ⟨g2, hg2⟩ : ∃ b, b = w2.heap.size := ⟨_, rfl⟩
  generalize w2.alloc (Obj.cells E.toArray 26) = W2 at *
  rw [← hg2] at Bg2 ⊢
  clear hg2
  have ce := Bg2.cell 0 _ HE0.out
  have lt2 := Bg2.lt
  have q1 := nil_ne
  have q2 := code_eq 1
  have q4 := nil_eq
  have g32 : ¬ ((K.length : Nat) : Int) = 32 := by have := HL.out; omega
  have HCG : Hid (cs = G.toArray) := by rw [← HC.out, ← Gh.out]; rfl
  have q3 : ∀ w : World, (Op.equalIn 10000 26 (.agg G.toArray) (.agg cs)).run Try.prog w = .ok true w := by
    rw [HCG.out, ← Gh.out]
    intro w
    rw [eql_16 List.length_replicate List.length_replicate w, decide_eq_true rfl]
  go_wp2_with (first | (refine wpList_load_run (by rfl) (by rfl) (by rfl) (Bg1.load Try.underlying26 rfl size_16 Gl.out) ?_) | fail)
  go_ret
  exact ⟨rfl, bel⟩
set_option linter.unusedSimpArgs false in
set_option maxRecDepth 100000 in
set_option maxHeartbeats 4000000 in
theorem encrypts_ok {kv : Value} {K S : List Int} {w : World} (hk : Bs w kv K) (bK : byt K) (l : S.length = 16) (b : byt S) (HL : Hid (K.length = 32)) :
    Calls Try.prog 8 #[kv, .agg (u8s S).toArray] w fun e w' => e = .returned (.bool true) ∧ Below w.heap.size w w' := by
  obtain ⟨F, hF⟩ : ∃ F, u8s (S) = F := ⟨_, rfl⟩
  have Fh : Hid (u8s (S) = F) := hF
  have Fo : Hid (F.toArray.all (·.oneCell') = true) := by rw [← hF]; exact u8_ones _
  have Fl : Hid (F.length = 16) := by rw [← hF, List.length_map]; exact l
  obtain ⟨G, hG⟩ : ∃ F, u8s (encN K S 15) = F := ⟨_, rfl⟩
  have Gh : Hid (u8s (encN K S 15) = G) := hG
  have Go : Hid (G.toArray.all (·.oneCell') = true) := by rw [← hG]; exact u8_ones _
  have Gl : Hid (G.length = 16) := by rw [← hG, List.length_map]; exact encN_len l 15
  obtain ⟨E, hE⟩ : ∃ F, u8s (([220, 149, 192, 120, 162, 64, 137, 137, 173, 72, 162, 20, 146, 132, 32, 135] : List Int)) = F := ⟨_, rfl⟩
  have Eh : Hid (u8s (([220, 149, 192, 120, 162, 64, 137, 137, 173, 72, 162, 20, 146, 132, 32, 135] : List Int)) = E) := hE
  have Eo : Hid (E.toArray.all (·.oneCell') = true) := by rw [← hE]; exact u8_ones _
  have El : Hid (E.length = 16) := by rw [← hE, List.length_map]; exact rfl
  have HE0 : Hid (E[0]? = some (.int .u8 220)) := by rw [← hE]; rfl
  have HS : Hid (byt S) := b
  have HSl : Hid (S.length = 16) := l
  have HKb : Hid (byt K) := bK
  have hz := zero_16.out
  obtain ⟨cs, hcs⟩ : ∃ z, (u8s (List.replicate 16 (0 : Int))).toArray = z := ⟨_, rfl⟩
  have HC : Hid ((u8s (List.replicate 16 (0 : Int))).toArray = cs) := hcs
  have HZ : Hid (cs.size = 16) := by rw [← hcs]; rfl
  rw [hcs] at hz
  clear hcs
  rw [hF]
  clear hF hG hE l b bK
  have B0 := Blk.new w F 26 w.heap.size rfl
  have bel : Below w.heap.size w (w.alloc (.cells F.toArray 26)) := (Below.refl _ _).alloc (Nat.le_refl _) _
  have hk0 := hk
  obtain ⟨ao, cap, rfl, c1, c2, c3⟩ := hk0
  clear c3
  unfold maxLen at c1
  go_enter Try.func8, Try.ntmps8
  go_upto_region 1 with fail
  generalize w.alloc (Obj.cells F.toArray 26) = W at *
  replace hk := hk.later bel
  have lt0 := B0.lt
  go_wp2_with (first | (refine wpList_load_run (by rfl) (by rfl) (by rfl) (B0.load Try.underlying26 rfl size_16 Fl.out) ?_) | fail)
  refine (con_EncryptL Fh.out Gh.out hk HKb.out HL.out HSl.out HS.out).mono ?_
  rintro e w1 ⟨rfl, hb⟩
  clear lt0
  replace B0 := B0.later hb
  replace hk := hk.later hb
  replace bel := below_step bel hb
  clear hb
  go_upto_region 2 with (first | (refine wpList_store_row rfl 26 _ _ rfl w1.heap.size G.toArray rfl rfl 26 cs (heap_alloc_last _ _) (by rw [size_16, List.size_toArray, Gl.out]) (by rw [HZ.out, List.size_toArray, Gl.out]) Go.out ?_; rw [World.setRow_alloc_new]) | fail)
  replace hk := hk.later ((Below.refl _ _).alloc (Nat.le_refl _) (.cells G.toArray 26))
  have Bg1 := Blk.new w1 G 26 w1.heap.size rfl
  replace B0 := B0.alloc (.cells G.toArray 26)
  replace bel := below_alloc (o := .cells G.toArray 26) bel
  obtain ⟨g1, hg1⟩ : ∃ b, b = w1.heap.size := ⟨_, rfl⟩
  generalize w1.alloc (Obj.cells G.toArray 26) = W1 at *
  rw [← hg1] at Bg1 ⊢
  clear hg1
  have hmk := run_make_row' 29 5 (.int .u8 0) 1 Try.underlying29 info_b16 rfl .i64 .i64 32 (by decide) (by decide) W1
  rw [made_zero] at hmk
  have BZ := Blk.new W1 (u8s (List.replicate 32 0)) 5 W1.heap.size rfl
  have bz : Below W1.heap.size W1 (W1.alloc (.cells (u8s (List.replicate 32 0)).toArray 5)) := (Below.refl _ _).alloc (Nat.le_refl _) _
  obtain ⟨WZ, hWZ⟩ : ∃ W, W = W1.alloc (.cells (u8s (List.replicate 32 0)).toArray 5) := ⟨_, rfl⟩
  rw [← hWZ] at hmk BZ bz
  replace hmk : (Instr.makeSlice 29 (.int .i64 32) (.int .i64 32)).run Try.prog W1 = .ok (.slice (some ⟨W1.heap.size, 0, none⟩) 32 32) WZ := hmk
  clear hWZ
  go_wp2_with fail
  refine (con_EncryptZ HC.out Eh.out (BZ.bs List.length_replicate (by decide))).mono ?_
  rintro e w2 ⟨rfl, hb⟩
  replace hb := below_step bz hb
  clear bz BZ hmk
  replace B0 := B0.later hb
  replace Bg1 := Bg1.later hb
  replace hk := hk.later hb
  replace bel := below_step bel hb
  clear hb
  go_upto_region 3 with (first | (refine wpList_store_row rfl 26 _ _ rfl w2.heap.size E.toArray rfl rfl 26 cs (heap_alloc_last _ _) (by rw [size_16, List.size_toArray, El.out]) (by rw [HZ.out, List.size_toArray, El.out]) Eo.out ?_; rw [World.setRow_alloc_new]) | fail)
  replace hk := hk.later ((Below.refl _ _).alloc (Nat.le_refl _) (.cells E.toArray 26))
  have Bg2 := Blk.new w2 E 26 w2.heap.size rfl
  replace B0 := B0.alloc (.cells E.toArray 26)
  replace Bg1 := Bg1.alloc (.cells E.toArray 26)
  replace bel := below_alloc (o := .cells E.toArray 26) bel
  obtain ⟨g2, hg2⟩ : ∃ b, b = w2.heap.size := ⟨_, rfl⟩
  generalize w2.alloc (Obj.cells E.toArray 26) = W2 at *
  rw [← hg2] at Bg2 ⊢
  clear hg2
  have ce := Bg2.cell 0 _ HE0.out
  have lt2 := Bg2.lt
  have q1 := nil_ne
  have q2 := code_eq 1
  have q4 := nil_eq
  have g32 : ((K.length : Nat) : Int) = 32 := by have := HL.out; omega
  go_upto_region 7 with fail
  clear g32 ce lt2 hz q1 q2
  obtain ⟨S1, hS1, KL1, KA1, KD1, KS1, KQ1, KN1, KB1, KM1, KR1⟩ := held3 (w0 := W2) (W := W2) [(w.heap.size, F), (g1, G)] (by
    intro b X h
    simp only [List.mem_cons, List.not_mem_nil, or_false, Prod.mk.injEq] at h
    rcases h with ⟨rfl, rfl⟩ | ⟨rfl, rfl⟩
    · exact B0
    · exact Bg1) (Below.refl _ _)
  have r0 : Hid (∀ wx, Hd S1 wx → (loadVar 26 ⟨w.heap.size, 0, none⟩).run Try.prog wx = .ok (.agg F.toArray) wx) := fun wx h => (KM1.out wx (w.heap.size) _ h (List.Mem.head _)).load Try.underlying26 rfl size_16 Fl.out
  have r1 : Hid (∀ wx, Hd S1 wx → (loadVar 26 ⟨g1, 0, none⟩).run Try.prog wx = .ok (.agg G.toArray) wx) := fun wx h => (KM1.out wx (g1) _ h (List.Mem.tail _ (List.Mem.head _))).load Try.underlying26 rfl size_16 Gl.out
  have q3 : ∀ w : World, (Op.equalIn 10000 26 (.agg G.toArray) (.agg G.toArray)).run Try.prog w = .ok true w := by
    rw [← Gh.out]
    intro w
    rw [eql_16 (encN_len HSl.out 15) (encN_len HSl.out 15) w, decide_eq_true rfl]
  clear KS1 KQ1 KN1 KR1 KA1 KM1 B0 Bg1 Bg2
  refine wp_region_noPanic ?_
  refine wp_region_held_drew (S := Hd S1) (by kernel_rfl) (KD1.out _ hS1) (fun hHeld => ?_)
  clear hS1
  generalize World.drew _ = wd at *
  refine wpAnyH_take (i := 0) (v := ?_) rfl (by kernel_rfl) (by kernel_rfl) (by kernel_rfl) (fun _ _ _ h => h) (Or.inl ⟨by rfl, ?_⟩) (by assumption) ?_
  rotate_left
  · intro w hSw
    go_simp
    with_reducible rfl
  try simp only [Act.put, List.getElem_toArray, List.getElem_cons_zero, List.getElem_cons_succ, List.setIfInBounds_toArray, List.set_cons_zero, List.set_cons_succ]
  refine wpAnyH_take (i := 1) (v := ?_) rfl (by kernel_rfl) (by kernel_rfl) (by kernel_rfl) (fun _ _ _ h => h) (Or.inl ⟨by rfl, ?_⟩) (by assumption) ?_
  rotate_left
  · intro w hSw
    go_simp
    with_reducible rfl
  try simp only [Act.put, List.getElem_toArray, List.getElem_cons_zero, List.getElem_cons_succ, List.setIfInBounds_toArray, List.set_cons_zero, List.set_cons_succ]
  refine wpAnyH_take (i := 2) (v := ?_) rfl (by kernel_rfl) (by kernel_rfl) (by kernel_rfl) (fun _ _ _ h => h) (Or.inl ⟨by rfl, ?_⟩) (by assumption) ?_
  rotate_left
  · intro w hSw
    go_simp
    with_reducible rfl
  try simp only [Act.put, List.getElem_toArray, List.getElem_cons_zero, List.getElem_cons_succ, List.setIfInBounds_toArray, List.set_cons_zero, List.set_cons_succ]
  refine wpAnyH_take (i := 3) (v := .agg G.toArray) rfl (by kernel_rfl) (by kernel_rfl) (by kernel_rfl) (fun _ _ _ h => h) (Or.inl ⟨by rfl, fun wx h => exec_load rfl rfl (r1.out wx h)⟩) (by assumption) ?_
  try simp only [Act.put, List.getElem_toArray, List.getElem_cons_zero, List.getElem_cons_succ, List.setIfInBounds_toArray, List.set_cons_zero, List.set_cons_succ]
  refine wpAnyH_take (i := 5) (v := ?_) rfl (by kernel_rfl) (by kernel_rfl) (by kernel_rfl) (fun _ _ _ h => h) (Or.inl ⟨by rfl, ?_⟩) (by assumption) ?_
  rotate_left
  · intro w hSw
    go_simp
    with_reducible rfl
  try simp only [Act.put, List.getElem_toArray, List.getElem_cons_zero, List.getElem_cons_succ, List.setIfInBounds_toArray, List.set_cons_zero, List.set_cons_succ]
  refine wpAnyH_take (i := 6) (v := .agg F.toArray) rfl (by kernel_rfl) (by kernel_rfl) (by kernel_rfl) (fun _ _ _ h => h) (Or.inl ⟨by rfl, fun wx h => exec_load rfl rfl (r0.out wx h)⟩) (by assumption) ?_
  try simp only [Act.put, List.getElem_toArray, List.getElem_cons_zero, List.getElem_cons_succ, List.setIfInBounds_toArray, List.set_cons_zero, List.set_cons_succ]
  refine wpAnyH_ready (rs := [4]) (by kernel_rfl) (by simp) ?_
  refine AllReadyH.cons rfl (fun K hK => ?_) ?_
  · go_simp
    go_fit r9_Box
    rintro e w5 ⟨v5, rfl, own5, hb⟩
    refine hK.out _ _ ?_ (fun hHeld2 => ?_)
    · exact KL1.out _ _ hHeld hb
    · clear hK K hHeld
      have hHeld := hHeld2
      clear hHeld2
      try simp only [Act.put, List.getElem_toArray, List.getElem_cons_zero, List.getElem_cons_succ, List.setIfInBounds_toArray, List.set_cons_zero, List.set_cons_succ]
      have bx := Bs.of_own own5
      clear hb own5
      refine wpAnyH_ready (rs := [7]) (by kernel_rfl) (by simp) ?_
      refine AllReadyH.cons rfl (fun K hK => ?_) ?_
      · go_simp
        go_fit (r9_EncryptL Fh.out Gh.out bx (hk.later (KB1.out _ hHeld)) HKb.out HL.out HS.out HSl.out)
        rintro e w6 ⟨rfl, hb⟩
        refine hK.out _ _ ?_ (fun hHeld2 => ?_)
        · exact KL1.out _ _ hHeld hb
        · clear hK K hHeld
          have hHeld := hHeld2
          clear hHeld2
          try simp only [Act.put, List.getElem_toArray, List.getElem_cons_zero, List.getElem_cons_succ, List.setIfInBounds_toArray, List.set_cons_zero, List.set_cons_succ]
          clear hb bx
          refine wpAnyH_take (i := 8) (v := ?_) rfl (by kernel_rfl) (by kernel_rfl) (by kernel_rfl) (fun _ _ _ h => h) (Or.inl ⟨by rfl, ?_⟩) (by assumption) ?_
          rotate_left
          · intro w hSw
            go_simp
            with_reducible rfl
          try simp only [Act.put, List.getElem_toArray, List.getElem_cons_zero, List.getElem_cons_succ, List.setIfInBounds_toArray, List.set_cons_zero, List.set_cons_succ]
          refine wpAnyH_take (i := 9) (v := ?_) rfl (by kernel_rfl) (by kernel_rfl) (by kernel_rfl) (fun _ _ _ h => h) (Or.inl ⟨by rfl, ?_⟩) (by assumption) ?_
          rotate_left
          · intro w hSw
            go_simp
            with_reducible rfl
          try simp only [Act.put, List.getElem_toArray, List.getElem_cons_zero, List.getElem_cons_succ, List.setIfInBounds_toArray, List.set_cons_zero, List.set_cons_succ]
          refine wpAnyH_ready (rs := [10]) (by kernel_rfl) (by simp) ?_
          refine AllReadyH.cons rfl (fun K hK => ?_) ?_
          · go_simp
            refine hK.out _ _ ?_ (fun hHeld2 => ?_)
            · exact hHeld
            · clear hK K hHeld
              have hHeld := hHeld2
              clear hHeld2
              try simp only [Act.put, List.getElem_toArray, List.getElem_cons_zero, List.getElem_cons_succ, List.setIfInBounds_toArray, List.set_cons_zero, List.set_cons_succ]
              refine wpAnyH_done (by kernel_rfl) ?_ _
              refine NoPanic.normal ?_
              go_wp2_with fail
              go_ret
              exact ⟨rfl, below_step bel (KB1.out _ hHeld)⟩
          exact AllReadyH.nil
      exact AllReadyH.nil
  exact AllReadyH.nil
theorem law_aesEncrypts (kv : Value) (K : List Int) (S : List Int) (w : World) (hk : Bs w kv K) (bK : byt K) (l : S.length = 16) (b : byt S) :
    Calls Try.prog 8 #[kv, .agg (u8s S).toArray] w fun e w' => e = .returned (.bool true) ∧ Below w.heap.size w w' := by
  by_cases h : K.length = 32
  · exact encrypts_ok hk bK l b h
  · exact encrypts_bad hk bK l b h
end Go.Proofs.Ytlamngilmkaliaa
