/- The document's Encrypt. -/
import Derived.Test.YtogbmekgmjmonaaRows
import Derived.Test.YtogbmekgmjmonaaAeKeys
import Derived.Test.YtogbmekgmjmonaaAeNumG
import Derived.Deep.WholeRow
import Derived.Deep.RegionHeld3
import Derived.Deep.DeepCutAuto
import Derived.Deep.DeepFit
namespace Go.Proofs.Ytogbmekgmjmonaa
open Go.RowKit

theorem r9_TurnedL {S : List Int} {fs : Array Value} {w : World} (hf : (u8s S).toArray = fs) (l : S.length = 16) :
    Calls Try.prog 29 #[.agg fs] w fun e w' => e = .returned (.agg (u8s (turnN S)).toArray) ∧ Below w.heap.size w w' := by subst hf; exact r9_Turned l
theorem r9_MixedL {S : List Int} {fs : Array Value} {w : World} (hf : (u8s S).toArray = fs) (l : S.length = 16) (b : byt S) :
    Calls Try.prog 30 #[.agg fs] w fun e w' => e = .returned (.agg (u8s (mixN S)).toArray) ∧ Below w.heap.size w w' := by subst hf; exact r9_Mixed l b

theorem blk_worldA {w : World} {b : Nat} {X : List Value} (h : Blk w b X) : ∃ W, W = w ∧ Blk W b X := ⟨w, rfl, h⟩

set_option linter.unusedSimpArgs false in
set_option maxRecDepth 100000 in
set_option maxHeartbeats 4000000 in
theorem r9_Encrypt {boxv kv : Value} {K S : List Int} {w : World} (hbox : Bs w boxv (boxN 256)) (hkey : Bs w kv K) (bK : byt K) (lK : K.length = 32) (bS : byt S) (l : S.length = 16) :
    Calls Try.prog 19 #[boxv, kv, .agg (u8s S).toArray] w fun e w' => e = .returned (.agg (u8s (encN K S 15)).toArray) ∧ Below w.heap.size w w' := by
  have hz := zero_16.out
  have lS : Hid (S.length = 16) := l
  have HSb : Hid (byt S) := bS
  have HKb : Hid (byt K) := bK
  have HKl : Hid (K.length = 32) := lK
  obtain ⟨cs, hcs⟩ : ∃ z, (u8s (List.replicate 16 (0 : Int))).toArray = z := ⟨_, rfl⟩
  have HCS : Hid _ := hcs
  have B0 := (Blk.new w (u8s S) 42 w.heap.size rfl).alloc (.cells (u8s (List.replicate 16 0)).toArray 42)
  have R0 := Blk.new (w.alloc (.cells (u8s S).toArray 42)) (u8s (List.replicate 16 0)) 42 (w.heap.size + 1) (by simp)
  have bel : Below w.heap.size w ((w.alloc (.cells (u8s S).toArray 42)).alloc (.cells (u8s (List.replicate 16 0)).toArray 42)) := (((Below.refl _ _).alloc (Nat.le_refl _) _).alloc (by simp) _)
  obtain ⟨ds, hds⟩ : ∃ z, (u8s S).toArray = z := ⟨_, rfl⟩
  have HDS : Hid _ := hds
  have HL0 : Hid (16 = ds.size) := by rw [← hds]; show 16 = _; simp [l]
  have H10 : Hid _ := u8_ones S
  have HC0 : Hid (cs.size = ds.size) := by rw [← hcs]; show _ = _; rw [← HL0.out]; rfl
  rw [hds] at B0 R0 bel H10 ⊢
  rw [hcs] at hz B0 R0 bel
  clear hds hcs l bS bK lK
  have HBox : Hid (Bs w boxv (boxN 256)) := hbox
  have HKey : Hid (Bs w kv K) := hkey
  obtain ⟨bao, cb, rfl, b1, b2, b3⟩ := hbox
  rw [boxN_len] at b2 b3
  obtain ⟨bb, ob, rfl, hbb0, hbc⟩ := b3 (by decide)
  have HBX : Hid (∀ x : Int, 0 ≤ x ∧ x < 256 → w.cell? ⟨bb, ob + x.toNat, none⟩ = some (.int .u8 (sbN x))) := fun x hx => box_at hbc hx
  clear b3 hbc hkey
  unfold maxLen at b1
  go_enter Try.func19, Try.ntmps19
  go_upto_region 1 with fail
  generalize ((w.alloc (Obj.cells ds 42)).alloc (Obj.cells cs 42)) = W at *
  go_wp2_with fail
  refine (r9_Keys (HBox.out.later bel) (HKey.out.later bel) HKb.out HKl.out).mono ?_
  rintro e w1 ⟨v1, rfl, hkeys, hbb⟩
  replace B0 := B0.later hbb
  replace R0 := R0.later hbb
  replace bel := below_step bel hbb
  obtain ⟨gk, ck0, rfl, ka, kb, kg, kcell⟩ := hkeys
  clear hbb
  unfold maxLen at kb
  rw [boxN_len]
  have V := Blk.new w1 (u8s S) 42 w1.heap.size rfl
  have lb := B0.lt
  rw [HDS.out] at V
  obtain ⟨tB, hB⟩ := B0
  rw [HDS.out] at hB
  have bel2 := below_alloc (o := .cells ds 42) bel
  have R2 := R0.alloc (.cells ds 42)
  have HKeys0 : Hid (∀ i k, i < 15 → k < 16 → (w1.alloc (.cells ds 42)).cell? ⟨gk, 16 * i + k, none⟩ = some (.int .u8 ((keyN K i).getD k 0))) := fun i k hi hk => cell_alloc (kcell i k hi hk)
  clear kcell
  go_upto_region 3 with (first
    | (refine wpList_load_row rfl 42 _ rfl w.heap.size rfl tB ds _ _ hB Try.underlying42 rfl (by rw [size_16, HL0.out]) ?_)
    | (refine wpList_store_row rfl 42 _ _ rfl w1.heap.size ds rfl rfl 42 cs (heap_alloc_last _ _) (by rw [size_16, HL0.out]) HC0.out H10.out ?_; rw [World.setRow_alloc_new])
    | fail)
  have lr := R0.lt
  obtain ⟨gs, hgs⟩ : ∃ b, b = w1.heap.size := ⟨_, rfl⟩
  generalize w1.alloc (Obj.cells ds 42) = W2 at *
  rw [← hgs] at V lb lr kg ⊢
  have hwg : w.heap.size ≤ gs := by omega
  clear hgs hB R0 bel hz
  have HKeys : Hid (∀ i k, i < 15 → k < 16 → W2.cell? ⟨gk, 16 * i + k, none⟩ = some (.int .u8 ((keyN K i).getD k 0))) := HKeys0
  have hgk : gk < gs := kg
  have HBX2 : Hid (∀ x : Int, 0 ≤ x ∧ x < 256 → W2.cell? ⟨bb, ob + x.toNat, none⟩ = some (.int .u8 (sbN x))) := fun x hx => (bel2.cell (p := ⟨bb, ob + x.toNat, none⟩) hbb0).trans (HBX.out x hx)
  have HR2 : Hid (Blk W2 (w.heap.size + 1) (u8s (List.replicate 16 0))) := R2
  have HBel : Hid (Below w.heap.size w W2) := bel2
  clear R2 bel2 HKeys0 HBX
  go_wp2_with fail
  go_loopw [9] (fun iv wx => ∃ i : Nat, i ≤ 15 ∧ iv = .int .i64 i ∧ Blk wx gs (u8s (encN K S i)) ∧ Below gs W2 wx) (fun iv _ => 15 - (intOf iv).toNat)
  case atStart => exact ⟨0, by omega, rfl, V, Below.refl _ _⟩
  case round =>
    clear V
    obtain ⟨i, hi, rfl, V, hbx⟩ := hrel
    by_cases hil : i < 15
    · have g1 : (i : Int) < 15 := by omega
      have HXb : Hid (byt (encN K S i)) := encN_byt HSb.out HKb.out i
      have lX0 : Hid ((encN K S i).length = 16) := encN_len lS.out i
      by_cases h0 : i = 0
      · have g2 : (i : Int) ≤ 0 := by omega
        have g2d : decide ((0 : Int) < (i : Int)) = false := decide_eq_false (by omega)
        have g2n : decide (0 < i) = false := decide_eq_false (by omega)
        have HPre : Hid (preN (encN K S i) i = encN K S i) := by show _ = _; unfold preN; rw [if_pos h0]
        clear h0
        obtain ⟨X, hX⟩ : ∃ X, encN K S i = X := ⟨_, rfl⟩
        rw [hX] at V HPre lX0
        have lX : Hid (X.length = 16) := lX0
        have HXe : Hid _ := hX
        replace HPre : Hid (preN (encN K S i) i = X) := by rw [HXe.out]; exact HPre.out
        clear hX
        go_wp2_with fail
        try rw [decide_eq_false (show ¬ 0 < i by omega)]
        clear g2 g2d g2n
        obtain ⟨W5, hW5, V⟩ := blk_worldA V
        rw [← hW5] at hbx ⊢
        clear hW5
        rw [← xkZ_0 (Y := keyN K i) lX.out] at V
        go_loopw [11] (fun kv wx => ∃ k : Nat, k ≤ 16 ∧ kv = .int .i64 k ∧ Blk wx gs (u8s (xkZ X (keyN K i) k)) ∧ Below gs W2 wx) (fun kv _ => 16 - (intOf kv).toNat)
        case atStart => exact ⟨0, by omega, rfl, V, hbx⟩
        case round =>
          clear V hbx
          obtain ⟨k, hk, rfl, V, hbx⟩ := hrel
          by_cases hkl : k < 16
          · have u1 : (k : Int) < 16 := by omega
            have u2 : (0 : Int) ≤ (k : Int) := by omega
            have u3 : (0 : Int) ≤ (i : Int) := by omega
            have u4 : (i : Int) < 15 := by omega
            have HS : Hid _ := xkZ_set (X := X) (Y := keyN K i) (k := k)
            have HGt : Hid _ := xkZ_get (X := X) (Y := keyN K i) hkl
            have ck := HKeys.out i k hil hkl
            obtain ⟨x, hx⟩ : ∃ x, X.getD k 0 = x := ⟨_, rfl⟩
            obtain ⟨y, hy⟩ : ∃ y, (keyN K i).getD k 0 = y := ⟨_, rfl⟩
            rw [hx] at HS HGt
            rw [hy] at HS ck
            obtain ⟨z, hz_⟩ : ∃ z, bits .xor .u8 x y = z := ⟨_, rfl⟩
            rw [hz_] at HS
            clear hx hy
            obtain ⟨S1, hS1, KD1, KQ1, KB1⟩ := held_below hbx (Nat.le_refl gs)
            have r1 : ∀ wx, Hd S1 wx → wx.cell? ⟨gk, 16 * i + k, none⟩ = some (.int .u8 y) := fun wx h => ((KB1.out wx h).cell (p := ⟨gk, 16 * i + k, none⟩) hgk).trans ck
            have r2 : ∀ wx, Hd S1 wx → wx.cell? ⟨gk, i * 16 + k, none⟩ = some (.int .u8 y) := fun wx h => by rw [Nat.mul_comm]; exact r1 wx h
            clear hbx ck
            go_upto_region 17 with fail
            refine wp_region_noPanic ?_
            refine wp_region_held_drew (S := Hd S1) (by kernel_rfl) (KD1.out _ hS1) (fun hHeld => ?_)
            clear hS1
            replace V := V.drew
            generalize World.drew _ = wd at *
            refine wpAnyH_take (i := 0) (v := ?_) rfl (by kernel_rfl) (by kernel_rfl) (by kernel_rfl) (fun _ _ _ h => h) (Or.inl ⟨by rfl, ?_⟩) (by assumption) ?_
            rotate_left
            · intro w hSw
              go_simp
              with_reducible rfl
            try simp only [Act.put, List.setIfInBounds_toArray, List.set_cons_zero, List.set_cons_succ]
            refine wpAnyH_take (i := 1) (v := ?_) rfl (by kernel_rfl) (by kernel_rfl) (by kernel_rfl) (fun _ _ _ h => h) (Or.inl ⟨by rfl, ?_⟩) (by assumption) ?_
            rotate_left
            · intro w hSw
              go_simp
              with_reducible rfl
            try simp only [Act.put, List.setIfInBounds_toArray, List.set_cons_zero, List.set_cons_succ]
            refine wpAnyH_take (i := 2) (v := ?_) rfl (by kernel_rfl) (by kernel_rfl) (by kernel_rfl) (fun _ _ _ h => h) (Or.inl ⟨by rfl, ?_⟩) (by assumption) ?_
            rotate_left
            · intro w hSw
              go_simp
              with_reducible rfl
            try simp only [Act.put, List.setIfInBounds_toArray, List.set_cons_zero, List.set_cons_succ]
            refine wpAnyH_take (i := 4) (v := ?_) rfl (by kernel_rfl) (by kernel_rfl) (by kernel_rfl) (fun _ _ _ h => h) (Or.inl ⟨by rfl, ?_⟩) (by assumption) ?_
            rotate_left
            · intro w hSw
              go_simp
              with_reducible rfl
            try simp only [Act.put, List.setIfInBounds_toArray, List.set_cons_zero, List.set_cons_succ]
            refine wpAnyH_take (i := 5) (v := ?_) rfl (by kernel_rfl) (by kernel_rfl) (by kernel_rfl) (fun _ _ _ h => h) (Or.inl ⟨by rfl, ?_⟩) (by assumption) ?_
            rotate_left
            · intro w hSw
              go_simp
              with_reducible rfl
            try simp only [Act.put, List.setIfInBounds_toArray, List.set_cons_zero, List.set_cons_succ]
            refine wpAnyH_take (i := 6) (v := ?_) rfl (by kernel_rfl) (by kernel_rfl) (by kernel_rfl) (fun _ _ _ h => h) (Or.inl ⟨by rfl, ?_⟩) (by assumption) ?_
            rotate_left
            · intro w hSw
              go_simp
              with_reducible rfl
            try simp only [Act.put, List.setIfInBounds_toArray, List.set_cons_zero, List.set_cons_succ]
            refine wpAnyH_take (i := 7) (v := ?_) rfl (by kernel_rfl) (by kernel_rfl) (by kernel_rfl) (fun _ _ _ h => h) (Or.inl ⟨by rfl, ?_⟩) (by assumption) ?_
            rotate_left
            · intro w hSw
              go_simp
              with_reducible rfl
            try simp only [Act.put, List.setIfInBounds_toArray, List.set_cons_zero, List.set_cons_succ]
            refine wpAnyH_take (i := 8) (v := ?_) rfl (by kernel_rfl) (by kernel_rfl) (by kernel_rfl) (fun _ _ _ h => h) (Or.inl ⟨by rfl, ?_⟩) (by assumption) ?_
            rotate_left
            · intro w hSw
              go_simp
              with_reducible rfl
            try simp only [Act.put, List.setIfInBounds_toArray, List.set_cons_zero, List.set_cons_succ]
            refine wpAnyH_take (i := 9) (v := ?_) rfl (by kernel_rfl) (by kernel_rfl) (by kernel_rfl) (fun _ _ _ h => h) (Or.inl ⟨by rfl, ?_⟩) (by assumption) ?_
            rotate_left
            · intro w hSw
              go_simp
              with_reducible rfl
            try simp only [Act.put, List.setIfInBounds_toArray, List.set_cons_zero, List.set_cons_succ]
            clear r1 r2
            refine wpAnyH_ready (rs := [3]) (by kernel_rfl) (by simp) ?_
            refine AllReadyH.cons rfl (fun K hK => ?_) ?_
            · have lts := V.lt
              have cv := V.cell k _ (u8s_get _ k (by rw [xkZ_len]; exact hkl))
              rw [HGt.out] at cv
              go_simp
              refine hK.out _ _ ?_ (fun hHeld2 => ?_)
              · exact hHeld
              · clear hK K hHeld lts cv
                have hHeld := hHeld2
                clear hHeld2
                try simp only [Act.put, List.setIfInBounds_toArray, List.set_cons_zero, List.set_cons_succ]
                refine wpAnyH_take (i := 10) (v := ?_) rfl (by kernel_rfl) (by kernel_rfl) (by kernel_rfl) (fun _ _ _ h => h) (Or.inl ⟨by rfl, ?_⟩) (by assumption) ?_
                rotate_left
                · intro w hSw
                  go_simp
                  with_reducible rfl
                try simp only [Act.put, List.setIfInBounds_toArray, List.set_cons_zero, List.set_cons_succ]
                refine wpAnyH_take (i := 11) (v := ?_) rfl (by kernel_rfl) (by kernel_rfl) (by kernel_rfl) (fun _ _ _ h => h) (Or.inl ⟨by rfl, ?_⟩) (by assumption) ?_
                rotate_left
                · intro w hSw
                  go_simp
                  with_reducible rfl
                try simp only [Act.put, List.setIfInBounds_toArray, List.set_cons_zero, List.set_cons_succ]
                refine wpAnyH_ready (rs := [12]) (by kernel_rfl) (by simp) ?_
                refine AllReadyH.cons rfl (fun K hK => ?_) ?_
                · have lts := V.lt
                  have fz := V.frozen k
                  have cv := V.cell k _ (u8s_get _ k (by rw [xkZ_len]; exact hkl))
                  go_simp
                  refine hK.out _ _ ?_ (fun hHeld2 => ?_)
                  · exact KQ1.out _ _ _ hHeld
                  · clear hK K hHeld lts fz cv
                    have hHeld := hHeld2
                    clear hHeld2
                    try simp only [Act.put, List.setIfInBounds_toArray, List.set_cons_zero, List.set_cons_succ]
                    refine wpAnyH_done (by kernel_rfl) ?_ _
                    refine NoPanic.normal ?_
                    have hbx := KB1.out _ hHeld
                    have HV := V.setb k z
                    rw [HS.out] at HV
                    clear hHeld V
                    generalize World.setCell _ _ _ = w9 at *
                    go_wp2_with fail
                    go_roundw
                    case rel => exact ⟨k + 1, by omega, by go_num, HV, hbx⟩
                    case measure => simp [intOf]; omega
                exact AllReadyH.nil
            exact AllReadyH.nil
          · have HKk : Hid (k = 16) := by show k = 16; omega
            have u1 : (16 : Int) ≤ (k : Int) := by omega
            rw [HKk.out] at V
            go_wp2_with fail
            go_roundw
            case rel => exact ⟨i + 1, by omega, by go_num, by rw [encN, HPre.out]; exact V, hbx⟩
            case measure => simp [intOf]; omega
      · have g2 : (0 : Int) < (i : Int) := by omega
        obtain ⟨X, hX⟩ : ∃ X, encN K S i = X := ⟨_, rfl⟩
        rw [hX] at V HXb lX0
        have HXe : Hid _ := hX
        clear hX
        rw [← sbZ_0 lX0.out] at V
        go_wp2_with fail
        obtain ⟨W3, hW3, V⟩ := blk_worldA V
        rw [← hW3] at hbx ⊢
        clear hW3
        go_loopw [10] (fun kv wx => ∃ k : Nat, k ≤ 16 ∧ kv = .int .i64 k ∧ Blk wx gs (u8s (sbZ X k)) ∧ Below gs W2 wx) (fun kv _ => 16 - (intOf kv).toNat)
        case atStart => exact ⟨0, by omega, rfl, V, hbx⟩
        case round =>
          clear V hbx
          obtain ⟨k, hk, rfl, V, hbx⟩ := hrel
          by_cases hkl : k < 16
          · have u1 : (k : Int) < 16 := by omega
            have u2 : (0 : Int) ≤ (k : Int) := by omega
            have HS : Hid _ := sbZ_set (X := X) (k := k)
            have cv := V.cell k _ (u8s_get _ k (by rw [sbZ_len]; exact hkl))
            rw [sbZ_get hkl] at cv
            have xb := HXb.out k
            have bx : (World.cell? _ ⟨bb, ob + (X.getD k 0).toNat, none⟩) = _ := (hbx.cell (p := ⟨bb, ob + (X.getD k 0).toNat, none⟩) (by show bb < gs; omega)).trans (HBX2.out _ xb)
            obtain ⟨y, hy⟩ : ∃ y, sbN (X.getD k 0) = y := ⟨_, rfl⟩
            rw [hy] at bx HS
            obtain ⟨x, hx⟩ : ∃ x, X.getD k 0 = x := ⟨_, rfl⟩
            rw [hx] at cv xb bx
            have x0 := xb.1
            have x1 := xb.2
            have lv := V.lt
            have fz := V.frozen k
            have HV := V.setb k y
            rw [HS.out] at HV
            have hbx2 := hbx.setCell (p := ⟨gs, k, none⟩) (Nat.le_refl gs) (.int .u8 y)
            clear hy hx V HS xb
            go_wp2_with fail
            go_roundw
            case rel => exact ⟨k + 1, by omega, by go_num, HV, hbx2⟩
            case measure => simp [intOf]; omega
          · have HKk : Hid (k = 16) := by show k = 16; omega
            have u1 : (16 : Int) ≤ (k : Int) := by omega
            rw [HKk.out] at V
            have V1 : Blk _ gs (u8s (sboxN X)) := V
            clear V HXb lX0
            have HXe1 : Hid (encN K S i = X) := HXe.out
            obtain ⟨Z, hZ⟩ : ∃ Z, sboxN X = Z := ⟨_, rfl⟩
            have HZ : Hid _ := hZ
            have lX : Hid (Z.length = 16) := by rw [← hZ]; exact sbZ_len X 16
            rw [hZ] at V1
            clear hZ
            obtain ⟨X, hXX⟩ : ∃ X', X' = Z := ⟨_, rfl⟩
            rw [← hXX] at V1 lX HZ
            clear hXX
            have V := V1
            clear V1
            obtain ⟨tV, hV⟩ := V
            have HL : Hid (16 = (u8s X).toArray.size) := by show 16 = _; simp [lX.out]
            obtain ⟨fs, hfs⟩ : ∃ z, (u8s X).toArray = z := ⟨_, rfl⟩
            have HD : Hid _ := hfs
            rw [hfs] at hV HL
            clear hfs
            go_wp2_with (first
              | (refine wpList_load_row rfl 42 _ rfl gs rfl tV fs _ _ hV Try.underlying42 rfl (by rw [size_16, HL.out]) ?_)
              | fail)
            refine (r9_TurnedL HD.out lX.out).mono ?_
            rintro e wa ⟨rfl, hbb⟩
            have V : Blk _ gs fs.toList := ⟨tV, by simpa using hV⟩
            replace V := V.later hbb
            replace hbx := hbx.trans (hbb.mono (Nat.le_of_lt (by have := (Array.getElem?_eq_some_iff.1 hV).1; exact this)))
            clear hbb hV
            obtain ⟨tV, hV⟩ := V
            obtain ⟨Y, hY⟩ : ∃ Y, turnN X = Y := ⟨_, rfl⟩
            have lY : Hid (Y.length = 16) := by rw [← hY]; exact turnN_len X
            have HYX : Hid _ := hY
            rw [hY]
            clear hY
            have HL2 : Hid (16 = (u8s Y).toArray.size) := by show 16 = _; simp [lY.out]
            have HO2 : Hid (fs.toList.toArray.size = (u8s Y).toArray.size) := by show _ = _; rw [← HL2.out]; simpa using HL.out.symm
            have H12 : Hid _ := u8_ones Y
            obtain ⟨es, hes⟩ : ∃ z, (u8s Y).toArray = z := ⟨_, rfl⟩
            have HE : Hid _ := hes
            rw [hes] at HL2 HO2 H12 ⊢
            clear hes
            go_upto_region 12 with (first
              | (refine wpList_store_row rfl 42 _ _ rfl gs es rfl rfl tV fs.toList.toArray hV (by rw [size_16, HL2.out]) HO2.out H12.out ?_)
              | fail)
            have V : Blk (World.setRow wa gs es) gs (u8s Y) := by rw [← HE.out]; exact ⟨tV, by simpa using setRow_heap _ gs _ _ tV _ hV⟩
            replace hbx := below_setRow hbx (Nat.le_refl gs) es
            generalize World.setRow wa gs es = wtwa at *
            clear hV HL HD HL2 HO2 H12 HE
            by_cases h14 : i < 14
            · have g3 : (i : Int) < 14 := by omega
              have HYb : Hid (byt Y) := by rw [← HYX.out, ← HZ.out]; exact turnN_byt (sboxN_byt _)
              obtain ⟨X2, hX2⟩ : ∃ X', X' = Y := ⟨_, rfl⟩
              have HY2 : Hid (X2 = Y) := hX2
              have lX2 : Hid (X2.length = 16) := by rw [hX2]; exact lY.out
              rw [← hX2] at V HYb
              clear hX2
              obtain ⟨tV, hV⟩ := V
              have HL : Hid (16 = (u8s X2).toArray.size) := by show 16 = _; simp [lX2.out]
              obtain ⟨fs, hfs⟩ : ∃ z, (u8s X2).toArray = z := ⟨_, rfl⟩
              have HD : Hid _ := hfs
              rw [hfs] at hV HL
              clear hfs
              go_wp2_with (first
                | (refine wpList_load_row rfl 42 _ rfl gs rfl tV fs _ _ hV Try.underlying42 rfl (by rw [size_16, HL.out]) ?_)
                | fail)
              refine (r9_MixedL HD.out lX2.out HYb.out).mono ?_
              rintro e wb ⟨rfl, hbb⟩
              have V : Blk _ gs fs.toList := ⟨tV, by simpa using hV⟩
              replace V := V.later hbb
              replace hbx := hbx.trans (hbb.mono (Nat.le_of_lt (by have := (Array.getElem?_eq_some_iff.1 hV).1; exact this)))
              clear hbb hV
              obtain ⟨tV, hV⟩ := V
              obtain ⟨Y3, hY⟩ : ∃ Y3, mixN X2 = Y3 := ⟨_, rfl⟩
              have lY3 : Hid (Y3.length = 16) := by rw [← hY]; exact mixN_len X2
              have HYX3 : Hid _ := hY
              rw [hY]
              clear hY
              have HL2 : Hid (16 = (u8s Y3).toArray.size) := by show 16 = _; simp [lY3.out]
              have HO2 : Hid (fs.toList.toArray.size = (u8s Y3).toArray.size) := by show _ = _; rw [← HL2.out]; simpa using HL.out.symm
              have H12 : Hid _ := u8_ones Y3
              obtain ⟨es, hes⟩ : ∃ z, (u8s Y3).toArray = z := ⟨_, rfl⟩
              have HE : Hid _ := hes
              rw [hes] at HL2 HO2 H12 ⊢
              clear hes
              go_upto_region 14 with (first
                | (refine wpList_store_row rfl 42 _ _ rfl gs es rfl rfl tV fs.toList.toArray hV (by rw [size_16, HL2.out]) HO2.out H12.out ?_)
                | fail)
              have V : Blk (World.setRow wb gs es) gs (u8s Y3) := by rw [← HE.out]; exact ⟨tV, by simpa using setRow_heap _ gs _ _ tV _ hV⟩
              replace hbx := below_setRow hbx (Nat.le_refl gs) es
              generalize World.setRow wb gs es = wtwb at *
              clear hV HL HD HL2 HO2 H12 HE
              have HPre : Hid (preN (encN K S i) i = Y3) := by
                show _ = _
                unfold preN
                rw [if_neg h0, if_pos h14, ← HYX3.out, HY2.out, ← HYX.out, ← HZ.out, HXe1.out]
              go_wp2_with fail
              obtain ⟨W5, hW5, V⟩ := blk_worldA V
              rw [← hW5] at hbx ⊢
              clear hW5
              rw [← xkZ_0 (Y := keyN K i) lY3.out] at V
              go_loopw [11] (fun kv wx => ∃ k : Nat, k ≤ 16 ∧ kv = .int .i64 k ∧ Blk wx gs (u8s (xkZ Y3 (keyN K i) k)) ∧ Below gs W2 wx) (fun kv _ => 16 - (intOf kv).toNat)
              case atStart => exact ⟨0, by omega, rfl, V, hbx⟩
              case round =>
                clear V hbx
                obtain ⟨k, hk, rfl, V, hbx⟩ := hrel
                by_cases hkl : k < 16
                · have u1 : (k : Int) < 16 := by omega
                  have u2 : (0 : Int) ≤ (k : Int) := by omega
                  have u3 : (0 : Int) ≤ (i : Int) := by omega
                  have u4 : (i : Int) < 15 := by omega
                  have HS : Hid _ := xkZ_set (X := Y3) (Y := keyN K i) (k := k)
                  have HGt : Hid _ := xkZ_get (X := Y3) (Y := keyN K i) hkl
                  have ck := HKeys.out i k hil hkl
                  obtain ⟨x, hx⟩ : ∃ x, Y3.getD k 0 = x := ⟨_, rfl⟩
                  obtain ⟨y, hy⟩ : ∃ y, (keyN K i).getD k 0 = y := ⟨_, rfl⟩
                  rw [hx] at HS HGt
                  rw [hy] at HS ck
                  obtain ⟨z, hz_⟩ : ∃ z, bits .xor .u8 x y = z := ⟨_, rfl⟩
                  rw [hz_] at HS
                  clear hx hy
                  obtain ⟨S1, hS1, KD1, KQ1, KB1⟩ := held_below hbx (Nat.le_refl gs)
                  have r1 : ∀ wx, Hd S1 wx → wx.cell? ⟨gk, 16 * i + k, none⟩ = some (.int .u8 y) := fun wx h => ((KB1.out wx h).cell (p := ⟨gk, 16 * i + k, none⟩) hgk).trans ck
                  have r2 : ∀ wx, Hd S1 wx → wx.cell? ⟨gk, i * 16 + k, none⟩ = some (.int .u8 y) := fun wx h => by rw [Nat.mul_comm]; exact r1 wx h
                  clear hbx ck
                  go_upto_region 17 with fail
                  refine wp_region_noPanic ?_
                  refine wp_region_held_drew (S := Hd S1) (by kernel_rfl) (KD1.out _ hS1) (fun hHeld => ?_)
                  clear hS1
                  replace V := V.drew
                  generalize World.drew _ = wd at *
                  refine wpAnyH_take (i := 0) (v := ?_) rfl (by kernel_rfl) (by kernel_rfl) (by kernel_rfl) (fun _ _ _ h => h) (Or.inl ⟨by rfl, ?_⟩) (by assumption) ?_
                  rotate_left
                  · intro w hSw
                    go_simp
                    with_reducible rfl
                  try simp only [Act.put, List.setIfInBounds_toArray, List.set_cons_zero, List.set_cons_succ]
                  refine wpAnyH_take (i := 1) (v := ?_) rfl (by kernel_rfl) (by kernel_rfl) (by kernel_rfl) (fun _ _ _ h => h) (Or.inl ⟨by rfl, ?_⟩) (by assumption) ?_
                  rotate_left
                  · intro w hSw
                    go_simp
                    with_reducible rfl
                  try simp only [Act.put, List.setIfInBounds_toArray, List.set_cons_zero, List.set_cons_succ]
                  refine wpAnyH_take (i := 2) (v := ?_) rfl (by kernel_rfl) (by kernel_rfl) (by kernel_rfl) (fun _ _ _ h => h) (Or.inl ⟨by rfl, ?_⟩) (by assumption) ?_
                  rotate_left
                  · intro w hSw
                    go_simp
                    with_reducible rfl
                  try simp only [Act.put, List.setIfInBounds_toArray, List.set_cons_zero, List.set_cons_succ]
                  refine wpAnyH_take (i := 4) (v := ?_) rfl (by kernel_rfl) (by kernel_rfl) (by kernel_rfl) (fun _ _ _ h => h) (Or.inl ⟨by rfl, ?_⟩) (by assumption) ?_
                  rotate_left
                  · intro w hSw
                    go_simp
                    with_reducible rfl
                  try simp only [Act.put, List.setIfInBounds_toArray, List.set_cons_zero, List.set_cons_succ]
                  refine wpAnyH_take (i := 5) (v := ?_) rfl (by kernel_rfl) (by kernel_rfl) (by kernel_rfl) (fun _ _ _ h => h) (Or.inl ⟨by rfl, ?_⟩) (by assumption) ?_
                  rotate_left
                  · intro w hSw
                    go_simp
                    with_reducible rfl
                  try simp only [Act.put, List.setIfInBounds_toArray, List.set_cons_zero, List.set_cons_succ]
                  refine wpAnyH_take (i := 6) (v := ?_) rfl (by kernel_rfl) (by kernel_rfl) (by kernel_rfl) (fun _ _ _ h => h) (Or.inl ⟨by rfl, ?_⟩) (by assumption) ?_
                  rotate_left
                  · intro w hSw
                    go_simp
                    with_reducible rfl
                  try simp only [Act.put, List.setIfInBounds_toArray, List.set_cons_zero, List.set_cons_succ]
                  refine wpAnyH_take (i := 7) (v := ?_) rfl (by kernel_rfl) (by kernel_rfl) (by kernel_rfl) (fun _ _ _ h => h) (Or.inl ⟨by rfl, ?_⟩) (by assumption) ?_
                  rotate_left
                  · intro w hSw
                    go_simp
                    with_reducible rfl
                  try simp only [Act.put, List.setIfInBounds_toArray, List.set_cons_zero, List.set_cons_succ]
                  refine wpAnyH_take (i := 8) (v := ?_) rfl (by kernel_rfl) (by kernel_rfl) (by kernel_rfl) (fun _ _ _ h => h) (Or.inl ⟨by rfl, ?_⟩) (by assumption) ?_
                  rotate_left
                  · intro w hSw
                    go_simp
                    with_reducible rfl
                  try simp only [Act.put, List.setIfInBounds_toArray, List.set_cons_zero, List.set_cons_succ]
                  refine wpAnyH_take (i := 9) (v := ?_) rfl (by kernel_rfl) (by kernel_rfl) (by kernel_rfl) (fun _ _ _ h => h) (Or.inl ⟨by rfl, ?_⟩) (by assumption) ?_
                  rotate_left
                  · intro w hSw
                    go_simp
                    with_reducible rfl
                  try simp only [Act.put, List.setIfInBounds_toArray, List.set_cons_zero, List.set_cons_succ]
                  clear r1 r2
                  refine wpAnyH_ready (rs := [3]) (by kernel_rfl) (by simp) ?_
                  refine AllReadyH.cons rfl (fun K hK => ?_) ?_
                  · have lts := V.lt
                    have cv := V.cell k _ (u8s_get _ k (by rw [xkZ_len]; exact hkl))
                    rw [HGt.out] at cv
                    go_simp
                    refine hK.out _ _ ?_ (fun hHeld2 => ?_)
                    · exact hHeld
                    · clear hK K hHeld lts cv
                      have hHeld := hHeld2
                      clear hHeld2
                      try simp only [Act.put, List.setIfInBounds_toArray, List.set_cons_zero, List.set_cons_succ]
                      refine wpAnyH_take (i := 10) (v := ?_) rfl (by kernel_rfl) (by kernel_rfl) (by kernel_rfl) (fun _ _ _ h => h) (Or.inl ⟨by rfl, ?_⟩) (by assumption) ?_
                      rotate_left
                      · intro w hSw
                        go_simp
                        with_reducible rfl
                      try simp only [Act.put, List.setIfInBounds_toArray, List.set_cons_zero, List.set_cons_succ]
                      refine wpAnyH_take (i := 11) (v := ?_) rfl (by kernel_rfl) (by kernel_rfl) (by kernel_rfl) (fun _ _ _ h => h) (Or.inl ⟨by rfl, ?_⟩) (by assumption) ?_
                      rotate_left
                      · intro w hSw
                        go_simp
                        with_reducible rfl
                      try simp only [Act.put, List.setIfInBounds_toArray, List.set_cons_zero, List.set_cons_succ]
                      refine wpAnyH_ready (rs := [12]) (by kernel_rfl) (by simp) ?_
                      refine AllReadyH.cons rfl (fun K hK => ?_) ?_
                      · have lts := V.lt
                        have fz := V.frozen k
                        have cv := V.cell k _ (u8s_get _ k (by rw [xkZ_len]; exact hkl))
                        go_simp
                        refine hK.out _ _ ?_ (fun hHeld2 => ?_)
                        · exact KQ1.out _ _ _ hHeld
                        · clear hK K hHeld lts fz cv
                          have hHeld := hHeld2
                          clear hHeld2
                          try simp only [Act.put, List.setIfInBounds_toArray, List.set_cons_zero, List.set_cons_succ]
                          refine wpAnyH_done (by kernel_rfl) ?_ _
                          refine NoPanic.normal ?_
                          have hbx := KB1.out _ hHeld
                          have HV := V.setb k z
                          rw [HS.out] at HV
                          clear hHeld V
                          generalize World.setCell _ _ _ = w9 at *
                          go_wp2_with fail
                          go_roundw
                          case rel => exact ⟨k + 1, by omega, by go_num, HV, hbx⟩
                          case measure => simp [intOf]; omega
                      exact AllReadyH.nil
                  exact AllReadyH.nil
                · have HKk : Hid (k = 16) := by show k = 16; omega
                  have u1 : (16 : Int) ≤ (k : Int) := by omega
                  rw [HKk.out] at V
                  go_wp2_with fail
                  go_roundw
                  case rel => exact ⟨i + 1, by omega, by go_num, by rw [encN, HPre.out]; exact V, hbx⟩
                  case measure => simp [intOf]; omega
            · have g3 : (14 : Int) ≤ (i : Int) := by omega
              have HPre : Hid (preN (encN K S i) i = Y) := by
                show _ = _
                unfold preN
                rw [if_neg h0, if_neg h14, ← HYX.out, ← HZ.out, HXe1.out]
              go_wp2_with fail
              obtain ⟨W5, hW5, V⟩ := blk_worldA V
              rw [← hW5] at hbx ⊢
              clear hW5
              rw [← xkZ_0 (Y := keyN K i) lY.out] at V
              go_loopw [11] (fun kv wx => ∃ k : Nat, k ≤ 16 ∧ kv = .int .i64 k ∧ Blk wx gs (u8s (xkZ Y (keyN K i) k)) ∧ Below gs W2 wx) (fun kv _ => 16 - (intOf kv).toNat)
              case atStart => exact ⟨0, by omega, rfl, V, hbx⟩
              case round =>
                clear V hbx
                obtain ⟨k, hk, rfl, V, hbx⟩ := hrel
                by_cases hkl : k < 16
                · have u1 : (k : Int) < 16 := by omega
                  have u2 : (0 : Int) ≤ (k : Int) := by omega
                  have u3 : (0 : Int) ≤ (i : Int) := by omega
                  have u4 : (i : Int) < 15 := by omega
                  have HS : Hid _ := xkZ_set (X := Y) (Y := keyN K i) (k := k)
                  have HGt : Hid _ := xkZ_get (X := Y) (Y := keyN K i) hkl
                  have ck := HKeys.out i k hil hkl
                  obtain ⟨x, hx⟩ : ∃ x, Y.getD k 0 = x := ⟨_, rfl⟩
                  obtain ⟨y, hy⟩ : ∃ y, (keyN K i).getD k 0 = y := ⟨_, rfl⟩
                  rw [hx] at HS HGt
                  rw [hy] at HS ck
                  obtain ⟨z, hz_⟩ : ∃ z, bits .xor .u8 x y = z := ⟨_, rfl⟩
                  rw [hz_] at HS
                  clear hx hy
                  obtain ⟨S1, hS1, KD1, KQ1, KB1⟩ := held_below hbx (Nat.le_refl gs)
                  have r1 : ∀ wx, Hd S1 wx → wx.cell? ⟨gk, 16 * i + k, none⟩ = some (.int .u8 y) := fun wx h => ((KB1.out wx h).cell (p := ⟨gk, 16 * i + k, none⟩) hgk).trans ck
                  have r2 : ∀ wx, Hd S1 wx → wx.cell? ⟨gk, i * 16 + k, none⟩ = some (.int .u8 y) := fun wx h => by rw [Nat.mul_comm]; exact r1 wx h
                  clear hbx ck
                  go_upto_region 17 with fail
                  refine wp_region_noPanic ?_
                  refine wp_region_held_drew (S := Hd S1) (by kernel_rfl) (KD1.out _ hS1) (fun hHeld => ?_)
                  clear hS1
                  replace V := V.drew
                  generalize World.drew _ = wd at *
                  refine wpAnyH_take (i := 0) (v := ?_) rfl (by kernel_rfl) (by kernel_rfl) (by kernel_rfl) (fun _ _ _ h => h) (Or.inl ⟨by rfl, ?_⟩) (by assumption) ?_
                  rotate_left
                  · intro w hSw
                    go_simp
                    with_reducible rfl
                  try simp only [Act.put, List.setIfInBounds_toArray, List.set_cons_zero, List.set_cons_succ]
                  refine wpAnyH_take (i := 1) (v := ?_) rfl (by kernel_rfl) (by kernel_rfl) (by kernel_rfl) (fun _ _ _ h => h) (Or.inl ⟨by rfl, ?_⟩) (by assumption) ?_
                  rotate_left
                  · intro w hSw
                    go_simp
                    with_reducible rfl
                  try simp only [Act.put, List.setIfInBounds_toArray, List.set_cons_zero, List.set_cons_succ]
                  refine wpAnyH_take (i := 2) (v := ?_) rfl (by kernel_rfl) (by kernel_rfl) (by kernel_rfl) (fun _ _ _ h => h) (Or.inl ⟨by rfl, ?_⟩) (by assumption) ?_
                  rotate_left
                  · intro w hSw
                    go_simp
                    with_reducible rfl
                  try simp only [Act.put, List.setIfInBounds_toArray, List.set_cons_zero, List.set_cons_succ]
                  refine wpAnyH_take (i := 4) (v := ?_) rfl (by kernel_rfl) (by kernel_rfl) (by kernel_rfl) (fun _ _ _ h => h) (Or.inl ⟨by rfl, ?_⟩) (by assumption) ?_
                  rotate_left
                  · intro w hSw
                    go_simp
                    with_reducible rfl
                  try simp only [Act.put, List.setIfInBounds_toArray, List.set_cons_zero, List.set_cons_succ]
                  refine wpAnyH_take (i := 5) (v := ?_) rfl (by kernel_rfl) (by kernel_rfl) (by kernel_rfl) (fun _ _ _ h => h) (Or.inl ⟨by rfl, ?_⟩) (by assumption) ?_
                  rotate_left
                  · intro w hSw
                    go_simp
                    with_reducible rfl
                  try simp only [Act.put, List.setIfInBounds_toArray, List.set_cons_zero, List.set_cons_succ]
                  refine wpAnyH_take (i := 6) (v := ?_) rfl (by kernel_rfl) (by kernel_rfl) (by kernel_rfl) (fun _ _ _ h => h) (Or.inl ⟨by rfl, ?_⟩) (by assumption) ?_
                  rotate_left
                  · intro w hSw
                    go_simp
                    with_reducible rfl
                  try simp only [Act.put, List.setIfInBounds_toArray, List.set_cons_zero, List.set_cons_succ]
                  refine wpAnyH_take (i := 7) (v := ?_) rfl (by kernel_rfl) (by kernel_rfl) (by kernel_rfl) (fun _ _ _ h => h) (Or.inl ⟨by rfl, ?_⟩) (by assumption) ?_
                  rotate_left
                  · intro w hSw
                    go_simp
                    with_reducible rfl
                  try simp only [Act.put, List.setIfInBounds_toArray, List.set_cons_zero, List.set_cons_succ]
                  refine wpAnyH_take (i := 8) (v := ?_) rfl (by kernel_rfl) (by kernel_rfl) (by kernel_rfl) (fun _ _ _ h => h) (Or.inl ⟨by rfl, ?_⟩) (by assumption) ?_
                  rotate_left
                  · intro w hSw
                    go_simp
                    with_reducible rfl
                  try simp only [Act.put, List.setIfInBounds_toArray, List.set_cons_zero, List.set_cons_succ]
                  refine wpAnyH_take (i := 9) (v := ?_) rfl (by kernel_rfl) (by kernel_rfl) (by kernel_rfl) (fun _ _ _ h => h) (Or.inl ⟨by rfl, ?_⟩) (by assumption) ?_
                  rotate_left
                  · intro w hSw
                    go_simp
                    with_reducible rfl
                  try simp only [Act.put, List.setIfInBounds_toArray, List.set_cons_zero, List.set_cons_succ]
                  clear r1 r2
                  refine wpAnyH_ready (rs := [3]) (by kernel_rfl) (by simp) ?_
                  refine AllReadyH.cons rfl (fun K hK => ?_) ?_
                  · have lts := V.lt
                    have cv := V.cell k _ (u8s_get _ k (by rw [xkZ_len]; exact hkl))
                    rw [HGt.out] at cv
                    go_simp
                    refine hK.out _ _ ?_ (fun hHeld2 => ?_)
                    · exact hHeld
                    · clear hK K hHeld lts cv
                      have hHeld := hHeld2
                      clear hHeld2
                      try simp only [Act.put, List.setIfInBounds_toArray, List.set_cons_zero, List.set_cons_succ]
                      refine wpAnyH_take (i := 10) (v := ?_) rfl (by kernel_rfl) (by kernel_rfl) (by kernel_rfl) (fun _ _ _ h => h) (Or.inl ⟨by rfl, ?_⟩) (by assumption) ?_
                      rotate_left
                      · intro w hSw
                        go_simp
                        with_reducible rfl
                      try simp only [Act.put, List.setIfInBounds_toArray, List.set_cons_zero, List.set_cons_succ]
                      refine wpAnyH_take (i := 11) (v := ?_) rfl (by kernel_rfl) (by kernel_rfl) (by kernel_rfl) (fun _ _ _ h => h) (Or.inl ⟨by rfl, ?_⟩) (by assumption) ?_
                      rotate_left
                      · intro w hSw
                        go_simp
                        with_reducible rfl
                      try simp only [Act.put, List.setIfInBounds_toArray, List.set_cons_zero, List.set_cons_succ]
                      refine wpAnyH_ready (rs := [12]) (by kernel_rfl) (by simp) ?_
                      refine AllReadyH.cons rfl (fun K hK => ?_) ?_
                      · have lts := V.lt
                        have fz := V.frozen k
                        have cv := V.cell k _ (u8s_get _ k (by rw [xkZ_len]; exact hkl))
                        go_simp
                        refine hK.out _ _ ?_ (fun hHeld2 => ?_)
                        · exact KQ1.out _ _ _ hHeld
                        · clear hK K hHeld lts fz cv
                          have hHeld := hHeld2
                          clear hHeld2
                          try simp only [Act.put, List.setIfInBounds_toArray, List.set_cons_zero, List.set_cons_succ]
                          refine wpAnyH_done (by kernel_rfl) ?_ _
                          refine NoPanic.normal ?_
                          have hbx := KB1.out _ hHeld
                          have HV := V.setb k z
                          rw [HS.out] at HV
                          clear hHeld V
                          generalize World.setCell _ _ _ = w9 at *
                          go_wp2_with fail
                          go_roundw
                          case rel => exact ⟨k + 1, by omega, by go_num, HV, hbx⟩
                          case measure => simp [intOf]; omega
                      exact AllReadyH.nil
                  exact AllReadyH.nil
                · have HKk : Hid (k = 16) := by show k = 16; omega
                  have u1 : (16 : Int) ≤ (k : Int) := by omega
                  rw [HKk.out] at V
                  go_wp2_with fail
                  go_roundw
                  case rel => exact ⟨i + 1, by omega, by go_num, by rw [encN, HPre.out]; exact V, hbx⟩
                  case measure => simp [intOf]; omega
    · have HI : Hid (i = 15) := by show i = 15; omega
      have g1 : (15 : Int) ≤ (i : Int) := by omega
      rw [HI.out] at V
      have R0 := HR2.out.below hbx lr
      have bel := HBel.out.trans (hbx.mono hwg)
      obtain ⟨X, hX⟩ : ∃ X, encN K S 15 = X := ⟨_, rfl⟩
      have HXe : Hid _ := hX
      have lX : Hid (X.length = 16) := by rw [← hX]; exact encN_len lS.out 15
      rw [hX] at V
      clear hX
      obtain ⟨tV, hV⟩ := V
      obtain ⟨tR, hR⟩ := R0
      have HL : Hid (16 = (u8s X).toArray.size) := by show 16 = _; simp [lX.out]
      have HO : Hid ((u8s (List.replicate 16 (0 : Int))).toArray.size = (u8s X).toArray.size) := by show _ = _; rw [← HL.out]; rfl
      have H1 : Hid _ := u8_ones X
      obtain ⟨fs, hfs⟩ : ∃ z, (u8s X).toArray = z := ⟨_, rfl⟩
      have HD : Hid _ := hfs
      rw [hfs] at hV HL HO H1
      generalize (u8s (List.replicate 16 (0 : Int))).toArray = es at hR HO
      clear hfs
      go_wp2_with (first
        | (refine wpList_load_row rfl 42 _ rfl gs rfl tV fs _ _ hV Try.underlying42 rfl (by rw [size_16, HL.out]) ?_)
        | (refine wpList_store_row rfl 42 _ _ rfl (w.heap.size + 1) fs rfl rfl tR es hR (by rw [size_16, HL.out]) HO.out H1.out ?_)
        | fail)
      refine bodyPost_ret (results_cell_row rfl _ _ (w.heap.size + 1) tR fs (0, 0) _ rfl (setRow_heap _ _ _ _ _ _ hR) Try.underlying42 rfl (by rw [size_16, HL.out])) rfl ?_
      exact ⟨by rw [HXe.out, HD.out], below_setRow bel (by omega) _⟩
end Go.Proofs.Ytogbmekgmjmonaa
