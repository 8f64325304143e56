/- The document's Keys. -/
import Derived.Test.YtogbmekgmjmonaaRows
import Derived.Test.YtogbmekgmjmonaaAeNumG
import Derived.Test.YtogbmekgmjmonaaAeMix
import Derived.Great.BuildSlice
import Derived.Deep.WholeRow
import Derived.Deep.RegionHeld3
import Derived.Deep.DeepCutAuto
import Derived.Deep.DeepFit
namespace Go.Proofs.Ytogbmekgmjmonaa
open Go.RowKit

set_option linter.unusedSimpArgs false in
set_option maxRecDepth 100000 in
set_option maxHeartbeats 4000000 in
theorem r9_Keys {boxv kv : Value} {K : List Int} {w : World} (hbox : Bs w boxv (boxN 256)) (hkey : Bs w kv K) (bK : byt K) (l : K.length = 32) :
    Calls Try.prog 28 #[boxv, kv] w fun e w' => ∃ v' : Value, e = .returned v' ∧ KeysAt w' v' K ∧ Below w.heap.size w w' := by
  obtain ⟨i0, hi0, hz0, hz1, hz2⟩ := info_parts info_bA
  obtain ⟨j0, hj0, hy0, hy1, hy2⟩ := info_parts info_sl
  obtain ⟨bao, cb, rfl, b1, b2, b3⟩ := hbox
  obtain ⟨kao, kc, rfl, k1, k2, k3⟩ := hkey
  rw [boxN_len] at b2 b3 ⊢
  obtain ⟨bb, ob, rfl, hbb, hbc⟩ := b3 (by decide)
  rw [l] at k2 k3 ⊢
  obtain ⟨kb, ko, rfl, hkb, hkc⟩ := k3 (by decide)
  have HBX : Hid (∀ x : Int, 0 ≤ x ∧ x < 256 → w.cell? ⟨bb, ob + x.toNat, none⟩ = some (.int .u8 (sbN x))) := fun x hx => box_at hbc hx
  have HKY : Hid _ := hkc
  have HKb : Hid (∀ j, byteN (WN K j)) := WN_byte bK
  have HWl : Hid (∀ j, (WN K j).length = 4) := WN_len l
  clear b3 k3 hbc hkc bK l
  unfold maxLen at b1 k1
  go_enter Try.func28, Try.ntmps28
  go_wp2_with fail
  go_loopw [5, 6, 7] (fun wv pv iv wx => ∃ (i : Nat) (vs : List Value), i ≤ 60 ∧ iv = .int .i64 i ∧ pv = .int .u8 ((powN ((i - 1) / 8) : Nat) : Int) ∧ wx.ownsRow w.heap.size 22 1 wv i vs ∧ Hid (WordsAt wx wv i vs K) ∧ Below w.heap.size w wx) (fun _ _ iv _ => 60 - (intOf iv).toNat)
  case atStart => exact ⟨0, [], by omega, rfl, rfl, World.ownsRow_nil _ _ _ _, fun j hj => absurd hj (by omega), Below.refl _ _⟩
  case round =>
    obtain ⟨i, vs, hi, rfl, rfl, hown, HW, bel⟩ := hrel
    have hsz := bel.size
    have lvs : vs.length = i := by have := hown.1; omega
    by_cases hil : i < 60
    · have g1 : (i : Int) < 60 := by omega
      by_cases hi8 : i < 8
      · have g2 : (i : Int) < 8 := by omega
        have i1 : IntKind.i64.wrap (4 * (i : Int)) = 4 * (i : Int) := by rw [IntKind.wrap_i64]; omega
        have i2 : IntKind.i64.wrap (4 * (i : Int) + 4) = 4 * (i : Int) + 4 := by rw [IntKind.wrap_i64]; omega
        have g3 : (0 : Int) ≤ 4 * (i : Int) := by omega
        have g4 : 4 * (i : Int) ≤ 4 * (i : Int) + 4 := by omega
        have g5 : 4 * (i : Int) + 4 ≤ (kc : Int) := by omega
        have g6 : (4 * (i : Int)).toNat = 4 * i := by omega
        have g7 : (4 * (i : Int) + 4).toNat = 4 * i + 4 := by omega
        have g8 : ¬ kc = 4 * i := by omega
        have g9 : 4 * i + 4 - 4 * i = 4 := by omega
        have HP : Hid (powN ((i - 1) / 8) = powN (i / 8)) := by show _ = _; rw [show (i - 1) / 8 = 0 by omega, show i / 8 = 0 by omega]
        have HW2 : Hid _ := HW.out.later ((Below.refl wr.heap.size wr).alloc (Nat.le_refl _) (.cells #[(.slice (some ⟨kb, ko + 4 * i, none⟩) 4 (kc - 4 * i))] 22))
        have bel2 := bel.alloc hsz (.cells #[(.slice (some ⟨kb, ko + 4 * i, none⟩) 4 (kc - 4 * i))] 22)
        have HCn : Hid (∀ k, k < 4 → (wr.alloc (.cells #[(.slice (some ⟨kb, ko + 4 * i, none⟩) 4 (kc - 4 * i))] 22)).cell? ⟨kb, ko + 4 * i + k, none⟩ = some (.int .u8 ((WN K i).getD k 0))) := fun k hk => by
          rw [Nat.add_assoc]
          refine (bel2.cell (p := ⟨kb, ko + (4 * i + k), none⟩) hkb).trans ?_
          rw [HKY.out (4 * i + k) (by omega), WN_lo hi8, List.getD_eq_getElem?_getD, List.getD_eq_getElem?_getD, List.getElem?_take, if_pos hk, List.getElem?_drop]
        go_wp2_with (first
          | (at_builtin; refine wpList_append_lies _ (by rfl) _ _ _ (by rfl) w.heap.size 22 j0 _ 1 24 Try.underlying50 hj0 hy0 hy1 hy2 rfl (by omega) _ _ _ (by rfl) (hown.alloc _) ⟨wr.heap.size, 0, none⟩ 1 1 [(.slice (some ⟨kb, ko + 4 * i, none⟩) 4 (kc - 4 * i))] (by rfl) (by rfl) (World.news_of_block (cs := #[(.slice (some ⟨kb, ko + 4 * i, none⟩) 4 (kc - 4 * i))]) (t := 22) (fr := (0, 0)) (heap_alloc_new wr _)) (by simp [Value.oneCell']) (by omega) (by unfold maxLen; omega) (by omega) (by simp; omega) (wr.heap.size + 1) (by simp) ?_; intro gg cap1 w5 hown1 hgrow hat hlt1)
          | fail)
        go_roundw
        case rel => exact ⟨i + 1, _, by omega, by go_num, by rw [HP.out]; rfl, hown1, WordsAt.step HW2.out lvs hgrow (by
          rcases hat with e | e
          · exact .inl (by rw [e]; rfl)
          · exact .inr ⟨gg, rfl, by rw [e]; simp⟩) (by omega) (by unfold maxLen; omega) (by simp; omega) (fun gb hb => by have := own_geA hown hb; omega) HCn.out, bel.trans (Below.grown ((Below.refl _ _).alloc (by omega) _) hgrow (by simp; omega) (fun j hj => own_geA hown hj))⟩
        case measure => simp [intOf]; omega
      · have g2 : ¬ (i : Int) < 8 := by omega
        have d1 : IntKind.i64.wrap ((i : Int) - 1) = (i : Int) - 1 := by rw [IntKind.wrap_i64]; omega
        have d2 : (0 : Int) ≤ (i : Int) - 1 := by omega
        have d3 : (i : Int) - 1 < (i : Int) := by omega
        have d4 : ((i : Int) - 1).toNat = i - 1 := by omega
        have d5 : (1 : Int) ≤ (i : Int) := by omega
        obtain ⟨gw, cw, curw, hwv, hgw, BW, e1, e2, hcurw⟩ := own_rows hown (by omega)
        have ltw := BW.lt
        subst hwv
        obtain ⟨gp, op, cp, vp, p1, p2, p3, p4, p5⟩ := HW.out (i - 1) (by omega)
        have cwp := hcurw (i - 1) (by omega)
        rw [vp] at cwp
        have cwp2 := (BW.alloc (.cells #[] 5)).cell (i - 1) _ cwp
        have bp : Bs (wr.alloc (.cells #[] 5)) (.slice (some ⟨gp, op, none⟩) 4 cp) (WN K (i - 1)) := ⟨some ⟨gp, op, none⟩, cp, by rw [HWl.out], p2, by rw [HWl.out]; exact p1, fun _ => ⟨gp, op, rfl, by simp; omega, fun j hj => by
          rw [HWl.out] at hj
          exact cell_later (p5 j hj) ((Below.refl _ _).alloc (Nat.le_refl _) _)⟩⟩
        have own3 := own_made wr [] 5 0 wr.heap.size rfl (Nat.le_refl _) (by decide)
        unfold maxLen at e2
        have P2 : Hid (cp ≤ maxLen) := p2
        clear p2 vp p4 p5
        go_upto_region 9 with (first | (at_builtin; refine wpList_append_bs (by rfl) _ _ (by rfl) wr.heap.size _ 0 [] (by rfl) own3 _ (WN K (i - 1)) (by rfl) bp (by rw [HWl.out]; omega) (by simp) ?_; intro v5 w5 own5 hgrow hat) | fail)
        rw [HWl.out, List.nil_append] at own5
        have hbx := below_own (base := wr.heap.size) ((Below.refl wr.heap.size wr).alloc (Nat.le_refl _) (.cells #[] 5)) hgrow (by simp) (fun g hg => own_geA own3 hg) (Nat.le_refl _)
        obtain ⟨gt, ct, curt, hvt, hgt, BT, f1, f2, hct⟩ := own_bytes own5 (by decide)
        subst hvt
        have ltt := BT.lt
        have HTc : Hid (∀ k, k < 4 → curt[k]? = some (.int .u8 ((WN K (i - 1)).getD k 0))) := hct
        have HPb : Hid (byteN (WN K (i - 1))) := HKb.out (i - 1)
        unfold maxLen at f2
        clear hgrow hat own5 own3 bp hct cwp2 d1 d2 d3 d4 d5
        by_cases m0 : i % 8 = 0
        · have tm : (i : Int).tmod 8 = 0 := by rw [Int.tmod_eq_emod_of_nonneg (by omega)]; omega
          have HTN : Hid (tN (WN K (i - 1)) i = [bits .xor .u8 (sbN ((WN K (i - 1)).getD 1 0)) ((powN ((i - 1) / 8) : Nat) : Int), sbN ((WN K (i - 1)).getD 2 0), sbN ((WN K (i - 1)).getD 3 0), sbN ((WN K (i - 1)).getD 0 0)]) := by show _ = _; unfold tN; rw [if_pos m0]
          obtain ⟨S1, hS1, KL1, KA1, KD1, KS1, KQ1, KN1, KB1, KM1, KR1⟩ := held3 (w0 := w5) (W := w5) [(gt, curt)] (by
            intro b X h
            simp only [List.mem_cons, List.not_mem_nil, or_false, Prod.mk.injEq] at h
            obtain ⟨rfl, rfl⟩ := h
            exact BT) (Below.refl _ _)
          clear KS1 KQ1 KN1 KR1 KL1
          have p0 := HPb.out 0 (by decide)
          have r0 : ∀ wx, Hd S1 wx → wx.cell? ⟨gt, 0, none⟩ = some (.int .u8 ((WN K (i - 1)).getD 0 0)) := fun wx h => (KM1.out wx _ _ h (List.Mem.head _)).cell 0 _ (HTc.out 0 (by decide))
          have q0 : ∀ wx, Hd S1 wx → wx.cell? ⟨bb, ob + ((WN K (i - 1)).getD 0 0).toNat, none⟩ = some (.int .u8 (sbN ((WN K (i - 1)).getD 0 0))) := fun wx h => ((below_step (below_step bel hbx) (KB1.out wx h)).cell (p := ⟨bb, ob + ((WN K (i - 1)).getD 0 0).toNat, none⟩) hbb).trans (HBX.out _ p0)
          obtain ⟨s0, hs0⟩ : ∃ s, sbN ((WN K (i - 1)).getD 0 0) = s := ⟨_, rfl⟩
          rw [hs0] at q0 HTN
          obtain ⟨x0, hx0⟩ : ∃ x, (WN K (i - 1)).getD 0 0 = x := ⟨_, rfl⟩
          rw [hx0] at p0 r0 q0
          have n0 := p0.1
          have m0 := p0.2
          clear hs0 hx0 p0
          have p1 := HPb.out 1 (by decide)
          have r1 : ∀ wx, Hd S1 wx → wx.cell? ⟨gt, 1, none⟩ = some (.int .u8 ((WN K (i - 1)).getD 1 0)) := fun wx h => (KM1.out wx _ _ h (List.Mem.head _)).cell 1 _ (HTc.out 1 (by decide))
          have q1 : ∀ wx, Hd S1 wx → wx.cell? ⟨bb, ob + ((WN K (i - 1)).getD 1 0).toNat, none⟩ = some (.int .u8 (sbN ((WN K (i - 1)).getD 1 0))) := fun wx h => ((below_step (below_step bel hbx) (KB1.out wx h)).cell (p := ⟨bb, ob + ((WN K (i - 1)).getD 1 0).toNat, none⟩) hbb).trans (HBX.out _ p1)
          obtain ⟨s1, hs1⟩ : ∃ s, sbN ((WN K (i - 1)).getD 1 0) = s := ⟨_, rfl⟩
          rw [hs1] at q1 HTN
          obtain ⟨x1, hx1⟩ : ∃ x, (WN K (i - 1)).getD 1 0 = x := ⟨_, rfl⟩
          rw [hx1] at p1 r1 q1
          have n1 := p1.1
          have m1 := p1.2
          clear hs1 hx1 p1
          have p2 := HPb.out 2 (by decide)
          have r2 : ∀ wx, Hd S1 wx → wx.cell? ⟨gt, 2, none⟩ = some (.int .u8 ((WN K (i - 1)).getD 2 0)) := fun wx h => (KM1.out wx _ _ h (List.Mem.head _)).cell 2 _ (HTc.out 2 (by decide))
          have q2 : ∀ wx, Hd S1 wx → wx.cell? ⟨bb, ob + ((WN K (i - 1)).getD 2 0).toNat, none⟩ = some (.int .u8 (sbN ((WN K (i - 1)).getD 2 0))) := fun wx h => ((below_step (below_step bel hbx) (KB1.out wx h)).cell (p := ⟨bb, ob + ((WN K (i - 1)).getD 2 0).toNat, none⟩) hbb).trans (HBX.out _ p2)
          obtain ⟨s2, hs2⟩ : ∃ s, sbN ((WN K (i - 1)).getD 2 0) = s := ⟨_, rfl⟩
          rw [hs2] at q2 HTN
          obtain ⟨x2, hx2⟩ : ∃ x, (WN K (i - 1)).getD 2 0 = x := ⟨_, rfl⟩
          rw [hx2] at p2 r2 q2
          have n2 := p2.1
          have m2 := p2.2
          clear hs2 hx2 p2
          have p3 := HPb.out 3 (by decide)
          have r3 : ∀ wx, Hd S1 wx → wx.cell? ⟨gt, 3, none⟩ = some (.int .u8 ((WN K (i - 1)).getD 3 0)) := fun wx h => (KM1.out wx _ _ h (List.Mem.head _)).cell 3 _ (HTc.out 3 (by decide))
          have q3 : ∀ wx, Hd S1 wx → wx.cell? ⟨bb, ob + ((WN K (i - 1)).getD 3 0).toNat, none⟩ = some (.int .u8 (sbN ((WN K (i - 1)).getD 3 0))) := fun wx h => ((below_step (below_step bel hbx) (KB1.out wx h)).cell (p := ⟨bb, ob + ((WN K (i - 1)).getD 3 0).toNat, none⟩) hbb).trans (HBX.out _ p3)
          obtain ⟨s3, hs3⟩ : ∃ s, sbN ((WN K (i - 1)).getD 3 0) = s := ⟨_, rfl⟩
          rw [hs3] at q3 HTN
          obtain ⟨x3, hx3⟩ : ∃ x, (WN K (i - 1)).getD 3 0 = x := ⟨_, rfl⟩
          rw [hx3] at p3 r3 q3
          have n3 := p3.1
          have m3 := p3.2
          clear hs3 hx3 p3
          obtain ⟨pw, hpw⟩ : ∃ x, ((powN ((i - 1) / 8) : Nat) : Int) = x := ⟨_, rfl⟩
          rw [hpw] at HTN ⊢
          obtain ⟨y0, hy0_⟩ : ∃ x, bits .xor .u8 s1 pw = x := ⟨_, rfl⟩
          rw [hy0_] at HTN
          have HPW : Hid _ := hpw
          clear hpw
          go_upto_region 10 with fail
          refine wp_region_noPanic ?_
          refine wp_region_held_drew (S := Hd S1) (by kernel_rfl) (KD1.out _ hS1) (fun hHeld => ?_)
          clear hS1
          generalize World.drew _ = wd at *
          refine wpAnyH_take (i := 0) (v := ?_) rfl (by kernel_rfl) (by kernel_rfl) (by kernel_rfl) (fun _ _ _ h => h) (Or.inl ⟨by rfl, ?_⟩) (by assumption) ?_
          rotate_left
          · intro w hSw
            go_simp
            with_reducible rfl
          try simp only [Act.put, List.setIfInBounds_toArray, List.set_cons_zero, List.set_cons_succ]
          refine wpAnyH_take (i := 1) (v := ?_) rfl (by kernel_rfl) (by kernel_rfl) (by kernel_rfl) (fun _ _ _ h => h) (Or.inl ⟨by rfl, ?_⟩) (by assumption) ?_
          rotate_left
          · intro w hSw
            go_simp
            with_reducible rfl
          try simp only [Act.put, List.setIfInBounds_toArray, List.set_cons_zero, List.set_cons_succ]
          refine wpAnyH_take (i := 2) (v := ?_) rfl (by kernel_rfl) (by kernel_rfl) (by kernel_rfl) (fun _ _ _ h => h) (Or.inl ⟨by rfl, ?_⟩) (by assumption) ?_
          rotate_left
          · intro w hSw
            go_simp
            with_reducible rfl
          try simp only [Act.put, List.setIfInBounds_toArray, List.set_cons_zero, List.set_cons_succ]
          refine wpAnyH_take (i := 3) (v := ?_) rfl (by kernel_rfl) (by kernel_rfl) (by kernel_rfl) (fun _ _ _ h => h) (Or.inl ⟨by rfl, ?_⟩) (by assumption) ?_
          rotate_left
          · intro w hSw
            go_simp
            with_reducible rfl
          try simp only [Act.put, List.setIfInBounds_toArray, List.set_cons_zero, List.set_cons_succ]
          refine wpAnyH_take (i := 4) (v := ?_) rfl (by kernel_rfl) (by kernel_rfl) (by kernel_rfl) (fun _ _ _ h => h) (Or.inl ⟨by rfl, ?_⟩) (by assumption) ?_
          rotate_left
          · intro w hSw
            go_simp
            with_reducible rfl
          try simp only [Act.put, List.setIfInBounds_toArray, List.set_cons_zero, List.set_cons_succ]
          refine wpAnyH_take (i := 5) (v := ?_) rfl (by kernel_rfl) (by kernel_rfl) (by kernel_rfl) (fun _ _ _ h => h) (Or.inl ⟨by rfl, ?_⟩) (by assumption) ?_
          rotate_left
          · intro w hSw
            go_simp
            with_reducible rfl
          try simp only [Act.put, List.setIfInBounds_toArray, List.set_cons_zero, List.set_cons_succ]
          refine wpAnyH_take (i := 6) (v := ?_) rfl (by kernel_rfl) (by kernel_rfl) (by kernel_rfl) (fun _ _ _ h => h) (Or.inl ⟨by rfl, ?_⟩) (by assumption) ?_
          rotate_left
          · intro w hSw
            go_simp
            with_reducible rfl
          try simp only [Act.put, List.setIfInBounds_toArray, List.set_cons_zero, List.set_cons_succ]
          refine wpAnyH_take (i := 7) (v := ?_) rfl (by kernel_rfl) (by kernel_rfl) (by kernel_rfl) (fun _ _ _ h => h) (Or.inl ⟨by rfl, ?_⟩) (by assumption) ?_
          rotate_left
          · intro w hSw
            go_simp
            with_reducible rfl
          try simp only [Act.put, List.setIfInBounds_toArray, List.set_cons_zero, List.set_cons_succ]
          refine wpAnyH_take (i := 8) (v := ?_) rfl (by kernel_rfl) (by kernel_rfl) (by kernel_rfl) (fun _ _ _ h => h) (Or.inl ⟨by rfl, ?_⟩) (by assumption) ?_
          rotate_left
          · intro w hSw
            go_simp
            with_reducible rfl
          try simp only [Act.put, List.setIfInBounds_toArray, List.set_cons_zero, List.set_cons_succ]
          refine wpAnyH_take (i := 9) (v := ?_) rfl (by kernel_rfl) (by kernel_rfl) (by kernel_rfl) (fun _ _ _ h => h) (Or.inl ⟨by rfl, ?_⟩) (by assumption) ?_
          rotate_left
          · intro w hSw
            go_simp
            with_reducible rfl
          try simp only [Act.put, List.setIfInBounds_toArray, List.set_cons_zero, List.set_cons_succ]
          refine wpAnyH_take (i := 10) (v := ?_) rfl (by kernel_rfl) (by kernel_rfl) (by kernel_rfl) (fun _ _ _ h => h) (Or.inl ⟨by rfl, ?_⟩) (by assumption) ?_
          rotate_left
          · intro w hSw
            go_simp
            with_reducible rfl
          try simp only [Act.put, List.setIfInBounds_toArray, List.set_cons_zero, List.set_cons_succ]
          refine wpAnyH_take (i := 11) (v := ?_) rfl (by kernel_rfl) (by kernel_rfl) (by kernel_rfl) (fun _ _ _ h => h) (Or.inl ⟨by rfl, ?_⟩) (by assumption) ?_
          rotate_left
          · intro w hSw
            go_simp
            with_reducible rfl
          try simp only [Act.put, List.setIfInBounds_toArray, List.set_cons_zero, List.set_cons_succ]
          refine wpAnyH_take (i := 12) (v := ?_) rfl (by kernel_rfl) (by kernel_rfl) (by kernel_rfl) (fun _ _ _ h => h) (Or.inl ⟨by rfl, ?_⟩) (by assumption) ?_
          rotate_left
          · intro w hSw
            go_simp
            with_reducible rfl
          try simp only [Act.put, List.setIfInBounds_toArray, List.set_cons_zero, List.set_cons_succ]
          refine wpAnyH_take (i := 13) (v := ?_) rfl (by kernel_rfl) (by kernel_rfl) (by kernel_rfl) (fun _ _ _ h => h) (Or.inl ⟨by rfl, ?_⟩) (by assumption) ?_
          rotate_left
          · intro w hSw
            go_simp
            with_reducible rfl
          try simp only [Act.put, List.setIfInBounds_toArray, List.set_cons_zero, List.set_cons_succ]
          refine wpAnyH_take (i := 14) (v := ?_) rfl (by kernel_rfl) (by kernel_rfl) (by kernel_rfl) (fun _ _ _ h => h) (Or.inl ⟨by rfl, ?_⟩) (by assumption) ?_
          rotate_left
          · intro w hSw
            go_simp
            with_reducible rfl
          try simp only [Act.put, List.setIfInBounds_toArray, List.set_cons_zero, List.set_cons_succ]
          refine wpAnyH_take (i := 15) (v := ?_) rfl (by kernel_rfl) (by kernel_rfl) (by kernel_rfl) (fun _ _ _ h => h) (Or.inl ⟨by rfl, ?_⟩) (by assumption) ?_
          rotate_left
          · intro w hSw
            go_simp
            with_reducible rfl
          try simp only [Act.put, List.setIfInBounds_toArray, List.set_cons_zero, List.set_cons_succ]
          refine wpAnyH_take (i := 16) (v := ?_) rfl (by kernel_rfl) (by kernel_rfl) (by kernel_rfl) (fun _ _ _ h => h) (Or.inl ⟨by rfl, ?_⟩) (by assumption) ?_
          rotate_left
          · intro w hSw
            go_simp
            with_reducible rfl
          try simp only [Act.put, List.setIfInBounds_toArray, List.set_cons_zero, List.set_cons_succ]
          refine wpAnyH_take (i := 17) (v := ?_) rfl (by kernel_rfl) (by kernel_rfl) (by kernel_rfl) (fun _ _ _ h => h) (Or.inl ⟨by rfl, ?_⟩) (by assumption) ?_
          rotate_left
          · intro w hSw
            go_simp
            with_reducible rfl
          try simp only [Act.put, List.setIfInBounds_toArray, List.set_cons_zero, List.set_cons_succ]
          refine wpAnyH_take (i := 18) (v := ?_) rfl (by kernel_rfl) (by kernel_rfl) (by kernel_rfl) (fun _ _ _ h => h) (Or.inl ⟨by rfl, ?_⟩) (by assumption) ?_
          rotate_left
          · intro w hSw
            go_simp
            with_reducible rfl
          try simp only [Act.put, List.setIfInBounds_toArray, List.set_cons_zero, List.set_cons_succ]
          refine wpAnyH_take (i := 19) (v := ?_) rfl (by kernel_rfl) (by kernel_rfl) (by kernel_rfl) (fun _ _ _ h => h) (Or.inl ⟨by rfl, ?_⟩) (by assumption) ?_
          rotate_left
          · intro w hSw
            go_simp
            with_reducible rfl
          try simp only [Act.put, List.setIfInBounds_toArray, List.set_cons_zero, List.set_cons_succ]
          refine wpAnyH_take (i := 20) (v := ?_) rfl (by kernel_rfl) (by kernel_rfl) (by kernel_rfl) (fun _ _ _ h => h) (Or.inl ⟨by rfl, ?_⟩) (by assumption) ?_
          rotate_left
          · intro w hSw
            go_simp
            with_reducible rfl
          try simp only [Act.put, List.setIfInBounds_toArray, List.set_cons_zero, List.set_cons_succ]
          refine wpAnyH_take (i := 21) (v := ?_) rfl (by kernel_rfl) (by kernel_rfl) (by kernel_rfl) (fun _ _ _ h => h) (Or.inl ⟨by rfl, ?_⟩) (by assumption) ?_
          rotate_left
          · intro w hSw
            go_simp
            with_reducible rfl
          try simp only [Act.put, List.setIfInBounds_toArray, List.set_cons_zero, List.set_cons_succ]
          refine wpAnyH_take (i := 22) (v := ?_) rfl (by kernel_rfl) (by kernel_rfl) (by kernel_rfl) (fun _ _ _ h => h) (Or.inl ⟨by rfl, ?_⟩) (by assumption) ?_
          rotate_left
          · intro w hSw
            go_simp
            with_reducible rfl
          try simp only [Act.put, List.setIfInBounds_toArray, List.set_cons_zero, List.set_cons_succ]
          refine wpAnyH_take (i := 23) (v := ?_) rfl (by kernel_rfl) (by kernel_rfl) (by kernel_rfl) (fun _ _ _ h => h) (Or.inl ⟨by rfl, ?_⟩) (by assumption) ?_
          rotate_left
          · intro w hSw
            go_simp
            with_reducible rfl
          try simp only [Act.put, List.setIfInBounds_toArray, List.set_cons_zero, List.set_cons_succ]
          refine wpAnyH_take (i := 24) (v := ?_) rfl (by kernel_rfl) (by kernel_rfl) (by kernel_rfl) (fun _ _ _ h => h) (Or.inl ⟨by rfl, ?_⟩) (by assumption) ?_
          rotate_left
          · intro w hSw
            go_simp
            with_reducible rfl
          try simp only [Act.put, List.setIfInBounds_toArray, List.set_cons_zero, List.set_cons_succ]
          refine wpAnyH_take (i := 25) (v := ?_) rfl (by kernel_rfl) (by kernel_rfl) (by kernel_rfl) (fun _ _ _ h => h) (Or.inl ⟨by rfl, ?_⟩) (by assumption) ?_
          rotate_left
          · intro w hSw
            go_simp
            with_reducible rfl
          try simp only [Act.put, List.setIfInBounds_toArray, List.set_cons_zero, List.set_cons_succ]
          clear r0 q0 r1 q1 r2 q2 r3 q3
          have hbt := KB1.out _ hHeld
          have BT2 := Blk.new wd [.int .u8 y0, .int .u8 s2, .int .u8 s3, .int .u8 s0] 5 wd.heap.size rfl
          have sz2 := hbt.size
          refine wpAnyH_ready (rs := [26]) (by kernel_rfl) (by simp) ?_
          refine AllReadyH.cons rfl (fun K hK => ?_) ?_
          · go_simp
            refine hK.out _ _ ?_ (fun hHeld2 => ?_)
            · exact KA1.out _ _ hHeld
            · clear hK K hHeld
              have hHeld := hHeld2
              clear hHeld2
              try simp only [Act.put, List.setIfInBounds_toArray, List.set_cons_zero, List.set_cons_succ]
              refine wpAnyH_ready (rs := [27]) (by kernel_rfl) (by simp) ?_
              refine AllReadyH.cons rfl (fun K hK => ?_) ?_
              · go_simp
                refine hK.out _ _ ?_ (fun hHeld2 => ?_)
                · exact hHeld
                · clear hK K hHeld
                  have hHeld := hHeld2
                  clear hHeld2
                  try simp only [Act.put, List.setIfInBounds_toArray, List.set_cons_zero, List.set_cons_succ]
                  refine wpAnyH_done (by kernel_rfl) ?_ _
                  refine NoPanic.normal ?_
                  replace hbx := below_step hbx (KB1.out _ hHeld)
                  clear hHeld KA1 KD1 KB1 KM1 BT HTc hbt
                  obtain ⟨gb2, hg2⟩ : ∃ z, z = wd.heap.size := ⟨_, rfl⟩
                  obtain ⟨Wt, hWt⟩ : ∃ z, z = wd.alloc (Obj.cells #[.int .u8 y0, .int .u8 s2, .int .u8 s3, .int .u8 s0] 5) := ⟨_, rfl⟩
                  rw [show (Obj.cells [.int .u8 y0, .int .u8 s2, .int .u8 s3, .int .u8 s0].toArray 5) = Obj.cells #[.int .u8 y0, .int .u8 s2, .int .u8 s3, .int .u8 s0] 5 from rfl, ← hWt] at BT2
                  rw [← hWt] at hbx ⊢
                  rw [← hg2] at BT2 ⊢
                  clear hg2 hWt sz2
                  have HTc : Hid (∀ k, k < 4 → Wt.cell? ⟨gb2, k, none⟩ = some (.int .u8 ((tN (WN K (i - 1)) i).getD k 0))) := by
                    rw [HTN.out]
                    exact four (BT2.cell 0 _ rfl) (BT2.cell 1 _ rfl) (BT2.cell 2 _ rfl) (BT2.cell 3 _ rfl)
                  have ltt := BT2.lt
                  obtain ⟨ct2, hct2⟩ : ∃ z, z = 4 := ⟨_, rfl⟩
                  clear BT2 hct2 ct2
                  rw [← HPW.out]
                  go_wp2_with fail
                  refine (r9_Product (powN_lt _) (show 2 < 256 by decide)).mono ?_
                  rintro e w8 ⟨rfl, hw8⟩
                  rw [hw8]
                  clear hw8 w8
                  have HPn : Hid (prdN (powN ((i - 1) / 8)) 2 = powN (i / 8)) := by show _ = _; rw [show i / 8 = (i - 1) / 8 + 1 by omega]; rfl
                  rw [HPn.out]
                  have HQb := HKb.out (i - 8)
                  have HTb : Hid (byteN (tN (WN K (i - 1)) i)) := tN_byte (HKb.out (i - 1)) i
                  obtain ⟨T, hT⟩ : ∃ T, tN (WN K (i - 1)) i = T := ⟨_, rfl⟩
                  have HWN : Hid (WN K i = x4N T (WN K (i - 8))) := by rw [← hT]; exact WN_hi (by omega)
                  rw [hT] at HTc
                  obtain ⟨Q, hQ⟩ : ∃ Q, WN K (i - 8) = Q := ⟨_, rfl⟩
                  rw [hQ] at HWN
                  obtain ⟨g8, o8, c8, v8, z1, z2, z3, z4, z5⟩ := HW.out (i - 8) (by omega)
                  rw [hQ] at z5
                  have cw8 := hcurw (i - 8) (by omega)
                  rw [v8] at cw8
                  have HC8 : Hid _ := z5
                  have BWt := BW.below hbx BW.lt
                  have HXl : Hid ((x4N T Q).length = 4) := x4N_len T Q
                  clear hT hQ v8 z4 z5 HQb HTb
                  unfold maxLen at z2
                  go_wp2_with fail
                  obtain ⟨W9, hW9⟩ : ∃ z, z = Wt := ⟨_, rfl⟩
                  rw [← hW9] at HTc ltt hbx BWt ⊢
                  clear hW9
                  go_loopw [9, 10] (fun xv kv wx => ∃ k : Nat, k ≤ 4 ∧ kv = .int .i64 k ∧ wx.ownsRow W9.heap.size 5 1 xv k (u8s ((x4N T Q).take k)) ∧ Below W9.heap.size W9 wx) (fun _ kv _ => 4 - (intOf kv).toNat)
                  case atStart => exact ⟨0, by omega, rfl, World.ownsRow_nil _ _ _ _, Below.refl _ _⟩
                  case round =>
                    obtain ⟨k, hk, rfl, own1, hby⟩ := hrel
                    have hsy := hby.size
                    by_cases hkl : k < 4
                    · have u1 : (k : Int) < 4 := by omega
                      have u2 : (0 : Int) ≤ (k : Int) := by omega
                      have d1 : IntKind.i64.wrap ((i : Int) - 8) = (i : Int) - 8 := by rw [IntKind.wrap_i64]; omega
                      have d2 : (0 : Int) ≤ (i : Int) - 8 := by omega
                      have d3 : (i : Int) - 8 < (i : Int) := by omega
                      have d4 : ((i : Int) - 8).toNat = i - 8 := by omega
                      have d5 : (8 : Int) ≤ (i : Int) := by omega
                      have HN := take_next (k := x4N T Q) (i := k) (by rw [HXl.out]; exact hkl)
                      rw [x4N_get hkl] at HN
                      have ct := HTc.out k hkl
                      have cq := HC8.out k hkl
                      obtain ⟨ta, hta⟩ : ∃ z, T.getD k 0 = z := ⟨_, rfl⟩
                      obtain ⟨qa, hqa⟩ : ∃ z, Q.getD k 0 = z := ⟨_, rfl⟩
                      rw [hta] at HN ct
                      rw [hqa] at HN cq
                      obtain ⟨y, hy⟩ : ∃ z, bits .xor .u8 ta qa = z := ⟨_, rfl⟩
                      rw [hy] at HN
                      have HNx : Hid _ := HN
                      clear HN hta hqa
                      obtain ⟨S1, hS1, KD1, KA1, KG1, KB1⟩ := held_row hby
                      have r1 : ∀ wx, Hd S1 wx → wx.cell? ⟨gb2, k, none⟩ = some (.int .u8 ta) := fun wx h => cell_later ct (KB1.out wx h)
                      have r2 : ∀ wx, Hd S1 wx → wx.cell? ⟨gw, i - 8, none⟩ = some (.slice (some ⟨g8, o8, none⟩) 4 c8) := fun wx h => cell_later (BWt.cell (i - 8) _ cw8) (KB1.out wx h)
                      have r3 : ∀ wx, Hd S1 wx → wx.cell? ⟨g8, o8 + k, none⟩ = some (.int .u8 qa) := fun wx h => cell_later (cell_later cq hbx) (KB1.out wx h)
                      go_upto_region 18 with fail
                      refine wp_region_noPanic ?_
                      refine wp_region_held_drew (S := Hd S1) (by kernel_rfl) (KD1.out _ hS1) (fun hHeld => ?_)
                      clear hS1
                      have own2 : World.ownsRow (World.drew _) W9.heap.size 5 1 _ k (u8s ((x4N T Q).take k)) := own1
                      clear own1 hsy
                      generalize World.drew _ = wd at *
                      refine wpAnyH_take (i := 0) (v := ?_) rfl (by kernel_rfl) (by kernel_rfl) (by kernel_rfl) (fun _ _ _ h => h) (Or.inl ⟨by rfl, ?_⟩) (by assumption) ?_
                      rotate_left
                      · intro w hSw
                        go_simp
                        with_reducible rfl
                      try simp only [Act.put, List.setIfInBounds_toArray, List.set_cons_zero, List.set_cons_succ]
                      refine wpAnyH_take (i := 1) (v := ?_) rfl (by kernel_rfl) (by kernel_rfl) (by kernel_rfl) (fun _ _ _ h => h) (Or.inl ⟨by rfl, ?_⟩) (by assumption) ?_
                      rotate_left
                      · intro w hSw
                        go_simp
                        with_reducible rfl
                      try simp only [Act.put, List.setIfInBounds_toArray, List.set_cons_zero, List.set_cons_succ]
                      refine wpAnyH_take (i := 2) (v := ?_) rfl (by kernel_rfl) (by kernel_rfl) (by kernel_rfl) (fun _ _ _ h => h) (Or.inl ⟨by rfl, ?_⟩) (by assumption) ?_
                      rotate_left
                      · intro w hSw
                        go_simp
                        with_reducible rfl
                      try simp only [Act.put, List.setIfInBounds_toArray, List.set_cons_zero, List.set_cons_succ]
                      refine wpAnyH_take (i := 3) (v := ?_) rfl (by kernel_rfl) (by kernel_rfl) (by kernel_rfl) (fun _ _ _ h => h) (Or.inl ⟨by rfl, ?_⟩) (by assumption) ?_
                      rotate_left
                      · intro w hSw
                        go_simp
                        with_reducible rfl
                      try simp only [Act.put, List.setIfInBounds_toArray, List.set_cons_zero, List.set_cons_succ]
                      refine wpAnyH_take (i := 4) (v := ?_) rfl (by kernel_rfl) (by kernel_rfl) (by kernel_rfl) (fun _ _ _ h => h) (Or.inl ⟨by rfl, ?_⟩) (by assumption) ?_
                      rotate_left
                      · intro w hSw
                        go_simp
                        with_reducible rfl
                      try simp only [Act.put, List.setIfInBounds_toArray, List.set_cons_zero, List.set_cons_succ]
                      refine wpAnyH_take (i := 5) (v := ?_) rfl (by kernel_rfl) (by kernel_rfl) (by kernel_rfl) (fun _ _ _ h => h) (Or.inl ⟨by rfl, ?_⟩) (by assumption) ?_
                      rotate_left
                      · intro w hSw
                        go_simp
                        with_reducible rfl
                      try simp only [Act.put, List.setIfInBounds_toArray, List.set_cons_zero, List.set_cons_succ]
                      refine wpAnyH_take (i := 6) (v := ?_) rfl (by kernel_rfl) (by kernel_rfl) (by kernel_rfl) (fun _ _ _ h => h) (Or.inl ⟨by rfl, ?_⟩) (by assumption) ?_
                      rotate_left
                      · intro w hSw
                        go_simp
                        with_reducible rfl
                      try simp only [Act.put, List.setIfInBounds_toArray, List.set_cons_zero, List.set_cons_succ]
                      refine wpAnyH_take (i := 7) (v := ?_) rfl (by kernel_rfl) (by kernel_rfl) (by kernel_rfl) (fun _ _ _ h => h) (Or.inl ⟨by rfl, ?_⟩) (by assumption) ?_
                      rotate_left
                      · intro w hSw
                        go_simp
                        with_reducible rfl
                      try simp only [Act.put, List.setIfInBounds_toArray, List.set_cons_zero, List.set_cons_succ]
                      refine wpAnyH_take (i := 8) (v := ?_) rfl (by kernel_rfl) (by kernel_rfl) (by kernel_rfl) (fun _ _ _ h => h) (Or.inl ⟨by rfl, ?_⟩) (by assumption) ?_
                      rotate_left
                      · intro w hSw
                        go_simp
                        with_reducible rfl
                      try simp only [Act.put, List.setIfInBounds_toArray, List.set_cons_zero, List.set_cons_succ]
                      refine wpAnyH_take (i := 9) (v := ?_) rfl (by kernel_rfl) (by kernel_rfl) (by kernel_rfl) (fun _ _ _ h => h) (Or.inl ⟨by rfl, ?_⟩) (by assumption) ?_
                      rotate_left
                      · intro w hSw
                        go_simp
                        with_reducible rfl
                      try simp only [Act.put, List.setIfInBounds_toArray, List.set_cons_zero, List.set_cons_succ]
                      refine wpAnyH_take (i := 10) (v := ?_) rfl (by kernel_rfl) (by kernel_rfl) (by kernel_rfl) (fun _ _ _ h => h) (Or.inl ⟨by rfl, ?_⟩) (by assumption) ?_
                      rotate_left
                      · intro w hSw
                        go_simp
                        with_reducible rfl
                      try simp only [Act.put, List.setIfInBounds_toArray, List.set_cons_zero, List.set_cons_succ]
                      refine wpAnyH_take (i := 11) (v := ?_) rfl (by kernel_rfl) (by kernel_rfl) (by kernel_rfl) (fun _ _ _ h => h) (Or.inl ⟨by rfl, ?_⟩) (by assumption) ?_
                      rotate_left
                      · intro w hSw
                        go_simp
                        with_reducible rfl
                      try simp only [Act.put, List.setIfInBounds_toArray, List.set_cons_zero, List.set_cons_succ]
                      refine wpAnyH_take (i := 12) (v := ?_) rfl (by kernel_rfl) (by kernel_rfl) (by kernel_rfl) (fun _ _ _ h => h) (Or.inl ⟨by rfl, ?_⟩) (by assumption) ?_
                      rotate_left
                      · intro w hSw
                        go_simp
                        with_reducible rfl
                      try simp only [Act.put, List.setIfInBounds_toArray, List.set_cons_zero, List.set_cons_succ]
                      refine wpAnyH_take (i := 13) (v := ?_) rfl (by kernel_rfl) (by kernel_rfl) (by kernel_rfl) (fun _ _ _ h => h) (Or.inl ⟨by rfl, ?_⟩) (by assumption) ?_
                      rotate_left
                      · intro w hSw
                        go_simp
                        with_reducible rfl
                      try simp only [Act.put, List.setIfInBounds_toArray, List.set_cons_zero, List.set_cons_succ]
                      clear r1 r2 r3
                      have hsd := (KB1.out _ hHeld).size
                      refine wpAnyH_ready (rs := [14]) (by kernel_rfl) (by simp) ?_
                      refine AllReadyH.cons rfl (fun K hK => ?_) ?_
                      · go_simp
                        refine hK.out _ _ ?_ (fun hHeld2 => ?_)
                        · exact KA1.out _ _ hHeld hsd
                        · clear hK K hHeld
                          have hHeld := hHeld2
                          clear hHeld2
                          try simp only [Act.put, List.setIfInBounds_toArray, List.set_cons_zero, List.set_cons_succ]
                          refine wpAnyH_ready (rs := [15]) (by kernel_rfl) (by simp) ?_
                          refine AllReadyH.cons rfl (fun K hK => ?_) ?_
                          · rw [if_pos (by kernel_rfl)]
                            refine wp_append_lies _ _ _ _ (by rfl) W9.heap.size 5 i0 _ 1 1 Try.underlying22 hi0 hz0 hz1 hz2 rfl (by omega) _ k (u8s ((x4N T Q).take k)) (by rfl) (own2.alloc _) ⟨wd.heap.size, 0, none⟩ 1 1 [.int .u8 y] (by rfl) (by rfl) (World.news_of_block (cs := #[.int .u8 y]) (t := 5) (fr := (0, 0)) (heap_alloc_new wd _)) (by simp [Value.oneCell']) (by omega) (by unfold maxLen; omega) (by omega) (by simp; omega) (wd.heap.size + 1) (by simp) ?_
                            intro gg cap1 w7 own7 hgrow hat hlt1
                            refine hK.out _ _ ?_ (fun hHeld2 => ?_)
                            · exact KG1.out _ _ _ hHeld hgrow (fun g hg => own_geA own2 hg) (by simp; omega)
                            · clear hK K hHeld
                              have hHeld := hHeld2
                              clear hHeld2 hgrow hat
                              try simp only [Act.put, List.setIfInBounds_toArray, List.set_cons_zero, List.set_cons_succ]
                              refine wpAnyH_ready (rs := [16]) (by kernel_rfl) (by simp) ?_
                              refine AllReadyH.cons rfl (fun K hK => ?_) ?_
                              · go_simp
                                refine hK.out _ _ ?_ (fun hHeld2 => ?_)
                                · exact hHeld
                                · clear hK K hHeld
                                  have hHeld := hHeld2
                                  clear hHeld2
                                  try simp only [Act.put, List.setIfInBounds_toArray, List.set_cons_zero, List.set_cons_succ]
                                  refine wpAnyH_done (by kernel_rfl) ?_ _
                                  refine NoPanic.normal ?_
                                  have hby2 := KB1.out _ hHeld
                                  have own8 : w7.ownsRow W9.heap.size 5 1 (.slice (some ⟨gg, 0, none⟩) (k + 1) cap1) (k + 1) (u8s ((x4N T Q).take k ++ [y])) := by simpa [u8s] using own7
                                  rw [HNx.out] at own8
                                  clear hHeld own7 own2
                                  go_wp2_with fail
                                  go_roundw
                                  case rel => exact ⟨k + 1, by omega, by go_num, own8, hby2⟩
                                  case measure => simp [intOf]; omega
                              exact AllReadyH.nil
                          exact AllReadyH.nil
                      exact AllReadyH.nil
                    · have HKk : Hid (k = 4) := by show k = 4; omega
                      have u1 : (4 : Int) ≤ (k : Int) := by omega
                      rw [HKk.out, List.take_of_length_le (by rw [HXl.out]; exact Nat.le_refl _), ← HWN.out] at own1
                      obtain ⟨gx, cx, curx, hvx, hgx, BX, e1, e2, hcx⟩ := own_bytes own1 (by decide)
                      have hbw := hbx.trans (hby.mono hbx.size)
                      have own9 := own_laterA hown hbw
                      have HW9 : Hid _ := HW.out.later hbw
                      have bel9 := below_step bel hbw
                      have hs9 := bel9.size
                      have HCX : Hid _ := hcx
                      have ltx := BX.lt
                      rw [hvx]
                      clear own1 hcx hvx
                      unfold maxLen at e2
                      have HE2 : Hid (cx ≤ 9223372036854775807) := by show _ ≤ _; omega
                      go_wp2_with (first
                        | (at_builtin; refine wpList_append_lies _ (by rfl) _ _ _ (by rfl) w.heap.size 22 j0 _ 1 24 Try.underlying50 hj0 hy0 hy1 hy2 rfl (by omega) _ _ _ (by rfl) (own9.alloc _) ⟨wr.heap.size, 0, none⟩ 1 1 [.slice (some ⟨gx, 0, none⟩) 4 cx] (by rfl) (by rfl) (World.news_of_block (cs := #[.slice (some ⟨gx, 0, none⟩) 4 cx]) (t := 22) (fr := (0, 0)) (heap_alloc_new wr _)) (by simp [Value.oneCell']) (by omega) (by unfold maxLen; omega) (by omega) (by simp; omega) (wr.heap.size + 1) (by simp) ?_; intro gg cap1 wz hownz hgrow hat hltz)
                        | fail)
                      go_roundw
                      case rel =>
                        refine ⟨i + 1, _, by omega, by go_num, rfl, hownz, WordsAt.step (WordsAt.later HW9.out ((Below.refl _ _).alloc (Nat.le_refl _) _)) lvs hgrow ?_ e1 (by unfold maxLen; have := HE2.out; omega) (by simp; omega) (fun gb hb => ?_) ?_, bel9.trans (Below.grown ((Below.refl _ _).alloc (by omega) _) hgrow (by simp; omega) (fun j hj => own_geA own9 hj))⟩
                        · rcases hat with e | e
                          · exact .inl (by rw [e]; rfl)
                          · exact .inr ⟨gg, rfl, by rw [e]; simp⟩
                        · have := own_underA hown hb
                          have := hbx.size
                          omega
                        · intro k hk
                          rw [Nat.zero_add]
                          exact cell_later (BX.cell k _ (HCX.out k hk)) ((Below.refl _ _).alloc (Nat.le_refl _) _)
                      case measure => simp [intOf]; omega
              exact AllReadyH.nil
          exact AllReadyH.nil
        · by_cases m4 : i % 8 = 4
          · have tm : (i : Int).tmod 8 = 4 := by rw [Int.tmod_eq_emod_of_nonneg (by omega)]; omega
            have HTN : Hid (tN (WN K (i - 1)) i = [sbN ((WN K (i - 1)).getD 0 0), sbN ((WN K (i - 1)).getD 1 0), sbN ((WN K (i - 1)).getD 2 0), sbN ((WN K (i - 1)).getD 3 0)]) := by show _ = _; unfold tN; rw [if_neg m0, if_pos m4]
            obtain ⟨S1, hS1, KL1, KA1, KD1, KS1, KQ1, KN1, KB1, KM1, KR1⟩ := held3 (w0 := w5) (W := w5) [(gt, curt)] (by
              intro b X h
              simp only [List.mem_cons, List.not_mem_nil, or_false, Prod.mk.injEq] at h
              obtain ⟨rfl, rfl⟩ := h
              exact BT) (Below.refl _ _)
            clear KS1 KQ1 KN1 KR1 KL1
            have p0 := HPb.out 0 (by decide)
            have r0 : ∀ wx, Hd S1 wx → wx.cell? ⟨gt, 0, none⟩ = some (.int .u8 ((WN K (i - 1)).getD 0 0)) := fun wx h => (KM1.out wx _ _ h (List.Mem.head _)).cell 0 _ (HTc.out 0 (by decide))
            have q0 : ∀ wx, Hd S1 wx → wx.cell? ⟨bb, ob + ((WN K (i - 1)).getD 0 0).toNat, none⟩ = some (.int .u8 (sbN ((WN K (i - 1)).getD 0 0))) := fun wx h => ((below_step (below_step bel hbx) (KB1.out wx h)).cell (p := ⟨bb, ob + ((WN K (i - 1)).getD 0 0).toNat, none⟩) hbb).trans (HBX.out _ p0)
            obtain ⟨s0, hs0⟩ : ∃ s, sbN ((WN K (i - 1)).getD 0 0) = s := ⟨_, rfl⟩
            rw [hs0] at q0 HTN
            obtain ⟨x0, hx0⟩ : ∃ x, (WN K (i - 1)).getD 0 0 = x := ⟨_, rfl⟩
            rw [hx0] at p0 r0 q0
            have n0 := p0.1
            have m0 := p0.2
            clear hs0 hx0 p0
            have p1 := HPb.out 1 (by decide)
            have r1 : ∀ wx, Hd S1 wx → wx.cell? ⟨gt, 1, none⟩ = some (.int .u8 ((WN K (i - 1)).getD 1 0)) := fun wx h => (KM1.out wx _ _ h (List.Mem.head _)).cell 1 _ (HTc.out 1 (by decide))
            have q1 : ∀ wx, Hd S1 wx → wx.cell? ⟨bb, ob + ((WN K (i - 1)).getD 1 0).toNat, none⟩ = some (.int .u8 (sbN ((WN K (i - 1)).getD 1 0))) := fun wx h => ((below_step (below_step bel hbx) (KB1.out wx h)).cell (p := ⟨bb, ob + ((WN K (i - 1)).getD 1 0).toNat, none⟩) hbb).trans (HBX.out _ p1)
            obtain ⟨s1, hs1⟩ : ∃ s, sbN ((WN K (i - 1)).getD 1 0) = s := ⟨_, rfl⟩
            rw [hs1] at q1 HTN
            obtain ⟨x1, hx1⟩ : ∃ x, (WN K (i - 1)).getD 1 0 = x := ⟨_, rfl⟩
            rw [hx1] at p1 r1 q1
            have n1 := p1.1
            have m1 := p1.2
            clear hs1 hx1 p1
            have p2 := HPb.out 2 (by decide)
            have r2 : ∀ wx, Hd S1 wx → wx.cell? ⟨gt, 2, none⟩ = some (.int .u8 ((WN K (i - 1)).getD 2 0)) := fun wx h => (KM1.out wx _ _ h (List.Mem.head _)).cell 2 _ (HTc.out 2 (by decide))
            have q2 : ∀ wx, Hd S1 wx → wx.cell? ⟨bb, ob + ((WN K (i - 1)).getD 2 0).toNat, none⟩ = some (.int .u8 (sbN ((WN K (i - 1)).getD 2 0))) := fun wx h => ((below_step (below_step bel hbx) (KB1.out wx h)).cell (p := ⟨bb, ob + ((WN K (i - 1)).getD 2 0).toNat, none⟩) hbb).trans (HBX.out _ p2)
            obtain ⟨s2, hs2⟩ : ∃ s, sbN ((WN K (i - 1)).getD 2 0) = s := ⟨_, rfl⟩
            rw [hs2] at q2 HTN
            obtain ⟨x2, hx2⟩ : ∃ x, (WN K (i - 1)).getD 2 0 = x := ⟨_, rfl⟩
            rw [hx2] at p2 r2 q2
            have n2 := p2.1
            have m2 := p2.2
            clear hs2 hx2 p2
            have p3 := HPb.out 3 (by decide)
            have r3 : ∀ wx, Hd S1 wx → wx.cell? ⟨gt, 3, none⟩ = some (.int .u8 ((WN K (i - 1)).getD 3 0)) := fun wx h => (KM1.out wx _ _ h (List.Mem.head _)).cell 3 _ (HTc.out 3 (by decide))
            have q3 : ∀ wx, Hd S1 wx → wx.cell? ⟨bb, ob + ((WN K (i - 1)).getD 3 0).toNat, none⟩ = some (.int .u8 (sbN ((WN K (i - 1)).getD 3 0))) := fun wx h => ((below_step (below_step bel hbx) (KB1.out wx h)).cell (p := ⟨bb, ob + ((WN K (i - 1)).getD 3 0).toNat, none⟩) hbb).trans (HBX.out _ p3)
            obtain ⟨s3, hs3⟩ : ∃ s, sbN ((WN K (i - 1)).getD 3 0) = s := ⟨_, rfl⟩
            rw [hs3] at q3 HTN
            obtain ⟨x3, hx3⟩ : ∃ x, (WN K (i - 1)).getD 3 0 = x := ⟨_, rfl⟩
            rw [hx3] at p3 r3 q3
            have n3 := p3.1
            have m3 := p3.2
            clear hs3 hx3 p3
            go_upto_region 13 with fail
            refine wp_region_noPanic ?_
            refine wp_region_held_drew (S := Hd S1) (by kernel_rfl) (KD1.out _ hS1) (fun hHeld => ?_)
            clear hS1
            generalize World.drew _ = wd at *
            refine wpAnyH_take (i := 0) (v := ?_) rfl (by kernel_rfl) (by kernel_rfl) (by kernel_rfl) (fun _ _ _ h => h) (Or.inl ⟨by rfl, ?_⟩) (by assumption) ?_
            rotate_left
            · intro w hSw
              go_simp
              with_reducible rfl
            try simp only [Act.put, List.setIfInBounds_toArray, List.set_cons_zero, List.set_cons_succ]
            refine wpAnyH_take (i := 1) (v := ?_) rfl (by kernel_rfl) (by kernel_rfl) (by kernel_rfl) (fun _ _ _ h => h) (Or.inl ⟨by rfl, ?_⟩) (by assumption) ?_
            rotate_left
            · intro w hSw
              go_simp
              with_reducible rfl
            try simp only [Act.put, List.setIfInBounds_toArray, List.set_cons_zero, List.set_cons_succ]
            refine wpAnyH_take (i := 2) (v := ?_) rfl (by kernel_rfl) (by kernel_rfl) (by kernel_rfl) (fun _ _ _ h => h) (Or.inl ⟨by rfl, ?_⟩) (by assumption) ?_
            rotate_left
            · intro w hSw
              go_simp
              with_reducible rfl
            try simp only [Act.put, List.setIfInBounds_toArray, List.set_cons_zero, List.set_cons_succ]
            refine wpAnyH_take (i := 3) (v := ?_) rfl (by kernel_rfl) (by kernel_rfl) (by kernel_rfl) (fun _ _ _ h => h) (Or.inl ⟨by rfl, ?_⟩) (by assumption) ?_
            rotate_left
            · intro w hSw
              go_simp
              with_reducible rfl
            try simp only [Act.put, List.setIfInBounds_toArray, List.set_cons_zero, List.set_cons_succ]
            refine wpAnyH_take (i := 4) (v := ?_) rfl (by kernel_rfl) (by kernel_rfl) (by kernel_rfl) (fun _ _ _ h => h) (Or.inl ⟨by rfl, ?_⟩) (by assumption) ?_
            rotate_left
            · intro w hSw
              go_simp
              with_reducible rfl
            try simp only [Act.put, List.setIfInBounds_toArray, List.set_cons_zero, List.set_cons_succ]
            refine wpAnyH_take (i := 5) (v := ?_) rfl (by kernel_rfl) (by kernel_rfl) (by kernel_rfl) (fun _ _ _ h => h) (Or.inl ⟨by rfl, ?_⟩) (by assumption) ?_
            rotate_left
            · intro w hSw
              go_simp
              with_reducible rfl
            try simp only [Act.put, List.setIfInBounds_toArray, List.set_cons_zero, List.set_cons_succ]
            refine wpAnyH_take (i := 6) (v := ?_) rfl (by kernel_rfl) (by kernel_rfl) (by kernel_rfl) (fun _ _ _ h => h) (Or.inl ⟨by rfl, ?_⟩) (by assumption) ?_
            rotate_left
            · intro w hSw
              go_simp
              with_reducible rfl
            try simp only [Act.put, List.setIfInBounds_toArray, List.set_cons_zero, List.set_cons_succ]
            refine wpAnyH_take (i := 7) (v := ?_) rfl (by kernel_rfl) (by kernel_rfl) (by kernel_rfl) (fun _ _ _ h => h) (Or.inl ⟨by rfl, ?_⟩) (by assumption) ?_
            rotate_left
            · intro w hSw
              go_simp
              with_reducible rfl
            try simp only [Act.put, List.setIfInBounds_toArray, List.set_cons_zero, List.set_cons_succ]
            refine wpAnyH_take (i := 8) (v := ?_) rfl (by kernel_rfl) (by kernel_rfl) (by kernel_rfl) (fun _ _ _ h => h) (Or.inl ⟨by rfl, ?_⟩) (by assumption) ?_
            rotate_left
            · intro w hSw
              go_simp
              with_reducible rfl
            try simp only [Act.put, List.setIfInBounds_toArray, List.set_cons_zero, List.set_cons_succ]
            refine wpAnyH_take (i := 9) (v := ?_) rfl (by kernel_rfl) (by kernel_rfl) (by kernel_rfl) (fun _ _ _ h => h) (Or.inl ⟨by rfl, ?_⟩) (by assumption) ?_
            rotate_left
            · intro w hSw
              go_simp
              with_reducible rfl
            try simp only [Act.put, List.setIfInBounds_toArray, List.set_cons_zero, List.set_cons_succ]
            refine wpAnyH_take (i := 10) (v := ?_) rfl (by kernel_rfl) (by kernel_rfl) (by kernel_rfl) (fun _ _ _ h => h) (Or.inl ⟨by rfl, ?_⟩) (by assumption) ?_
            rotate_left
            · intro w hSw
              go_simp
              with_reducible rfl
            try simp only [Act.put, List.setIfInBounds_toArray, List.set_cons_zero, List.set_cons_succ]
            refine wpAnyH_take (i := 11) (v := ?_) rfl (by kernel_rfl) (by kernel_rfl) (by kernel_rfl) (fun _ _ _ h => h) (Or.inl ⟨by rfl, ?_⟩) (by assumption) ?_
            rotate_left
            · intro w hSw
              go_simp
              with_reducible rfl
            try simp only [Act.put, List.setIfInBounds_toArray, List.set_cons_zero, List.set_cons_succ]
            refine wpAnyH_take (i := 12) (v := ?_) rfl (by kernel_rfl) (by kernel_rfl) (by kernel_rfl) (fun _ _ _ h => h) (Or.inl ⟨by rfl, ?_⟩) (by assumption) ?_
            rotate_left
            · intro w hSw
              go_simp
              with_reducible rfl
            try simp only [Act.put, List.setIfInBounds_toArray, List.set_cons_zero, List.set_cons_succ]
            refine wpAnyH_take (i := 13) (v := ?_) rfl (by kernel_rfl) (by kernel_rfl) (by kernel_rfl) (fun _ _ _ h => h) (Or.inl ⟨by rfl, ?_⟩) (by assumption) ?_
            rotate_left
            · intro w hSw
              go_simp
              with_reducible rfl
            try simp only [Act.put, List.setIfInBounds_toArray, List.set_cons_zero, List.set_cons_succ]
            refine wpAnyH_take (i := 14) (v := ?_) rfl (by kernel_rfl) (by kernel_rfl) (by kernel_rfl) (fun _ _ _ h => h) (Or.inl ⟨by rfl, ?_⟩) (by assumption) ?_
            rotate_left
            · intro w hSw
              go_simp
              with_reducible rfl
            try simp only [Act.put, List.setIfInBounds_toArray, List.set_cons_zero, List.set_cons_succ]
            refine wpAnyH_take (i := 15) (v := ?_) rfl (by kernel_rfl) (by kernel_rfl) (by kernel_rfl) (fun _ _ _ h => h) (Or.inl ⟨by rfl, ?_⟩) (by assumption) ?_
            rotate_left
            · intro w hSw
              go_simp
              with_reducible rfl
            try simp only [Act.put, List.setIfInBounds_toArray, List.set_cons_zero, List.set_cons_succ]
            refine wpAnyH_take (i := 16) (v := ?_) rfl (by kernel_rfl) (by kernel_rfl) (by kernel_rfl) (fun _ _ _ h => h) (Or.inl ⟨by rfl, ?_⟩) (by assumption) ?_
            rotate_left
            · intro w hSw
              go_simp
              with_reducible rfl
            try simp only [Act.put, List.setIfInBounds_toArray, List.set_cons_zero, List.set_cons_succ]
            refine wpAnyH_take (i := 17) (v := ?_) rfl (by kernel_rfl) (by kernel_rfl) (by kernel_rfl) (fun _ _ _ h => h) (Or.inl ⟨by rfl, ?_⟩) (by assumption) ?_
            rotate_left
            · intro w hSw
              go_simp
              with_reducible rfl
            try simp only [Act.put, List.setIfInBounds_toArray, List.set_cons_zero, List.set_cons_succ]
            refine wpAnyH_take (i := 18) (v := ?_) rfl (by kernel_rfl) (by kernel_rfl) (by kernel_rfl) (fun _ _ _ h => h) (Or.inl ⟨by rfl, ?_⟩) (by assumption) ?_
            rotate_left
            · intro w hSw
              go_simp
              with_reducible rfl
            try simp only [Act.put, List.setIfInBounds_toArray, List.set_cons_zero, List.set_cons_succ]
            refine wpAnyH_take (i := 19) (v := ?_) rfl (by kernel_rfl) (by kernel_rfl) (by kernel_rfl) (fun _ _ _ h => h) (Or.inl ⟨by rfl, ?_⟩) (by assumption) ?_
            rotate_left
            · intro w hSw
              go_simp
              with_reducible rfl
            try simp only [Act.put, List.setIfInBounds_toArray, List.set_cons_zero, List.set_cons_succ]
            refine wpAnyH_take (i := 20) (v := ?_) rfl (by kernel_rfl) (by kernel_rfl) (by kernel_rfl) (fun _ _ _ h => h) (Or.inl ⟨by rfl, ?_⟩) (by assumption) ?_
            rotate_left
            · intro w hSw
              go_simp
              with_reducible rfl
            try simp only [Act.put, List.setIfInBounds_toArray, List.set_cons_zero, List.set_cons_succ]
            refine wpAnyH_take (i := 21) (v := ?_) rfl (by kernel_rfl) (by kernel_rfl) (by kernel_rfl) (fun _ _ _ h => h) (Or.inl ⟨by rfl, ?_⟩) (by assumption) ?_
            rotate_left
            · intro w hSw
              go_simp
              with_reducible rfl
            try simp only [Act.put, List.setIfInBounds_toArray, List.set_cons_zero, List.set_cons_succ]
            refine wpAnyH_take (i := 22) (v := ?_) rfl (by kernel_rfl) (by kernel_rfl) (by kernel_rfl) (fun _ _ _ h => h) (Or.inl ⟨by rfl, ?_⟩) (by assumption) ?_
            rotate_left
            · intro w hSw
              go_simp
              with_reducible rfl
            try simp only [Act.put, List.setIfInBounds_toArray, List.set_cons_zero, List.set_cons_succ]
            refine wpAnyH_take (i := 23) (v := ?_) rfl (by kernel_rfl) (by kernel_rfl) (by kernel_rfl) (fun _ _ _ h => h) (Or.inl ⟨by rfl, ?_⟩) (by assumption) ?_
            rotate_left
            · intro w hSw
              go_simp
              with_reducible rfl
            try simp only [Act.put, List.setIfInBounds_toArray, List.set_cons_zero, List.set_cons_succ]
            clear r0 q0 r1 q1 r2 q2 r3 q3
            have hbt := KB1.out _ hHeld
            have BT2 := Blk.new wd [.int .u8 s0, .int .u8 s1, .int .u8 s2, .int .u8 s3] 5 wd.heap.size rfl
            have sz2 := hbt.size
            refine wpAnyH_ready (rs := [24]) (by kernel_rfl) (by simp) ?_
            refine AllReadyH.cons rfl (fun K hK => ?_) ?_
            · go_simp
              refine hK.out _ _ ?_ (fun hHeld2 => ?_)
              · exact KA1.out _ _ hHeld
              · clear hK K hHeld
                have hHeld := hHeld2
                clear hHeld2
                try simp only [Act.put, List.setIfInBounds_toArray, List.set_cons_zero, List.set_cons_succ]
                refine wpAnyH_ready (rs := [25]) (by kernel_rfl) (by simp) ?_
                refine AllReadyH.cons rfl (fun K hK => ?_) ?_
                · go_simp
                  refine hK.out _ _ ?_ (fun hHeld2 => ?_)
                  · exact hHeld
                  · clear hK K hHeld
                    have hHeld := hHeld2
                    clear hHeld2
                    try simp only [Act.put, List.setIfInBounds_toArray, List.set_cons_zero, List.set_cons_succ]
                    refine wpAnyH_done (by kernel_rfl) ?_ _
                    refine NoPanic.normal ?_
                    replace hbx := below_step hbx (KB1.out _ hHeld)
                    clear hHeld KA1 KD1 KB1 KM1 BT HTc hbt
                    obtain ⟨gb2, hg2⟩ : ∃ z, z = wd.heap.size := ⟨_, rfl⟩
                    obtain ⟨Wt, hWt⟩ : ∃ z, z = wd.alloc (Obj.cells #[.int .u8 s0, .int .u8 s1, .int .u8 s2, .int .u8 s3] 5) := ⟨_, rfl⟩
                    rw [show (Obj.cells [.int .u8 s0, .int .u8 s1, .int .u8 s2, .int .u8 s3].toArray 5) = Obj.cells #[.int .u8 s0, .int .u8 s1, .int .u8 s2, .int .u8 s3] 5 from rfl, ← hWt] at BT2
                    rw [← hWt] at hbx ⊢
                    rw [← hg2] at BT2 ⊢
                    clear hg2 hWt sz2
                    have HTc : Hid (∀ k, k < 4 → Wt.cell? ⟨gb2, k, none⟩ = some (.int .u8 ((tN (WN K (i - 1)) i).getD k 0))) := by
                      rw [HTN.out]
                      exact four (BT2.cell 0 _ rfl) (BT2.cell 1 _ rfl) (BT2.cell 2 _ rfl) (BT2.cell 3 _ rfl)
                    have ltt := BT2.lt
                    obtain ⟨ct2, hct2⟩ : ∃ z, z = 4 := ⟨_, rfl⟩
                    clear BT2 hct2 ct2
                    have HQb := HKb.out (i - 8)
                    have HTb : Hid (byteN (tN (WN K (i - 1)) i)) := tN_byte (HKb.out (i - 1)) i
                    obtain ⟨T, hT⟩ : ∃ T, tN (WN K (i - 1)) i = T := ⟨_, rfl⟩
                    have HWN : Hid (WN K i = x4N T (WN K (i - 8))) := by rw [← hT]; exact WN_hi (by omega)
                    rw [hT] at HTc
                    obtain ⟨Q, hQ⟩ : ∃ Q, WN K (i - 8) = Q := ⟨_, rfl⟩
                    rw [hQ] at HWN
                    obtain ⟨g8, o8, c8, v8, z1, z2, z3, z4, z5⟩ := HW.out (i - 8) (by omega)
                    rw [hQ] at z5
                    have cw8 := hcurw (i - 8) (by omega)
                    rw [v8] at cw8
                    have HC8 : Hid _ := z5
                    have BWt := BW.below hbx BW.lt
                    have HXl : Hid ((x4N T Q).length = 4) := x4N_len T Q
                    clear hT hQ v8 z4 z5 HQb HTb
                    unfold maxLen at z2
                    go_wp2_with fail
                    obtain ⟨W9, hW9⟩ : ∃ z, z = Wt := ⟨_, rfl⟩
                    rw [← hW9] at HTc ltt hbx BWt ⊢
                    clear hW9
                    go_loopw [9, 10] (fun xv kv wx => ∃ k : Nat, k ≤ 4 ∧ kv = .int .i64 k ∧ wx.ownsRow W9.heap.size 5 1 xv k (u8s ((x4N T Q).take k)) ∧ Below W9.heap.size W9 wx) (fun _ kv _ => 4 - (intOf kv).toNat)
                    case atStart => exact ⟨0, by omega, rfl, World.ownsRow_nil _ _ _ _, Below.refl _ _⟩
                    case round =>
                      obtain ⟨k, hk, rfl, own1, hby⟩ := hrel
                      have hsy := hby.size
                      by_cases hkl : k < 4
                      · have u1 : (k : Int) < 4 := by omega
                        have u2 : (0 : Int) ≤ (k : Int) := by omega
                        have d1 : IntKind.i64.wrap ((i : Int) - 8) = (i : Int) - 8 := by rw [IntKind.wrap_i64]; omega
                        have d2 : (0 : Int) ≤ (i : Int) - 8 := by omega
                        have d3 : (i : Int) - 8 < (i : Int) := by omega
                        have d4 : ((i : Int) - 8).toNat = i - 8 := by omega
                        have d5 : (8 : Int) ≤ (i : Int) := by omega
                        have HN := take_next (k := x4N T Q) (i := k) (by rw [HXl.out]; exact hkl)
                        rw [x4N_get hkl] at HN
                        have ct := HTc.out k hkl
                        have cq := HC8.out k hkl
                        obtain ⟨ta, hta⟩ : ∃ z, T.getD k 0 = z := ⟨_, rfl⟩
                        obtain ⟨qa, hqa⟩ : ∃ z, Q.getD k 0 = z := ⟨_, rfl⟩
                        rw [hta] at HN ct
                        rw [hqa] at HN cq
                        obtain ⟨y, hy⟩ : ∃ z, bits .xor .u8 ta qa = z := ⟨_, rfl⟩
                        rw [hy] at HN
                        have HNx : Hid _ := HN
                        clear HN hta hqa
                        obtain ⟨S1, hS1, KD1, KA1, KG1, KB1⟩ := held_row hby
                        have r1 : ∀ wx, Hd S1 wx → wx.cell? ⟨gb2, k, none⟩ = some (.int .u8 ta) := fun wx h => cell_later ct (KB1.out wx h)
                        have r2 : ∀ wx, Hd S1 wx → wx.cell? ⟨gw, i - 8, none⟩ = some (.slice (some ⟨g8, o8, none⟩) 4 c8) := fun wx h => cell_later (BWt.cell (i - 8) _ cw8) (KB1.out wx h)
                        have r3 : ∀ wx, Hd S1 wx → wx.cell? ⟨g8, o8 + k, none⟩ = some (.int .u8 qa) := fun wx h => cell_later (cell_later cq hbx) (KB1.out wx h)
                        go_upto_region 18 with fail
                        refine wp_region_noPanic ?_
                        refine wp_region_held_drew (S := Hd S1) (by kernel_rfl) (KD1.out _ hS1) (fun hHeld => ?_)
                        clear hS1
                        have own2 : World.ownsRow (World.drew _) W9.heap.size 5 1 _ k (u8s ((x4N T Q).take k)) := own1
                        clear own1 hsy
                        generalize World.drew _ = wd at *
                        refine wpAnyH_take (i := 0) (v := ?_) rfl (by kernel_rfl) (by kernel_rfl) (by kernel_rfl) (fun _ _ _ h => h) (Or.inl ⟨by rfl, ?_⟩) (by assumption) ?_
                        rotate_left
                        · intro w hSw
                          go_simp
                          with_reducible rfl
                        try simp only [Act.put, List.setIfInBounds_toArray, List.set_cons_zero, List.set_cons_succ]
                        refine wpAnyH_take (i := 1) (v := ?_) rfl (by kernel_rfl) (by kernel_rfl) (by kernel_rfl) (fun _ _ _ h => h) (Or.inl ⟨by rfl, ?_⟩) (by assumption) ?_
                        rotate_left
                        · intro w hSw
                          go_simp
                          with_reducible rfl
                        try simp only [Act.put, List.setIfInBounds_toArray, List.set_cons_zero, List.set_cons_succ]
                        refine wpAnyH_take (i := 2) (v := ?_) rfl (by kernel_rfl) (by kernel_rfl) (by kernel_rfl) (fun _ _ _ h => h) (Or.inl ⟨by rfl, ?_⟩) (by assumption) ?_
                        rotate_left
                        · intro w hSw
                          go_simp
                          with_reducible rfl
                        try simp only [Act.put, List.setIfInBounds_toArray, List.set_cons_zero, List.set_cons_succ]
                        refine wpAnyH_take (i := 3) (v := ?_) rfl (by kernel_rfl) (by kernel_rfl) (by kernel_rfl) (fun _ _ _ h => h) (Or.inl ⟨by rfl, ?_⟩) (by assumption) ?_
                        rotate_left
                        · intro w hSw
                          go_simp
                          with_reducible rfl
                        try simp only [Act.put, List.setIfInBounds_toArray, List.set_cons_zero, List.set_cons_succ]
                        refine wpAnyH_take (i := 4) (v := ?_) rfl (by kernel_rfl) (by kernel_rfl) (by kernel_rfl) (fun _ _ _ h => h) (Or.inl ⟨by rfl, ?_⟩) (by assumption) ?_
                        rotate_left
                        · intro w hSw
                          go_simp
                          with_reducible rfl
                        try simp only [Act.put, List.setIfInBounds_toArray, List.set_cons_zero, List.set_cons_succ]
                        refine wpAnyH_take (i := 5) (v := ?_) rfl (by kernel_rfl) (by kernel_rfl) (by kernel_rfl) (fun _ _ _ h => h) (Or.inl ⟨by rfl, ?_⟩) (by assumption) ?_
                        rotate_left
                        · intro w hSw
                          go_simp
                          with_reducible rfl
                        try simp only [Act.put, List.setIfInBounds_toArray, List.set_cons_zero, List.set_cons_succ]
                        refine wpAnyH_take (i := 6) (v := ?_) rfl (by kernel_rfl) (by kernel_rfl) (by kernel_rfl) (fun _ _ _ h => h) (Or.inl ⟨by rfl, ?_⟩) (by assumption) ?_
                        rotate_left
                        · intro w hSw
                          go_simp
                          with_reducible rfl
                        try simp only [Act.put, List.setIfInBounds_toArray, List.set_cons_zero, List.set_cons_succ]
                        refine wpAnyH_take (i := 7) (v := ?_) rfl (by kernel_rfl) (by kernel_rfl) (by kernel_rfl) (fun _ _ _ h => h) (Or.inl ⟨by rfl, ?_⟩) (by assumption) ?_
                        rotate_left
                        · intro w hSw
                          go_simp
                          with_reducible rfl
                        try simp only [Act.put, List.setIfInBounds_toArray, List.set_cons_zero, List.set_cons_succ]
                        refine wpAnyH_take (i := 8) (v := ?_) rfl (by kernel_rfl) (by kernel_rfl) (by kernel_rfl) (fun _ _ _ h => h) (Or.inl ⟨by rfl, ?_⟩) (by assumption) ?_
                        rotate_left
                        · intro w hSw
                          go_simp
                          with_reducible rfl
                        try simp only [Act.put, List.setIfInBounds_toArray, List.set_cons_zero, List.set_cons_succ]
                        refine wpAnyH_take (i := 9) (v := ?_) rfl (by kernel_rfl) (by kernel_rfl) (by kernel_rfl) (fun _ _ _ h => h) (Or.inl ⟨by rfl, ?_⟩) (by assumption) ?_
                        rotate_left
                        · intro w hSw
                          go_simp
                          with_reducible rfl
                        try simp only [Act.put, List.setIfInBounds_toArray, List.set_cons_zero, List.set_cons_succ]
                        refine wpAnyH_take (i := 10) (v := ?_) rfl (by kernel_rfl) (by kernel_rfl) (by kernel_rfl) (fun _ _ _ h => h) (Or.inl ⟨by rfl, ?_⟩) (by assumption) ?_
                        rotate_left
                        · intro w hSw
                          go_simp
                          with_reducible rfl
                        try simp only [Act.put, List.setIfInBounds_toArray, List.set_cons_zero, List.set_cons_succ]
                        refine wpAnyH_take (i := 11) (v := ?_) rfl (by kernel_rfl) (by kernel_rfl) (by kernel_rfl) (fun _ _ _ h => h) (Or.inl ⟨by rfl, ?_⟩) (by assumption) ?_
                        rotate_left
                        · intro w hSw
                          go_simp
                          with_reducible rfl
                        try simp only [Act.put, List.setIfInBounds_toArray, List.set_cons_zero, List.set_cons_succ]
                        refine wpAnyH_take (i := 12) (v := ?_) rfl (by kernel_rfl) (by kernel_rfl) (by kernel_rfl) (fun _ _ _ h => h) (Or.inl ⟨by rfl, ?_⟩) (by assumption) ?_
                        rotate_left
                        · intro w hSw
                          go_simp
                          with_reducible rfl
                        try simp only [Act.put, List.setIfInBounds_toArray, List.set_cons_zero, List.set_cons_succ]
                        refine wpAnyH_take (i := 13) (v := ?_) rfl (by kernel_rfl) (by kernel_rfl) (by kernel_rfl) (fun _ _ _ h => h) (Or.inl ⟨by rfl, ?_⟩) (by assumption) ?_
                        rotate_left
                        · intro w hSw
                          go_simp
                          with_reducible rfl
                        try simp only [Act.put, List.setIfInBounds_toArray, List.set_cons_zero, List.set_cons_succ]
                        clear r1 r2 r3
                        have hsd := (KB1.out _ hHeld).size
                        refine wpAnyH_ready (rs := [14]) (by kernel_rfl) (by simp) ?_
                        refine AllReadyH.cons rfl (fun K hK => ?_) ?_
                        · go_simp
                          refine hK.out _ _ ?_ (fun hHeld2 => ?_)
                          · exact KA1.out _ _ hHeld hsd
                          · clear hK K hHeld
                            have hHeld := hHeld2
                            clear hHeld2
                            try simp only [Act.put, List.setIfInBounds_toArray, List.set_cons_zero, List.set_cons_succ]
                            refine wpAnyH_ready (rs := [15]) (by kernel_rfl) (by simp) ?_
                            refine AllReadyH.cons rfl (fun K hK => ?_) ?_
                            · rw [if_pos (by kernel_rfl)]
                              refine wp_append_lies _ _ _ _ (by rfl) W9.heap.size 5 i0 _ 1 1 Try.underlying22 hi0 hz0 hz1 hz2 rfl (by omega) _ k (u8s ((x4N T Q).take k)) (by rfl) (own2.alloc _) ⟨wd.heap.size, 0, none⟩ 1 1 [.int .u8 y] (by rfl) (by rfl) (World.news_of_block (cs := #[.int .u8 y]) (t := 5) (fr := (0, 0)) (heap_alloc_new wd _)) (by simp [Value.oneCell']) (by omega) (by unfold maxLen; omega) (by omega) (by simp; omega) (wd.heap.size + 1) (by simp) ?_
                              intro gg cap1 w7 own7 hgrow hat hlt1
                              refine hK.out _ _ ?_ (fun hHeld2 => ?_)
                              · exact KG1.out _ _ _ hHeld hgrow (fun g hg => own_geA own2 hg) (by simp; omega)
                              · clear hK K hHeld
                                have hHeld := hHeld2
                                clear hHeld2 hgrow hat
                                try simp only [Act.put, List.setIfInBounds_toArray, List.set_cons_zero, List.set_cons_succ]
                                refine wpAnyH_ready (rs := [16]) (by kernel_rfl) (by simp) ?_
                                refine AllReadyH.cons rfl (fun K hK => ?_) ?_
                                · go_simp
                                  refine hK.out _ _ ?_ (fun hHeld2 => ?_)
                                  · exact hHeld
                                  · clear hK K hHeld
                                    have hHeld := hHeld2
                                    clear hHeld2
                                    try simp only [Act.put, List.setIfInBounds_toArray, List.set_cons_zero, List.set_cons_succ]
                                    refine wpAnyH_done (by kernel_rfl) ?_ _
                                    refine NoPanic.normal ?_
                                    have hby2 := KB1.out _ hHeld
                                    have own8 : w7.ownsRow W9.heap.size 5 1 (.slice (some ⟨gg, 0, none⟩) (k + 1) cap1) (k + 1) (u8s ((x4N T Q).take k ++ [y])) := by simpa [u8s] using own7
                                    rw [HNx.out] at own8
                                    clear hHeld own7 own2
                                    go_wp2_with fail
                                    go_roundw
                                    case rel => exact ⟨k + 1, by omega, by go_num, own8, hby2⟩
                                    case measure => simp [intOf]; omega
                                exact AllReadyH.nil
                            exact AllReadyH.nil
                        exact AllReadyH.nil
                      · have HKk : Hid (k = 4) := by show k = 4; omega
                        have u1 : (4 : Int) ≤ (k : Int) := by omega
                        rw [HKk.out, List.take_of_length_le (by rw [HXl.out]; exact Nat.le_refl _), ← HWN.out] at own1
                        obtain ⟨gx, cx, curx, hvx, hgx, BX, e1, e2, hcx⟩ := own_bytes own1 (by decide)
                        have hbw := hbx.trans (hby.mono hbx.size)
                        have own9 := own_laterA hown hbw
                        have HW9 : Hid _ := HW.out.later hbw
                        have bel9 := below_step bel hbw
                        have hs9 := bel9.size
                        have HCX : Hid _ := hcx
                        have ltx := BX.lt
                        rw [hvx]
                        clear own1 hcx hvx
                        unfold maxLen at e2
                        have HE2 : Hid (cx ≤ 9223372036854775807) := by show _ ≤ _; omega
                        go_wp2_with (first
                          | (at_builtin; refine wpList_append_lies _ (by rfl) _ _ _ (by rfl) w.heap.size 22 j0 _ 1 24 Try.underlying50 hj0 hy0 hy1 hy2 rfl (by omega) _ _ _ (by rfl) (own9.alloc _) ⟨wr.heap.size, 0, none⟩ 1 1 [.slice (some ⟨gx, 0, none⟩) 4 cx] (by rfl) (by rfl) (World.news_of_block (cs := #[.slice (some ⟨gx, 0, none⟩) 4 cx]) (t := 22) (fr := (0, 0)) (heap_alloc_new wr _)) (by simp [Value.oneCell']) (by omega) (by unfold maxLen; omega) (by omega) (by simp; omega) (wr.heap.size + 1) (by simp) ?_; intro gg cap1 wz hownz hgrow hat hltz)
                          | fail)
                        go_roundw
                        case rel =>
                          refine ⟨i + 1, _, by omega, by go_num, by rw [show (i + 1 - 1) / 8 = (i - 1) / 8 by omega], hownz, WordsAt.step (WordsAt.later HW9.out ((Below.refl _ _).alloc (Nat.le_refl _) _)) lvs hgrow ?_ e1 (by unfold maxLen; have := HE2.out; omega) (by simp; omega) (fun gb hb => ?_) ?_, bel9.trans (Below.grown ((Below.refl _ _).alloc (by omega) _) hgrow (by simp; omega) (fun j hj => own_geA own9 hj))⟩
                          · rcases hat with e | e
                            · exact .inl (by rw [e]; rfl)
                            · exact .inr ⟨gg, rfl, by rw [e]; simp⟩
                          · have := own_underA hown hb
                            have := hbx.size
                            omega
                          · intro k hk
                            rw [Nat.zero_add]
                            exact cell_later (BX.cell k _ (HCX.out k hk)) ((Below.refl _ _).alloc (Nat.le_refl _) _)
                        case measure => simp [intOf]; omega
                exact AllReadyH.nil
            exact AllReadyH.nil
          · have tm : (i : Int).tmod 8 = ((i % 8 : Nat) : Int) := by rw [Int.tmod_eq_emod_of_nonneg (by omega)]; omega
            have tm0 : ¬ ((i % 8 : Nat) : Int) = 0 := by omega
            have tm4 : ¬ ((i % 8 : Nat) : Int) = 4 := by omega
            have HTN : Hid (tN (WN K (i - 1)) i = WN K (i - 1)) := by show _ = _; unfold tN; rw [if_neg m0, if_neg m4]
            obtain ⟨mm, hmm⟩ : ∃ m, i % 8 = m := ⟨_, rfl⟩
            have PWq : Hid ((i + 1 - 1) / 8 = (i - 1) / 8) := by show _ = _; omega
            rw [hmm] at tm tm0 tm4
            clear hmm
            replace HTc : Hid (∀ k, k < 4 → w5.cell? ⟨gt, k, none⟩ = some (.int .u8 ((tN (WN K (i - 1)) i).getD k 0))) := by
              rw [HTN.out]
              exact fun k hk => BT.cell k _ (HTc.out k hk)
            obtain ⟨Wt, hWt⟩ : ∃ z, z = w5 := ⟨_, rfl⟩
            rw [← hWt] at HTc hbx ltt ⊢
            clear BT hWt
            have HQb := HKb.out (i - 8)
            have HTb : Hid (byteN (tN (WN K (i - 1)) i)) := tN_byte (HKb.out (i - 1)) i
            obtain ⟨T, hT⟩ : ∃ T, tN (WN K (i - 1)) i = T := ⟨_, rfl⟩
            have HWN : Hid (WN K i = x4N T (WN K (i - 8))) := by rw [← hT]; exact WN_hi (by omega)
            rw [hT] at HTc
            obtain ⟨Q, hQ⟩ : ∃ Q, WN K (i - 8) = Q := ⟨_, rfl⟩
            rw [hQ] at HWN
            obtain ⟨g8, o8, c8, v8, z1, z2, z3, z4, z5⟩ := HW.out (i - 8) (by omega)
            rw [hQ] at z5
            have cw8 := hcurw (i - 8) (by omega)
            rw [v8] at cw8
            have HC8 : Hid _ := z5
            have BWt := BW.below hbx BW.lt
            have HXl : Hid ((x4N T Q).length = 4) := x4N_len T Q
            clear hT hQ v8 z4 z5 HQb HTb
            unfold maxLen at z2
            go_wp2_with fail
            obtain ⟨W9, hW9⟩ : ∃ z, z = Wt := ⟨_, rfl⟩
            rw [← hW9] at HTc ltt hbx BWt ⊢
            clear hW9
            go_loopw [9, 10] (fun xv kv wx => ∃ k : Nat, k ≤ 4 ∧ kv = .int .i64 k ∧ wx.ownsRow W9.heap.size 5 1 xv k (u8s ((x4N T Q).take k)) ∧ Below W9.heap.size W9 wx) (fun _ kv _ => 4 - (intOf kv).toNat)
            case atStart => exact ⟨0, by omega, rfl, World.ownsRow_nil _ _ _ _, Below.refl _ _⟩
            case round =>
              obtain ⟨k, hk, rfl, own1, hby⟩ := hrel
              have hsy := hby.size
              by_cases hkl : k < 4
              · have u1 : (k : Int) < 4 := by omega
                have u2 : (0 : Int) ≤ (k : Int) := by omega
                have d1 : IntKind.i64.wrap ((i : Int) - 8) = (i : Int) - 8 := by rw [IntKind.wrap_i64]; omega
                have d2 : (0 : Int) ≤ (i : Int) - 8 := by omega
                have d3 : (i : Int) - 8 < (i : Int) := by omega
                have d4 : ((i : Int) - 8).toNat = i - 8 := by omega
                have d5 : (8 : Int) ≤ (i : Int) := by omega
                have HN := take_next (k := x4N T Q) (i := k) (by rw [HXl.out]; exact hkl)
                rw [x4N_get hkl] at HN
                have ct := HTc.out k hkl
                have cq := HC8.out k hkl
                obtain ⟨ta, hta⟩ : ∃ z, T.getD k 0 = z := ⟨_, rfl⟩
                obtain ⟨qa, hqa⟩ : ∃ z, Q.getD k 0 = z := ⟨_, rfl⟩
                rw [hta] at HN ct
                rw [hqa] at HN cq
                obtain ⟨y, hy⟩ : ∃ z, bits .xor .u8 ta qa = z := ⟨_, rfl⟩
                rw [hy] at HN
                have HNx : Hid _ := HN
                clear HN hta hqa
                obtain ⟨S1, hS1, KD1, KA1, KG1, KB1⟩ := held_row hby
                have r1 : ∀ wx, Hd S1 wx → wx.cell? ⟨gt, k, none⟩ = some (.int .u8 ta) := fun wx h => cell_later ct (KB1.out wx h)
                have r2 : ∀ wx, Hd S1 wx → wx.cell? ⟨gw, i - 8, none⟩ = some (.slice (some ⟨g8, o8, none⟩) 4 c8) := fun wx h => cell_later (BWt.cell (i - 8) _ cw8) (KB1.out wx h)
                have r3 : ∀ wx, Hd S1 wx → wx.cell? ⟨g8, o8 + k, none⟩ = some (.int .u8 qa) := fun wx h => cell_later (cell_later cq hbx) (KB1.out wx h)
                go_upto_region 18 with fail
                refine wp_region_noPanic ?_
                refine wp_region_held_drew (S := Hd S1) (by kernel_rfl) (KD1.out _ hS1) (fun hHeld => ?_)
                clear hS1
                have own2 : World.ownsRow (World.drew _) W9.heap.size 5 1 _ k (u8s ((x4N T Q).take k)) := own1
                clear own1 hsy
                generalize World.drew _ = wd at *
                refine wpAnyH_take (i := 0) (v := ?_) rfl (by kernel_rfl) (by kernel_rfl) (by kernel_rfl) (fun _ _ _ h => h) (Or.inl ⟨by rfl, ?_⟩) (by assumption) ?_
                rotate_left
                · intro w hSw
                  go_simp
                  with_reducible rfl
                try simp only [Act.put, List.setIfInBounds_toArray, List.set_cons_zero, List.set_cons_succ]
                refine wpAnyH_take (i := 1) (v := ?_) rfl (by kernel_rfl) (by kernel_rfl) (by kernel_rfl) (fun _ _ _ h => h) (Or.inl ⟨by rfl, ?_⟩) (by assumption) ?_
                rotate_left
                · intro w hSw
                  go_simp
                  with_reducible rfl
                try simp only [Act.put, List.setIfInBounds_toArray, List.set_cons_zero, List.set_cons_succ]
                refine wpAnyH_take (i := 2) (v := ?_) rfl (by kernel_rfl) (by kernel_rfl) (by kernel_rfl) (fun _ _ _ h => h) (Or.inl ⟨by rfl, ?_⟩) (by assumption) ?_
                rotate_left
                · intro w hSw
                  go_simp
                  with_reducible rfl
                try simp only [Act.put, List.setIfInBounds_toArray, List.set_cons_zero, List.set_cons_succ]
                refine wpAnyH_take (i := 3) (v := ?_) rfl (by kernel_rfl) (by kernel_rfl) (by kernel_rfl) (fun _ _ _ h => h) (Or.inl ⟨by rfl, ?_⟩) (by assumption) ?_
                rotate_left
                · intro w hSw
                  go_simp
                  with_reducible rfl
                try simp only [Act.put, List.setIfInBounds_toArray, List.set_cons_zero, List.set_cons_succ]
                refine wpAnyH_take (i := 4) (v := ?_) rfl (by kernel_rfl) (by kernel_rfl) (by kernel_rfl) (fun _ _ _ h => h) (Or.inl ⟨by rfl, ?_⟩) (by assumption) ?_
                rotate_left
                · intro w hSw
                  go_simp
                  with_reducible rfl
                try simp only [Act.put, List.setIfInBounds_toArray, List.set_cons_zero, List.set_cons_succ]
                refine wpAnyH_take (i := 5) (v := ?_) rfl (by kernel_rfl) (by kernel_rfl) (by kernel_rfl) (fun _ _ _ h => h) (Or.inl ⟨by rfl, ?_⟩) (by assumption) ?_
                rotate_left
                · intro w hSw
                  go_simp
                  with_reducible rfl
                try simp only [Act.put, List.setIfInBounds_toArray, List.set_cons_zero, List.set_cons_succ]
                refine wpAnyH_take (i := 6) (v := ?_) rfl (by kernel_rfl) (by kernel_rfl) (by kernel_rfl) (fun _ _ _ h => h) (Or.inl ⟨by rfl, ?_⟩) (by assumption) ?_
                rotate_left
                · intro w hSw
                  go_simp
                  with_reducible rfl
                try simp only [Act.put, List.setIfInBounds_toArray, List.set_cons_zero, List.set_cons_succ]
                refine wpAnyH_take (i := 7) (v := ?_) rfl (by kernel_rfl) (by kernel_rfl) (by kernel_rfl) (fun _ _ _ h => h) (Or.inl ⟨by rfl, ?_⟩) (by assumption) ?_
                rotate_left
                · intro w hSw
                  go_simp
                  with_reducible rfl
                try simp only [Act.put, List.setIfInBounds_toArray, List.set_cons_zero, List.set_cons_succ]
                refine wpAnyH_take (i := 8) (v := ?_) rfl (by kernel_rfl) (by kernel_rfl) (by kernel_rfl) (fun _ _ _ h => h) (Or.inl ⟨by rfl, ?_⟩) (by assumption) ?_
                rotate_left
                · intro w hSw
                  go_simp
                  with_reducible rfl
                try simp only [Act.put, List.setIfInBounds_toArray, List.set_cons_zero, List.set_cons_succ]
                refine wpAnyH_take (i := 9) (v := ?_) rfl (by kernel_rfl) (by kernel_rfl) (by kernel_rfl) (fun _ _ _ h => h) (Or.inl ⟨by rfl, ?_⟩) (by assumption) ?_
                rotate_left
                · intro w hSw
                  go_simp
                  with_reducible rfl
                try simp only [Act.put, List.setIfInBounds_toArray, List.set_cons_zero, List.set_cons_succ]
                refine wpAnyH_take (i := 10) (v := ?_) rfl (by kernel_rfl) (by kernel_rfl) (by kernel_rfl) (fun _ _ _ h => h) (Or.inl ⟨by rfl, ?_⟩) (by assumption) ?_
                rotate_left
                · intro w hSw
                  go_simp
                  with_reducible rfl
                try simp only [Act.put, List.setIfInBounds_toArray, List.set_cons_zero, List.set_cons_succ]
                refine wpAnyH_take (i := 11) (v := ?_) rfl (by kernel_rfl) (by kernel_rfl) (by kernel_rfl) (fun _ _ _ h => h) (Or.inl ⟨by rfl, ?_⟩) (by assumption) ?_
                rotate_left
                · intro w hSw
                  go_simp
                  with_reducible rfl
                try simp only [Act.put, List.setIfInBounds_toArray, List.set_cons_zero, List.set_cons_succ]
                refine wpAnyH_take (i := 12) (v := ?_) rfl (by kernel_rfl) (by kernel_rfl) (by kernel_rfl) (fun _ _ _ h => h) (Or.inl ⟨by rfl, ?_⟩) (by assumption) ?_
                rotate_left
                · intro w hSw
                  go_simp
                  with_reducible rfl
                try simp only [Act.put, List.setIfInBounds_toArray, List.set_cons_zero, List.set_cons_succ]
                refine wpAnyH_take (i := 13) (v := ?_) rfl (by kernel_rfl) (by kernel_rfl) (by kernel_rfl) (fun _ _ _ h => h) (Or.inl ⟨by rfl, ?_⟩) (by assumption) ?_
                rotate_left
                · intro w hSw
                  go_simp
                  with_reducible rfl
                try simp only [Act.put, List.setIfInBounds_toArray, List.set_cons_zero, List.set_cons_succ]
                clear r1 r2 r3
                have hsd := (KB1.out _ hHeld).size
                refine wpAnyH_ready (rs := [14]) (by kernel_rfl) (by simp) ?_
                refine AllReadyH.cons rfl (fun K hK => ?_) ?_
                · go_simp
                  refine hK.out _ _ ?_ (fun hHeld2 => ?_)
                  · exact KA1.out _ _ hHeld hsd
                  · clear hK K hHeld
                    have hHeld := hHeld2
                    clear hHeld2
                    try simp only [Act.put, List.setIfInBounds_toArray, List.set_cons_zero, List.set_cons_succ]
                    refine wpAnyH_ready (rs := [15]) (by kernel_rfl) (by simp) ?_
                    refine AllReadyH.cons rfl (fun K hK => ?_) ?_
                    · rw [if_pos (by kernel_rfl)]
                      refine wp_append_lies _ _ _ _ (by rfl) W9.heap.size 5 i0 _ 1 1 Try.underlying22 hi0 hz0 hz1 hz2 rfl (by omega) _ k (u8s ((x4N T Q).take k)) (by rfl) (own2.alloc _) ⟨wd.heap.size, 0, none⟩ 1 1 [.int .u8 y] (by rfl) (by rfl) (World.news_of_block (cs := #[.int .u8 y]) (t := 5) (fr := (0, 0)) (heap_alloc_new wd _)) (by simp [Value.oneCell']) (by omega) (by unfold maxLen; omega) (by omega) (by simp; omega) (wd.heap.size + 1) (by simp) ?_
                      intro gg cap1 w7 own7 hgrow hat hlt1
                      refine hK.out _ _ ?_ (fun hHeld2 => ?_)
                      · exact KG1.out _ _ _ hHeld hgrow (fun g hg => own_geA own2 hg) (by simp; omega)
                      · clear hK K hHeld
                        have hHeld := hHeld2
                        clear hHeld2 hgrow hat
                        try simp only [Act.put, List.setIfInBounds_toArray, List.set_cons_zero, List.set_cons_succ]
                        refine wpAnyH_ready (rs := [16]) (by kernel_rfl) (by simp) ?_
                        refine AllReadyH.cons rfl (fun K hK => ?_) ?_
                        · go_simp
                          refine hK.out _ _ ?_ (fun hHeld2 => ?_)
                          · exact hHeld
                          · clear hK K hHeld
                            have hHeld := hHeld2
                            clear hHeld2
                            try simp only [Act.put, List.setIfInBounds_toArray, List.set_cons_zero, List.set_cons_succ]
                            refine wpAnyH_done (by kernel_rfl) ?_ _
                            refine NoPanic.normal ?_
                            have hby2 := KB1.out _ hHeld
                            have own8 : w7.ownsRow W9.heap.size 5 1 (.slice (some ⟨gg, 0, none⟩) (k + 1) cap1) (k + 1) (u8s ((x4N T Q).take k ++ [y])) := by simpa [u8s] using own7
                            rw [HNx.out] at own8
                            clear hHeld own7 own2
                            go_wp2_with fail
                            go_roundw
                            case rel => exact ⟨k + 1, by omega, by go_num, own8, hby2⟩
                            case measure => simp [intOf]; omega
                        exact AllReadyH.nil
                    exact AllReadyH.nil
                exact AllReadyH.nil
              · have HKk : Hid (k = 4) := by show k = 4; omega
                have u1 : (4 : Int) ≤ (k : Int) := by omega
                rw [HKk.out, List.take_of_length_le (by rw [HXl.out]; exact Nat.le_refl _), ← HWN.out] at own1
                obtain ⟨gx, cx, curx, hvx, hgx, BX, e1, e2, hcx⟩ := own_bytes own1 (by decide)
                have hbw := hbx.trans (hby.mono hbx.size)
                have own9 := own_laterA hown hbw
                have HW9 : Hid _ := HW.out.later hbw
                have bel9 := below_step bel hbw
                have hs9 := bel9.size
                have HCX : Hid _ := hcx
                have ltx := BX.lt
                rw [hvx]
                clear own1 hcx hvx
                unfold maxLen at e2
                have HE2 : Hid (cx ≤ 9223372036854775807) := by show _ ≤ _; omega
                go_wp2_with (first
                  | (at_builtin; refine wpList_append_lies _ (by rfl) _ _ _ (by rfl) w.heap.size 22 j0 _ 1 24 Try.underlying50 hj0 hy0 hy1 hy2 rfl (by omega) _ _ _ (by rfl) (own9.alloc _) ⟨wr.heap.size, 0, none⟩ 1 1 [.slice (some ⟨gx, 0, none⟩) 4 cx] (by rfl) (by rfl) (World.news_of_block (cs := #[.slice (some ⟨gx, 0, none⟩) 4 cx]) (t := 22) (fr := (0, 0)) (heap_alloc_new wr _)) (by simp [Value.oneCell']) (by omega) (by unfold maxLen; omega) (by omega) (by simp; omega) (wr.heap.size + 1) (by simp) ?_; intro gg cap1 wz hownz hgrow hat hltz)
                  | fail)
                go_roundw
                case rel =>
                  refine ⟨i + 1, _, by omega, by go_num, by rw [PWq.out], hownz, WordsAt.step (WordsAt.later HW9.out ((Below.refl _ _).alloc (Nat.le_refl _) _)) lvs hgrow ?_ e1 (by unfold maxLen; have := HE2.out; omega) (by simp; omega) (fun gb hb => ?_) ?_, bel9.trans (Below.grown ((Below.refl _ _).alloc (by omega) _) hgrow (by simp; omega) (fun j hj => own_geA own9 hj))⟩
                  · rcases hat with e | e
                    · exact .inl (by rw [e]; rfl)
                    · exact .inr ⟨gg, rfl, by rw [e]; simp⟩
                  · have := own_underA hown hb
                    have := hbx.size
                    omega
                  · intro k hk
                    rw [Nat.zero_add]
                    exact cell_later (BX.cell k _ (HCX.out k hk)) ((Below.refl _ _).alloc (Nat.le_refl _) _)
                case measure => simp [intOf]; omega
    · have HI : Hid (i = 60) := by show i = 60; omega
      have g1 : (60 : Int) ≤ (i : Int) := by omega
      obtain ⟨gw, cw, curw, hwv, hgw, BW, e1, e2, hcurw⟩ := own_rows hown (by omega)
      have ltw := BW.lt
      subst hwv
      obtain ⟨n0, hn0, ho0, ho1, ho2⟩ := info_parts16 info_16
      have hz := zero_16.out
      obtain ⟨cs, hcs⟩ : ∃ z, (u8s (List.replicate 16 (0 : Int))).toArray = z := ⟨_, rfl⟩
      have HCS : Hid _ := hcs
      rw [hcs] at hz
      clear hcs
      unfold maxLen at e2
      go_wp2_with fail
      obtain ⟨W, hW⟩ : ∃ z, z = wr := ⟨_, rfl⟩
      rw [← hW] at hown HW bel BW ltw hsz ⊢
      clear hW
      go_loopw [11, 12] (fun ov iv wx => ∃ r : Nat, r ≤ 15 ∧ iv = .int .i64 r ∧ wx.ownsRow W.heap.size 42 16 ov r (u8s (allN K r)) ∧ Below W.heap.size W wx) (fun _ iv _ => 15 - (intOf iv).toNat)
      case atStart => exact ⟨0, by omega, rfl, World.ownsRow_nil _ _ _ _, Below.refl _ _⟩
      case round =>
        obtain ⟨r, hr, rfl, own1, hbx⟩ := hrel
        have hsx := hbx.size
        by_cases hrl : r < 15
        · have u1 : (r : Int) < 15 := by omega
          have V0 := Blk.new wr (u8s (List.replicate 16 0)) 42 wr.heap.size rfl
          rw [HCS.out] at V0
          have hby : Below wr.heap.size wr (wr.alloc (.cells cs 42)) := (Below.refl _ _).alloc (Nat.le_refl _) _
          go_wp2_with fail
          obtain ⟨g, hg⟩ : ∃ b, b = wr.heap.size := ⟨_, rfl⟩
          obtain ⟨W1, hW1⟩ : ∃ z, z = wr.alloc (Obj.cells cs 42) := ⟨_, rfl⟩
          rw [← hW1] at V0 hby ⊢
          have own2 := own1.alloc (.cells cs 42)
          rw [← hW1] at own2
          have hbx1 := hbx.alloc hsx (.cells cs 42)
          rw [← hW1] at hbx1
          have hg1 : g < W1.heap.size := by rw [hg, hW1]; simp
          have og : Hid (∀ x, Value.ownBlock _ = some x → x < g) := fun x hx => by rw [hg]; exact own_under16 own1 hx
          have gW : W.heap.size ≤ g := by omega
          rw [← hg] at V0 ⊢
          clear hg hW1 own1 hbx hby hsx
          have V1 : Blk W1 g (u8s (keyZ K r 0)) := by rw [keyZ_0]; exact V0
          clear V0
          go_loopw [14] (fun kv wx => ∃ k : Nat, k ≤ 16 ∧ kv = .int .i64 k ∧ Blk wx g (u8s (keyZ K r k)) ∧ Below g W1 wx ∧ W1.heap.size ≤ wx.heap.size) (fun kv _ => 16 - (intOf kv).toNat)
          case atStart => exact ⟨0, by omega, rfl, V1, Below.refl _ _, Nat.le_refl _⟩
          case round =>
            clear V1
            obtain ⟨k, hk, rfl, V1, hbk, hsk⟩ := hrel
            by_cases hkl : k < 16
            · have u2 : (k : Int) < 16 := by omega
              have u3 : (0 : Int) ≤ (k : Int) := by omega
              have i1 : IntKind.i64.wrap (4 * (r : Int)) = 4 * (r : Int) := by rw [IntKind.wrap_i64]; omega
              have i2 : (k : Int).tdiv 4 = ((k / 4 : Nat) : Int) := by rw [Int.tdiv_eq_ediv_of_nonneg (by omega)]; omega
              have i2b : (k : Int) / 4 = ((k / 4 : Nat) : Int) := by omega
              have i3 : IntKind.i64.wrap (4 * (r : Int) + ((k / 4 : Nat) : Int)) = ((4 * r + k / 4 : Nat) : Int) := by rw [IntKind.wrap_i64]; omega
              have i4 : (k : Int).tmod 4 = ((k % 4 : Nat) : Int) := by rw [Int.tmod_eq_emod_of_nonneg (by omega)]; omega
              have l1 : ((4 * r + k / 4 : Nat) : Int) < (i : Int) := by have := HI.out; omega
              have l2 : ((k % 4 : Nat) : Int) < 4 := by omega
              have n1 : (0 : Int) ≤ ((4 * r + k / 4 : Nat) : Int) := by omega
              have n2 : (0 : Int) ≤ ((k % 4 : Nat) : Int) := by omega
              obtain ⟨gp, op, cp, vp, p1, p2, p3, p4, p5⟩ := HW.out (4 * r + k / 4) (by have := HI.out; omega)
              have cwp := hcurw (4 * r + k / 4) (by have := HI.out; omega)
              rw [vp] at cwp
              have HS : Hid _ := keyZ_set (K := K) (r := r) hkl
              have x1 : (World.cell? _ ⟨gw, 4 * r + k / 4, none⟩) = _ := (hbk.cell (p := ⟨gw, 4 * r + k / 4, none⟩) (by show gw < g; omega)).trans (cell_later (BW.cell _ _ cwp) hbx1)
              have x2 : (World.cell? _ ⟨gp, op + k % 4, none⟩) = _ := (hbk.cell (p := ⟨gp, op + k % 4, none⟩) (by show gp < g; omega)).trans (cell_later (p5 (k % 4) (by omega)) hbx1)
              unfold maxLen at p2
              obtain ⟨y, hy⟩ : ∃ y, (WN K (4 * r + k / 4)).getD (k % 4) 0 = y := ⟨_, rfl⟩
              rw [hy] at x2 HS
              obtain ⟨m, hm⟩ : ∃ m, 4 * r + k / 4 = m := ⟨_, rfl⟩
              obtain ⟨d, hd⟩ : ∃ d, k % 4 = d := ⟨_, rfl⟩
              obtain ⟨f, hf⟩ : ∃ d, k / 4 = d := ⟨_, rfl⟩
              rw [hm] at i3 l1 n1 x1
              rw [hd] at i4 l2 n2 x2
              rw [hf] at i2 i2b i3
              have lv := V1.lt
              have fz := V1.frozen k
              have cv := V1.cell k _ (u8s_get _ k (by rw [keyZ_len]; exact hkl))
              have HV := V1.setb k y
              rw [HS.out] at HV
              have hbk2 := hbk.setCell (p := ⟨g, k, none⟩) (Nat.le_refl g) (.int .u8 y)
              clear hy hm hd hf V1 HS vp p4 p5 cwp
              go_wp2_with fail
              go_roundw
              case rel => exact ⟨k + 1, by omega, by go_num, HV, hbk2, by simpa using hsk⟩
              case measure => simp [intOf]; omega
            · have HKk : Hid (k = 16) := by show k = 16; omega
              have u2 : (16 : Int) ≤ (k : Int) := by omega
              rw [HKk.out, keyZ_16] at V1
              have HKl : Hid ((u8s (keyN K r)).length = 16) := by show _ = _; simp [keyN_len]
              have HL : Hid (16 = (u8s (keyN K r)).toArray.size) := by show 16 = _; simp [keyN_len]
              have H1 : Hid _ := u8_ones (keyN K r)
              obtain ⟨tV, hV⟩ := V1
              obtain ⟨fs, hfs⟩ : ∃ z, (u8s (keyN K r)).toArray = z := ⟨_, rfl⟩
              have HD : Hid _ := hfs
              rw [hfs] at hV HL H1
              clear hfs
              have HF : Hid _ := fill_16 (keyN_len K r)
              rw [HD.out] at HF
              have HU : Hid (u8s (allN K r) ++ u8s (keyN K r) = u8s (allN K (r + 1))) := by simp [Hid, u8s, allN]
              have hsz2 := hbx1.trans (hbk.mono gW)
              have hs2 := hsz2.size
              have own3 := own_part16 own2 hbk og.out
              have NB := Blk.new wr (u8s (keyN K r)) 42 wr.heap.size rfl
              rw [HD.out] at NB
              have HNews : Hid (∀ j u, (u8s (keyN K r))[j]? = some u → (wr.alloc (.cells fs 42)).cell? ((⟨wr.heap.size, 0, none⟩ : Addr).add j) = some u) := fun j u hu => by
                have e : (⟨wr.heap.size, 0, none⟩ : Addr).add j = ⟨wr.heap.size, j, none⟩ := by unfold Addr.add; split <;> simp_all
                rw [e]
                exact NB.cell j u hu
              go_wp2_with (first
                | (refine wpList_load_row rfl 42 _ rfl g rfl tV fs _ _ hV Try.underlying42 rfl (by rw [size_16, HL.out]) ?_; refine Go.wpList_buildSlice rfl 52 42 1 _ rfl fs n0 _ Try.underlying52 hn0 ho0 (by rw [ho1]; decide) (by rw [ho1]; decide) (by rw [ho1]; refine (congrArg _ (?_ : _ = [(0, Value.agg fs)])).trans HF.out; kernel_rfl) ?_)
                | (at_builtin; refine wpList_append_lies _ (by rfl) _ _ _ (by rfl) W.heap.size 42 n0 _ 16 16 Try.underlying52 hn0 ho0 ho1 ho2 rfl (by omega) _ _ _ (by rfl) (own3.alloc _) ⟨wr.heap.size, 0, none⟩ 1 1 (u8s (keyN K r)) (by rfl) HKl.out HNews.out (by simp [u8s, Value.oneCell']) (by omega) (by unfold maxLen; omega) (by omega) (by simp; omega) (wr.heap.size + 1) (by simp) ?_; intro gg cap1 wz hownz hgrow hat hltz)
                | fail)
              go_roundw
              case rel =>
                rw [HU.out] at hownz
                exact ⟨r + 1, by omega, by go_num, hownz, hsz2.trans (Below.grown ((Below.refl _ _).alloc (by omega) _) hgrow (by simp; omega) (fun j hj => own_ge16 own3 hj))⟩
              case measure => simp [intOf]; omega
        · have HR : Hid (r = 15) := by show r = 15; omega
          have u1 : (15 : Int) ≤ (r : Int) := by omega
          rw [HR.out] at own1
          go_wp2_with fail
          go_ret
          exact ⟨_, rfl, keys_at own1, below_step bel hbx⟩
end Go.Proofs.Ytogbmekgmjmonaa
