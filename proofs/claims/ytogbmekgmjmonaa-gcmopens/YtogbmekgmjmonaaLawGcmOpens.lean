/- The law GcmOpens answers true: what any bytes tell, or what is amiss. -/
import Derived.Test.YtogbmekgmjmonaaRows
import Derived.Test.YtogbmekgmjmonaaGcLaw
import Derived.Test.YtogbmekgmjmonaaGcHid
import Derived.Test.YtogbmekgmjmonaaGcTag
import Derived.Test.YtogbmekgmjmonaaAeTurn
import Derived.Deep.OwnRows
import Derived.Deep.AppendLies
import Derived.Deep.WholeRow
import Derived.Deep.RegionHeld3
import Derived.Deep.DeepCutAuto
import Derived.Deep.DeepFit
namespace Go.Proofs.Ytogbmekgmjmonaa
open Go.RowKit

set_option linter.unusedSimpArgs false in
set_option maxRecDepth 100000 in
set_option maxHeartbeats 8000000 in
theorem law_gcmOpens (kv : Value) (K : List Int) (nv : Value) (N : List Int) (av : Value) (A0 : List Int) (bv : Value) (B0 : List Int) (w : World) (hk : Bs w kv K) (bK : byt K) (hn : Bs w nv N) (bN : byt N) (ha : Bs w av A0) (bA : byt A0) (hb : Bs w bv B0) (bB : byt B0) :
    Calls Try.prog 4 #[kv, nv, av, bv] w fun e w' => e = .returned (.bool true) ∧ Below w.heap.size w w' := by
  have HKb : Hid (byt K) := bK
  have HNb : Hid (byt N) := bN
  have HAb : Hid (byt A0) := bA
  have HBb : Hid (byt B0) := bB
  clear bK bN bA bB
  go_enter Try.func4, Try.ntmps4
  go_wp2_with fail
  refine con_up.mono ?_
  rintro e w1 ⟨rfl, bel⟩
  replace hk := hk.later bel
  replace hn := hn.later bel
  replace ha := ha.later bel
  replace hb := hb.later bel
  go_wp2_with fail
  refine (con_cut (n := 200) rfl ha).mono ?_
  rintro e wz ⟨v2, rfl, hcut, hz⟩
  rw [hz]
  clear hz wz
  obtain ⟨A, eA⟩ : ∃ z, A0.take 200 = z := ⟨_, rfl⟩
  rw [eA] at hcut
  have bA : Hid (byt A) := by rw [← eA]; exact byt_takeC HAb.out _
  have lA : Hid (A.length ≤ 200) := by rw [← eA]; show _ ≤ _; rw [List.length_take]; omega
  clear eA ha
  have ha := hcut
  clear hcut
  go_wp2_with fail
  refine (con_cut (n := 200) rfl hb).mono ?_
  rintro e wz ⟨v3, rfl, hcut, hz⟩
  rw [hz]
  clear hz wz
  obtain ⟨B, eB⟩ : ∃ z, B0.take 200 = z := ⟨_, rfl⟩
  rw [eB] at hcut
  have bB : Hid (byt B) := by rw [← eB]; exact byt_takeC HBb.out _
  have lB : Hid (B.length ≤ 200) := by rw [← eB]; show _ ≤ _; rw [List.length_take]; omega
  clear eB hb
  have hb := hcut
  clear hcut
  by_cases hl : ¬ (K.length = 32 ∧ N.length = 12)
  · have q1 := code_eq 1
    go_wp2_with fail
    refine (con_OpenArg hk hn ha hb hl).mono ?_
    rintro e w2 ⟨ao, cap, rfl, hb2⟩
    replace bel := below_step bel hb2
    clear hb2
    obtain ⟨kao, kcap, rfl, k1, k2, k3⟩ := hk
    obtain ⟨nao, ncap, rfl, n1, n2, n3⟩ := hn
    clear k3 n3 ha hb
    by_cases h32 : K.length = 32
    · have g1 : ((K.length : Nat) : Int) = 32 := by omega
      have g2 : ¬ ((N.length : Nat) : Int) = 12 := by omega
      go_wp2_with fail
      go_ret
      exact ⟨rfl, bel⟩
    · have g1 : ¬ ((K.length : Nat) : Int) = 32 := by omega
      go_wp2_with fail
      go_ret
      exact ⟨rfl, bel⟩
  · have HKl : Hid (K.length = 32) := by show _ = _; omega
    have HNl : Hid (N.length = 12) := by show _ = _; omega
    clear hl
    by_cases h16 : B.length < 16
    · have q6 := code_eq 6
      go_wp2_with fail
      refine (con_OpenShort hk hn ha hb HKl.out HNl.out (by have := lA.out; omega) h16).mono ?_
      rintro e w2 ⟨ao, cap, rfl, hb2⟩
      replace hk := hk.later hb2
      replace hn := hn.later hb2
      replace bel := below_step bel hb2
      clear hb2
      obtain ⟨kao, kcap, ek, k1, k2, k3⟩ := hk
      have hk : Bs w2 kv K := ⟨kao, kcap, ek, k1, k2, k3⟩
      obtain ⟨nao, ncap, en, n1, n2, n3⟩ := hn
      have hn : Bs w2 nv N := ⟨nao, ncap, en, n1, n2, n3⟩
      rw [HKl.out] at ek
      rw [HNl.out] at en
      subst ek en
      clear k3 n3 k1 k2 n1 n2
      obtain ⟨bao, bcap, rfl, b1, b2, b3⟩ := hb
      clear b3 hk hn ha
      have g1 : ((B.length : Nat) : Int) < 16 := by omega
      go_wp2_with fail
      go_ret
      exact ⟨rfl, bel⟩
    · obtain ⟨m, hm⟩ : ∃ m, B.length = m + 16 := ⟨B.length - 16, by omega⟩
      have HBl : Hid (B.length = m + 16) := hm
      obtain ⟨b, o, cap, ev, c1, c2⟩ := hb.form (by omega)
      rw [hm] at ev c1
      subst ev
      unfold maxLen at c2
      clear hm h16
      have hm184 : m ≤ 184 := by have := lB.out; have := HBl.out; omega
      obtain ⟨X, hX⟩ : ∃ X, B.take m = X := ⟨_, rfl⟩
      obtain ⟨T, hT⟩ : ∃ T, B.drop m = T := ⟨_, rfl⟩
      have HX : Hid (B.take m = X) := hX
      have HT : Hid (B.drop m = T) := hT
      have HXb : Hid (byt X) := by rw [← hX]; exact byt_takeC bB.out m
      have HTb : Hid (byt T) := by rw [← hT]; exact byt_dropC bB.out m
      have HXl : Hid (X.length = m) := by show _ = _; rw [← hX, List.length_take]; have := HBl.out; omega
      clear hX hT
      by_cases hq : T = tagN K N A X
      · have HQ : Hid (B.drop (B.length - 16) = tagN K N A (B.take (B.length - 16))) := by show _ = _; rw [HBl.out, Nat.add_sub_cancel, HX.out, HT.out]; exact hq
        go_wp2_with fail
        refine (con_Open hk hn ha hb HKb.out HKl.out HNb.out HNl.out bA.out bB.out (by have := lA.out; omega) (by have := lB.out; omega) (by have := HBl.out; omega) HQ.out).mono ?_
        rintro e w2 ⟨v4, rfl, h4, hb2⟩
        rw [show B.take (B.length - 16) = X by rw [HBl.out, Nat.add_sub_cancel]; exact HX.out] at h4
        replace hk := hk.later hb2
        replace hn := hn.later hb2
        replace ha := ha.later hb2
        replace hb := hb.later hb2
        replace bel := below_step bel hb2
        clear hb2
        obtain ⟨kao, kcap, ek, k1, k2, k3⟩ := hk
        have hk : Bs w2 kv K := ⟨kao, kcap, ek, k1, k2, k3⟩
        obtain ⟨nao, ncap, en, n1, n2, n3⟩ := hn
        have hn : Bs w2 nv N := ⟨nao, ncap, en, n1, n2, n3⟩
        rw [HKl.out] at ek
        rw [HNl.out] at en
        subst ek en
        clear k3 n3 k1 k2 n1 n2
        have HQ2 : Hid (decide (T = tagN K N A X) = true) := decide_eq_true hq
        clear HQ hq
        have g1 : ¬ ((m + 16 : Nat) : Int) < 16 := by omega
        have g2 : IntKind.i64.wrap (((m + 16 : Nat) : Int) - 16) = (m : Int) := by rw [IntKind.wrap_i64]; omega
        have g1b : ¬ (m : Int) + 16 < 16 := by omega
        have g2b : IntKind.i64.wrap ((m : Int) + 16 - 16) = (m : Int) := by rw [IntKind.wrap_i64]; omega
        go_wp2_with fail
        refine r9_Box.mono ?_
        rintro e w3 ⟨bx, rfl, hbox, hb2⟩
        replace hk := hk.later hb2
        replace hn := hn.later hb2
        replace ha := ha.later hb2
        replace hb := hb.later hb2
        replace h4 := h4.later hb2
        replace bel := below_step bel hb2
        clear hb2
        replace hbox := Bs.of_own hbox
        have hx0 := bs_uptoC hb (r := m) HBl.out (by omega)
        have ht0 := bs_dropC hb (r := m) HBl.out (by omega)
        rw [HX.out] at hx0
        rw [HT.out, Nat.add_sub_cancel_left] at ht0
        have y1 : ¬ cap = m := by omega
        have y2 : m ≤ cap := by omega
        have y3 : (0 : Int) ≤ (m : Int) := by omega
        have y4 : (m : Int) ≤ (cap : Int) := by omega
        have y5 : (m : Int) ≤ ((m + 16 : Nat) : Int) := by omega
        have y9 : (m : Int) ≤ (m : Int) + 16 := by omega
        have y6 : (m : Int).toNat = m := by omega
        have y7 : m + 16 - m = 16 := by omega
        have y8 : (⟨b, o, none⟩ : Addr).add m = ⟨b, o + m, none⟩ := by unfold Addr.add; split <;> simp_all
        go_upto_region 11 with fail
        obtain ⟨S1, hS1, KL1, KA1, KD1, KS1, KQ1, KN1, KB1, KM1, KR1⟩ := held3 (w0 := w3) (W := w3) [] (by intro b X h; simp at h) (Below.refl _ _)
        clear KS1 KQ1 KN1 KM1 KR1 KA1
        have x1 := fun wx (h : Hd S1 wx) => conv_any (ht0.later (KB1.out wx h))
        obtain ⟨G, hG⟩ : ∃ G, tagN K N A X = G := ⟨_, rfl⟩
        have HG : Hid (tagN K N A X = G) := hG
        rw [hG] at HQ2
        have HGb : Hid (byt G) := by rw [← hG]; exact tagN_byt HKb.out HNb.out
        clear hG
        have sq : ((strOfNums T).toList == (strOfNums G).toList) = true := by rw [← HQ2.out]; exact str_eqC HTb.out HGb.out
        refine wp_region_noPanic ?_
        refine wp_region_held_drew (S := Hd S1) (by kernel_rfl) (KD1.out _ hS1) (fun hHeld => ?_)
        clear hS1
        generalize World.drew _ = wd at *
        refine wpAnyH_take (i := 0) (v := ?_) rfl (by kernel_rfl) (by kernel_rfl) (by kernel_rfl) (fun _ _ _ h => h) (Or.inl ⟨by rfl, ?_⟩) (by assumption) ?_
        rotate_left
        · intro w hSw
          go_simp
          with_reducible rfl
        try simp only [Act.put, List.getElem_toArray, List.getElem_cons_zero, List.getElem_cons_succ, List.setIfInBounds_toArray, List.set_cons_zero, List.set_cons_succ]
        refine wpAnyH_take (i := 1) (v := ?_) rfl (by kernel_rfl) (by kernel_rfl) (by kernel_rfl) (fun _ _ _ h => h) (Or.inl ⟨by rfl, ?_⟩) (by assumption) ?_
        rotate_left
        · intro w hSw
          go_simp
          with_reducible rfl
        try simp only [Act.put, List.getElem_toArray, List.getElem_cons_zero, List.getElem_cons_succ, List.setIfInBounds_toArray, List.set_cons_zero, List.set_cons_succ]
        refine wpAnyH_take (i := 2) (v := ?_) rfl (by kernel_rfl) (by kernel_rfl) (by kernel_rfl) (fun _ _ _ h => h) (Or.inl ⟨by rfl, ?_⟩) (by assumption) ?_
        rotate_left
        · intro w hSw
          go_simp
          with_reducible rfl
        try simp only [Act.put, List.getElem_toArray, List.getElem_cons_zero, List.getElem_cons_succ, List.setIfInBounds_toArray, List.set_cons_zero, List.set_cons_succ]
        refine wpAnyH_take (i := 3) (v := ?_) rfl (by kernel_rfl) (by kernel_rfl) (by kernel_rfl) (fun _ _ _ h => h) (Or.inl ⟨by rfl, ?_⟩) (by assumption) ?_
        rotate_left
        · intro w hSw
          go_simp
          with_reducible rfl
        try simp only [Act.put, List.getElem_toArray, List.getElem_cons_zero, List.getElem_cons_succ, List.setIfInBounds_toArray, List.set_cons_zero, List.set_cons_succ]
        refine wpAnyH_take (i := 4) (v := ?_) rfl (by kernel_rfl) (by kernel_rfl) (by kernel_rfl) (fun _ _ _ h => h) (Or.inl ⟨by rfl, ?_⟩) (by assumption) ?_
        rotate_left
        · intro w hSw
          go_simp
          with_reducible rfl
        try simp only [Act.put, List.getElem_toArray, List.getElem_cons_zero, List.getElem_cons_succ, List.setIfInBounds_toArray, List.set_cons_zero, List.set_cons_succ]
        refine wpAnyH_take (i := 5) (v := ?_) rfl (by kernel_rfl) (by kernel_rfl) (by kernel_rfl) (fun _ _ _ h => h) (Or.inl ⟨by rfl, ?_⟩) (by assumption) ?_
        rotate_left
        · intro w hSw
          go_simp
          with_reducible rfl
        try simp only [Act.put, List.getElem_toArray, List.getElem_cons_zero, List.getElem_cons_succ, List.setIfInBounds_toArray, List.set_cons_zero, List.set_cons_succ]
        refine wpAnyH_take (i := 6) (v := ?_) rfl (by kernel_rfl) (by kernel_rfl) (by kernel_rfl) (fun _ _ _ h => h) (Or.inl ⟨by rfl, ?_⟩) (by assumption) ?_
        rotate_left
        · intro w hSw
          go_simp
          with_reducible rfl
        try simp only [Act.put, List.getElem_toArray, List.getElem_cons_zero, List.getElem_cons_succ, List.setIfInBounds_toArray, List.set_cons_zero, List.set_cons_succ]
        refine wpAnyH_take (i := 7) (v := ?_) rfl (by kernel_rfl) (by kernel_rfl) (by kernel_rfl) (fun _ _ _ h => h) (Or.inl ⟨by rfl, ?_⟩) (by assumption) ?_
        rotate_left
        · intro w hSw
          go_simp
          with_reducible rfl
        try simp only [Act.put, List.getElem_toArray, List.getElem_cons_zero, List.getElem_cons_succ, List.setIfInBounds_toArray, List.set_cons_zero, List.set_cons_succ]
        refine wpAnyH_take (i := 8) (v := ?_) rfl (by kernel_rfl) (by kernel_rfl) (by kernel_rfl) (fun _ _ _ h => h) (Or.inl ⟨by rfl, ?_⟩) (by assumption) ?_
        rotate_left
        · intro w hSw
          go_simp
          with_reducible rfl
        try simp only [Act.put, List.getElem_toArray, List.getElem_cons_zero, List.getElem_cons_succ, List.setIfInBounds_toArray, List.set_cons_zero, List.set_cons_succ]
        refine wpAnyH_take (i := 9) (v := ?_) rfl (by kernel_rfl) (by kernel_rfl) (by kernel_rfl) (fun _ _ _ h => h) (Or.inl ⟨by rfl, ?_⟩) (by assumption) ?_
        rotate_left
        · intro w hSw
          go_simp
          with_reducible rfl
        try simp only [Act.put, List.getElem_toArray, List.getElem_cons_zero, List.getElem_cons_succ, List.setIfInBounds_toArray, List.set_cons_zero, List.set_cons_succ]
        refine wpAnyH_take (i := 10) (v := ?_) rfl (by kernel_rfl) (by kernel_rfl) (by kernel_rfl) (fun _ _ _ h => h) (Or.inl ⟨by rfl, ?_⟩) (by assumption) ?_
        rotate_left
        · intro w hSw
          go_simp
          with_reducible rfl
        try simp only [Act.put, List.getElem_toArray, List.getElem_cons_zero, List.getElem_cons_succ, List.setIfInBounds_toArray, List.set_cons_zero, List.set_cons_succ]
        refine wpAnyH_ready (rs := [11]) (by kernel_rfl) (by simp) ?_
        refine AllReadyH.cons rfl (fun K hK => ?_) ?_
        · go_simp
          have hHb := KB1.out _ hHeld
          refine (r11_Tag (hbox.later hHb) (hk.later hHb) (hn.later hHb) (ha.later hHb) (hx0.later hHb) HKb.out HKl.out HNb.out HNl.out bA.out HXb.out (by have := lA.out; omega) (by rw [HXl.out]; omega)).mono ?_
          rintro e w5 ⟨vt, rfl, own2, hb⟩
          rw [HG.out] at own2
          refine hK.out _ _ ?_ (fun hHeld2 => ?_)
          · exact KL1.out _ _ hHeld hb
          · clear hK K hHeld
            have hHeld := hHeld2
            clear hHeld2
            try simp only [Act.put, List.getElem_toArray, List.getElem_cons_zero, List.getElem_cons_succ, List.setIfInBounds_toArray, List.set_cons_zero, List.set_cons_succ]
            clear hb hHb
            have x2 := conv_any (Bs.of_own own2)
            clear x1 own2
            refine wpAnyH_ready (rs := [12]) (by kernel_rfl) (by simp) ?_
            refine AllReadyH.cons rfl (fun K hK => ?_) ?_
            · go_simp
              refine hK.out _ _ ?_ (fun hHeld2 => ?_)
              · exact hHeld
              · clear hK K hHeld
                have hHeld := hHeld2
                clear hHeld2
                try simp only [Act.put, List.getElem_toArray, List.getElem_cons_zero, List.getElem_cons_succ, List.setIfInBounds_toArray, List.set_cons_zero, List.set_cons_succ]
                clear x2
                refine wpAnyH_take (i := 13) (v := ?_) rfl (by kernel_rfl) (by kernel_rfl) (by kernel_rfl) (fun _ _ _ h => h) (Or.inl ⟨by rfl, ?_⟩) (by assumption) ?_
                rotate_left
                · intro w hSw
                  go_simp
                  with_reducible rfl
                try simp only [Act.put, List.getElem_toArray, List.getElem_cons_zero, List.getElem_cons_succ, List.setIfInBounds_toArray, List.set_cons_zero, List.set_cons_succ]
                refine wpAnyH_done (by kernel_rfl) ?_ _
                refine NoPanic.normal ?_
                have bel9 := KB1.out _ hHeld
                have q1 := nil_eq
                replace hbox := hbox.later bel9
                replace hk := hk.later bel9
                replace hn := hn.later bel9
                replace ha := ha.later bel9
                replace hb := hb.later bel9
                replace h4 := h4.later bel9
                replace hx0 := hx0.later bel9
                replace bel := below_step bel bel9
                clear bel9
                clear ht0 hHeld sq S1 KL1 KD1 KB1
                go_upto_region 13 with fail
                obtain ⟨S1, hS1, KL1, KA1, KD1, KS1, KQ1, KN1, KB1, KM1, KR1⟩ := held3 (w0 := w5) (W := w5) [] (by intro b X h; simp at h) (Below.refl _ _)
                clear KS1 KQ1 KN1 KM1 KR1 KA1
                obtain ⟨Y, hY⟩ : ∃ Y, hidN K N X = Y := ⟨_, rfl⟩
                have HY : Hid (hidN K N X = Y) := hY
                rw [hY] at h4
                clear hY
                have x1 := fun wx (h : Hd S1 wx) => conv_any (h4.later (KB1.out wx h))
                refine wp_region_noPanic ?_
                refine wp_region_held_drew (S := Hd S1) (by kernel_rfl) (KD1.out _ hS1) (fun hHeld => ?_)
                clear hS1
                generalize World.drew _ = wd2 at *
                refine wpAnyH_take (i := 0) (v := ?_) rfl (by kernel_rfl) (by kernel_rfl) (by kernel_rfl) (fun _ _ _ h => h) (Or.inl ⟨by rfl, ?_⟩) (by assumption) ?_
                rotate_left
                · intro w hSw
                  go_simp
                  with_reducible rfl
                try simp only [Act.put, List.getElem_toArray, List.getElem_cons_zero, List.getElem_cons_succ, List.setIfInBounds_toArray, List.set_cons_zero, List.set_cons_succ]
                refine wpAnyH_take (i := 1) (v := ?_) rfl (by kernel_rfl) (by kernel_rfl) (by kernel_rfl) (fun _ _ _ h => h) (Or.inl ⟨by rfl, ?_⟩) (by assumption) ?_
                rotate_left
                · intro w hSw
                  go_simp
                  with_reducible rfl
                try simp only [Act.put, List.getElem_toArray, List.getElem_cons_zero, List.getElem_cons_succ, List.setIfInBounds_toArray, List.set_cons_zero, List.set_cons_succ]
                refine wpAnyH_take (i := 2) (v := ?_) rfl (by kernel_rfl) (by kernel_rfl) (by kernel_rfl) (fun _ _ _ h => h) (Or.inl ⟨by rfl, ?_⟩) (by assumption) ?_
                rotate_left
                · intro w hSw
                  go_simp
                  with_reducible rfl
                try simp only [Act.put, List.getElem_toArray, List.getElem_cons_zero, List.getElem_cons_succ, List.setIfInBounds_toArray, List.set_cons_zero, List.set_cons_succ]
                refine wpAnyH_take (i := 3) (v := ?_) rfl (by kernel_rfl) (by kernel_rfl) (by kernel_rfl) (fun _ _ _ h => h) (Or.inl ⟨by rfl, ?_⟩) (by assumption) ?_
                rotate_left
                · intro w hSw
                  go_simp
                  with_reducible rfl
                try simp only [Act.put, List.getElem_toArray, List.getElem_cons_zero, List.getElem_cons_succ, List.setIfInBounds_toArray, List.set_cons_zero, List.set_cons_succ]
                refine wpAnyH_take (i := 4) (v := ?_) rfl (by kernel_rfl) (by kernel_rfl) (by kernel_rfl) (fun _ _ _ h => h) (Or.inl ⟨by rfl, ?_⟩) (by assumption) ?_
                rotate_left
                · intro w hSw
                  go_simp
                  with_reducible rfl
                try simp only [Act.put, List.getElem_toArray, List.getElem_cons_zero, List.getElem_cons_succ, List.setIfInBounds_toArray, List.set_cons_zero, List.set_cons_succ]
                refine wpAnyH_take (i := 5) (v := ?_) rfl (by kernel_rfl) (by kernel_rfl) (by kernel_rfl) (fun _ _ _ h => h) (Or.inl ⟨by rfl, ?_⟩) (by assumption) ?_
                rotate_left
                · intro w hSw
                  go_simp
                  with_reducible rfl
                try simp only [Act.put, List.getElem_toArray, List.getElem_cons_zero, List.getElem_cons_succ, List.setIfInBounds_toArray, List.set_cons_zero, List.set_cons_succ]
                refine wpAnyH_take (i := 6) (v := ?_) rfl (by kernel_rfl) (by kernel_rfl) (by kernel_rfl) (fun _ _ _ h => h) (Or.inl ⟨by rfl, ?_⟩) (by assumption) ?_
                rotate_left
                · intro w hSw
                  go_simp
                  with_reducible rfl
                try simp only [Act.put, List.getElem_toArray, List.getElem_cons_zero, List.getElem_cons_succ, List.setIfInBounds_toArray, List.set_cons_zero, List.set_cons_succ]
                refine wpAnyH_take (i := 7) (v := ?_) rfl (by kernel_rfl) (by kernel_rfl) (by kernel_rfl) (fun _ _ _ h => h) (Or.inl ⟨by rfl, ?_⟩) (by assumption) ?_
                rotate_left
                · intro w hSw
                  go_simp
                  with_reducible rfl
                try simp only [Act.put, List.getElem_toArray, List.getElem_cons_zero, List.getElem_cons_succ, List.setIfInBounds_toArray, List.set_cons_zero, List.set_cons_succ]
                refine wpAnyH_take (i := 8) (v := ?_) rfl (by kernel_rfl) (by kernel_rfl) (by kernel_rfl) (fun _ _ _ h => h) (Or.inl ⟨by rfl, ?_⟩) (by assumption) ?_
                rotate_left
                · intro w hSw
                  go_simp
                  with_reducible rfl
                try simp only [Act.put, List.getElem_toArray, List.getElem_cons_zero, List.getElem_cons_succ, List.setIfInBounds_toArray, List.set_cons_zero, List.set_cons_succ]
                refine wpAnyH_take (i := 9) (v := ?_) rfl (by kernel_rfl) (by kernel_rfl) (by kernel_rfl) (fun _ _ _ h => h) (Or.inl ⟨by rfl, ?_⟩) (by assumption) ?_
                rotate_left
                · intro w hSw
                  go_simp
                  with_reducible rfl
                try simp only [Act.put, List.getElem_toArray, List.getElem_cons_zero, List.getElem_cons_succ, List.setIfInBounds_toArray, List.set_cons_zero, List.set_cons_succ]
                refine wpAnyH_take (i := 10) (v := ?_) rfl (by kernel_rfl) (by kernel_rfl) (by kernel_rfl) (fun _ _ _ h => h) (Or.inl ⟨by rfl, ?_⟩) (by assumption) ?_
                rotate_left
                · intro w hSw
                  go_simp
                  with_reducible rfl
                try simp only [Act.put, List.getElem_toArray, List.getElem_cons_zero, List.getElem_cons_succ, List.setIfInBounds_toArray, List.set_cons_zero, List.set_cons_succ]
                refine wpAnyH_take (i := 11) (v := ?_) rfl (by kernel_rfl) (by kernel_rfl) (by kernel_rfl) (fun _ _ _ h => h) (Or.inl ⟨by rfl, ?_⟩) (by assumption) ?_
                rotate_left
                · intro w hSw
                  go_simp
                  with_reducible rfl
                try simp only [Act.put, List.getElem_toArray, List.getElem_cons_zero, List.getElem_cons_succ, List.setIfInBounds_toArray, List.set_cons_zero, List.set_cons_succ]
                refine wpAnyH_take (i := 12) (v := ?_) rfl (by kernel_rfl) (by kernel_rfl) (by kernel_rfl) (fun _ _ _ h => h) (Or.inl ⟨by rfl, ?_⟩) (by assumption) ?_
                rotate_left
                · intro w hSw
                  go_simp
                  with_reducible rfl
                try simp only [Act.put, List.getElem_toArray, List.getElem_cons_zero, List.getElem_cons_succ, List.setIfInBounds_toArray, List.set_cons_zero, List.set_cons_succ]
                refine wpAnyH_take (i := 13) (v := ?_) rfl (by kernel_rfl) (by kernel_rfl) (by kernel_rfl) (fun _ _ _ h => h) (Or.inl ⟨by rfl, ?_⟩) (by assumption) ?_
                rotate_left
                · intro w hSw
                  go_simp
                  with_reducible rfl
                try simp only [Act.put, List.getElem_toArray, List.getElem_cons_zero, List.getElem_cons_succ, List.setIfInBounds_toArray, List.set_cons_zero, List.set_cons_succ]
                refine wpAnyH_ready (rs := [14]) (by kernel_rfl) (by simp) ?_
                refine AllReadyH.cons rfl (fun K hK => ?_) ?_
                · go_simp
                  have hHb := KB1.out _ hHeld
                  refine (r11_Hidden (hbox.later hHb) (hk.later hHb) (hn.later hHb) (hx0.later hHb) HKb.out HKl.out HNb.out HNl.out (by rw [HXl.out]; omega)).mono ?_
                  rintro e w7 ⟨gh, rfl, own2, hb⟩
                  rw [HY.out] at own2
                  refine hK.out _ _ ?_ (fun hHeld2 => ?_)
                  · exact KL1.out _ _ hHeld hb
                  · clear hK K hHeld
                    have hHeld := hHeld2
                    clear hHeld2
                    try simp only [Act.put, List.getElem_toArray, List.getElem_cons_zero, List.getElem_cons_succ, List.setIfInBounds_toArray, List.set_cons_zero, List.set_cons_succ]
                    clear hb hHb
                    have x2 := conv_any (Bs.of_own own2)
                    clear x1 own2
                    refine wpAnyH_ready (rs := [15]) (by kernel_rfl) (by simp) ?_
                    refine AllReadyH.cons rfl (fun K hK => ?_) ?_
                    · go_simp
                      refine hK.out _ _ ?_ (fun hHeld2 => ?_)
                      · exact hHeld
                      · clear hK K hHeld
                        have hHeld := hHeld2
                        clear hHeld2
                        try simp only [Act.put, List.getElem_toArray, List.getElem_cons_zero, List.getElem_cons_succ, List.setIfInBounds_toArray, List.set_cons_zero, List.set_cons_succ]
                        clear x2
                        refine wpAnyH_take (i := 16) (v := ?_) rfl (by kernel_rfl) (by kernel_rfl) (by kernel_rfl) (fun _ _ _ h => h) (Or.inl ⟨by rfl, ?_⟩) (by assumption) ?_
                        rotate_left
                        · intro w hSw
                          go_simp
                          with_reducible rfl
                        try simp only [Act.put, List.getElem_toArray, List.getElem_cons_zero, List.getElem_cons_succ, List.setIfInBounds_toArray, List.set_cons_zero, List.set_cons_succ]
                        refine wpAnyH_take (i := 17) (v := ?_) rfl (by kernel_rfl) (by kernel_rfl) (by kernel_rfl) (fun _ _ _ h => h) (Or.inl ⟨by rfl, ?_⟩) (by assumption) ?_
                        rotate_left
                        · intro w hSw
                          go_simp
                          with_reducible rfl
                        try simp only [Act.put, List.getElem_toArray, List.getElem_cons_zero, List.getElem_cons_succ, List.setIfInBounds_toArray, List.set_cons_zero, List.set_cons_succ]
                        refine wpAnyH_ready (rs := [18]) (by kernel_rfl) (by simp) ?_
                        refine AllReadyH.cons rfl (fun K hK => ?_) ?_
                        · go_simp
                          refine hK.out _ _ ?_ (fun hHeld2 => ?_)
                          · exact hHeld
                          · clear hK K hHeld
                            have hHeld := hHeld2
                            clear hHeld2
                            try simp only [Act.put, List.getElem_toArray, List.getElem_cons_zero, List.getElem_cons_succ, List.setIfInBounds_toArray, List.set_cons_zero, List.set_cons_succ]
                            refine wpAnyH_done (by kernel_rfl) ?_ _
                            refine NoPanic.normal ?_
                            replace bel := below_step bel (KB1.out _ hHeld)
                            clear hHeld
                            go_wp2_with fail
                            go_ret
                            exact ⟨rfl, bel⟩
                        exact AllReadyH.nil
                    exact AllReadyH.nil
                exact AllReadyH.nil
            exact AllReadyH.nil
        exact AllReadyH.nil
      · have HQ : Hid (¬ B.drop (B.length - 16) = tagN K N A (B.take (B.length - 16))) := by show ¬ _; rw [HBl.out, Nat.add_sub_cancel, HX.out, HT.out]; exact hq
        go_wp2_with fail
        refine (con_OpenTag hk hn ha hb HKb.out HKl.out HNb.out HNl.out bA.out bB.out (by have := lA.out; omega) (by have := lB.out; omega) (by have := HBl.out; omega) HQ.out).mono ?_
        rintro e w2 ⟨ao4, cap4, rfl, hb2⟩
        replace hk := hk.later hb2
        replace hn := hn.later hb2
        replace ha := ha.later hb2
        replace hb := hb.later hb2
        replace bel := below_step bel hb2
        clear hb2
        obtain ⟨kao, kcap, ek, k1, k2, k3⟩ := hk
        have hk : Bs w2 kv K := ⟨kao, kcap, ek, k1, k2, k3⟩
        obtain ⟨nao, ncap, en, n1, n2, n3⟩ := hn
        have hn : Bs w2 nv N := ⟨nao, ncap, en, n1, n2, n3⟩
        rw [HKl.out] at ek
        rw [HNl.out] at en
        subst ek en
        clear k3 n3 k1 k2 n1 n2
        have HQ2 : Hid (decide (T = tagN K N A X) = false) := decide_eq_false hq
        clear HQ hq
        have g1 : ¬ ((m + 16 : Nat) : Int) < 16 := by omega
        have g2 : IntKind.i64.wrap (((m + 16 : Nat) : Int) - 16) = (m : Int) := by rw [IntKind.wrap_i64]; omega
        have g1b : ¬ (m : Int) + 16 < 16 := by omega
        have g2b : IntKind.i64.wrap ((m : Int) + 16 - 16) = (m : Int) := by rw [IntKind.wrap_i64]; omega
        go_wp2_with fail
        refine r9_Box.mono ?_
        rintro e w3 ⟨bx, rfl, hbox, hb2⟩
        replace hk := hk.later hb2
        replace hn := hn.later hb2
        replace ha := ha.later hb2
        replace hb := hb.later hb2
        replace bel := below_step bel hb2
        clear hb2
        replace hbox := Bs.of_own hbox
        have hx0 := bs_uptoC hb (r := m) HBl.out (by omega)
        have ht0 := bs_dropC hb (r := m) HBl.out (by omega)
        rw [HX.out] at hx0
        rw [HT.out, Nat.add_sub_cancel_left] at ht0
        have y1 : ¬ cap = m := by omega
        have y2 : m ≤ cap := by omega
        have y3 : (0 : Int) ≤ (m : Int) := by omega
        have y4 : (m : Int) ≤ (cap : Int) := by omega
        have y5 : (m : Int) ≤ ((m + 16 : Nat) : Int) := by omega
        have y9 : (m : Int) ≤ (m : Int) + 16 := by omega
        have y6 : (m : Int).toNat = m := by omega
        have y7 : m + 16 - m = 16 := by omega
        have y8 : (⟨b, o, none⟩ : Addr).add m = ⟨b, o + m, none⟩ := by unfold Addr.add; split <;> simp_all
        go_upto_region 11 with fail
        obtain ⟨S1, hS1, KL1, KA1, KD1, KS1, KQ1, KN1, KB1, KM1, KR1⟩ := held3 (w0 := w3) (W := w3) [] (by intro b X h; simp at h) (Below.refl _ _)
        clear KS1 KQ1 KN1 KM1 KR1 KA1
        have x1 := fun wx (h : Hd S1 wx) => conv_any (ht0.later (KB1.out wx h))
        obtain ⟨G, hG⟩ : ∃ G, tagN K N A X = G := ⟨_, rfl⟩
        have HG : Hid (tagN K N A X = G) := hG
        rw [hG] at HQ2
        have HGb : Hid (byt G) := by rw [← hG]; exact tagN_byt HKb.out HNb.out
        clear hG
        have sq : ((strOfNums T).toList == (strOfNums G).toList) = false := by rw [← HQ2.out]; exact str_eqC HTb.out HGb.out
        refine wp_region_noPanic ?_
        refine wp_region_held_drew (S := Hd S1) (by kernel_rfl) (KD1.out _ hS1) (fun hHeld => ?_)
        clear hS1
        generalize World.drew _ = wd at *
        refine wpAnyH_take (i := 0) (v := ?_) rfl (by kernel_rfl) (by kernel_rfl) (by kernel_rfl) (fun _ _ _ h => h) (Or.inl ⟨by rfl, ?_⟩) (by assumption) ?_
        rotate_left
        · intro w hSw
          go_simp
          with_reducible rfl
        try simp only [Act.put, List.getElem_toArray, List.getElem_cons_zero, List.getElem_cons_succ, List.setIfInBounds_toArray, List.set_cons_zero, List.set_cons_succ]
        refine wpAnyH_take (i := 1) (v := ?_) rfl (by kernel_rfl) (by kernel_rfl) (by kernel_rfl) (fun _ _ _ h => h) (Or.inl ⟨by rfl, ?_⟩) (by assumption) ?_
        rotate_left
        · intro w hSw
          go_simp
          with_reducible rfl
        try simp only [Act.put, List.getElem_toArray, List.getElem_cons_zero, List.getElem_cons_succ, List.setIfInBounds_toArray, List.set_cons_zero, List.set_cons_succ]
        refine wpAnyH_take (i := 2) (v := ?_) rfl (by kernel_rfl) (by kernel_rfl) (by kernel_rfl) (fun _ _ _ h => h) (Or.inl ⟨by rfl, ?_⟩) (by assumption) ?_
        rotate_left
        · intro w hSw
          go_simp
          with_reducible rfl
        try simp only [Act.put, List.getElem_toArray, List.getElem_cons_zero, List.getElem_cons_succ, List.setIfInBounds_toArray, List.set_cons_zero, List.set_cons_succ]
        refine wpAnyH_take (i := 3) (v := ?_) rfl (by kernel_rfl) (by kernel_rfl) (by kernel_rfl) (fun _ _ _ h => h) (Or.inl ⟨by rfl, ?_⟩) (by assumption) ?_
        rotate_left
        · intro w hSw
          go_simp
          with_reducible rfl
        try simp only [Act.put, List.getElem_toArray, List.getElem_cons_zero, List.getElem_cons_succ, List.setIfInBounds_toArray, List.set_cons_zero, List.set_cons_succ]
        refine wpAnyH_take (i := 4) (v := ?_) rfl (by kernel_rfl) (by kernel_rfl) (by kernel_rfl) (fun _ _ _ h => h) (Or.inl ⟨by rfl, ?_⟩) (by assumption) ?_
        rotate_left
        · intro w hSw
          go_simp
          with_reducible rfl
        try simp only [Act.put, List.getElem_toArray, List.getElem_cons_zero, List.getElem_cons_succ, List.setIfInBounds_toArray, List.set_cons_zero, List.set_cons_succ]
        refine wpAnyH_take (i := 5) (v := ?_) rfl (by kernel_rfl) (by kernel_rfl) (by kernel_rfl) (fun _ _ _ h => h) (Or.inl ⟨by rfl, ?_⟩) (by assumption) ?_
        rotate_left
        · intro w hSw
          go_simp
          with_reducible rfl
        try simp only [Act.put, List.getElem_toArray, List.getElem_cons_zero, List.getElem_cons_succ, List.setIfInBounds_toArray, List.set_cons_zero, List.set_cons_succ]
        refine wpAnyH_take (i := 6) (v := ?_) rfl (by kernel_rfl) (by kernel_rfl) (by kernel_rfl) (fun _ _ _ h => h) (Or.inl ⟨by rfl, ?_⟩) (by assumption) ?_
        rotate_left
        · intro w hSw
          go_simp
          with_reducible rfl
        try simp only [Act.put, List.getElem_toArray, List.getElem_cons_zero, List.getElem_cons_succ, List.setIfInBounds_toArray, List.set_cons_zero, List.set_cons_succ]
        refine wpAnyH_take (i := 7) (v := ?_) rfl (by kernel_rfl) (by kernel_rfl) (by kernel_rfl) (fun _ _ _ h => h) (Or.inl ⟨by rfl, ?_⟩) (by assumption) ?_
        rotate_left
        · intro w hSw
          go_simp
          with_reducible rfl
        try simp only [Act.put, List.getElem_toArray, List.getElem_cons_zero, List.getElem_cons_succ, List.setIfInBounds_toArray, List.set_cons_zero, List.set_cons_succ]
        refine wpAnyH_take (i := 8) (v := ?_) rfl (by kernel_rfl) (by kernel_rfl) (by kernel_rfl) (fun _ _ _ h => h) (Or.inl ⟨by rfl, ?_⟩) (by assumption) ?_
        rotate_left
        · intro w hSw
          go_simp
          with_reducible rfl
        try simp only [Act.put, List.getElem_toArray, List.getElem_cons_zero, List.getElem_cons_succ, List.setIfInBounds_toArray, List.set_cons_zero, List.set_cons_succ]
        refine wpAnyH_take (i := 9) (v := ?_) rfl (by kernel_rfl) (by kernel_rfl) (by kernel_rfl) (fun _ _ _ h => h) (Or.inl ⟨by rfl, ?_⟩) (by assumption) ?_
        rotate_left
        · intro w hSw
          go_simp
          with_reducible rfl
        try simp only [Act.put, List.getElem_toArray, List.getElem_cons_zero, List.getElem_cons_succ, List.setIfInBounds_toArray, List.set_cons_zero, List.set_cons_succ]
        refine wpAnyH_take (i := 10) (v := ?_) rfl (by kernel_rfl) (by kernel_rfl) (by kernel_rfl) (fun _ _ _ h => h) (Or.inl ⟨by rfl, ?_⟩) (by assumption) ?_
        rotate_left
        · intro w hSw
          go_simp
          with_reducible rfl
        try simp only [Act.put, List.getElem_toArray, List.getElem_cons_zero, List.getElem_cons_succ, List.setIfInBounds_toArray, List.set_cons_zero, List.set_cons_succ]
        refine wpAnyH_ready (rs := [11]) (by kernel_rfl) (by simp) ?_
        refine AllReadyH.cons rfl (fun K hK => ?_) ?_
        · go_simp
          have hHb := KB1.out _ hHeld
          refine (r11_Tag (hbox.later hHb) (hk.later hHb) (hn.later hHb) (ha.later hHb) (hx0.later hHb) HKb.out HKl.out HNb.out HNl.out bA.out HXb.out (by have := lA.out; omega) (by rw [HXl.out]; omega)).mono ?_
          rintro e w5 ⟨vt, rfl, own2, hb⟩
          rw [HG.out] at own2
          refine hK.out _ _ ?_ (fun hHeld2 => ?_)
          · exact KL1.out _ _ hHeld hb
          · clear hK K hHeld
            have hHeld := hHeld2
            clear hHeld2
            try simp only [Act.put, List.getElem_toArray, List.getElem_cons_zero, List.getElem_cons_succ, List.setIfInBounds_toArray, List.set_cons_zero, List.set_cons_succ]
            clear hb hHb
            have x2 := conv_any (Bs.of_own own2)
            clear x1 own2
            refine wpAnyH_ready (rs := [12]) (by kernel_rfl) (by simp) ?_
            refine AllReadyH.cons rfl (fun K hK => ?_) ?_
            · go_simp
              refine hK.out _ _ ?_ (fun hHeld2 => ?_)
              · exact hHeld
              · clear hK K hHeld
                have hHeld := hHeld2
                clear hHeld2
                try simp only [Act.put, List.getElem_toArray, List.getElem_cons_zero, List.getElem_cons_succ, List.setIfInBounds_toArray, List.set_cons_zero, List.set_cons_succ]
                clear x2
                refine wpAnyH_take (i := 13) (v := ?_) rfl (by kernel_rfl) (by kernel_rfl) (by kernel_rfl) (fun _ _ _ h => h) (Or.inl ⟨by rfl, ?_⟩) (by assumption) ?_
                rotate_left
                · intro w hSw
                  go_simp
                  with_reducible rfl
                try simp only [Act.put, List.getElem_toArray, List.getElem_cons_zero, List.getElem_cons_succ, List.setIfInBounds_toArray, List.set_cons_zero, List.set_cons_succ]
                refine wpAnyH_done (by kernel_rfl) ?_ _
                refine NoPanic.normal ?_
                have bel9 := KB1.out _ hHeld
                replace bel := below_step bel bel9
                have q5 := code_eq 5
                clear hHeld bel9
                go_wp2_with fail
                go_ret
                exact ⟨rfl, bel⟩
            exact AllReadyH.nil
        exact AllReadyH.nil
end Go.Proofs.Ytogbmekgmjmonaa
