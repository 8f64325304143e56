/- The law GcmSeals answers true: any bytes, hidden by any key and nonce, with others along, or what is amiss. -/
import Derived.Test.YtogbmekgmjmonaaRows
import Derived.Test.YtogbmekgmjmonaaGcLaw
import Derived.Test.YtogbmekgmjmonaaGcHid
import Derived.Test.YtogbmekgmjmonaaGcTag
import Derived.Test.YtogbmekgmjmonaaAeTurn
import Derived.Deep.OwnRows
import Derived.Deep.AppendLies
import Derived.Deep.WholeRow
import Derived.Deep.RegionHeld3
import Derived.Deep.DeepCutAuto
import Derived.Deep.DeepFit
namespace Go.Proofs.Ytogbmekgmjmonaa
open Go.RowKit

set_option linter.unusedSimpArgs false in
set_option maxRecDepth 100000 in
set_option maxHeartbeats 4000000 in
theorem law_gcmSeals (kv : Value) (K : List Int) (nv : Value) (N : List Int) (av : Value) (A0 : List Int) (bv : Value) (B0 : List Int) (w : World) (hk : Bs w kv K) (bK : byt K) (hn : Bs w nv N) (bN : byt N) (ha : Bs w av A0) (bA : byt A0) (hb : Bs w bv B0) (bB : byt B0) :
    Calls Try.prog 3 #[kv, nv, av, bv] w fun e w' => e = .returned (.bool true) ∧ Below w.heap.size w w' := by
  have HKb : Hid (byt K) := bK
  have HNb : Hid (byt N) := bN
  have HAb : Hid (byt A0) := bA
  have HBb : Hid (byt B0) := bB
  clear bK bN bA bB
  go_enter Try.func3, Try.ntmps3
  go_wp2_with fail
  refine con_up.mono ?_
  rintro e w1 ⟨rfl, bel⟩
  replace hk := hk.later bel
  replace hn := hn.later bel
  replace ha := ha.later bel
  replace hb := hb.later bel
  go_wp2_with fail
  refine (con_cut (n := 200) rfl ha).mono ?_
  rintro e wz ⟨v2, rfl, hcut, hz⟩
  rw [hz]
  clear hz wz
  obtain ⟨A, eA⟩ : ∃ z, A0.take 200 = z := ⟨_, rfl⟩
  rw [eA] at hcut
  have bA : Hid (byt A) := by rw [← eA]; exact byt_takeC HAb.out _
  have lA : Hid (A.length ≤ 200) := by rw [← eA]; show _ ≤ _; rw [List.length_take]; omega
  clear eA ha
  have ha := hcut
  clear hcut
  go_wp2_with fail
  refine (con_cut (n := 200) rfl hb).mono ?_
  rintro e wz ⟨v3, rfl, hcut, hz⟩
  rw [hz]
  clear hz wz
  obtain ⟨B, eB⟩ : ∃ z, B0.take 200 = z := ⟨_, rfl⟩
  rw [eB] at hcut
  have bB : Hid (byt B) := by rw [← eB]; exact byt_takeC HBb.out _
  have lB : Hid (B.length ≤ 200) := by rw [← eB]; show _ ≤ _; rw [List.length_take]; omega
  clear eB hb
  have hb := hcut
  clear hcut
  by_cases hl : ¬ (K.length = 32 ∧ N.length = 12)
  · have q1 := code_eq 1
    go_wp2_with fail
    refine (con_SealArg hk hn ha hb hl).mono ?_
    rintro e w2 ⟨ao, cap, rfl, hb2⟩
    replace bel := below_step bel hb2
    clear hb2
    obtain ⟨kao, kcap, rfl, k1, k2, k3⟩ := hk
    obtain ⟨nao, ncap, rfl, n1, n2, n3⟩ := hn
    clear k3 n3 ha hb
    by_cases h32 : K.length = 32
    · have g1 : ((K.length : Nat) : Int) = 32 := by omega
      have g2 : ¬ ((N.length : Nat) : Int) = 12 := by omega
      go_wp2_with fail
      go_ret
      exact ⟨rfl, bel⟩
    · have g1 : ¬ ((K.length : Nat) : Int) = 32 := by omega
      go_wp2_with fail
      go_ret
      exact ⟨rfl, bel⟩
  · have HKl : Hid (K.length = 32) := by show _ = _; omega
    have HNl : Hid (N.length = 12) := by show _ = _; omega
    clear hl
    go_wp2_with fail
    refine (con_Seal hk hn ha hb HKb.out HKl.out HNb.out HNl.out bA.out bB.out (by have := lA.out; omega) (by have := lB.out; omega)).mono ?_
    rintro e w2 ⟨v4, rfl, hf, hb2⟩
    have h4 := hf.bs
    replace hk := hk.later hb2
    replace hn := hn.later hb2
    replace ha := ha.later hb2
    replace hb := hb.later hb2
    replace bel := below_step bel hb2
    clear hb2
    clear hf
    obtain ⟨kao, kcap, ek, k1, k2, k3⟩ := hk
    have hk : Bs w2 kv K := ⟨kao, kcap, ek, k1, k2, k3⟩
    obtain ⟨nao, ncap, en, n1, n2, n3⟩ := hn
    have hn : Bs w2 nv N := ⟨nao, ncap, en, n1, n2, n3⟩
    rw [HKl.out] at ek
    rw [HNl.out] at en
    subst ek en
    clear k3 n3 k1 k2 n1 n2
    go_wp2_with fail
    refine r9_Box.mono ?_
    rintro e w3 ⟨bx, rfl, hbox, hb2⟩
    replace hk := hk.later hb2
    replace hn := hn.later hb2
    replace ha := ha.later hb2
    replace hb := hb.later hb2
    replace h4 := h4.later hb2
    replace bel := below_step bel hb2
    clear hb2
    replace hbox := Bs.of_own hbox
    have h43 := h4
    go_wp2_with fail
    refine (r11_Hidden hbox hk hn hb HKb.out HKl.out HNb.out HNl.out (by have := lB.out; omega)).mono ?_
    rintro e w4 ⟨gh, rfl, own, hb2⟩
    have bs2 := bel.size
    have bel3 := hb2
    replace hk := hk.later hb2
    replace hn := hn.later hb2
    replace ha := ha.later hb2
    replace hb := hb.later hb2
    replace h4 := h4.later hb2
    replace hbox := hbox.later hb2
    replace bel := below_step bel hb2
    clear hb2
    have hh := Bs.of_own own
    go_wp2_with fail
    refine (r11_Tag hbox hk hn ha hh HKb.out HKl.out HNb.out HNl.out bA.out (hidN_byt HKb.out HNb.out bB.out) (by have := lA.out; omega) (by rw [hidN_len]; have := lB.out; omega)).mono ?_
    rintro e w5 ⟨vt, rfl, own2, hb2⟩
    have ht := Bs.of_own own2
    replace own := own_laterA own hb2
    replace bel3 := below_step bel3 hb2
    replace h4 := h4.later hb2
    replace bel := below_step bel hb2
    clear hb2
    have bs3 := bel.size
    clear own2
    have q1 := nil_eq
    go_upto_region 10 with (first | (at_builtin; refine wpList_append_bs (by rfl) _ _ (by rfl) w3.heap.size _ B.length (hidN K N B) (by rfl) own _ (tagN K N A (hidN K N B)) (by rfl) ht (by rw [tagN_len]; have := lB.out; omega) (by have := own_under own (g := gh) rfl; have := own_ge16 own (j := gh) rfl; omega) ?_; intro v6 w6 own6 hgrow hat) | fail)
    have hb6 : Below w3.heap.size w5 w6 := Below.grown (Below.refl _ _) hgrow (by have := own_under own (g := gh) rfl; have := own_ge16 own (j := gh) rfl; omega) (fun g hg => own_ge16 own hg)
    replace bel := bel.trans (hb6.mono bs2)
    have h46 := h43.later (bel3.trans hb6)
    have h66 := Bs.of_own own6
    rw [sealN] at h46
    obtain ⟨X, hX⟩ : ∃ X, hidN K N B ++ tagN K N A (hidN K N B) = X := ⟨_, rfl⟩
    rw [hX] at h46 h66
    have x1 := conv_any h46
    have x2 := conv_any h66
    clear hX hgrow hat own6 own hb6 bel3 h43 h4 hk hn ha hb hbox hh ht
    go_wp2_with fail
    go_ret
    exact ⟨rfl, bel⟩
end Go.Proofs.Ytogbmekgmjmonaa
