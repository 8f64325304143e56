/- What the program's gcm answers: fault, Seal, Open. -/
import Derived.Test.YtogbmekgmjmonaaRows
import Derived.Test.YtogbmekgmjmonaaGcMask
import Derived.Test.YtogbmekgmjmonaaGcTagC
import Derived.Test.YtogbmekgmjmonaaMcSame
import Derived.Test.YtogbmekgmjmonaaCatG
import Derived.Deep.WholeRow
import Derived.Deep.RegionHeld3
import Derived.Deep.DeepCutAuto
import Derived.Deep.DeepFit
namespace Go.Proofs.Ytogbmekgmjmonaa
open Go.RowKit

set_option linter.unusedSimpArgs false in
set_option maxRecDepth 100000 in
set_option maxHeartbeats 1000000 in
theorem con_faultOk {kv nv av bv : Value} {K N AD B : List Int} {m : Nat} {w : World} (hk : Bs w kv K) (hn : Bs w nv N) (ha : Bs w av AD) (hb : Bs w bv B) (lK : K.length = 32) (lN : N.length = 12) (lA : AD.length ≤ 16777232) (lB : B.length ≤ m) :
    Calls Try.prog 14 #[kv, nv, av, bv, .int .i64 (m : Int)] w fun e w' => e = .returned .nilIface ∧ Below w.heap.size w w' := by
  obtain ⟨ko, kc, rfl, k1, k2, k3⟩ := hk
  obtain ⟨no, nc, rfl, n1, n2, n3⟩ := hn
  obtain ⟨ao, ac, rfl, a1, a2, a3⟩ := ha
  obtain ⟨bo, bc, rfl, b1, b2, b3⟩ := hb
  clear k3 n3 a3 b3
  unfold maxLen at k1 n1 a1 b1
  have g1 : ((K.length : Nat) : Int) = 32 := by omega
  have g2 : ((N.length : Nat) : Int) = 12 := by omega
  have g3 : ((AD.length : Nat) : Int) ≤ 16777232 := by omega
  have g4 : ((B.length : Nat) : Int) ≤ (m : Int) := by omega
  clear lK lN
  go_enter Try.func14, Try.ntmps14
  go_wp2_with fail
  go_ret
  exact ⟨rfl, Below.refl _ _⟩
set_option linter.unusedSimpArgs false in
set_option maxRecDepth 100000 in
set_option maxHeartbeats 1000000 in
theorem con_faultArg {kv nv av bv : Value} {K N AD B : List Int} {m : Nat} {w : World} (hk : Bs w kv K) (hn : Bs w nv N) (ha : Bs w av AD) (hb : Bs w bv B) (l : ¬ (K.length = 32 ∧ N.length = 12)) :
    Calls Try.prog 14 #[kv, nv, av, bv, .int .i64 (m : Int)] w fun e w' => e = .returned (.iface 29 (.int .i64 1)) ∧ Below w.heap.size w w' := by
  obtain ⟨ko, kc, rfl, k1, k2, k3⟩ := hk
  obtain ⟨no, nc, rfl, n1, n2, n3⟩ := hn
  obtain ⟨ao, ac, rfl, a1, a2, a3⟩ := ha
  obtain ⟨bo, bc, rfl, b1, b2, b3⟩ := hb
  clear k3 n3 a3 b3
  unfold maxLen at k1 n1 a1 b1
  by_cases h : K.length = 32
  · have g1 : ((K.length : Nat) : Int) = 32 := by omega
    have g2 : ¬ ((N.length : Nat) : Int) = 12 := by omega
    clear h l
    go_enter Try.func14, Try.ntmps14
    go_wp2_with fail
    go_ret
    exact ⟨rfl, Below.refl _ _⟩
  · have g1 : ¬ ((K.length : Nat) : Int) = 32 := by omega
    clear h l
    go_enter Try.func14, Try.ntmps14
    go_wp2_with fail
    go_ret
    exact ⟨rfl, Below.refl _ _⟩
set_option linter.unusedSimpArgs false in
set_option maxRecDepth 100000 in
set_option maxHeartbeats 1000000 in
theorem con_faultLong {kv nv av bv : Value} {K N AD B : List Int} {m : Nat} {w : World} (hk : Bs w kv K) (hn : Bs w nv N) (ha : Bs w av AD) (hb : Bs w bv B) (lK : K.length = 32) (lN : N.length = 12) (l : 16777232 < AD.length ∨ m < B.length) :
    Calls Try.prog 14 #[kv, nv, av, bv, .int .i64 (m : Int)] w fun e w' => e = .returned (.iface 29 (.int .i64 2)) ∧ Below w.heap.size w w' := by
  obtain ⟨ko, kc, rfl, k1, k2, k3⟩ := hk
  obtain ⟨no, nc, rfl, n1, n2, n3⟩ := hn
  obtain ⟨ao, ac, rfl, a1, a2, a3⟩ := ha
  obtain ⟨bo, bc, rfl, b1, b2, b3⟩ := hb
  clear k3 n3 a3 b3
  unfold maxLen at k1 n1 a1 b1
  have g1 : ((K.length : Nat) : Int) = 32 := by omega
  have g2 : ((N.length : Nat) : Int) = 12 := by omega
  clear lK lN
  by_cases h : 16777232 < AD.length
  · have g3 : (16777232 : Int) < ((AD.length : Nat) : Int) := by omega
    clear h l
    go_enter Try.func14, Try.ntmps14
    go_wp2_with fail
    go_ret
    exact ⟨rfl, Below.refl _ _⟩
  · have g3 : ¬ (16777232 : Int) < ((AD.length : Nat) : Int) := by omega
    have g4 : (m : Int) < ((B.length : Nat) : Int) := by omega
    clear h l
    go_enter Try.func14, Try.ntmps14
    go_wp2_with fail
    go_ret
    exact ⟨rfl, Below.refl _ _⟩
set_option linter.unusedSimpArgs false in
set_option maxRecDepth 100000 in
set_option maxHeartbeats 1000000 in
theorem con_SealArg {kv nv av bv : Value} {K N AD B : List Int} {w : World} (hk : Bs w kv K) (hn : Bs w nv N) (ha : Bs w av AD) (hb : Bs w bv B) (l : ¬ (K.length = 32 ∧ N.length = 12)) :
    Calls Try.prog 9 #[kv, nv, av, bv] w fun e w' => ∃ (ao : Option Addr) (cap : Nat), e = .returned (.tuple #[.slice ao 0 cap, .iface 29 (.int .i64 1)]) ∧ Below w.heap.size w w' := by
  go_enter Try.func9, Try.ntmps9
  go_wp2_with fail
  refine (con_faultArg (m := 16777216) hk hn ha hb l).mono ?_
  rintro e w1 ⟨rfl, hb1⟩
  go_wp2_with fail
  refine bodyPost_ret (results_tmp2 rfl _ _ _) rfl ?_
  exact ⟨_, _, rfl, hb1⟩
set_option linter.unusedSimpArgs false in
set_option maxRecDepth 100000 in
set_option maxHeartbeats 1000000 in
theorem con_SealLong {kv nv av bv : Value} {K N AD B : List Int} {w : World} (hk : Bs w kv K) (hn : Bs w nv N) (ha : Bs w av AD) (hb : Bs w bv B) (lK : K.length = 32) (lN : N.length = 12) (l : 16777232 < AD.length ∨ 16777216 < B.length) :
    Calls Try.prog 9 #[kv, nv, av, bv] w fun e w' => ∃ (ao : Option Addr) (cap : Nat), e = .returned (.tuple #[.slice ao 0 cap, .iface 29 (.int .i64 2)]) ∧ Below w.heap.size w w' := by
  go_enter Try.func9, Try.ntmps9
  go_wp2_with fail
  refine (con_faultLong (m := 16777216) hk hn ha hb lK lN l).mono ?_
  rintro e w1 ⟨rfl, hb1⟩
  go_wp2_with fail
  refine bodyPost_ret (results_tmp2 rfl _ _ _) rfl ?_
  exact ⟨_, _, rfl, hb1⟩
set_option linter.unusedSimpArgs false in
set_option maxRecDepth 100000 in
set_option maxHeartbeats 1000000 in
theorem con_OpenArg {kv nv av bv : Value} {K N AD B : List Int} {w : World} (hk : Bs w kv K) (hn : Bs w nv N) (ha : Bs w av AD) (hb : Bs w bv B) (l : ¬ (K.length = 32 ∧ N.length = 12)) :
    Calls Try.prog 13 #[kv, nv, av, bv] w fun e w' => ∃ (ao : Option Addr) (cap : Nat), e = .returned (.tuple #[.slice ao 0 cap, .iface 29 (.int .i64 1)]) ∧ Below w.heap.size w w' := by
  go_enter Try.func13, Try.ntmps13
  go_wp2_with fail
  refine (con_faultArg (m := 16777232) hk hn ha hb l).mono ?_
  rintro e w1 ⟨rfl, hb1⟩
  go_wp2_with fail
  refine bodyPost_ret (results_tmp2 rfl _ _ _) rfl ?_
  exact ⟨_, _, rfl, hb1⟩
set_option linter.unusedSimpArgs false in
set_option maxRecDepth 100000 in
set_option maxHeartbeats 1000000 in
theorem con_OpenLong {kv nv av bv : Value} {K N AD B : List Int} {w : World} (hk : Bs w kv K) (hn : Bs w nv N) (ha : Bs w av AD) (hb : Bs w bv B) (lK : K.length = 32) (lN : N.length = 12) (l : 16777232 < AD.length ∨ 16777232 < B.length) :
    Calls Try.prog 13 #[kv, nv, av, bv] w fun e w' => ∃ (ao : Option Addr) (cap : Nat), e = .returned (.tuple #[.slice ao 0 cap, .iface 29 (.int .i64 2)]) ∧ Below w.heap.size w w' := by
  go_enter Try.func13, Try.ntmps13
  go_wp2_with fail
  refine (con_faultLong (m := 16777232) hk hn ha hb lK lN l).mono ?_
  rintro e w1 ⟨rfl, hb1⟩
  go_wp2_with fail
  refine bodyPost_ret (results_tmp2 rfl _ _ _) rfl ?_
  exact ⟨_, _, rfl, hb1⟩
theorem bs_blkC {w : World} {g q : Nat} {P : List Int} (B : Blk w g (u8s P)) (l : P.length = q) (h : q ≤ maxLen) : Bs w (.slice (some ⟨g, 0, none⟩) q q) P :=
  ⟨some ⟨g, 0, none⟩, q, by rw [l], h, by omega, fun _ => ⟨g, 0, rfl, B.lt, fun j hj => by rw [Nat.zero_add]; exact B.cell j _ (u8s_get P j hj)⟩⟩
theorem FreshB.mono {w0 w w' : World} {v : Value} {X : List Int} (h : FreshB w w' v X) (hs : w0.heap.size ≤ w.heap.size) : FreshB w0 w' v X := by
  obtain ⟨g, o, cap, cur, h1, h2, h3, h4, h5⟩ := h
  exact ⟨g, o, cap, cur, h1, h2, h3, Nat.le_trans hs h4, h5⟩
theorem cat_twoC {w : World} {v1 v2 : Value} {A P : List Int} (h1 : Bs w v1 A) (h2 : Bs w v2 P) : CatOf w [v1, v2] [A, P] 2 := ⟨rfl, rfl, fun i hi => by
  match i, hi with
  | 0, _ => exact h1
  | 1, _ => exact h2⟩
theorem con_catF {gs : Nat} {v1 v2 : Value} {A P : List Int} {w : World} (Bk : Blk w gs [v1, v2]) (h1 : Bs w v1 A) (h2 : Bs w v2 P) (hp : 0 < A.length + P.length) (hl : A.length + P.length ≤ 1099511627776) :
    Calls Try.prog 17 #[.slice (some ⟨gs, 0, none⟩) 2 2] w fun e w' => ∃ v' : Value, e = .returned v' ∧ w'.ownsRow w.heap.size 5 1 v' (A ++ P).length (u8s (A ++ P)) ∧ Below w.heap.size w w' := by
  have e : [A, P].flatten = A ++ P := by simp
  refine (con_cat Bk (cat_twoC h1 h2) (by decide) (by rw [e, List.length_append]; exact hp) (by rw [e, List.length_append]; exact hl)).mono ?_
  rintro _ w' ⟨v', rfl, ho, hb⟩
  rw [e] at ho
  exact ⟨v', rfl, ho, hb⟩
set_option linter.unusedSimpArgs false in
set_option maxRecDepth 100000 in
set_option maxHeartbeats 2000000 in
theorem con_Seal {kv nv av bv : Value} {K N AD B : List Int} {w : World} (hk : Bs w kv K) (hn : Bs w nv N) (ha : Bs w av AD) (hb : Bs w bv B) (bK : byt K) (lK : K.length = 32) (bN : byt N) (lN : N.length = 12) (bA : byt AD) (bB : byt B) (lA : AD.length ≤ 16777232) (lB : B.length ≤ 16777216) :
    Calls Try.prog 9 #[kv, nv, av, bv] w fun e w' => ∃ v' : Value, e = .returned (.tuple #[v', .nilIface]) ∧ FreshB w w' v' (sealN K N AD B) ∧ Below w.heap.size w w' := by
  have HK : Hid (Bs w kv K) := hk
  have HN : Hid (Bs w nv N) := hn
  have HVA : Hid (Bs w av AD) := ha
  have HVB : Hid (Bs w bv B) := hb
  have HKb : Hid (byt K) := bK
  have HKl : Hid (K.length = 32) := lK
  have HNb : Hid (byt N) := bN
  have HNl : Hid (N.length = 12) := lN
  have HAb : Hid (byt AD) := bA
  have HBb : Hid (byt B) := bB
  have HLA : Hid (AD.length ≤ 16777232) := lA
  have HLB : Hid (B.length ≤ 16777216) := lB
  clear hk hn ha hb bK lK bN lN bA bB lA lB
  go_enter Try.func9, Try.ntmps9
  go_wp2_with fail
  refine (con_faultOk (m := 16777216) HK.out HN.out HVA.out HVB.out HKl.out HNl.out HLA.out HLB.out).mono ?_
  rintro e w1 ⟨rfl, bel⟩
  go_wp2_with fail
  refine (con_masked (HK.out.later bel) (HN.out.later bel) (HVB.out.later bel) HKb.out HKl.out HNb.out HNl.out (by have := HLB.out; omega)).mono ?_
  rintro e w2 ⟨g, rfl, own, hb⟩
  have HH : Hid (Bs w2 (.slice (some ⟨g, 0, none⟩) B.length B.length) (hidN K N B)) := Bs.of_own own
  replace bel := below_step bel hb
  clear own hb
  obtain ⟨C, hC⟩ : ∃ C, hidN K N B = C := ⟨_, rfl⟩
  have HCl : Hid (C.length = B.length) := by rw [← hC]; exact hidN_len _ _ _
  have HCb : Hid (byt C) := by rw [← hC]; exact hidN_byt HKb.out HNb.out HBb.out
  have HCe : Hid (hidN K N B = C) := hC
  rw [hC] at HH
  clear hC
  go_wp2_with fail
  refine (con_tagOf (HK.out.later bel) (HN.out.later bel) (HVA.out.later bel) HH.out HKb.out HKl.out HNb.out HNl.out HAb.out HCb.out (by have := HLA.out; omega) (by have := HLB.out; have := HCl.out; omega)).mono ?_
  rintro e w3 ⟨g2, rfl, BT, hg2, hb⟩
  have HT : Hid (Bs w3 (.slice (some ⟨g2, 0, none⟩) 16 16) (tagN K N AD C)) := bs_blkC BT (tagN_len _ _ _ _) (by unfold maxLen; omega)
  replace HH : Hid (Bs w3 (.slice (some ⟨g, 0, none⟩) B.length B.length) C) := HH.out.later hb
  replace bel := below_step bel hb
  clear BT hg2 hb
  have BN := Blk.new w3 [.slice (some ⟨g, 0, none⟩) B.length B.length, .slice (some ⟨g2, 0, none⟩) 16 16] 22 w3.heap.size rfl
  have st := (Below.refl w3.heap.size w3).alloc (Nat.le_refl _) (.cells #[.slice (some ⟨g, 0, none⟩) B.length B.length, .slice (some ⟨g2, 0, none⟩) 16 16] 22)
  replace HT : Hid _ := HT.out.later st
  replace HH : Hid _ := HH.out.later st
  replace bel := below_step bel st
  clear st
  go_wp2_with fail
  refine (con_catF BN HH.out HT.out (by rw [tagN_len]; omega) (by rw [tagN_len, HCl.out]; have := HLB.out; omega)).mono ?_
  rintro e w5 ⟨v5, rfl, own, hb⟩
  have fr := (FreshB.of_own own (by rw [List.length_append, tagN_len]; omega)).mono bel.size
  replace bel := below_step bel hb
  clear hb BN HH HT own
  go_wp2_with fail
  refine bodyPost_ret (results_tmp2 rfl _ _ _) rfl ?_
  exact ⟨_, rfl, by rw [sealN, HCe.out]; exact fr, bel⟩
set_option linter.unusedSimpArgs false in
set_option maxRecDepth 100000 in
set_option maxHeartbeats 2000000 in
theorem con_Open {kv nv av bv : Value} {K N AD B : List Int} {w : World} (hk : Bs w kv K) (hn : Bs w nv N) (ha : Bs w av AD) (hb : Bs w bv B) (bK : byt K) (lK : K.length = 32) (bN : byt N) (lN : N.length = 12) (bA : byt AD) (bB : byt B) (lA : AD.length ≤ 16777232) (lB : B.length ≤ 16777232) (l16 : 16 ≤ B.length) (ht : B.drop (B.length - 16) = tagN K N AD (B.take (B.length - 16))) :
    Calls Try.prog 13 #[kv, nv, av, bv] w fun e w' => ∃ v' : Value, e = .returned (.tuple #[v', .nilIface]) ∧ Bs w' v' (hidN K N (B.take (B.length - 16))) ∧ Below w.heap.size w w' := by
  have HK : Hid (Bs w kv K) := hk
  have HN : Hid (Bs w nv N) := hn
  have HVA : Hid (Bs w av AD) := ha
  have HVB : Hid (Bs w bv B) := hb
  have HKb : Hid (byt K) := bK
  have HKl : Hid (K.length = 32) := lK
  have HNb : Hid (byt N) := bN
  have HNl : Hid (N.length = 12) := lN
  have HAb : Hid (byt AD) := bA
  have HBb : Hid (byt B) := bB
  have HLA : Hid (AD.length ≤ 16777232) := lA
  have HLB : Hid (B.length ≤ 16777232) := lB
  have h16 := l16
  have lB9 := lB
  obtain ⟨E, hE⟩ : ∃ E, B.length - 16 = E := ⟨_, rfl⟩
  rw [hE] at ht ⊢
  have HD : Hid (decide (tagN K N AD (B.take E) = B.drop E) = true) := decide_eq_true ht.symm
  clear hk hn ha hb bK lK bN lN bA bB lA lB ht l16
  obtain ⟨bo, bc, rfl, b1, b2, b3⟩ := HVB.out
  obtain ⟨b, o, rfl, -, -⟩ := b3 (by omega)
  clear b3
  unfold maxLen at b1
  have g1 : ¬ ((B.length : Nat) : Int) < 16 := by omega
  have g2 : IntKind.i64.wrap (((B.length : Nat) : Int) - 16) = (E : Int) := by rw [IntKind.wrap_i64]; omega
  have g3 : (0 : Int) ≤ (E : Int) := by omega
  have g4 : E ≤ bc := by omega
  have g5 : E ≤ B.length := by omega
  have g6 : (E : Int) ≤ (bc : Int) := by omega
  have g7 : (E : Int) ≤ ((B.length : Nat) : Int) := by omega
  have g8 : ¬ bc = E := by omega
  have HTk : Hid ((B.take E).length = E) := by show _ = _; rw [List.length_take]; omega
  have HE1 : Hid (Bs w (.slice (some ⟨b, o, none⟩) E bc) (B.take E)) := bs_uptoC HVB.out rfl g5
  have HE2 : Hid (Bs w (.slice (some ⟨b, o + E, none⟩) (B.length - E) (bc - E)) (B.drop E)) := bs_dropC HVB.out rfl (by omega)
  go_enter Try.func13, Try.ntmps13
  go_wp2_with fail
  refine (con_faultOk (m := 16777232) HK.out HN.out HVA.out HVB.out HKl.out HNl.out HLA.out HLB.out).mono ?_
  rintro e w1 ⟨rfl, bel⟩
  go_wp2_with fail
  refine (con_tagOf (HK.out.later bel) (HN.out.later bel) (HVA.out.later bel) (HE1.out.later bel) HKb.out HKl.out HNb.out HNl.out HAb.out (byt_takeC HBb.out E) (by have := HLA.out; omega) (by rw [HTk.out]; omega)).mono ?_
  rintro e w2 ⟨g, rfl, BT, hg, hb⟩
  have HT : Hid (Bs w2 (.slice (some ⟨g, 0, none⟩) 16 16) (tagN K N AD (B.take E))) := bs_blkC BT (tagN_len _ _ _ _) (by unfold maxLen; omega)
  replace bel := below_step bel hb
  clear BT hg hb
  go_wp2_with fail
  refine (con_Same HT.out (tagN_byt HKb.out HNb.out) (HE2.out.later bel) (byt_dropC HBb.out E)).mono ?_
  rintro e w3 ⟨rfl, hb⟩
  rw [HD.out]
  replace bel := below_step bel hb
  clear hb HT HD
  go_wp2_with fail
  refine (con_masked (HK.out.later bel) (HN.out.later bel) (HE1.out.later bel) HKb.out HKl.out HNb.out HNl.out (by rw [HTk.out]; omega)).mono ?_
  rintro e w4 ⟨g9, rfl, own, hb⟩
  rw [HTk.out] at own ⊢
  have HH : Hid (Bs w4 (.slice (some ⟨g9, 0, none⟩) E E) (hidN K N (B.take E))) := Bs.of_own own
  replace bel := below_step bel hb
  clear own hb
  go_wp2_with fail
  refine bodyPost_ret (results_tmp2 rfl _ _ _) rfl ?_
  exact ⟨_, rfl, HH.out, bel⟩
set_option linter.unusedSimpArgs false in
set_option maxRecDepth 100000 in
set_option maxHeartbeats 2000000 in
theorem con_OpenTag {kv nv av bv : Value} {K N AD B : List Int} {w : World} (hk : Bs w kv K) (hn : Bs w nv N) (ha : Bs w av AD) (hb : Bs w bv B) (bK : byt K) (lK : K.length = 32) (bN : byt N) (lN : N.length = 12) (bA : byt AD) (bB : byt B) (lA : AD.length ≤ 16777232) (lB : B.length ≤ 16777232) (l16 : 16 ≤ B.length) (ht : ¬ B.drop (B.length - 16) = tagN K N AD (B.take (B.length - 16))) :
    Calls Try.prog 13 #[kv, nv, av, bv] w fun e w' => ∃ (ao : Option Addr) (cap : Nat), e = .returned (.tuple #[.slice ao 0 cap, .iface 29 (.int .i64 5)]) ∧ Below w.heap.size w w' := by
  have HK : Hid (Bs w kv K) := hk
  have HN : Hid (Bs w nv N) := hn
  have HVA : Hid (Bs w av AD) := ha
  have HVB : Hid (Bs w bv B) := hb
  have HKb : Hid (byt K) := bK
  have HKl : Hid (K.length = 32) := lK
  have HNb : Hid (byt N) := bN
  have HNl : Hid (N.length = 12) := lN
  have HAb : Hid (byt AD) := bA
  have HBb : Hid (byt B) := bB
  have HLA : Hid (AD.length ≤ 16777232) := lA
  have HLB : Hid (B.length ≤ 16777232) := lB
  have h16 := l16
  have lB9 := lB
  obtain ⟨E, hE⟩ : ∃ E, B.length - 16 = E := ⟨_, rfl⟩
  rw [hE] at ht
  have HD : Hid (decide (tagN K N AD (B.take E) = B.drop E) = false) := decide_eq_false fun h => ht h.symm
  clear hk hn ha hb bK lK bN lN bA bB lA lB ht l16
  obtain ⟨bo, bc, rfl, b1, b2, b3⟩ := HVB.out
  obtain ⟨b, o, rfl, -, -⟩ := b3 (by omega)
  clear b3
  unfold maxLen at b1
  have g1 : ¬ ((B.length : Nat) : Int) < 16 := by omega
  have g2 : IntKind.i64.wrap (((B.length : Nat) : Int) - 16) = (E : Int) := by rw [IntKind.wrap_i64]; omega
  have g3 : (0 : Int) ≤ (E : Int) := by omega
  have g4 : E ≤ bc := by omega
  have g5 : E ≤ B.length := by omega
  have g6 : (E : Int) ≤ (bc : Int) := by omega
  have g7 : (E : Int) ≤ ((B.length : Nat) : Int) := by omega
  have g8 : ¬ bc = E := by omega
  have HTk : Hid ((B.take E).length = E) := by show _ = _; rw [List.length_take]; omega
  have HE1 : Hid (Bs w (.slice (some ⟨b, o, none⟩) E bc) (B.take E)) := bs_uptoC HVB.out rfl g5
  have HE2 : Hid (Bs w (.slice (some ⟨b, o + E, none⟩) (B.length - E) (bc - E)) (B.drop E)) := bs_dropC HVB.out rfl (by omega)
  go_enter Try.func13, Try.ntmps13
  go_wp2_with fail
  refine (con_faultOk (m := 16777232) HK.out HN.out HVA.out HVB.out HKl.out HNl.out HLA.out HLB.out).mono ?_
  rintro e w1 ⟨rfl, bel⟩
  go_wp2_with fail
  refine (con_tagOf (HK.out.later bel) (HN.out.later bel) (HVA.out.later bel) (HE1.out.later bel) HKb.out HKl.out HNb.out HNl.out HAb.out (byt_takeC HBb.out E) (by have := HLA.out; omega) (by rw [HTk.out]; omega)).mono ?_
  rintro e w2 ⟨g, rfl, BT, hg, hb⟩
  have HT : Hid (Bs w2 (.slice (some ⟨g, 0, none⟩) 16 16) (tagN K N AD (B.take E))) := bs_blkC BT (tagN_len _ _ _ _) (by unfold maxLen; omega)
  replace bel := below_step bel hb
  clear BT hg hb
  go_wp2_with fail
  refine (con_Same HT.out (tagN_byt HKb.out HNb.out) (HE2.out.later bel) (byt_dropC HBb.out E)).mono ?_
  rintro e w3 ⟨rfl, hb⟩
  rw [HD.out]
  replace bel := below_step bel hb
  clear hb HT HD
  go_wp2_with fail
  refine bodyPost_ret (results_tmp2 rfl _ _ _) rfl ?_
  exact ⟨_, _, rfl, bel⟩
set_option linter.unusedSimpArgs false in
set_option maxRecDepth 100000 in
set_option maxHeartbeats 2000000 in
theorem con_OpenShort {kv nv av bv : Value} {K N AD B : List Int} {w : World} (hk : Bs w kv K) (hn : Bs w nv N) (ha : Bs w av AD) (hb : Bs w bv B) (lK : K.length = 32) (lN : N.length = 12) (lA : AD.length ≤ 16777232) (lB : B.length < 16) :
    Calls Try.prog 13 #[kv, nv, av, bv] w fun e w' => ∃ (ao : Option Addr) (cap : Nat), e = .returned (.tuple #[.slice ao 0 cap, .iface 29 (.int .i64 6)]) ∧ Below w.heap.size w w' := by
  have HVB : Hid (Bs w bv B) := hb
  have fit := con_faultOk (m := 16777232) hk hn ha hb lK lN lA (by omega)
  clear hk hn ha lK lN lA
  obtain ⟨bo, bc, rfl, b1, b2, b3⟩ := hb
  clear b3
  unfold maxLen at b1
  have g1 : ((B.length : Nat) : Int) < 16 := by omega
  go_enter Try.func13, Try.ntmps13
  go_wp2_with fail
  refine fit.mono ?_
  rintro e w1 ⟨rfl, bel⟩
  go_wp2_with fail
  refine bodyPost_ret (results_tmp2 rfl _ _ _) rfl ?_
  exact ⟨_, _, rfl, bel⟩
end Go.Proofs.Ytogbmekgmjmonaa
