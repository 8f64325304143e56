/- The law's head of layer 12. -/
import Derived.Test.YthbncblhkohomabDoorRows
import Derived.Test.YthbncblhkohomabDoorDrCode
import Derived.Test.YthbncblhkohomabDoorSConv
import Derived.Deep.WholeRow
import Derived.Deep.RegionHeld3
import Derived.Deep.DeepCutAuto
import Derived.Deep.DeepFit
namespace Go.Proofs.YthbncblhkohomabDoor
open Go.RowKit

theorem up_b1 : byt [48, 3, 2, 1, 5] := byt_of _ (fun j hj => by
  have : j = 0 ∨ j = 1 ∨ j = 2 ∨ j = 3 ∨ j = 4 := by simp at hj; omega
  rcases this with rfl | rfl | rfl | rfl | rfl <;> decide)
theorem up_b2 : byt [2, 128] := byt_of _ (fun j hj => by
  have : j = 0 ∨ j = 1 := by simp at hj; omega
  rcases this with rfl | rfl <;> decide)
theorem up_b3 : byt [5, 0, 0] := byt_of _ (fun j hj => by
  have : j = 0 ∨ j = 1 ∨ j = 2 := by simp at hj; omega
  rcases this with rfl | rfl | rfl <;> decide)
theorem up_b4 : byt [] := fun j => by simp
theorem up_1 : parseP [48, 3, 2, 1, 5] = .ok (.mk 0 16 true [] [.mk 0 2 false [5] []]) := by kernel_rfl
theorem up_2 : parseP [2, 128] = .error (7, 1) := by kernel_rfl
theorem up_3 : parseP [5, 0, 0] = .error (8, 2) := by kernel_rfl
theorem up_4 : parseP [] = .error (6, 0) := by kernel_rfl
theorem bs_noneD (w : World) : Bs w (.slice none 0 0) [] := ⟨none, 0, rfl, by decide, by decide, fun h => by simp at h⟩
set_option linter.unusedSimpArgs false in
set_option maxRecDepth 100000 in
set_option maxHeartbeats 1000000 in
theorem con_up {w : World} (G : GlsE w) :
    Calls Tryd.prog 4 #[] w fun e w' => e = .returned (.bool true) ∧ Below w.heap.size w w' := by
  have hz := zero_tlv.out
  have bs1 := bs_lits w [48, 3, 2, 1, 5] (by decide)
  have bel : Below w.heap.size w (w.alloc (.cells (u8s [48, 3, 2, 1, 5]).toArray 5)) := (Below.refl _ _).alloc (Nat.le_refl _) _
  have HG : Hid (GlsE w) := G
  clear G
  go_enter Tryd.func4, Tryd.ntmps4
  go_wp2_with fail
  refine (con_Parse bs1 up_b1).mono ?_
  rintro e w1 ⟨hok, hbad⟩
  obtain ⟨ca, rfl, hdep, hb⟩ := hok _ up_1
  replace bel := below_stepD bel hb
  have TA := hdep.now
  have HOca : Hid (OneC ca) := TA.ones
  have HSca : Hid (ca.toArray.size = 5) := by show _ = _; rw [List.size_toArray]; exact TA.five
  clear hok hbad hdep hb bs1
  go_upto_region 2 with (first | (refine wpList_store_row rfl 25 _ _ rfl w1.heap.size ca.toArray rfl rfl 25 _ (heap_alloc_last _ _) (by rw [size_tlv, HSca.out]) (by rw [HSca.out]; rfl) HOca.out ?_; rw [World.setRow_alloc_new]) | fail)
  replace bel := below_alloc (o := .cells ca.toArray 25) bel
  have KBca := Blk.new w1 ca 25 w1.heap.size rfl
  obtain ⟨ga, hgga⟩ : ∃ g, g = w1.heap.size := ⟨_, rfl⟩
  rw [← hgga] at KBca ⊢
  have hbx := (Below.refl _ _).alloc (Nat.le_refl _) (.cells ca.toArray 25) (w := w1) (B := w1.heap.size)
  generalize w1.alloc (.cells ca.toArray 25) = w2 at *
  clear hgga
  replace TA := TA.later hbx
  clear hbx
  have bs2 := bs_lits w2 [2, 128] (by decide)
  have hbx := (Below.refl _ _).alloc (Nat.le_refl _) (.cells (u8s [2, 128]).toArray 5) (w := w2) (B := w2.heap.size)
  replace TA := TA.later hbx
  replace KBca := KBca.later hbx
  replace bel := below_stepD bel hbx
  clear hbx
  go_wp2_with fail
  refine (con_Parse bs2 up_b2).mono ?_
  rintro e w3 ⟨hok, hbad⟩
  obtain ⟨cb, er2, rfl, TZ, hEr, _, hb⟩ := hbad _ _ up_2
  obtain ⟨s2, rfl, SB2⟩ := hEr.spot (by decide)
  replace TA := TA.later hb
  replace KBca := KBca.later hb
  replace bel := below_stepD bel hb
  have HOcb : Hid (OneC cb) := TZ.ones
  have HScb : Hid (cb.toArray.size = 5) := by show _ = _; rw [List.size_toArray]; exact TZ.five
  clear hok hbad hEr TZ hb bs2
  go_upto_region 3 with (first | (refine wpList_store_row rfl 25 _ _ rfl w3.heap.size cb.toArray rfl rfl 25 _ (heap_alloc_last _ _) (by rw [size_tlv, HScb.out]) (by rw [HScb.out]; rfl) HOcb.out ?_; rw [World.setRow_alloc_new]) | fail)
  replace bel := below_alloc (o := .cells cb.toArray 25) bel
  have KBcb := Blk.new w3 cb 25 w3.heap.size rfl
  obtain ⟨gb, hggb⟩ : ∃ g, g = w3.heap.size := ⟨_, rfl⟩
  rw [← hggb] at KBcb ⊢
  have hbx := (Below.refl _ _).alloc (Nat.le_refl _) (.cells cb.toArray 25) (w := w3) (B := w3.heap.size)
  generalize w3.alloc (.cells cb.toArray 25) = w4 at *
  clear hggb
  replace TA := TA.later hbx
  replace KBca := KBca.later hbx
  replace SB2 := SB2.later hbx
  clear hbx KBcb
  have bs3 := bs_lits w4 [5, 0, 0] (by decide)
  have hbx := (Below.refl _ _).alloc (Nat.le_refl _) (.cells (u8s [5, 0, 0]).toArray 5) (w := w4) (B := w4.heap.size)
  replace TA := TA.later hbx
  replace KBca := KBca.later hbx
  replace SB2 := SB2.later hbx
  replace bel := below_stepD bel hbx
  clear hbx
  go_wp2_with fail
  refine (con_Parse bs3 up_b3).mono ?_
  rintro e w5 ⟨hok, hbad⟩
  obtain ⟨cc, er3, rfl, TZ, hEr, _, hb⟩ := hbad _ _ up_3
  obtain ⟨s3, rfl, SB3⟩ := hEr.spot (by decide)
  replace TA := TA.later hb
  replace KBca := KBca.later hb
  replace SB2 := SB2.later hb
  replace bel := below_stepD bel hb
  have HOcc : Hid (OneC cc) := TZ.ones
  have HScc : Hid (cc.toArray.size = 5) := by show _ = _; rw [List.size_toArray]; exact TZ.five
  clear hok hbad hEr TZ hb bs3
  go_upto_region 4 with (first | (refine wpList_store_row rfl 25 _ _ rfl w5.heap.size cc.toArray rfl rfl 25 _ (heap_alloc_last _ _) (by rw [size_tlv, HScc.out]) (by rw [HScc.out]; rfl) HOcc.out ?_; rw [World.setRow_alloc_new]) | fail)
  replace bel := below_alloc (o := .cells cc.toArray 25) bel
  have KBcc := Blk.new w5 cc 25 w5.heap.size rfl
  obtain ⟨gc, hggc⟩ : ∃ g, g = w5.heap.size := ⟨_, rfl⟩
  rw [← hggc] at KBcc ⊢
  have hbx := (Below.refl _ _).alloc (Nat.le_refl _) (.cells cc.toArray 25) (w := w5) (B := w5.heap.size)
  generalize w5.alloc (.cells cc.toArray 25) = w6 at *
  clear hggc
  replace TA := TA.later hbx
  replace KBca := KBca.later hbx
  replace SB2 := SB2.later hbx
  replace SB3 := SB3.later hbx
  clear hbx KBcc
  go_wp2_with fail
  refine (con_Parse (bs_noneD w6) up_b4).mono ?_
  rintro e w7 ⟨hok, hbad⟩
  obtain ⟨cd, er4, rfl, TZ, hEr, _, hb⟩ := hbad _ _ up_4
  obtain ⟨s4, rfl, SB4⟩ := hEr.spot (by decide)
  replace TA := TA.later hb
  replace KBca := KBca.later hb
  replace SB2 := SB2.later hb
  replace SB3 := SB3.later hb
  replace bel := below_stepD bel hb
  have HOcd : Hid (OneC cd) := TZ.ones
  have HScd : Hid (cd.toArray.size = 5) := by show _ = _; rw [List.size_toArray]; exact TZ.five
  clear hok hbad hEr TZ hb
  go_upto_region 5 with (first | (refine wpList_store_row rfl 25 _ _ rfl w7.heap.size cd.toArray rfl rfl 25 _ (heap_alloc_last _ _) (by rw [size_tlv, HScd.out]) (by rw [HScd.out]; rfl) HOcd.out ?_; rw [World.setRow_alloc_new]) | fail)
  replace bel := below_alloc (o := .cells cd.toArray 25) bel
  have KBcd := Blk.new w7 cd 25 w7.heap.size rfl
  obtain ⟨gd, hggd⟩ : ∃ g, g = w7.heap.size := ⟨_, rfl⟩
  rw [← hggd] at KBcd ⊢
  have hbx := (Below.refl _ _).alloc (Nat.le_refl _) (.cells cd.toArray 25) (w := w7) (B := w7.heap.size)
  generalize w7.alloc (.cells cd.toArray 25) = w8 at *
  clear hggd
  replace TA := TA.later hbx
  replace KBca := KBca.later hbx
  replace SB2 := SB2.later hbx
  replace SB3 := SB3.later hbx
  replace SB4 := SB4.later hbx
  clear hbx KBcd
  clear hz
  go_wp2_with fail
  refine (con_IsSpot (HG.out.below bel) SB2).mono ?_
  rintro e w9 ⟨rfl, hb⟩
  replace TA := TA.later hb
  replace KBca := KBca.later hb
  replace SB3 := SB3.later hb
  replace SB4 := SB4.later hb
  replace bel := below_stepD bel hb
  clear hb SB2
  go_wp2_with fail
  refine (con_IsSpot (HG.out.below bel) SB3).mono ?_
  rintro e w10 ⟨rfl, hb⟩
  replace TA := TA.later hb
  replace KBca := KBca.later hb
  replace SB4 := SB4.later hb
  replace bel := below_stepD bel hb
  clear hb SB3
  go_wp2_with fail
  refine (con_IsSpot (HG.out.below bel) SB4).mono ?_
  rintro e w11 ⟨rfl, hb⟩
  replace TA := TA.later hb
  replace KBca := KBca.later hb
  replace bel := below_stepD bel hb
  clear hb SB4
  rw [TlAt] at TA
  obtain ⟨bv, ao, cap, hcs, hbv, k1, k2, k3⟩ := TA
  subst hcs
  obtain ⟨gk, ok, rfl, hks⟩ := k3 (by simp)
  rw [KidsAt] at hks
  obtain ⟨⟨ck, hck, htk⟩, _⟩ := hks
  rw [TlAt] at htk
  obtain ⟨bk, ak, capk, hcsk, hbk, _⟩ := htk
  subst hcsk
  have e2 := KBca.cell 2 _ rfl
  have e4 := KBca.cell 4 _ rfl
  have lk := KBca.lt
  have ek := hck.2 3 _ rfl
  have lgk := hck.1
  have hcv := conv_any hbk
  have hs5 : strOfNums [5] = ⟨#[5]⟩ := by decide +kernel
  rw [hs5] at hcv
  clear hs5 hck k3
  have q := eq_nilcode 0
  simp only [List.length_cons, List.length_nil] at e4 k1
  go_wp2_with fail
  go_ret
  exact ⟨rfl, bel⟩
end Go.Proofs.YthbncblhkohomabDoor
