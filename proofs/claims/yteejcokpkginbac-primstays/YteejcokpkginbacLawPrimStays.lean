/- The law PrimStays answers true. -/
import Derived.Test.YteejcokpkginbacRows
import Derived.Test.YteejcokpkginbacPmStay
import Derived.Test.YteejcokpkginbacPmCut
import Derived.Test.YteejcokpkginbacApUs
import Derived.Test.YteejcokpkginbacPmLaw0
import Derived.Deep.OwnRows
import Derived.Deep.AppendLies
import Derived.Deep.WholeRow
import Derived.Deep.RegionHeld3
import Derived.Deep.DeepCutAuto
import Derived.Deep.DeepFit
namespace Go.Proofs.Yteejcokpkginbac
open Go.RowKit

theorem own_geU0 {w : World} {base : Nat} {e : TypeId} {v : Value} {n : Nat} {xs : List Value} {j : Nat} (h : w.ownsRow base e 1 v n xs) (hj : v.ownBlock = some j) : base ≤ j := by
  rcases h.2 with ⟨h1, _⟩ | ⟨g, c, cur, h1, h2, _⟩
  · rw [h1] at hj; simp [Value.ownBlock] at hj
  · rw [h1] at hj; simp [Value.ownBlock] at hj; omega
theorem Blk.set0 {w : World} {g : Nat} {cs : List Value} (B : Blk w g cs) (i : Nat) (x : Value) : Blk (w.setCell ⟨g, i, none⟩ x) g (cs.set i x) := by
  obtain ⟨t, h⟩ := B
  refine ⟨t, ?_⟩
  simp [World.setCell, Array.getElem?_modify, h]
set_option linter.unusedSimpArgs false in
set_option maxRecDepth 100000 in
set_option maxHeartbeats 4000000 in
theorem law_primStays (v : Value) (B : List Int) (lv : Value) (L : List Int) (w : World) (hv : Bs w v B) (b : byt B) (hl : B.length ≤ 140737488351232) (hlv : Us w lv L) (bl : wrd L) (hll : L.length ≤ 17592186043904) :
    Calls Try.prog 3 #[v, lv] w fun e w' => e = .returned (.bool true) ∧ Below w.heap.size w w' := by
  have HB : Hid (byt B) := b
  have HL : Hid (wrd L) := bl
  clear b bl
  obtain ⟨Xn, eXn⟩ : ∃ X, ansL (numP B) = X := ⟨_, rfl⟩
  obtain ⟨Xm, eXm⟩ : ∃ X, ansL (numOf B) = X := ⟨_, rfl⟩
  obtain ⟨Xo, eXo⟩ : ∃ X, ansL (oidP B) = X := ⟨_, rfl⟩
  obtain ⟨Xb, eXb⟩ : ∃ X, ansB (bitsP B) = X := ⟨_, rfl⟩
  obtain ⟨Xs, eXs⟩ : ∃ X, ansL (textP B) = X := ⟨_, rfl⟩
  have hXo : Hid (Xo.length ≤ 16) := by rw [← eXo]; exact oid_ans B
  have EXn : Hid _ := eXn
  have EXm : Hid _ := eXm
  have EXo : Hid _ := eXo
  have EXb : Hid _ := eXb
  have EXs : Hid _ := eXs
  clear eXn eXm eXo eXb eXs
  have st : Below w.heap.size w (w.alloc (.cells #[.int .u8 0, .int .u8 128] 5)) := (Below.refl _ _).alloc (Nat.le_refl _) _
  have c0 := bs_list w [0, 128] 2 rfl (by decide)
  go_enter Try.func3, Try.ntmps3
  go_wp2_with fail
  refine (con_Number c0 (byt_of _ (fun j hj => by match j, hj with | 0, _ => exact ⟨by decide, by decide⟩ | 1, _ => exact ⟨by decide, by decide⟩)) (by decide)).mono ?_
  rintro e w1 ⟨hok, -⟩
  obtain ⟨v1, rfl, x1, -, hb⟩ := hok [128] (by rfl)
  have bel := st.trans (hb.mono st.size)
  have hv1 := hv.later bel
  clear hok hb c0 st
  have own0 := own_made w1 [] 5 0 w1.heap.size rfl (Nat.le_refl _) (by decide)
  have st2 : Below w1.heap.size w1 (w1.alloc (.cells #[] 5)) := (Below.refl _ _).alloc (Nat.le_refl _) _
  have hv2 := hv1.later st2
  go_upto_region 3 with (first | (at_builtin; refine wpList_append_bs (by rfl) _ _ (by rfl) w1.heap.size _ 0 [] (by rfl) own0 _ B (by rfl) hv2 (by omega) (by simp) ?_; intro vo w2 own2 hgrow hat) | fail)
  rw [Nat.zero_add, List.nil_append] at own2
  have hb := below_own (base := w1.heap.size) st2 hgrow (by simp) (fun g hg => own_geM own0 hg) (Nat.le_refl _)
  have ho := Bs.of_own own2
  have x2 := x1.later hb
  have bel2 := below_step bel hb
  have s12 := hb.size
  clear hb st2 hv2 own0 hgrow hat
  by_cases h0 : B.length = 0
  · obtain rfl : B = [] := List.eq_nil_of_length_eq_zero h0
    clear h0
    have ho0 := ho
    obtain ⟨oo, oc, rfl, o1, o2, o3⟩ := ho0
    clear o3 own2
    replace ho : Bs w2 (.slice oo 0 oc) [] := ho
    have hvw := hv.later bel2
    have hlw := hlv.later bel2
    have bel := bel2
    clear bel2
    go_wp2_with fail
    refine (any_Number ho HB.out (by omega)).mono ?_
    rintro e w3 ⟨vn1, ern1, rfl, yn1, nn1, hb⟩
    rw [EXn.out] at yn1
    replace ho := ho.later hb
    replace x2 := x2.later hb
    replace hvw := hvw.later hb
    replace hlw := hlw.later hb
    replace bel := below_step bel hb
    clear hb nn1
    go_wp2_with fail
    refine (any_NumberOf ho HB.out (by omega)).mono ?_
    rintro e w4 ⟨vm1, erm1, rfl, ym1, nm1, hb⟩
    rw [EXm.out] at ym1
    replace ho := ho.later hb
    replace x2 := x2.later hb
    replace hvw := hvw.later hb
    replace hlw := hlw.later hb
    replace yn1 := yn1.later hb
    replace bel := below_step bel hb
    clear hb nm1
    go_wp2_with fail
    refine (any_Oid ho HB.out hl).mono ?_
    rintro e w5 ⟨vo1, ero1, rfl, yo1, no1, hb⟩
    rw [EXo.out] at yo1
    replace ho := ho.later hb
    replace x2 := x2.later hb
    replace hvw := hvw.later hb
    replace hlw := hlw.later hb
    replace yn1 := yn1.later hb
    replace ym1 := ym1.later hb
    replace bel := below_step bel hb
    clear hb no1
    go_wp2_with fail
    refine (any_Bits ho HB.out (by omega)).mono ?_
    rintro e w6 ⟨vb1, k1, erb1, rfl, yb1, nb1, hb⟩
    rw [EXb.out] at yb1
    replace ho := ho.later hb
    replace x2 := x2.later hb
    replace hvw := hvw.later hb
    replace hlw := hlw.later hb
    replace yn1 := yn1.later hb
    replace ym1 := ym1.later hb
    replace yo1 := yo1.later hb
    replace bel := below_step bel hb
    clear hb nb1
    go_wp2_with fail
    refine (any_Text ho HB.out).mono ?_
    rintro e w7 ⟨ers1, rfl, hb⟩
    rw [EXs.out]
    replace ho := ho.later hb
    replace x2 := x2.later hb
    replace hvw := hvw.later hb
    replace hlw := hlw.later hb
    replace yn1 := yn1.later hb
    replace ym1 := ym1.later hb
    replace yo1 := yo1.later hb
    replace yb1 := yb1.later hb
    replace bel := below_step bel hb
    clear hb
    have t1 := conv_any ho
    have t2 := conv_any hvw
    go_wp2_with fail
    clear t1 t2 ho
    go_loopw [20] (fun iv wx => iv = .int .i64 0 ∧ wx = w7) (fun _ _ => 0)
    case atStart => exact ⟨rfl, rfl⟩
    case round =>
      obtain ⟨rfl, hw⟩ := hrel
      rw [hw]
      clear hw
      go_wp2_with fail
      refine (any_Number hvw HB.out (by omega)).mono ?_
      rintro e w13 ⟨vn2, ern2, rfl, yn2, nn2, hb⟩
      rw [EXn.out] at yn2
      replace x2 := x2.later hb
      replace hvw := hvw.later hb
      replace hlw := hlw.later hb
      replace yn1 := yn1.later hb
      replace ym1 := ym1.later hb
      replace yo1 := yo1.later hb
      replace yb1 := yb1.later hb
      replace bel := below_step bel hb
      clear hb nn2
      go_wp2_with fail
      refine (any_NumberOf hvw HB.out (by omega)).mono ?_
      rintro e w14 ⟨vm2, erm2, rfl, ym2, nm2, hb⟩
      rw [EXm.out] at ym2
      replace x2 := x2.later hb
      replace hvw := hvw.later hb
      replace hlw := hlw.later hb
      replace yn1 := yn1.later hb
      replace ym1 := ym1.later hb
      replace yo1 := yo1.later hb
      replace yb1 := yb1.later hb
      replace yn2 := yn2.later hb
      replace bel := below_step bel hb
      clear hb nm2
      go_wp2_with fail
      refine (any_Oid hvw HB.out hl).mono ?_
      rintro e w15 ⟨vo2, ero2, rfl, yo2, no2, hb⟩
      rw [EXo.out] at yo2
      replace x2 := x2.later hb
      replace hvw := hvw.later hb
      replace hlw := hlw.later hb
      replace yn1 := yn1.later hb
      replace ym1 := ym1.later hb
      replace yo1 := yo1.later hb
      replace yb1 := yb1.later hb
      replace yn2 := yn2.later hb
      replace ym2 := ym2.later hb
      replace bel := below_step bel hb
      clear hb no2
      go_wp2_with fail
      refine (any_Bits hvw HB.out (by omega)).mono ?_
      rintro e w16 ⟨vb2, k2, erb2, rfl, yb2, nb2, hb⟩
      rw [EXb.out] at yb2
      replace x2 := x2.later hb
      replace hvw := hvw.later hb
      replace hlw := hlw.later hb
      replace yn1 := yn1.later hb
      replace ym1 := ym1.later hb
      replace yo1 := yo1.later hb
      replace yb1 := yb1.later hb
      replace yn2 := yn2.later hb
      replace ym2 := ym2.later hb
      replace yo2 := yo2.later hb
      replace bel := below_step bel hb
      clear hb nb2
      go_wp2_with fail
      refine (any_Text hvw HB.out).mono ?_
      rintro e w17 ⟨ers2, rfl, hb⟩
      rw [EXs.out]
      replace x2 := x2.later hb
      replace hvw := hvw.later hb
      replace hlw := hlw.later hb
      replace yn1 := yn1.later hb
      replace ym1 := ym1.later hb
      replace yo1 := yo1.later hb
      replace yb1 := yb1.later hb
      replace yn2 := yn2.later hb
      replace ym2 := ym2.later hb
      replace yo2 := yo2.later hb
      replace yb2 := yb2.later hb
      replace bel := below_step bel hb
      clear hb
      have t1 := conv0 yn1
      have t2 := conv0 yn2
      have t3 := conv0 ym1
      have t4 := conv0 ym2
      go_wp2_with fail
      refine (con_sameE yo1 yo2 (by have := hXo.out; omega)).mono ?_
      rintro e w18 ⟨rfl, hb⟩
      replace yb1 := yb1.later hb
      replace yb2 := yb2.later hb
      replace x2 := x2.later hb
      replace hlw := hlw.later hb
      replace bel := below_step bel hb
      clear hb t1 t2 t3 t4 yn1 yn2 ym1 ym2 yo1 yo2 hvw
      have t1 := conv0 yb1
      have t2 := conv0 yb2
      have own0 := own_made w18 [] 40 0 w18.heap.size rfl (Nat.le_refl _) (by decide)
      have st2 : Below w18.heap.size w18 (w18.alloc (.cells #[] 40)) := (Below.refl _ _).alloc (Nat.le_refl _) _
      have hl2 := hlw.later st2
      go_upto_region 20 with (first | (at_builtin; refine wpList_append_us (by rfl) _ _ (by rfl) w18.heap.size _ 0 [] (by rfl) own0 _ L (by rfl) hl2 (by omega) (by simp) ?_; intro vm w19 own9 hgrow hat) | fail)
      rw [Nat.zero_add, List.nil_append] at own9
      have hb := below_own (base := w18.heap.size) st2 hgrow (by simp) (fun g hg => own_geU0 own0 hg) (Nat.le_refl _)
      have hm := Us.of_own own9
      replace x2 := x2.later hb
      replace hlw := hlw.later hb
      replace bel := below_step bel hb
      clear hb st2 hl2 own0 hgrow hat own9 t1 t2 yb1 yb2
      go_wp2_with fail
      refine (any_OidOf hm HL.out).mono ?_
      rintro e w20 ⟨vq, rfl, hb⟩
      replace hm := hm.later hb
      replace x2 := x2.later hb
      replace hlw := hlw.later hb
      replace bel := below_step bel hb
      clear hb
      have q1 := nil_eq13
      have q2 : strOfNums [128] = { data := #[128] } := rfl
      replace x2 := conv_any x2
      rw [q2] at x2
      clear q2
      go_wp2_with fail
      refine (con_sameE hm.weak hlw.weak (by omega)).mono ?_
      rintro e w21 ⟨rfl, hb⟩
      replace bel := below_step bel hb
      clear hb x2 hm hlw
      go_wp2_with fail
      go_ret
      exact ⟨rfl, bel⟩
  · obtain ⟨g, oc, cur, rfl, hg, BO, hcur⟩ := own_len own2 (by omega)
    have HCu : Hid _ := hcur
    have ax : Apt g v1 := x1.apt hg
    have ahv : Apt g v := hv1.apt hg
    have ahl : Apt g lv := (hlv.later bel).apt hg
    have hgw : w.heap.size ≤ g := Nat.le_trans bel.size hg
    clear own2 hcur
    have hvw := hv.later bel2
    have hlw := hlv.later bel2
    have bel := bel2
    clear bel2
    go_wp2_with fail
    refine (any_Number ho HB.out (by omega)).mono ?_
    rintro e w3 ⟨vn1, ern1, rfl, yn1, nn1, hb⟩
    rw [EXn.out] at yn1
    have an := nn1.apt BO.lt
    replace ho := ho.later hb
    replace x2 := x2.later hb
    replace hvw := hvw.later hb
    replace hlw := hlw.later hb
    replace BO := BO.later hb
    replace bel := below_step bel hb
    clear hb nn1
    go_wp2_with fail
    refine (any_NumberOf ho HB.out (by omega)).mono ?_
    rintro e w4 ⟨vm1, erm1, rfl, ym1, nm1, hb⟩
    rw [EXm.out] at ym1
    have am := nm1.apt BO.lt
    replace ho := ho.later hb
    replace x2 := x2.later hb
    replace hvw := hvw.later hb
    replace hlw := hlw.later hb
    replace BO := BO.later hb
    replace yn1 := yn1.later hb
    replace bel := below_step bel hb
    clear hb nm1
    go_wp2_with fail
    refine (any_Oid ho HB.out hl).mono ?_
    rintro e w5 ⟨vo1, ero1, rfl, yo1, no1, hb⟩
    rw [EXo.out] at yo1
    have ao1 := no1.apt BO.lt
    replace ho := ho.later hb
    replace x2 := x2.later hb
    replace hvw := hvw.later hb
    replace hlw := hlw.later hb
    replace BO := BO.later hb
    replace yn1 := yn1.later hb
    replace ym1 := ym1.later hb
    replace bel := below_step bel hb
    clear hb no1
    go_wp2_with fail
    refine (any_Bits ho HB.out (by omega)).mono ?_
    rintro e w6 ⟨vb1, k1, erb1, rfl, yb1, nb1, hb⟩
    rw [EXb.out] at yb1
    have ab := nb1.apt BO.lt
    replace ho := ho.later hb
    replace x2 := x2.later hb
    replace hvw := hvw.later hb
    replace hlw := hlw.later hb
    replace BO := BO.later hb
    replace yn1 := yn1.later hb
    replace ym1 := ym1.later hb
    replace yo1 := yo1.later hb
    replace bel := below_step bel hb
    clear hb nb1
    go_wp2_with fail
    refine (any_Text ho HB.out).mono ?_
    rintro e w7 ⟨ers1, rfl, hb⟩
    rw [EXs.out]
    replace ho := ho.later hb
    replace x2 := x2.later hb
    replace hvw := hvw.later hb
    replace hlw := hlw.later hb
    replace BO := BO.later hb
    replace yn1 := yn1.later hb
    replace ym1 := ym1.later hb
    replace yo1 := yo1.later hb
    replace yb1 := yb1.later hb
    replace bel := below_step bel hb
    clear hb
    have t1 := conv_any ho
    have t2 := conv_any hvw
    go_wp2_with fail
    clear t1 t2 ho
    have oth : Only g w7 w7 := Only.refl g w7
    obtain ⟨W, hW⟩ : ∃ z, z = w7 := ⟨_, rfl⟩
    have HW : Hid (W = w7) := hW
    rw [← hW]
    have belW := bel
    rw [← hW] at oth BO bel
    clear hW
    go_loopw [20] (fun iv wx => ∃ i : Nat, i ≤ B.length ∧ iv = .int .i64 (i : Int) ∧ Only g w7 wx ∧ Below w.heap.size w wx ∧ ∃ cur : List Value, Blk wx g cur ∧ Hid (∀ j, j < B.length → ∃ x : Int, cur[j]? = some (.int .u8 x))) (fun iv _ => B.length - (intOf iv).toNat)
    case atStart => exact ⟨0, by omega, rfl, by have := oth; rw [HW.out] at this ⊢; exact this, bel, cur, BO, fun j hj => ⟨_, HCu.out j hj⟩⟩
    case round =>
      clear bel oth BO HCu
      obtain ⟨i, hi, rfl, oth, bel, cu, BO, HC⟩ := hrel
      by_cases hil : i < B.length
      · have g1 : (i : Int) < ((B.length : Nat) : Int) := by omega
        have g2 : (0 : Int) ≤ (i : Int) := by omega
        have gi : IntKind.i64.wrap ((i : Int) + 1) = (i : Int) + 1 := by rw [IntKind.wrap_i64]; omega
        obtain ⟨x, hx⟩ := HC.out i hil
        have cx := BO.cell i _ hx
        have fz := BO.frozen i
        have lo := BO.lt
        have HB2 : Hid (Blk (World.setCell wr ⟨g, i, none⟩ (.int .u8 (bits .xor .u8 x 255))) g (cu.set i (.int .u8 (bits .xor .u8 x 255)))) := BO.set0 i _
        have HC2 : Hid (∀ j, j < B.length → ∃ y : Int, (cu.set i (.int .u8 (bits .xor .u8 x 255)))[j]? = some (.int .u8 y)) := fun j hj => by
          by_cases e : i = j
          · subst e
            exact ⟨_, List.getElem?_set_self (List.getElem?_eq_some_iff.1 hx).1⟩
          · rw [List.getElem?_set_ne e]; exact HC.out j hj
        clear hx HC BO
        go_wp2_with fail
        go_roundw
        case rel => exact ⟨i + 1, by omega, by go_num, oth.set, bel.setCell (by show w.heap.size ≤ g; omega) _, _, HB2.out, HC2⟩
        case measure => simp [intOf]; omega
      · have g1 : ¬ (i : Int) < ((B.length : Nat) : Int) := by omega
        replace hvw := hvw.only ahv oth
        replace hlw := hlw.only ahl oth
        replace x2 := x2.only ax oth
        replace yn1 := yn1.only an oth
        replace ym1 := ym1.only am oth
        replace yo1 := yo1.only ao1 oth
        replace yb1 := yb1.only ab oth
        clear oth BO HC an am ao1 ab ax ahv ahl belW
        go_wp2_with fail
        refine (any_Number hvw HB.out (by omega)).mono ?_
        rintro e w13 ⟨vn2, ern2, rfl, yn2, nn2, hb⟩
        rw [EXn.out] at yn2
        replace x2 := x2.later hb
        replace hvw := hvw.later hb
        replace hlw := hlw.later hb
        replace yn1 := yn1.later hb
        replace ym1 := ym1.later hb
        replace yo1 := yo1.later hb
        replace yb1 := yb1.later hb
        replace bel := below_step bel hb
        clear hb nn2
        go_wp2_with fail
        refine (any_NumberOf hvw HB.out (by omega)).mono ?_
        rintro e w14 ⟨vm2, erm2, rfl, ym2, nm2, hb⟩
        rw [EXm.out] at ym2
        replace x2 := x2.later hb
        replace hvw := hvw.later hb
        replace hlw := hlw.later hb
        replace yn1 := yn1.later hb
        replace ym1 := ym1.later hb
        replace yo1 := yo1.later hb
        replace yb1 := yb1.later hb
        replace yn2 := yn2.later hb
        replace bel := below_step bel hb
        clear hb nm2
        go_wp2_with fail
        refine (any_Oid hvw HB.out hl).mono ?_
        rintro e w15 ⟨vo2, ero2, rfl, yo2, no2, hb⟩
        rw [EXo.out] at yo2
        replace x2 := x2.later hb
        replace hvw := hvw.later hb
        replace hlw := hlw.later hb
        replace yn1 := yn1.later hb
        replace ym1 := ym1.later hb
        replace yo1 := yo1.later hb
        replace yb1 := yb1.later hb
        replace yn2 := yn2.later hb
        replace ym2 := ym2.later hb
        replace bel := below_step bel hb
        clear hb no2
        go_wp2_with fail
        refine (any_Bits hvw HB.out (by omega)).mono ?_
        rintro e w16 ⟨vb2, k2, erb2, rfl, yb2, nb2, hb⟩
        rw [EXb.out] at yb2
        replace x2 := x2.later hb
        replace hvw := hvw.later hb
        replace hlw := hlw.later hb
        replace yn1 := yn1.later hb
        replace ym1 := ym1.later hb
        replace yo1 := yo1.later hb
        replace yb1 := yb1.later hb
        replace yn2 := yn2.later hb
        replace ym2 := ym2.later hb
        replace yo2 := yo2.later hb
        replace bel := below_step bel hb
        clear hb nb2
        go_wp2_with fail
        refine (any_Text hvw HB.out).mono ?_
        rintro e w17 ⟨ers2, rfl, hb⟩
        rw [EXs.out]
        replace x2 := x2.later hb
        replace hvw := hvw.later hb
        replace hlw := hlw.later hb
        replace yn1 := yn1.later hb
        replace ym1 := ym1.later hb
        replace yo1 := yo1.later hb
        replace yb1 := yb1.later hb
        replace yn2 := yn2.later hb
        replace ym2 := ym2.later hb
        replace yo2 := yo2.later hb
        replace yb2 := yb2.later hb
        replace bel := below_step bel hb
        clear hb
        have t1 := conv0 yn1
        have t2 := conv0 yn2
        have t3 := conv0 ym1
        have t4 := conv0 ym2
        go_wp2_with fail
        refine (con_sameE yo1 yo2 (by have := hXo.out; omega)).mono ?_
        rintro e w18 ⟨rfl, hb⟩
        replace yb1 := yb1.later hb
        replace yb2 := yb2.later hb
        replace x2 := x2.later hb
        replace hlw := hlw.later hb
        replace bel := below_step bel hb
        clear hb t1 t2 t3 t4 yn1 yn2 ym1 ym2 yo1 yo2 hvw
        have t1 := conv0 yb1
        have t2 := conv0 yb2
        have own0 := own_made w18 [] 40 0 w18.heap.size rfl (Nat.le_refl _) (by decide)
        have st2 : Below w18.heap.size w18 (w18.alloc (.cells #[] 40)) := (Below.refl _ _).alloc (Nat.le_refl _) _
        have hl2 := hlw.later st2
        go_upto_region 20 with (first | (at_builtin; refine wpList_append_us (by rfl) _ _ (by rfl) w18.heap.size _ 0 [] (by rfl) own0 _ L (by rfl) hl2 (by omega) (by simp) ?_; intro vm w19 own9 hgrow hat) | fail)
        rw [Nat.zero_add, List.nil_append] at own9
        have hb := below_own (base := w18.heap.size) st2 hgrow (by simp) (fun g hg => own_geU0 own0 hg) (Nat.le_refl _)
        have hm := Us.of_own own9
        replace x2 := x2.later hb
        replace hlw := hlw.later hb
        replace bel := below_step bel hb
        clear hb st2 hl2 own0 hgrow hat own9 t1 t2 yb1 yb2
        go_wp2_with fail
        refine (any_OidOf hm HL.out).mono ?_
        rintro e w20 ⟨vq, rfl, hb⟩
        replace hm := hm.later hb
        replace x2 := x2.later hb
        replace hlw := hlw.later hb
        replace bel := below_step bel hb
        clear hb
        have q1 := nil_eq13
        have q2 : strOfNums [128] = { data := #[128] } := rfl
        replace x2 := conv_any x2
        rw [q2] at x2
        clear q2
        go_wp2_with fail
        refine (con_sameE hm.weak hlw.weak (by omega)).mono ?_
        rintro e w21 ⟨rfl, hb⟩
        replace bel := below_step bel hb
        clear hb x2 hm hlw
        go_wp2_with fail
        go_ret
        exact ⟨rfl, bel⟩
end Go.Proofs.Yteejcokpkginbac
