/- The law GcmBack answers true: what was sealed is opened as it was; with its tag turned it is refused; what is handed in stays. -/
import Derived.Test.YtogbmekgmjmonaaRows
import Derived.Test.YtogbmekgmjmonaaGcLaw
import Derived.Deep.OwnRows
import Derived.Deep.AppendLies
import Derived.Deep.WholeRow
import Derived.Deep.RegionHeld3
import Derived.Deep.DeepCutAuto
import Derived.Deep.DeepFit
namespace Go.Proofs.Ytogbmekgmjmonaa
open Go.RowKit

theorem wrap_neg {x : Int} (h0 : -9223372036854775808 ≤ x) (h1 : x < 0) : IntKind.i64.wrap (-(IntKind.i64.wrap (x + 1))) = -(x + 1) := by
  rw [IntKind.wrap_i64, IntKind.wrap_i64]
  omega
/-- bytes laid one by one -/
def firstB (K : List Int) (i : Nat) : List Int := K.take i

set_option linter.unusedSimpArgs false in
set_option maxRecDepth 100000 in
set_option maxHeartbeats 8000000 in
theorem law_gcmBack (K : List Int) (N : List Int) (av : Value) (A0 : List Int) (bv : Value) (B0 : List Int) (x : Int) (y : Int) (w : World) (lK : K.length = 32) (bK : byt K) (lN : N.length = 12) (bN : byt N) (ha : Bs w av A0) (bA : byt A0) (hb : Bs w bv B0) (bB : byt B0) (fx : -9223372036854775808 ≤ x ∧ x < 9223372036854775808) (fy : 0 ≤ y ∧ y < 256) :
    Calls Try.prog 6 #[.agg (u8s K).toArray, .agg (u8s N).toArray, av, bv, .int .i64 x, .int .u8 y] w fun e w' => e = .returned (.bool true) ∧ Below w.heap.size w w' := by
  have HKb : Hid (byt K) := bK
  have HKl : Hid (K.length = 32) := lK
  have HNb : Hid (byt N) := bN
  have HNl : Hid (N.length = 12) := lN
  have HAb : Hid (byt A0) := bA
  have HBb : Hid (byt B0) := bB
  clear bK lK bN lN bA bB
  obtain ⟨i0, hi0, hz0, hz1, hz2⟩ := info_parts info_b16
  have KB := (Blk.new w (u8s K) 35 w.heap.size rfl).alloc (.cells (u8s N).toArray 36)
  have NB := Blk.new (w.alloc (.cells (u8s K).toArray 35)) (u8s N) 36 (w.heap.size + 1) (by simp)
  have bel : Below w.heap.size w ((w.alloc (.cells (u8s K).toArray 35)).alloc (.cells (u8s N).toArray 36)) := (((Below.refl _ _).alloc (Nat.le_refl _) _).alloc (by simp) _)
  replace ha := ha.later bel
  replace hb := hb.later bel
  generalize (u8s K).toArray = ks at KB NB bel ha hb ⊢
  generalize (u8s N).toArray = ns at KB NB bel ha hb ⊢
  go_enter Try.func6, Try.ntmps6
  go_upto_region 1 with fail
  generalize (w.alloc (Obj.cells ks 35)).alloc (Obj.cells ns 36) = W0 at *
  go_wp2_with fail
  refine con_up.mono ?_
  rintro e w1 ⟨rfl, hb2⟩
  replace ha := ha.later hb2
  replace hb := hb.later hb2
  replace KB := KB.later hb2
  replace NB := NB.later hb2
  replace bel := below_step bel hb2
  clear hb2
  go_wp2_with fail
  refine (con_cut (n := 500) rfl ha).mono ?_
  rintro e wz ⟨v2, rfl, hcut, hz⟩
  rw [hz]
  clear hz wz
  obtain ⟨A, eA⟩ : ∃ z, A0.take 500 = z := ⟨_, rfl⟩
  rw [eA] at hcut
  have bA : Hid (byt A) := by rw [← eA]; exact byt_takeC HAb.out _
  have lA : Hid (A.length ≤ 500) := by rw [← eA]; show _ ≤ _; rw [List.length_take]; omega
  clear eA ha
  have ha := hcut
  clear hcut
  go_wp2_with fail
  refine (con_cut (n := 500) rfl hb).mono ?_
  rintro e wz ⟨v3, rfl, hcut, hz⟩
  rw [hz]
  clear hz wz
  obtain ⟨B, eB⟩ : ∃ z, B0.take 500 = z := ⟨_, rfl⟩
  rw [eB] at hcut
  have bB : Hid (byt B) := by rw [← eB]; exact byt_takeC HBb.out _
  have lB : Hid (B.length ≤ 500) := by rw [← eB]; show _ ≤ _; rw [List.length_take]; omega
  clear eB hb
  have hb := hcut
  clear hcut
  go_wp2_with fail
  go_loopw [14, 15] (fun ov iv wx => ∃ i : Nat, i ≤ 32 ∧ iv = .int .i64 i ∧ wx.ownsRow w1.heap.size 5 1 ov i (u8s (K.take i)) ∧ Below w1.heap.size w1 wx) (fun _ iv _ => 32 - (intOf iv).toNat)
  case atStart => exact ⟨0, by omega, rfl, World.ownsRow_nil _ _ _ _, Below.refl _ _⟩
  case round =>
    obtain ⟨i, hi, rfl, hown, hbx⟩ := hrel
    have hsz := hbx.size
    by_cases hil : i < 32
    · have g1 : (i : Int) < 32 := by omega
      have g2 : (0 : Int) ≤ (i : Int) := by omega
      have HT : Hid _ := take_next (k := K) (i := i) (by rw [HKl.out]; exact hil)
      have cb := (KB.below hbx KB.lt).cell i _ (u8s_get K i (by rw [HKl.out]; exact hil))
      have lb := Nat.lt_of_lt_of_le KB.lt hsz
      obtain ⟨x0, hx0⟩ : ∃ x, K.getD i 0 = x := ⟨_, rfl⟩
      rw [hx0] at cb HT
      clear hx0
      go_wp2_with (first
        | (at_builtin; refine wpList_append_lies _ (by rfl) _ _ _ (by rfl) w1.heap.size 5 i0 _ 1 1 Try.underlying22 hi0 hz0 hz1 hz2 rfl (by omega) _ _ _ (by rfl) (hown.alloc _) ⟨wr.heap.size, 0, none⟩ 1 1 [.int .u8 x0] (by rfl) (by rfl) (World.news_of_block (cs := #[.int .u8 x0]) (t := 5) (fr := (0, 0)) (heap_alloc_new wr _)) (by simp [Value.oneCell']) (by omega) (by unfold maxLen; omega) (by omega) (by simp; omega) (wr.heap.size + 1) (by simp) ?_; intro gg cap1 w5 hown1 hgrow hat hlt1)
        | fail)
      have own8 : w5.ownsRow w1.heap.size 5 1 (.slice (some ⟨gg, 0, none⟩) (i + 1) cap1) (i + 1) (u8s (K.take i ++ [x0])) := by simpa [u8s] using hown1
      rw [HT.out] at own8
      go_roundw
      case rel => exact ⟨i + 1, by omega, by go_num, own8, hbx.trans (Below.grown ((Below.refl _ _).alloc (by omega) _) hgrow (by simp; omega) (fun j hj => own_geA hown hj))⟩
      case measure => simp [intOf]; omega
    · have HI : Hid (i = 32) := by show i = 32; omega
      have g1 : (32 : Int) ≤ (i : Int) := by omega
      rw [HI.out, List.take_of_length_le (by rw [HKl.out]; exact Nat.le_refl _)] at hown
      clear HI
      go_wp2_with fail
      obtain ⟨w2, hw2⟩ : ∃ z, z = wr := ⟨_, rfl⟩
      rw [← hw2] at hown hbx hsz ⊢
      have hk := Bs.of_own hown
      replace ha := ha.later hbx
      replace hb := hb.later hbx
      replace NB := NB.later hbx
      replace bel := below_step bel hbx
      clear hbx
      clear hw2 hown KB hsz
      go_loopw [16, 17] (fun ov iv wx => ∃ i : Nat, i ≤ 12 ∧ iv = .int .i64 i ∧ wx.ownsRow w2.heap.size 5 1 ov i (u8s (N.take i)) ∧ Below w2.heap.size w2 wx) (fun _ iv _ => 12 - (intOf iv).toNat)
      case atStart => exact ⟨0, by omega, rfl, World.ownsRow_nil _ _ _ _, Below.refl _ _⟩
      case round =>
        clear g1
        obtain ⟨i, hi, rfl, hown, hbx⟩ := hrel
        have hsz := hbx.size
        by_cases hil : i < 12
        · have g1 : (i : Int) < 12 := by omega
          have g2 : (0 : Int) ≤ (i : Int) := by omega
          have HT : Hid _ := take_next (k := N) (i := i) (by rw [HNl.out]; exact hil)
          have cb := (NB.below hbx NB.lt).cell i _ (u8s_get N i (by rw [HNl.out]; exact hil))
          have lb := Nat.lt_of_lt_of_le NB.lt hsz
          obtain ⟨x0, hx0⟩ : ∃ x, N.getD i 0 = x := ⟨_, rfl⟩
          rw [hx0] at cb HT
          clear hx0
          go_wp2_with (first
            | (at_builtin; refine wpList_append_lies _ (by rfl) _ _ _ (by rfl) w2.heap.size 5 i0 _ 1 1 Try.underlying22 hi0 hz0 hz1 hz2 rfl (by omega) _ _ _ (by rfl) (hown.alloc _) ⟨wr.heap.size, 0, none⟩ 1 1 [.int .u8 x0] (by rfl) (by rfl) (World.news_of_block (cs := #[.int .u8 x0]) (t := 5) (fr := (0, 0)) (heap_alloc_new wr _)) (by simp [Value.oneCell']) (by omega) (by unfold maxLen; omega) (by omega) (by simp; omega) (wr.heap.size + 1) (by simp) ?_; intro gg cap1 w5 hown1 hgrow hat hlt1)
            | fail)
          have own8 : w5.ownsRow w2.heap.size 5 1 (.slice (some ⟨gg, 0, none⟩) (i + 1) cap1) (i + 1) (u8s (N.take i ++ [x0])) := by simpa [u8s] using hown1
          rw [HT.out] at own8
          go_roundw
          case rel => exact ⟨i + 1, by omega, by go_num, own8, hbx.trans (Below.grown ((Below.refl _ _).alloc (by omega) _) hgrow (by simp; omega) (fun j hj => own_geA hown hj))⟩
          case measure => simp [intOf]; omega
        · have HI : Hid (i = 12) := by show i = 12; omega
          have g1 : (12 : Int) ≤ (i : Int) := by omega
          rw [HI.out, List.take_of_length_le (by rw [HNl.out]; exact Nat.le_refl _)] at hown
          clear HI
          go_upto_region 14 with fail
          obtain ⟨w3, hw3⟩ : ∃ z, z = wr := ⟨_, rfl⟩
          rw [← hw3] at hown hbx hsz ⊢
          have hn := Bs.of_own hown
          replace ha := ha.later hbx
          replace hb := hb.later hbx
          replace hk := hk.later hbx
          replace bel := below_step bel hbx
          clear hbx
          clear hw3 hown NB hsz
          have own0 : (w3.alloc (.cells #[] 5)).ownsRow w3.heap.size 5 1 (.slice (some ⟨w3.heap.size, 0, none⟩) 0 0) 0 (u8s []) := own_blk (TyB.new w3 #[] 5 w3.heap.size rfl) (Blk.new w3 [] 5 w3.heap.size rfl) (Nat.le_refl _) rfl (by decide)
          have hb0 := hb.later ((Below.refl _ _).alloc (Nat.le_refl _) (.cells #[] 5))
          go_upto_region 15 with (first | (at_builtin; refine wpList_append_bs (by rfl) _ _ (by rfl) w3.heap.size _ 0 [] (by rfl) own0 _ B (by rfl) hb0 (by have := lB.out; omega) (by simp) ?_; intro v5 w4 own5 hgrow hat) | fail)
          have hb4 := below_own (base := w3.heap.size) ((Below.refl w3.heap.size w3).alloc (Nat.le_refl _) (.cells #[] 5)) hgrow (by simp) (fun g hg => own_geA own0 hg) (Nat.le_refl _)
          have ho := Bs.of_own own5
          rw [List.nil_append] at ho
          replace ha := ha.later hb4
          replace hb := hb.later hb4
          replace hk := hk.later hb4
          replace hn := hn.later hb4
          replace bel := below_step bel hb4
          clear hb4
          clear own0 hb0 own5 hgrow hat
          have bs4 := bel.size
          go_wp2_with fail
          refine (con_Seal hk hn ha ho HKb.out HKl.out HNb.out HNl.out bA.out bB.out (by have := lA.out; omega) (by have := lB.out; omega)).mono ?_
          rintro e w5 ⟨vs, rfl, hf, bel4⟩
          have hs := hf.bs
          obtain ⟨g, o, cap, cur, rfl, c1, c2, c3, c4, c5⟩ := hf
          replace bel := below_step bel bel4
          have hsl := sealN_len K N A B
          obtain ⟨m, hm⟩ : ∃ m, B.length = m := ⟨_, rfl⟩
          have HBl : Hid (B.length = m) := hm
          have m500 : m ≤ 500 := by have := lB.out; omega
          rw [hm] at hsl
          rw [hsl] at c1 hs ⊢
          have HC5 : Hid (∀ j, j < m + 16 → cur[o + j]? = some (.int .u8 ((sealN K N A B).getD j 0))) := fun j hj => c5 j (by rw [hsl]; exact hj)
          clear c5 hm
          obtain ⟨S, hS⟩ : ∃ S, sealN K N A B = S := ⟨_, rfl⟩
          have HSb : Hid (byt S) := by show byt S; rw [← hS]; exact sealN_byt HKb.out HNb.out bB.out
          have HSt : Hid (S.take m = hidN K N B) := by show _ = _; rw [← hS, ← HBl.out]; exact seal_take K N A B
          have HSd : Hid (S.drop m = tagN K N A (hidN K N B)) := by show _ = _; rw [← hS, ← HBl.out]; exact seal_drop K N A B
          rw [hS] at hs hsl HC5
          have HSl : Hid (S.length = m + 16) := hsl
          clear hS hsl
          go_wp2_with fail
          refine (con_Open (hk.later bel4) (hn.later bel4) (ha.later bel4) hs HKb.out HKl.out HNb.out HNl.out bA.out HSb.out (by have := lA.out; omega) (by rw [HSl.out]; omega) (by rw [HSl.out]; omega) (by rw [HSl.out, Nat.add_sub_cancel, HSd.out, HSt.out])).mono ?_
          rintro e w6 ⟨v6, rfl, h6, hb2⟩
          rw [HSl.out, Nat.add_sub_cancel, HSt.out, hid_back HKb.out HNb.out bB.out] at h6
          have hb6 := (hb.later bel4).later hb2
          have ho6 := (ho.later bel4).later hb2
          replace c4 := c4.later hb2
          replace bel4 := below_step bel4 hb2
          replace bel := below_step bel hb2
          clear hb2 hs hb ho
          obtain ⟨bao, bcap, eb, b1, b2, b3⟩ := hb6
          have hb6 : Bs w6 v3 B := ⟨bao, bcap, eb, b1, b2, b3⟩
          rw [HBl.out] at eb
          subst eb
          clear b1 b2 b3
          have x1 := conv_any h6
          have x2 := conv_any hb6
          have x3 := conv_any ho6
          clear h6 hb6 ho6
          have q1 := nil_ne
          have g5 : IntKind.i64.wrap ((m : Int) + 16) = (m : Int) + 16 := by rw [IntKind.wrap_i64]; omega
          have hw4 : w.heap.size ≤ w4.heap.size := bs4
          by_cases hneg : x < 0
          · go_upto_region 19 with fail
            clear x1 x2 x3 g5
            have a0 : x < 0 := by omega
            have a1 : IntKind.i64.wrap (x + 1) = x + 1 := by rw [IntKind.wrap_i64]; omega
            obtain ⟨z, hz⟩ : ∃ z, -(x + 1) = z := ⟨_, rfl⟩
            have z0 : 0 ≤ z := by omega
            have z1 : z < 9223372036854775808 := by omega
            have a2 : IntKind.i64.wrap (-(x + 1)) = z := by rw [IntKind.wrap_i64]; omega
            have a3 : IntKind.i64.wrap (-1 + -x) = z := by rw [IntKind.wrap_i64]; omega
            have a4 : IntKind.i64.wrap (-x + -1) = z := by rw [IntKind.wrap_i64]; omega
            clear hz
            obtain ⟨t, ht⟩ : ∃ t : Nat, z.tmod 16 = (t : Int) := ⟨(z % 16).toNat, by rw [Int.tmod_eq_emod_of_nonneg z0]; omega⟩
            have t16 : t < 16 := by
              have e : z.tmod 16 = z % 16 := Int.tmod_eq_emod_of_nonneg z0
              omega
            have i1 : IntKind.i64.wrap ((m : Int) + (t : Int)) = ((m + t : Nat) : Int) := by rw [IntKind.wrap_i64]; omega
            obtain ⟨n, hn9⟩ : ∃ n, m + t = n := ⟨_, rfl⟩
            rw [hn9] at i1
            have n1 : (0 : Int) ≤ (n : Int) := by omega
            have n2 : (n : Int) < (m : Int) + 16 := by omega
            have n3 : n < m + 16 := by omega
            have n4 : m ≤ n := by omega
            have cn := c4.cell _ _ (HC5.out n n3)
            have fn := c4.frozen (o + n)
            have lg := c4.lt
            have bs0 := HSb.out n
            have HSx : Hid (bits .xor .u8 (S.getD n 0) y = S.getD n 0 ↔ y = 0) := xor_same bs0 fy
            obtain ⟨sx, hsx⟩ : ∃ s, S.getD n 0 = s := ⟨_, rfl⟩
            rw [hsx] at cn bs0 HSx
            have HSX : Hid (S.getD n 0 = sx) := hsx
            have by9 := xorb_byte bs0 fy
            obtain ⟨sy, hsy⟩ : ∃ s, bits .xor .u8 sx y = s := ⟨_, rfl⟩
            rw [hsy] at HSx by9
            have D4 := c4.set (o + n) (.int .u8 sy)
            have hs7 : Bs (w6.setCell ⟨g, o + n, none⟩ (.int .u8 sy)) (.slice (some ⟨g, o, none⟩) (m + 16) cap) (S.set n sy) := by
              refine ⟨_, cap, by rw [List.length_set, HSl.out], c2, by rw [List.length_set, HSl.out]; exact c1, fun _ => ⟨g, o, rfl, D4.lt, fun j hj => D4.cell _ _ ?_⟩⟩
              rw [List.length_set, HSl.out] at hj
              have hc9 := HC5.out j hj
              by_cases ej : j = n
              · subst ej
                have hl9 : o + j < cur.length := (List.getElem?_eq_some_iff.1 hc9).1
                rw [List.getElem?_set_self hl9, List.getD_eq_getElem?_getD, List.getElem?_set_self (by rw [HSl.out]; exact hj), Option.getD_some]
              · rw [List.getElem?_set_ne (by omega), hc9, List.getD_eq_getElem?_getD, List.getD_eq_getElem?_getD, List.getElem?_set_ne (by omega)]
            have bel7 := bel4.setCell (p := ⟨g, o + n, none⟩) (by show w4.heap.size ≤ g; exact c3) (.int .u8 sy)
            have bw4 := hw4
            replace bel := bel.setCell (p := ⟨g, o + n, none⟩) (by show w.heap.size ≤ g; omega) (.int .u8 sy)
            have HTb : Hid (byt (S.set n sy)) := byt_of _ (fun j hj => by
              by_cases ej : j = n
              · subst ej
                rw [List.length_set] at hj
                rw [List.getD_eq_getElem?_getD, List.getElem?_set_self hj, Option.getD_some]
                exact by9
              · rw [List.getD_eq_getElem?_getD, List.getElem?_set_ne (by omega), ← List.getD_eq_getElem?_getD]
                exact HSb.out j)
            have HTl : Hid ((S.set n sy).length = m + 16) := by show _ = _; rw [List.length_set]; exact HSl.out
            have HTt : Hid ((S.set n sy).take m = hidN K N B) := by show _ = _; rw [turn_take n4]; exact HSt.out
            have HTd : Hid ((S.set n sy).drop m = tagN K N A (hidN K N B) ↔ y = 0) := by
              show _ ↔ _
              rw [← HSd.out, turn_same n4 (by rw [HSl.out]; exact n3), HSX.out]
              exact HSx.out
            clear D4 HSx hsx
            go_upto_region 23 with fail
            generalize w6.setCell ⟨g, o + n, none⟩ (.int .u8 sy) = w7 at *
            clear cn fn c4
            by_cases hy : y = 0
            · have q2 := nil_eq
              go_wp2_with fail
              refine (con_Open (hk.later bel7) (hn.later bel7) (ha.later bel7) hs7 HKb.out HKl.out HNb.out HNl.out bA.out HTb.out (by have := lA.out; omega) (by rw [HTl.out]; omega) (by rw [HTl.out]; omega) (by rw [HTl.out, Nat.add_sub_cancel, HTt.out]; exact HTd.out.2 hy)).mono ?_
              rintro e w8 ⟨v8, rfl, h8, hb2⟩
              replace bel := below_step bel hb2
              clear hb2 h8
              go_wp2_with fail
              go_ret
              exact ⟨rfl, bel⟩
            · have q5 := code_eq 5
              go_wp2_with fail
              refine (con_OpenTag (hk.later bel7) (hn.later bel7) (ha.later bel7) hs7 HKb.out HKl.out HNb.out HNl.out bA.out HTb.out (by have := lA.out; omega) (by rw [HTl.out]; omega) (by rw [HTl.out]; omega) (by rw [HTl.out, Nat.add_sub_cancel, HTt.out]; exact fun h => hy (HTd.out.1 h))).mono ?_
              rintro e w8 ⟨ao8, cap8, rfl, hb2⟩
              replace bel := below_step bel hb2
              clear hb2
              go_wp2_with fail
              go_ret
              exact ⟨by show Ending.returned (.bool (y != 0)) = _; rw [show (y != 0) = true by simp [hy]], bel⟩
          · go_upto_region 19 with fail
            clear x1 x2 x3 g5
            have a0 : ¬ x < 0 := by omega
            obtain ⟨z, hz⟩ : ∃ z, x = z := ⟨_, rfl⟩
            have z0 : 0 ≤ z := by omega
            have z1 : z < 9223372036854775808 := by omega
            subst hz
            obtain ⟨t, ht⟩ : ∃ t : Nat, x.tmod 16 = (t : Int) := ⟨(x % 16).toNat, by rw [Int.tmod_eq_emod_of_nonneg z0]; omega⟩
            have t16 : t < 16 := by
              have e : x.tmod 16 = x % 16 := Int.tmod_eq_emod_of_nonneg z0
              omega
            have i1 : IntKind.i64.wrap ((m : Int) + (t : Int)) = ((m + t : Nat) : Int) := by rw [IntKind.wrap_i64]; omega
            obtain ⟨n, hn9⟩ : ∃ n, m + t = n := ⟨_, rfl⟩
            rw [hn9] at i1
            have n1 : (0 : Int) ≤ (n : Int) := by omega
            have n2 : (n : Int) < (m : Int) + 16 := by omega
            have n3 : n < m + 16 := by omega
            have n4 : m ≤ n := by omega
            have cn := c4.cell _ _ (HC5.out n n3)
            have fn := c4.frozen (o + n)
            have lg := c4.lt
            have bs0 := HSb.out n
            have HSx : Hid (bits .xor .u8 (S.getD n 0) y = S.getD n 0 ↔ y = 0) := xor_same bs0 fy
            obtain ⟨sx, hsx⟩ : ∃ s, S.getD n 0 = s := ⟨_, rfl⟩
            rw [hsx] at cn bs0 HSx
            have HSX : Hid (S.getD n 0 = sx) := hsx
            have by9 := xorb_byte bs0 fy
            obtain ⟨sy, hsy⟩ : ∃ s, bits .xor .u8 sx y = s := ⟨_, rfl⟩
            rw [hsy] at HSx by9
            have D4 := c4.set (o + n) (.int .u8 sy)
            have hs7 : Bs (w6.setCell ⟨g, o + n, none⟩ (.int .u8 sy)) (.slice (some ⟨g, o, none⟩) (m + 16) cap) (S.set n sy) := by
              refine ⟨_, cap, by rw [List.length_set, HSl.out], c2, by rw [List.length_set, HSl.out]; exact c1, fun _ => ⟨g, o, rfl, D4.lt, fun j hj => D4.cell _ _ ?_⟩⟩
              rw [List.length_set, HSl.out] at hj
              have hc9 := HC5.out j hj
              by_cases ej : j = n
              · subst ej
                have hl9 : o + j < cur.length := (List.getElem?_eq_some_iff.1 hc9).1
                rw [List.getElem?_set_self hl9, List.getD_eq_getElem?_getD, List.getElem?_set_self (by rw [HSl.out]; exact hj), Option.getD_some]
              · rw [List.getElem?_set_ne (by omega), hc9, List.getD_eq_getElem?_getD, List.getD_eq_getElem?_getD, List.getElem?_set_ne (by omega)]
            have bel7 := bel4.setCell (p := ⟨g, o + n, none⟩) (by show w4.heap.size ≤ g; exact c3) (.int .u8 sy)
            have bw4 := hw4
            replace bel := bel.setCell (p := ⟨g, o + n, none⟩) (by show w.heap.size ≤ g; omega) (.int .u8 sy)
            have HTb : Hid (byt (S.set n sy)) := byt_of _ (fun j hj => by
              by_cases ej : j = n
              · subst ej
                rw [List.length_set] at hj
                rw [List.getD_eq_getElem?_getD, List.getElem?_set_self hj, Option.getD_some]
                exact by9
              · rw [List.getD_eq_getElem?_getD, List.getElem?_set_ne (by omega), ← List.getD_eq_getElem?_getD]
                exact HSb.out j)
            have HTl : Hid ((S.set n sy).length = m + 16) := by show _ = _; rw [List.length_set]; exact HSl.out
            have HTt : Hid ((S.set n sy).take m = hidN K N B) := by show _ = _; rw [turn_take n4]; exact HSt.out
            have HTd : Hid ((S.set n sy).drop m = tagN K N A (hidN K N B) ↔ y = 0) := by
              show _ ↔ _
              rw [← HSd.out, turn_same n4 (by rw [HSl.out]; exact n3), HSX.out]
              exact HSx.out
            clear D4 HSx hsx
            go_upto_region 23 with fail
            generalize w6.setCell ⟨g, o + n, none⟩ (.int .u8 sy) = w7 at *
            clear cn fn c4
            by_cases hy : y = 0
            · have q2 := nil_eq
              go_wp2_with fail
              refine (con_Open (hk.later bel7) (hn.later bel7) (ha.later bel7) hs7 HKb.out HKl.out HNb.out HNl.out bA.out HTb.out (by have := lA.out; omega) (by rw [HTl.out]; omega) (by rw [HTl.out]; omega) (by rw [HTl.out, Nat.add_sub_cancel, HTt.out]; exact HTd.out.2 hy)).mono ?_
              rintro e w8 ⟨v8, rfl, h8, hb2⟩
              replace bel := below_step bel hb2
              clear hb2 h8
              go_wp2_with fail
              go_ret
              exact ⟨rfl, bel⟩
            · have q5 := code_eq 5
              go_wp2_with fail
              refine (con_OpenTag (hk.later bel7) (hn.later bel7) (ha.later bel7) hs7 HKb.out HKl.out HNb.out HNl.out bA.out HTb.out (by have := lA.out; omega) (by rw [HTl.out]; omega) (by rw [HTl.out]; omega) (by rw [HTl.out, Nat.add_sub_cancel, HTt.out]; exact fun h => hy (HTd.out.1 h))).mono ?_
              rintro e w8 ⟨ao8, cap8, rfl, hb2⟩
              replace bel := below_step bel hb2
              clear hb2
              go_wp2_with fail
              go_ret
              exact ⟨by show Ending.returned (.bool (y != 0)) = _; rw [show (y != 0) = true by simp [hy]], bel⟩
end Go.Proofs.Ytogbmekgmjmonaa
