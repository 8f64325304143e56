/- The document's Pad: what stands behind so many bytes. -/
import Derived.Test.YtbglkbfnhnmodaaDoorRows
import Derived.Test.YtbglkbfnhnmodaaDoorSBytes
import Derived.Test.YtbglkbfnhnmodaaDoorSSched
import Derived.Test.YtbglkbfnhnmodaaDoorRefB
import Derived.Test.YtbglkbfnhnmodaaDoorRefA
import Derived.Deep.RegionHeld3
import Derived.Deep.DeepCutAuto
import Derived.Deep.DeepFit
namespace Go.Proofs.YtbglkbfnhnmodaaDoor
open Go.RowKit

/-- how many noughts -/
def zsN (n : Nat) : Nat := (239 - n % 128) % 128
/-- what stands behind n bytes -/
def PadIs (n : Nat) (P : List Int) : Prop := ∃ X : List Int, X.length = 16 ∧ byt X ∧ beN X = 8 * (n : Int) ∧ P = 128 :: (List.replicate (zsN n) 0 ++ X)
theorem PadIs.len {n : Nat} {P : List Int} (h : PadIs n P) : P.length = 17 + zsN n := by
  obtain ⟨X, l, _, _, rfl⟩ := h
  simp [l]; omega
theorem PadIs.one {n : Nat} {P Q : List Int} (h : PadIs n P) (k : PadIs n Q) : P = Q := by
  obtain ⟨X, l, b, e, rfl⟩ := h
  obtain ⟨Y, l', b', e', rfl⟩ := k
  rw [beN_inj X Y (by rw [l, l']) b b' (by rw [e, e'])]
theorem PadIs.byt {n : Nat} {P : List Int} (h : PadIs n P) : byt P := by
  obtain ⟨X, l, b, _, rfl⟩ := h
  apply byt_of
  intro j hj
  match j with
  | 0 => exact ⟨by show (0 : Int) ≤ 128; decide, by show (128 : Int) < 256; decide⟩
  | j + 1 =>
    show 0 ≤ (List.replicate (zsN n) 0 ++ X).getD j 0 ∧ (List.replicate (zsN n) 0 ++ X).getD j 0 < 256
    by_cases hz : j < zsN n
    · rw [List.getD_eq_getElem?_getD, List.getElem?_append_left (by simpa using hz)]
      simp [hz]
    · rw [List.getD_eq_getElem?_getD, List.getElem?_append_right (by simpa using hz), ← List.getD_eq_getElem?_getD]
      exact b _
theorem u8_rep (j : Nat) : u8s (128 :: List.replicate j 0) ++ [.int .u8 0] = u8s (128 :: List.replicate (j + 1) 0) := by
  rw [List.replicate_succ']; simp [u8s]
theorem info_b8 : (Tryd.prog.info? 5).map (fun i => (i.zero, i.size, i.bytes)) = some (some (.int .u8 0), 1, 1) := by kernel_rfl

def lenV : Value → Nat
  | .slice _ n _ => n
  | _ => 0
theorem own_form {w : World} {base : Nat} {e : TypeId} {v : Value} {n : Nat} {xs : List Value} (h : w.ownsRow base e 1 v n xs) (h0 : 0 < n) : ∃ g cap, v = .slice (some ⟨g, 0, none⟩) n cap ∧ base ≤ g ∧ g < w.heap.size ∧ n ≤ cap ∧ cap ≤ maxLen := by
  rcases h.2 with ⟨_, h2⟩ | ⟨g, cap, cur, h1, h2, h3, h4, h5, h6, h7⟩
  · omega
  · exact ⟨g, cap, h1, h2, (Array.getElem?_eq_some_iff.1 h3).1, h4, h5⟩
theorem fits_one1 {x : Int} (h0 : 0 ≤ x) (h1 : x < 18446744073709551616) : fits [x] := by
  intro j
  match j with
  | 0 => exact ⟨h0, h1⟩
  | _ + 1 => exact ⟨by simp, by simp⟩
theorem sl_one (w : World) (x : Int) (t : TypeId) : Sl (w.alloc (.cells #[.int .u64 x] t)) (.slice (some ⟨w.heap.size, 0, none⟩) 1 1) [x] := by
  have B := Blk.new w [.int .u64 x] t w.heap.size rfl
  exact .inr ⟨w.heap.size, 1, rfl, Nat.le_refl _, by decide, B.lt, fun j hj => by
    have e : j = 0 := by simp at hj; exact hj
    subst e
    exact B.cell 0 _ rfl⟩
theorem blk_news {w : World} {b : Nat} {cs : List Value} (h : Blk w b cs) : ∀ j u, cs[j]? = some u → w.cell? ((⟨b, 0, none⟩ : Addr).add j) = some u := fun j u hu => by
  have e : (⟨b, 0, none⟩ : Addr).add j = ⟨b, j, none⟩ := by unfold Addr.add; split <;> simp_all
  rw [e]; exact h.cell j u hu
theorem num_eight (w : World) (t : TypeId) : NumIs (w.alloc (.cells #[.int .u64 8] t)) (.slice (some ⟨w.heap.size, 0, none⟩) 1 1) 8 :=
  ⟨[8], sl_one w 8 t, fun j => by match j with | 0 => decide | _ + 1 => exact ⟨by simp, by simp⟩, fun _ => by decide, rfl⟩

set_option maxRecDepth 100000 in
set_option maxHeartbeats 4000000 in
theorem r7_Pad {n : Nat} {w : World} (hn : n ≤ 1125899906842624) :
    Calls Tryd.prog 29 #[.int .i64 (n : Int)] w fun e w' => ∃ (v' : Value) (P : List Int), e = .returned v' ∧ PadIs n P ∧ w'.ownsRow w.heap.size 5 1 v' P.length (u8s P) ∧ Below w.heap.size w w' := by
  obtain ⟨i0, hi0, hz0, hz1, hz2⟩ := info_parts info_b8
  obtain ⟨z, hz⟩ : ∃ z, zsN n = z := ⟨_, rfl⟩
  have HZ : Hid (zsN n = z) := hz
  have zl : z < 128 := by rw [← hz]; unfold zsN; omega
  have HC : Hid (∀ j, j ≤ z → ((n + 1 + j) % 128 = 112 ↔ j = z)) := by
    show ∀ j, j ≤ z → ((n + 1 + j) % 128 = 112 ↔ j = z)
    intro j hj
    unfold zsN at hz
    omega
  have own0 := own_made w (u8s [128]) 5 1 w.heap.size rfl (Nat.le_refl _) (by decide)
  have bel : Below w.heap.size w (w.alloc (.cells #[.int .u8 128] 5)) := (Below.refl _ _).alloc (Nat.le_refl _) _
  clear hz
  go_enter Tryd.func29, Tryd.ntmps29
  go_wp2
  replace own0 : (w.alloc (.cells #[.int .u8 128] 5)).ownsRow w.heap.size 5 1 (.slice (some ⟨w.heap.size, 0, none⟩) 1 1) 1 (u8s [128]) := own0
  generalize w.alloc (Obj.cells #[.int .u8 128] 5) = W at *
  go_loopw [3] (fun ov wx => ∃ j : Nat, j ≤ z ∧ wx.ownsRow w.heap.size 5 1 ov (j + 1) (u8s (128 :: List.replicate j 0)) ∧ Below w.heap.size w wx) (fun ov _ => 129 - lenV ov)
  case atStart => exact ⟨0, by omega, own0, bel⟩
  case round =>
    clear own0 bel
    obtain ⟨j, hj, hown, bel⟩ := hrel
    have hsz := bel.size
    obtain ⟨g, cap, rfl, hg, hg2, hc1, hc2⟩ := own_form hown (by omega)
    unfold maxLen at hc2
    have hcj := HC.out j hj
    have w1 : IntKind.i64.wrap ((n : Int) + ((j : Int) + 1)) = (n : Int) + ((j : Int) + 1) := by rw [IntKind.wrap_i64]; omega
    have w2 : ((n : Int) + ((j : Int) + 1)).tmod 128 = ((n : Int) + ((j : Int) + 1)) % 128 := Int.tmod_eq_emod_of_nonneg (by omega)
    by_cases hjz : j = z
    · subst hjz
      have hm : ((n : Int) + ((j : Int) + 1)) % 128 = 112 := by have := hcj.2 rfl; omega
      clear hcj w2 hj
      have fN := fits_one1 (x := (n : Int)) (by omega) (by omega)
      have SL := sl_one wr (n : Int) 26
      have wn : IntKind.u64.wrap (n : Int) = (n : Int) := by rw [IntKind.wrap_u64]; omega
      go_wp2_with fail
      replace bel := below_alloc (o := .cells #[.int .u64 (n : Int)] 26) bel
      replace hown := hown.alloc (.cells #[.int .u64 (n : Int)] 26)
      generalize wr.alloc (Obj.cells #[.int .u64 (n : Int)] 26) = W1 at *
      refine (of_any _ [(n : Int)] _ SL (by simp) (by simp) fN).mono ?_
      rintro e w2 ⟨v2, rfl, N2, hb⟩
      replace hown := own_later hown hb
      replace bel := below_step bel hb
      clear hb SL
      have e1 : v64 [(n : Int)] = (n : Int) := by show (n : Int) + 18446744073709551616 * 0 = _; omega
      rw [e1] at N2
      have N8 := num_eight w2 26
      replace N2 := N2.alloc (.cells #[.int .u64 8] 26)
      replace bel := below_alloc (o := .cells #[.int .u64 8] 26) bel
      replace hown := hown.alloc (.cells #[.int .u64 8] 26)
      clear e1
      go_wp2_with fail
      generalize w2.alloc (Obj.cells #[.int .u64 8] 26) = W2 at *
      refine (rmul_any _ _ _ _ _ N2 N8 (Int.lt_trans (show (n : Int) < 1125899906842625 by omega) (by decide)) (by decide)).mono ?_
      rintro e w3 ⟨v3, rfl, N3, hb⟩
      replace hown := own_later hown hb
      replace bel := below_step bel hb
      clear hb N2 N8
      go_wp2_with fail
      refine (rbytes_any16 _ _ _ N3 (Int.lt_of_le_of_lt (show (n : Int) * 8 ≤ 9007199254740992 by omega) (by decide))).mono ?_
      rintro e w4 ⟨gb, X, rfl, BX, lX, bX, nX, hb⟩
      replace hown := own_later hown hb
      replace bel := below_step bel hb
      have hsz4 := bel.size
      clear hb N3
      have HX : Hid (PadIs n (128 :: (List.replicate j 0 ++ X))) := ⟨X, lX, bX, by rw [nX]; omega, by rw [HZ.out]⟩
      have HL : Hid (X.length = 16) := lX
      have HE : Hid (u8s (128 :: List.replicate j 0) ++ u8s X = u8s (128 :: (List.replicate j 0 ++ X))) := by simp [u8s, Hid]
      have HN : Hid ((128 :: (List.replicate j 0 ++ X)).length = j + 1 + 16) := by simp [Hid, lX]
      have HB : Hid _ := BX
      clear bX nX lX BX
      go_wp2_with (first
        | (at_builtin; refine wpList_append_lies _ (by rfl) _ _ _ (by rfl) w.heap.size 5 i0 _ 1 1 Tryd.underlying22 hi0 hz0 hz1 hz2 rfl (by omega) _ _ _ (by rfl) hown ⟨gb, 0, none⟩ 16 16 (u8s X) (by rfl) (by simp [u8s, HL.out]) (blk_news HB.out) (by simp [u8s, Value.oneCell']) (by omega) (by unfold maxLen; omega) (by omega) hsz4 w4.heap.size rfl ?_; intro gg cap1 w5 hown1 hgrow hat hlt1)
        | fail)
      go_ret
      refine ⟨_, 128 :: (List.replicate j 0 ++ X), rfl, HX.out, ?_, Below.grown bel hgrow hsz4 (fun j hj => own_ge hown hj)⟩
      rw [HE.out] at hown1
      rw [HN.out]
      exact hown1
    · have hm : ¬ ((n : Int) + ((j : Int) + 1)) % 128 = 112 := by have := mt hcj.1 hjz; omega
      have HR : Hid _ := u8_rep j
      clear hcj w2
      go_wp2_with (first
        | (at_builtin; refine wpList_append_lies _ (by rfl) _ _ _ (by rfl) w.heap.size 5 i0 _ 1 1 Tryd.underlying22 hi0 hz0 hz1 hz2 rfl (by omega) _ _ _ (by rfl) (hown.alloc _) ⟨wr.heap.size, 0, none⟩ 1 1 [.int .u8 0] (by rfl) (by rfl) (World.news_of_block (cs := #[.int .u8 0]) (t := 5) (fr := (0, 0)) (heap_alloc_new wr _)) (by simp [Value.oneCell']) (by omega) (by unfold maxLen; omega) (by omega) (by simp; omega) (wr.heap.size + 1) (by simp) ?_; intro gg cap1 w1 hown1 hgrow hat hlt1)
        | fail)
      go_roundw
      case rel => exact ⟨j + 1, by omega, by rw [HR.out] at hown1; exact hown1, bel.trans (Below.grown ((Below.refl _ _).alloc hsz _) hgrow (by simp; omega) (fun j hj => own_ge hown hj))⟩
      case measure => simp [lenV]; omega
end Go.Proofs.YtbglkbfnhnmodaaDoor
