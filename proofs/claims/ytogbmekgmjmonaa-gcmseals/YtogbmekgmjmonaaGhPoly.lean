/- The document's poly: a block's coefficients. -/
import Derived.Test.YtogbmekgmjmonaaRows
import Derived.Test.YtogbmekgmjmonaaGhNumG
import Derived.Test.YtogbmekgmjmonaaAeNumG
import Derived.Test.YtogbmekgmjmonaaShape
import Derived.Test.YtogbmekgmjmonaaWpRowG
import Derived.Deep.OwnRows
import Derived.Deep.AppendLies
import Derived.Deep.WholeRow
import Derived.Deep.RegionHeld3
import Derived.Deep.DeepCutAuto
import Derived.Deep.DeepFit
namespace Go.Proofs.Ytogbmekgmjmonaa
open Go.RowKit

abbrev i64s (A : List Int) : List Value := A.map (Value.int .i64)
theorem i64s_get (A : List Int) (j : Nat) (h : j < A.length) : (i64s A)[j]? = some (.int .i64 (A.getD j 0)) := by
  simp [i64s, h]
theorem info_int : (Try.prog.info? 3).map (fun i => (i.zero, i.size, i.bytes)) = some (some (.int .i64 0), 1, 8) := by kernel_rfl
theorem Blk.seti {w : World} {b : Nat} {S : List Int} (h : Blk w b (i64s S)) (k : Nat) (s : Int) : Blk (w.setCell ⟨b, k, none⟩ (.int .i64 s)) b (i64s (S.set k s)) := by
  have : i64s (S.set k s) = (i64s S).set k (.int .i64 s) := by simp [i64s, List.map_set]
  rw [this]
  exact h.set k _
theorem pol1_div {S : List Int} {i n s : Nat} (hn : (S.getD (i / 8) 0) = (n : Int)) (hs : 7 - i % 8 = s) : ((n / 2 ^ s % 2 : Nat) : Int) = pol1 S i := by
  unfold pol1 cbB
  rw [hn, Int.toNat_natCast, hs, Nat.testBit_eq_decide_div_mod_eq]
  have := Nat.mod_lt (n / 2 ^ s) (show 0 < 2 by decide)
  by_cases k : n / 2 ^ s % 2 = 1
  · rw [k, decide_eq_true rfl]; rfl
  · rw [show n / 2 ^ s % 2 = 0 by omega, decide_eq_false (by decide)]; rfl
theorem bit_div (x k : Nat) : ((x : Int) / 2 ^ k).tmod 2 = ((x / 2 ^ k % 2 : Nat) : Int) := by
  rw [Int.tmod_eq_emod_of_nonneg (Int.ediv_nonneg (by omega) (Int.le_of_lt (Int.pow_pos (by decide))))]
  have e : ((x : Int) / 2 ^ k) = ((x / 2 ^ k : Nat) : Int) := by simp
  rw [e]
  omega

theorem own_lower {w : World} {base b2 : Nat} {e : TypeId} {v : Value} {n : Nat} {xs : List Value} (h : w.ownsRow base e 1 v n xs) (hb : b2 ≤ base) : w.ownsRow b2 e 1 v n xs := by
  obtain ⟨h1, h2⟩ := h
  refine ⟨h1, ?_⟩
  rcases h2 with h2 | ⟨g, cap, cur, a, b, c⟩
  · exact .inl h2
  · exact .inr ⟨g, cap, cur, a, Nat.le_trans hb b, c⟩
set_option linter.unusedSimpArgs false in
set_option maxRecDepth 100000 in
set_option maxHeartbeats 2000000 in
theorem r10_poly {S : List Int} {w : World} (l : S.length = 16) (b : byt S) :
    Calls Try.prog 49 #[.agg (u8s S).toArray] w fun e w' => ∃ v' : Value, e = .returned v' ∧ w'.ownsRow w.heap.size 3 1 v' 128 (i64s (polL S 128)) ∧ Below w.heap.size w w' := by
  obtain ⟨i0, hi0, hz0, hz1, hz2⟩ := info_parts info_int
  have HL : Hid (S.length = 16) := l
  have HB : Hid (byt S) := b
  clear l b
  have B0 := Blk.new w (u8s S) 42 w.heap.size rfl
  have bel : Below w.heap.size w (w.alloc (.cells (u8s S).toArray 42)) := (Below.refl _ _).alloc (Nat.le_refl _) _
  generalize (u8s S).toArray = cs at B0 bel ⊢
  go_enter Try.func49, Try.ntmps49
  go_upto_region 1 with fail
  generalize w.alloc (Obj.cells cs 42) = W at *
  go_wp2_with fail
  have lt0 := B0.lt
  go_loopw [3, 4] (fun ov iv wx => ∃ i : Nat, i ≤ 128 ∧ iv = .int .i64 i ∧ wx.ownsRow W.heap.size 3 1 ov i (i64s (polL S i)) ∧ Below W.heap.size W wx) (fun _ iv _ => 128 - (intOf iv).toNat)
  case atStart => exact ⟨0, by omega, rfl, World.ownsRow_nil _ _ _ _, Below.refl _ _⟩
  case round =>
    obtain ⟨i, hi, rfl, own, hbx⟩ := hrel
    by_cases hil : i < 128
    · have gA : (i : Int) < 128 := by omega
      have gi : IntKind.i64.wrap ((i : Int) + 1) = (i : Int) + 1 := by rw [IntKind.wrap_i64]; omega
      obtain ⟨q, hq⟩ : ∃ q, i / 8 = q := ⟨_, rfl⟩
      obtain ⟨r, hr⟩ : ∃ r, i % 8 = r := ⟨_, rfl⟩
      obtain ⟨s, hs⟩ : ∃ s, 7 - r = s := ⟨_, rfl⟩
      obtain ⟨n, hn⟩ := Int.eq_ofNat_of_zero_le (HB.out q).1
      have HN : Hid (((n / 2 ^ s % 2 : Nat) : Int) = pol1 S i) := pol1_div (by rw [hq]; exact hn) (by rw [hr]; exact hs)
      have n1 := (HB.out q).2
      have ck := (B0.below hbx B0.lt).cell q _ (u8s_get S q (by rw [HL.out]; omega))
      rw [hn] at ck n1
      have d1 : (i : Int).tdiv 8 = (q : Int) := by rw [Int.tdiv_eq_ediv_of_nonneg (by omega)]; omega
      have d2 : (i : Int).tmod 8 = (r : Int) := by rw [Int.tmod_eq_emod_of_nonneg (by omega)]; omega
      have w1 : IntKind.i64.wrap (q : Int) = (q : Int) := by rw [IntKind.wrap_i64]; omega
      have w2 : IntKind.i64.wrap (7 - (r : Int)) = (s : Int) := by rw [IntKind.wrap_i64]; omega
      have w3 : IntKind.i64.wrap (n : Int) = (n : Int) := by rw [IntKind.wrap_i64]; omega
      have g2 : (q : Int) < 16 := by omega
      have g3 : (0 : Int) ≤ (q : Int) := by omega
      have g4 : ¬ (s : Int) < 0 := by omega
      have m1 : min s 64 = s := by omega
      have t1 := bit_div n s
      rw [HN.out] at t1
      have HX : Hid _ := polL_next S i
      obtain ⟨x, hx⟩ : ∃ x, pol1 S i = x := ⟨_, rfl⟩
      rw [hx] at t1 HX
      have HX2 : Hid (i64s (polL S i) ++ [.int .i64 x] = i64s (polL S (i + 1))) := by rw [← HX.out]; simp [i64s, Hid]
      clear hx hq hr hs hn HN n1 HX
      have hsx := hbx.size
      have ltk := Nat.lt_of_lt_of_le B0.lt hsx
      go_wp2_with (first
        | (at_builtin; refine wpList_append_lies _ (by rfl) _ _ _ (by rfl) W.heap.size 3 i0 _ 1 8 Try.underlying72 hi0 hz0 hz1 hz2 rfl (by omega) _ _ _ (by rfl) (own.alloc _) ⟨wr.heap.size, 0, none⟩ 1 1 [.int .i64 x] (by rfl) (by rfl) (World.news_of_block (cs := #[.int .i64 x]) (t := 3) (fr := (0, 0)) (heap_alloc_new wr _)) (by simp [Value.oneCell']) (by omega) (by unfold maxLen; omega) (by omega) (by simp; omega) (wr.heap.size + 1) (by simp) ?_; intro gg cap1 w5 hown1 hgrow hat hlt1)
        | fail)
      go_roundw
      case rel =>
        rw [HX2.out] at hown1
        exact ⟨i + 1, by omega, by go_num, hown1, hbx.trans (Below.grown ((Below.refl _ _).alloc (by omega) _) hgrow (by simp; omega) (fun j hj => own_geA own hj))⟩
      case measure => simp [intOf]; omega
    · have HI : Hid (i = 128) := by show i = 128; omega
      have gA : (128 : Int) ≤ (i : Int) := by omega
      go_wp2_with fail
      go_ret
      have bs := bel.size
      rw [HI.out] at own
      exact ⟨_, rfl, own_lower own bs, below_step bel hbx⟩
end Go.Proofs.Ytogbmekgmjmonaa
