/- The program's words of bytes: read (word), laid (putWord). -/
import Derived.Test.YtbglkbfnhnmodaaDoorRows
import Derived.Test.YtbglkbfnhnmodaaDoorSBits
import Derived.Test.YtbglkbfnhnmodaaDoorFrom
import Derived.Deep.WholeRow
import Derived.Deep.RegionHeld3
import Derived.Deep.DeepCutAuto
import Derived.Deep.DeepFit
namespace Go.Proofs.YtbglkbfnhnmodaaDoor
open Go.RowKit

theorem or_byte {x y : Int} (x0 : 0 ≤ x) (x1 : x < 72057594037927936) (y0 : 0 ≤ y) (y1 : y < 256) : bits .or .u64 (x * 256) y = 256 * x + y := by
  obtain ⟨a, rfl⟩ := Int.eq_ofNat_of_zero_le x0
  obtain ⟨b, rfl⟩ := Int.eq_ofNat_of_zero_le y0
  have e : ((a : Int) * 256) = ((a * 256 : Nat) : Int) := by omega
  rw [e, u64_or_nat _ _ (by omega) (by omega)]
  have h := Nat.shiftLeft_add_eq_or_of_lt (i := 8) (b := b) (by omega) a
  rw [Nat.shiftLeft_eq] at h
  rw [← h]
  omega

set_option maxRecDepth 100000 in
theorem con_word {b o n cap i : Nat} {B : List Int} {w : World} (hB : byt B) (hn : 8 ≤ n) (hc0 : ∀ j, j < 8 → w.cell? ⟨b, o + j, none⟩ = some (.int .u8 (B.getD (8 * i + j) 0))) :
    Calls Tryd.prog 42 #[.slice (some ⟨b, o, none⟩) n cap] w fun e w' => e = .returned (.int .u64 (wdN B i 8)) ∧ Below w.heap.size w w' := by
  have HC : Hid _ := hc0
  have HB : Hid _ := hB
  clear hc0 hB
  go_enter Tryd.func42, Tryd.ntmps42
  go_wp2_with fail
  go_loop [3, 5] (fun xv jv => ∃ j : Nat, j ≤ 8 ∧ jv = .int .i64 j ∧ xv = .int .u64 (wdN B i j)) (fun _ jv => 8 - (intOf jv).toNat)
  case atStart => exact ⟨0, by omega, rfl, rfl⟩
  case round =>
    obtain ⟨j, hj, rfl, rfl⟩ := hrel
    by_cases hjl : j < 8
    · have g2 : (j : Int) < 8 := by omega
      have hc1 := HC.out j hjl
      have yb := HB.out (8 * i + j)
      have xb := wdN_bd HB.out i j
      have HN : Hid (wdN B i (j + 1) = 256 * wdN B i j + B.getD (8 * i + j) 0) := rfl
      have pj : (256 : Int) ^ j ≤ 256 ^ 7 := by
        have : j = 0 ∨ j = 1 ∨ j = 2 ∨ j = 3 ∨ j = 4 ∨ j = 5 ∨ j = 6 ∨ j = 7 := by omega
        rcases this with rfl | rfl | rfl | rfl | rfl | rfl | rfl | rfl <;> decide
      obtain ⟨y, hy⟩ : ∃ y, B.getD (8 * i + j) 0 = y := ⟨_, rfl⟩
      obtain ⟨x, hx⟩ : ∃ x, wdN B i j = x := ⟨_, rfl⟩
      rw [hy] at hc1 yb HN
      rw [hx] at xb HN ⊢
      have x7 : x < 256 ^ 7 := by omega
      have x0 := xb.1
      clear hx hy xb pj
      have e7 : (256 : Int) ^ 7 = 72057594037927936 := by decide
      rw [e7] at x7
      clear e7
      have w1 : IntKind.u64.wrap (x * 2 ^ 8) = 256 * x := by rw [IntKind.wrap_u64]; omega
      have w3 : IntKind.u64.wrap y = y := by rw [IntKind.wrap_u64]; omega
      have w4 := or_byte x0 x7 yb.1 yb.2
      have g3 : (0 : Int) ≤ (j : Int) := by omega
      have g4 : (j : Int) < (n : Int) := by omega
      go_wp2_with fail
      go_round
      case rel => exact ⟨j + 1, by omega, by go_num, by rw [HN.out]⟩
      case measure => simp [intOf]; omega
    · have g2 : (8 : Int) ≤ (j : Int) := by omega
      have hj8 : j = 8 := by omega
      subst hj8
      go_wp2_with fail
      go_ret
      exact ⟨rfl, Below.refl _ _⟩

/-- a word laid from place o on: the last byte first -/
def putsN (L : List Int) (o : Nat) (x : Int) : Nat → List Int
  | 0 => L
  | k + 1 => (putsN L o x k).set (o + (7 - k)) (x / 256 ^ k % 256)
theorem putsN_len (L : List Int) (o : Nat) (x : Int) : ∀ k, (putsN L o x k).length = L.length
  | 0 => rfl
  | k + 1 => by rw [putsN, List.length_set, putsN_len L o x k]
/-- nothing but block g is other than it was -/
def PutB (w w' : World) (g : Nat) (L : List Int) : Prop := Blk w' g (u8s L) ∧ (∀ c X, c ≠ g → Blk w c X → Blk w' c X) ∧ (∀ B a, B ≤ g → Below B a w → Below B a w') ∧ w'.heap.size = w.heap.size
theorem PutB.set {w w' : World} {g : Nat} {L : List Int} (h : PutB w w' g L) (k : Nat) (y : Int) : PutB w (w'.setCell ⟨g, k, none⟩ (.int .u8 y)) g (L.set k y) := by
  obtain ⟨h1, h2, h3, h4⟩ := h
  refine ⟨?_, fun c X hc hx => (h2 c X hc hx).other _ _ hc, fun B a hB hb => (h3 B a hB hb).setCell hB _, by rw [← h4]; simp⟩
  have e := h1.set k (.int .u8 y)
  rwa [show (u8s L).set k (.int .u8 y) = u8s (L.set k y) by simp [u8s, List.map_set]] at e

set_option maxRecDepth 100000 in
theorem con_put {g o n cap : Nat} {L : List Int} {x : Int} {w : World} (B : Blk w g (u8s L)) (hn : 8 ≤ n) (hl : o + 8 ≤ L.length) (hx : w64 x) :
    Calls Tryd.prog 23 #[.slice (some ⟨g, o, none⟩) n cap, .int .u64 x] w fun e w' => e = .returned (.tuple #[]) ∧ PutB w w' g (putsN L o x 8) := by
  have HX : Hid (w64 x) := hx
  clear hx
  have P0 : PutB w w g (putsN L o x 0) := ⟨B, fun _ _ _ h => h, fun _ _ _ h => h, rfl⟩
  clear B
  go_enter Tryd.func23, Tryd.ntmps23
  go_wp2_with fail
  obtain ⟨W, hW⟩ : ∃ z, z = w := ⟨_, rfl⟩
  rw [← hW] at P0 ⊢
  have HW : Hid (W = w) := hW
  clear hW
  go_loopw [1, 5] (fun xv jv wx => ∃ k : Nat, k ≤ 8 ∧ jv = .int .i64 k ∧ xv = .int .u64 (x / 256 ^ k) ∧ PutB W wx g (putsN L o x k)) (fun _ jv _ => 8 - (intOf jv).toNat)
  case atStart => exact ⟨0, by omega, rfl, by simp, P0⟩
  case round =>
    clear P0
    obtain ⟨k, hk, rfl, rfl, P⟩ := hrel
    by_cases hkl : k < 8
    · have g2 : (k : Int) < 8 := by omega
      have HS : Hid (PutB W (wr.setCell ⟨g, o + (7 - k), none⟩ (.int .u8 (x / 256 ^ k % 256))) g (putsN L o x (k + 1))) := P.set _ _
      have HD : Hid (x / 256 ^ k / 2 ^ 8 = x / 256 ^ (k + 1)) := by
        show _ = _
        rw [Int.pow_succ, Int.ediv_ediv_of_nonneg (Int.le_of_lt (Int.pow_pos (by decide)))]
        rfl
      have BG := P.1
      have lt := BG.lt
      have fz := BG.frozen (o + (7 - k))
      have cg := BG.cell (o + (7 - k)) _ (u8s_get _ _ (by rw [putsN_len]; omega))
      obtain ⟨y, hy⟩ : ∃ y, x / 256 ^ k = y := ⟨_, rfl⟩
      rw [hy] at HS HD ⊢
      clear hy P BG
      have w1 : IntKind.u8.wrap y = y % 256 := by rw [IntKind.wrap_u8]
      have w2 : IntKind.i64.wrap (7 - (k : Int)) = 7 - (k : Int) := by rw [IntKind.wrap_i64]; omega
      have g3 : (0 : Int) ≤ 7 - (k : Int) := by omega
      have g4 : 7 - (k : Int) < (n : Int) := by omega
      have g5 : (7 - (k : Int)).toNat = 7 - k := by omega
      go_wp2_with fail
      go_roundw
      case rel => exact ⟨k + 1, by omega, by go_num, by rw [← HD.out]; rfl, HS.out⟩
      case measure => simp [intOf]; omega
    · have g2 : (8 : Int) ≤ (k : Int) := by omega
      have hk8 : k = 8 := by omega
      subst hk8
      go_wp2_with fail
      exact bodyPost_end (v := .tuple #[]) (by simp [results, Tryd.results23, go_sem]) rfl ⟨rfl, by rw [← HW.out]; exact P⟩

/-- a word's eight bytes, the highest first -/
def be8 (x : Int) : List Int := [x / 256 ^ 7 % 256, x / 256 ^ 6 % 256, x / 256 ^ 5 % 256, x / 256 ^ 4 % 256, x / 256 ^ 3 % 256, x / 256 ^ 2 % 256, x / 256 ^ 1 % 256, x / 256 ^ 0 % 256]
theorem puts_is (O R : List Int) (o : Nat) (x z0 z1 z2 z3 z4 z5 z6 z7 : Int) (h : o = O.length) : putsN (O ++ [z0, z1, z2, z3, z4, z5, z6, z7] ++ R) o x 8 = O ++ be8 x ++ R := by
  subst h
  have e : ∀ (Y : List Int) (j : Nat) (y : Int), (O ++ Y).set (O.length + j) y = O ++ Y.set j y := by
    intro Y j y
    rw [List.set_append_right _ _ (by omega), show O.length + j - O.length = j by omega]
  simp only [putsN, List.append_assoc, e]
  rfl
theorem be8_num {x : Int} (h : w64 x) : beN (be8 x) = x := by
  have h0 := h.1
  have h1 := h.2
  show x / 256 ^ 0 % 256 + 256 * (x / 256 ^ 1 % 256 + 256 * (x / 256 ^ 2 % 256 + 256 * (x / 256 ^ 3 % 256 + 256 * (x / 256 ^ 4 % 256 + 256 * (x / 256 ^ 5 % 256 + 256 * (x / 256 ^ 6 % 256 + 256 * (x / 256 ^ 7 % 256 + 256 * 0))))))) = x
  omega
theorem be8_len (x : Int) : (be8 x).length = 8 := rfl
theorem be8_byt (x : Int) : byt (be8 x) := by
  apply byt_of
  intro j hj
  have hm : ∀ y : Int, 0 ≤ y % 256 ∧ y % 256 < 256 := fun y => by omega
  match j, hj with
  | 0, _ => exact hm _
  | 1, _ => exact hm _
  | 2, _ => exact hm _
  | 3, _ => exact hm _
  | 4, _ => exact hm _
  | 5, _ => exact hm _
  | 6, _ => exact hm _
  | 7, _ => exact hm _
end Go.Proofs.YtbglkbfnhnmodaaDoor
