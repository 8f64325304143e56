/- Rows of whole numbers that stand for a block by their parities. Plain facts. -/
import Derived.Test.YtpfmoakapdfdaaaGhBlk
namespace Go.Proofs.Ytpfmoakapdfdaaa

theorem xs_upd {f g : Nat → Nat} {m : Nat} : ∀ {n : Nat}, m < n → (∀ i, i ≠ m → g i = f i) → xsN g n = xsN f n ^^^ (f m ^^^ g m)
  | 0, h, _ => absurd h (by omega)
  | n + 1, h, k => by
    rw [xsN, xsN]
    by_cases e : m = n
    · subst e
      rw [xsN_congr (f := g) (g := f) (fun i hi => k i (by omega))]
      apply Nat.eq_of_testBit_eq
      intro i
      simp only [Nat.testBit_xor]
      cases (xsN f m).testBit i <;> cases (f m).testBit i <;> cases (g m).testBit i <;> rfl
    · rw [xs_upd (show m < n by omega) k, k n (fun h => e h.symm)]
      apply Nat.eq_of_testBit_eq
      intro i
      simp only [Nat.testBit_xor]
      cases (xsN f n).testBit i <;> cases (f m).testBit i <;> cases (g m).testBit i <;> cases (f n).testBit i <;> rfl
def oddN (x : Int) (c : Nat) : Nat := if x % 2 = 1 then c else 0
theorem oddN_add (x y : Int) (c : Nat) : oddN x c ^^^ oddN (x + y) c = oddN y c := by
  unfold oddN
  by_cases hx : x % 2 = 1 <;> by_cases hy : y % 2 = 1
  · rw [if_pos hx, if_pos hy, if_neg (by omega)]; simp
  · rw [if_pos hx, if_neg hy, if_pos (by omega)]; simp
  · rw [if_neg hx, if_pos hy, if_pos (by omega)]; simp
  · rw [if_neg hx, if_neg hy, if_neg (by omega)]; simp
/-- what the first n numbers stand for -/
def valN (X : List Int) (n : Nat) : Nat := xsN (fun m => oddN (X.getD m 0) (ttN m 1)) n
theorem getD_set_i (X : List Int) (m i : Nat) (y : Int) (h : m < X.length) : (X.set m y).getD i 0 = if i = m then y else X.getD i 0 := by
  rw [List.getD_eq_getElem?_getD, List.getD_eq_getElem?_getD]
  by_cases e : i = m
  · subst e
    rw [if_pos rfl, List.getElem?_set_self h]
    rfl
  · rw [if_neg e, List.getElem?_set_ne (fun h => e h.symm)]
/-- one number made greater -/
def bump (X : List Int) (m : Nat) (c : Int) : List Int := X.set m (X.getD m 0 + c)
theorem bump_len (X : List Int) (m : Nat) (c : Int) : (bump X m c).length = X.length := List.length_set
theorem bump_get {X : List Int} {m : Nat} (c : Int) (i : Nat) (h : m < X.length) : (bump X m c).getD i 0 = if i = m then X.getD m 0 + c else X.getD i 0 := getD_set_i X m i _ h
theorem val_bump {X : List Int} {m n : Nat} (c : Int) (hm : m < n) (hl : m < X.length) : valN (bump X m c) n = valN X n ^^^ oddN c (ttN m 1) := by
  unfold valN bump
  rw [xs_upd (f := fun m => oddN (X.getD m 0) (ttN m 1)) (g := fun i => oddN ((X.set m (X.getD m 0 + c)).getD i 0) (ttN i 1)) hm (fun i hi => by simp only [getD_set_i X m i _ hl, if_neg hi])]
  simp only [getD_set_i X m m _ hl, if_true]
  rw [oddN_add]
/-- each of them at most b -/
def upTo (X : List Int) (b : Int) : Prop := ∀ m, 0 ≤ X.getD m 0 ∧ X.getD m 0 ≤ b
theorem upTo.bump {X : List Int} {b c d : Int} {m : Nat} (h : upTo X b) (hl : m < X.length) (c0 : 0 ≤ c) (c1 : b + c ≤ d) : upTo (bump X m c) d := by
  intro i
  rw [bump_get c i hl]
  have h1 := h m
  have h2 := h i
  split <;> omega
theorem upTo.mono {X : List Int} {b d : Int} (h : upTo X b) (k : b ≤ d) : upTo X d := fun m => by have := h m; omega
theorem upTo_zero : upTo (List.replicate 256 0) 0 := fun m => by
  have e : (List.replicate 256 (0 : Int)).getD m 0 = 0 := by
    rw [List.getD_eq_getElem?_getD, List.getElem?_replicate]
    split <;> rfl
  rw [e]
  exact ⟨by decide, by decide⟩
theorem val_zero : ∀ n, valN (List.replicate 256 0) n = 0 := fun n => by
  unfold valN
  rw [xsN_congr (g := fun _ => 0) (fun i _ => ?_)]
  · exact xsN_zero n
  · have e : (List.replicate 256 (0 : Int)).getD i 0 = 0 := by
      rw [List.getD_eq_getElem?_getD, List.getElem?_replicate]
      split <;> rfl
    rw [e]
    rfl
/-- a block's coefficients -/
def pol1 (S : List Int) (i : Nat) : Int := if cbB S i then 1 else 0
def polL (S : List Int) (n : Nat) : List Int := (List.range n).map (pol1 S)
theorem polL_len (S : List Int) (n : Nat) : (polL S n).length = n := by simp [polL]
theorem polL_get {S : List Int} {n i : Nat} (h : i < n) : (polL S n).getD i 0 = pol1 S i := by
  simp [polL, List.getD_eq_getElem?_getD, h]
theorem polL_next (S : List Int) (n : Nat) : polL S n ++ [pol1 S n] = polL S (n + 1) := by
  rw [polL, polL, List.range_succ, List.map_append]
  rfl
theorem pol1_bit (S : List Int) (i : Nat) : pol1 S i = 0 ∨ pol1 S i = 1 := by
  unfold pol1
  split
  · exact .inr rfl
  · exact .inl rfl
theorem odd_pol {A B : List Int} {i k : Nat} (hi : i < 128) (hk : k < 128) (c : Nat) : oddN (pol1 A i * pol1 B k) c = atN (blkN A) i (atN (blkN B) k c) := by
  unfold oddN pol1 atN
  rw [blkN_bit, blkN_bit]
  simp only [hi, hk, decide_true, Bool.true_and]
  cases cbB A i <;> cases cbB B k <;> simp
/-- a product so far: i whole numbers, and k of the next -/
def accM (a b i k : Nat) : Nat := xsN (fun j => atN a j (ttN j b)) i ^^^ atN a i (xsN (fun j => atN b j (ttN (i + j) 1)) k)
theorem accM_0 (a b : Nat) : accM a b 0 0 = 0 := by
  unfold accM atN
  simp [xsN]
theorem accM_step (a b i k : Nat) : accM a b i (k + 1) = accM a b i k ^^^ atN a i (atN b k (ttN (i + k) 1)) := by
  unfold accM
  rw [xsN, atN_xor2, Nat.xor_assoc]
theorem accM_row {a b : Nat} (hb : b < 2 ^ 128) (i : Nat) : accM a b i 128 = accM a b (i + 1) 0 := by
  unfold accM
  have e : xsN (fun j => atN b j (ttN (i + j) 1)) 128 = ttN i b := by
    conv => rhs; rw [← bits_all hb]
    rw [xsN_tt]
    exact xsN_congr (fun j hj => by rw [atN_tt, ttN_add, ttN_one hj])
  rw [e, xsN, xsN]
  have z : atN a (i + 1) 0 = 0 := by unfold atN; simp
  rw [z, Nat.xor_zero]
theorem accM_all (a b : Nat) : accM a b 128 0 = mulN2 a b := by
  unfold accM
  have z : atN a 128 0 = 0 := by unfold atN; simp
  rw [xsN, z, Nat.xor_zero]
  rfl
/-- what is above x^127 is put below -/
theorem val_fold {X : List Int} {m : Nat} {n : Int} (l : X.length = 256) (h : m < 128) (hn : X.getD (m + 128) 0 % 2 = n) : valN (bump (bump (bump (bump X (m + 7) n) (m + 2) n) (m + 1) n) m n) (m + 128) = valN X (m + 129) := by
  have hx : valN X (m + 129) = valN X (m + 128) ^^^ oddN n (ttN (m + 128) 1) := by
    show valN X (m + 128) ^^^ oddN _ _ = _
    unfold oddN
    by_cases k : X.getD (m + 128) 0 % 2 = 1
    · rw [if_pos k, if_pos (by omega)]
    · rw [if_neg k, if_neg (by omega)]
  have hf : oddN n (ttN (m + 128) 1) = oddN n (ttN (m + 7) 1) ^^^ oddN n (ttN (m + 2) 1) ^^^ oddN n (ttN (m + 1) 1) ^^^ oddN n (ttN m 1) := by
    unfold oddN
    by_cases k : n % 2 = 1
    · rw [if_pos k, if_pos k, if_pos k, if_pos k, if_pos k, ttN_fold]
    · rw [if_neg k, if_neg k, if_neg k, if_neg k, if_neg k]; rfl
  rw [val_bump n (by omega) (by rw [bump_len, bump_len, bump_len]; omega), val_bump n (by omega) (by rw [bump_len, bump_len]; omega), val_bump n (by omega) (by rw [bump_len]; omega), val_bump n (by omega) (by omega), hx, hf]
  simp only [Nat.xor_assoc]
/-- the parities of the first 128 are the block's -/
theorem val_bit (X : List Int) {i : Nat} (h : i < 128) : (valN X 128).testBit i = decide (X.getD i 0 % 2 = 1) := by
  have e : valN X 128 = xsN (fun m => if (decide (X.getD m 0 % 2 = 1)) then 2 ^ m else 0) 128 := xsN_congr (fun m hm => by
    unfold oddN
    rw [ttN_one hm]
    by_cases k : X.getD m 0 % 2 = 1
    · rw [if_pos k, decide_eq_true k, if_pos rfl]
    · rw [if_neg k, decide_eq_false k, if_neg (by decide)])
  rw [e, xs_bit]
  simp [h]
theorem val_lt (X : List Int) : valN X 128 < 2 ^ 128 := xsN_lt (fun i => by
  unfold oddN
  split
  · exact ttN_lt (by decide) i
  · exact Nat.two_pow_pos 128) 128
theorem byte8_congr {f g : Nat → Bool} (h : ∀ r, r < 8 → g r = f r) : byte8 g = byte8 f := by
  unfold byte8
  rw [h 0 (by decide), h 1 (by decide), h 2 (by decide), h 3 (by decide), h 4 (by decide), h 5 (by decide), h 6 (by decide), h 7 (by decide)]
theorem byte8_add {f g : Nat → Bool} {r : Nat} (hr : r < 8) (h : ∀ j, j < 8 → j ≠ r → g j = f j) (hf : f r = false) : byte8 g = byte8 f + (g r).toNat * 2 ^ (7 - r) := by
  unfold byte8
  match r, hr with
  | 0, _ => rw [h 1 (by decide) (by decide), h 2 (by decide) (by decide), h 3 (by decide) (by decide), h 4 (by decide) (by decide), h 5 (by decide) (by decide), h 6 (by decide) (by decide), h 7 (by decide) (by decide), hf]; simp; omega
  | 1, _ => rw [h 0 (by decide) (by decide), h 2 (by decide) (by decide), h 3 (by decide) (by decide), h 4 (by decide) (by decide), h 5 (by decide) (by decide), h 6 (by decide) (by decide), h 7 (by decide) (by decide), hf]; simp; omega
  | 2, _ => rw [h 0 (by decide) (by decide), h 1 (by decide) (by decide), h 3 (by decide) (by decide), h 4 (by decide) (by decide), h 5 (by decide) (by decide), h 6 (by decide) (by decide), h 7 (by decide) (by decide), hf]; simp; omega
  | 3, _ => rw [h 0 (by decide) (by decide), h 1 (by decide) (by decide), h 2 (by decide) (by decide), h 4 (by decide) (by decide), h 5 (by decide) (by decide), h 6 (by decide) (by decide), h 7 (by decide) (by decide), hf]; simp; omega
  | 4, _ => rw [h 0 (by decide) (by decide), h 1 (by decide) (by decide), h 2 (by decide) (by decide), h 3 (by decide) (by decide), h 5 (by decide) (by decide), h 6 (by decide) (by decide), h 7 (by decide) (by decide), hf]; simp; omega
  | 5, _ => rw [h 0 (by decide) (by decide), h 1 (by decide) (by decide), h 2 (by decide) (by decide), h 3 (by decide) (by decide), h 4 (by decide) (by decide), h 6 (by decide) (by decide), h 7 (by decide) (by decide), hf]; simp; omega
  | 6, _ => rw [h 0 (by decide) (by decide), h 1 (by decide) (by decide), h 2 (by decide) (by decide), h 3 (by decide) (by decide), h 4 (by decide) (by decide), h 5 (by decide) (by decide), h 7 (by decide) (by decide), hf]; simp; omega
  | 7, _ => rw [h 0 (by decide) (by decide), h 1 (by decide) (by decide), h 2 (by decide) (by decide), h 3 (by decide) (by decide), h 4 (by decide) (by decide), h 5 (by decide) (by decide), h 6 (by decide) (by decide), hf]; simp
/-- a number's block, of its first i bits -/
def outP (V i : Nat) : List Int := (List.range 16).map fun j => ((byte8 (fun r => decide (8 * j + r < i) && V.testBit (8 * j + r)) : Nat) : Int)
theorem outP_len (V i : Nat) : (outP V i).length = 16 := by simp [outP]
theorem outP_get (V i : Nat) {j : Nat} (h : j < 16) : (outP V i).getD j 0 = ((byte8 (fun r => decide (8 * j + r < i) && V.testBit (8 * j + r)) : Nat) : Int) := by
  simp [outP, List.getD_eq_getElem?_getD, h]
theorem outP_0 (V : Nat) : outP V 0 = List.replicate 16 0 := by
  unfold outP
  have e : ∀ j, byte8 (fun r => decide (8 * j + r < 0) && V.testBit (8 * j + r)) = 0 := fun j => by
    rw [byte8_congr (f := fun _ => false) (fun r _ => by simp)]
    rfl
  simp only [e]
  rfl
theorem outP_128 (V : Nat) : outP V 128 = ofN V := by
  unfold outP ofN
  apply List.map_congr_left
  intro j hj
  have := List.mem_range.1 hj
  rw [byte8_congr (fun r hr => by rw [decide_eq_true (show 8 * j + r < 128 by omega), Bool.true_and])]
theorem outP_set {V i : Nat} (_ : i < 128) : (outP V i).set (i / 8) ((outP V i).getD (i / 8) 0 + (((V.testBit i).toNat * 2 ^ (7 - i % 8) : Nat) : Int)) = outP V (i + 1) := by
  apply List.ext_getElem?
  intro j
  by_cases hj : j < 16
  · by_cases e : i / 8 = j
    · rw [e, List.getElem?_set_self (by rw [outP_len]; exact hj), outP_get V i hj]
      simp only [outP, List.getElem?_map, List.getElem?_range hj, Option.map_some, Option.some.injEq]
      have k := byte8_add (f := fun r => decide (8 * j + r < i) && V.testBit (8 * j + r)) (g := fun r => decide (8 * j + r < i + 1) && V.testBit (8 * j + r)) (r := i % 8) (by omega) (fun q hq hn => by
        by_cases l : 8 * j + q < i
        · rw [decide_eq_true l, decide_eq_true (by omega)]
        · rw [decide_eq_false l, decide_eq_false (by omega)]) (by rw [decide_eq_false (by omega)]; rfl)
      rw [k]
      simp only [show 8 * j + i % 8 = i by omega, show i < i + 1 by omega, decide_true, Bool.true_and]
      omega
    · rw [List.getElem?_set_ne e]
      simp only [outP, List.getElem?_map, List.getElem?_range hj, Option.map_some, Option.some.injEq]
      rw [byte8_congr (f := fun r => decide (8 * j + r < i + 1) && V.testBit (8 * j + r)) (g := fun r => decide (8 * j + r < i) && V.testBit (8 * j + r)) (fun r hr => by
        by_cases l : 8 * j + r < i
        · rw [decide_eq_true l, decide_eq_true (by omega)]
        · rw [decide_eq_false l, decide_eq_false (by omega)])]
  · rw [List.getElem?_eq_none (by rw [List.length_set, outP_len]; omega), List.getElem?_eq_none (by rw [outP_len]; omega)]
theorem outP_room {V i : Nat} (h : i < 128) : (outP V i).getD (i / 8) 0 + (((V.testBit i).toNat * 2 ^ (7 - i % 8) : Nat) : Int) < 256 := by
  have e := outP_set (V := V) h
  have k : (outP V (i + 1)).getD (i / 8) 0 = (outP V i).getD (i / 8) 0 + (((V.testBit i).toNat * 2 ^ (7 - i % 8) : Nat) : Int) := by
    rw [← e, getD_set_i _ _ _ _ (by rw [outP_len]; omega), if_pos rfl]
  rw [← k, outP_get V (i + 1) (by omega)]
  have := byte8_lt (fun r => decide (8 * (i / 8) + r < i + 1) && V.testBit (8 * (i / 8) + r))
  omega
end Go.Proofs.Ytpfmoakapdfdaaa
