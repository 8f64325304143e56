/- SHA-384's numbers: rotated words, a schedule, a round, a step; primes and roots by trial, as the document makes its tables. Plain facts. -/
import Derived.Test.YtbglkbfnhnmodaaDoorBase
namespace Go.Proofs.YtbglkbfnhnmodaaDoor
open Go.RowKit

/-- rotated to the right, as the operations go -/
def ror (x : Int) (n : Nat) : Int := bits .or .u64 (x / 2 ^ n) (IntKind.u64.wrap (x * 2 ^ (64 - n)))

/-- what a round adds -/
def t1N (e f g h k m : Int) : Int := (h + bits .xor .u64 (bits .xor .u64 (ror e 14) (ror e 18)) (ror e 41) + bits .xor .u64 (bits .and .u64 e f) (bits .and .u64 (bits .xor .u64 IntKind.u64.max e) g) + k + m) % 18446744073709551616
def t2N (a b c : Int) : Int := (bits .xor .u64 (bits .xor .u64 (ror a 28) (ror a 34)) (ror a 39) + bits .xor .u64 (bits .xor .u64 (bits .and .u64 a b) (bits .and .u64 a c)) (bits .and .u64 b c)) % 18446744073709551616
/-- a round of eight words -/
def roundN : List Int → Int → Int → List Int
  | [a, b, c, d, e, f, g, h], k, m => [(t1N e f g h k m + t2N a b c) % 18446744073709551616, a, b, c, (d + t1N e f g h k m) % 18446744073709551616, e, f, g]
  | _, _, _ => []

/-- the first k bytes of word i, as a number -/
def wdN (B : List Int) (i : Nat) : Nat → Int
  | 0 => 0
  | k + 1 => 256 * wdN B i k + B.getD (8 * i + k) 0
/-- the next word of a schedule -/
def s0N (x : Int) : Int := bits .xor .u64 (bits .xor .u64 (ror x 1) (ror x 8)) (x / 2 ^ 7)
def s1N (x : Int) : Int := bits .xor .u64 (bits .xor .u64 (ror x 19) (ror x 61)) (x / 2 ^ 6)
def nxN (B W : List Int) (k : Nat) : Int := if k < 16 then wdN B k 8 else (W.getD (k - 16) 0 + s0N (W.getD (k - 15) 0) + W.getD (k - 7) 0 + s1N (W.getD (k - 2) 0)) % 18446744073709551616
/-- the first k words of a block's schedule -/
def schN (B : List Int) : Nat → List Int
  | 0 => []
  | k + 1 => schN B k ++ [nxN B (schN B k) k]

theorem schN_len (B : List Int) : ∀ k, (schN B k).length = k
  | 0 => rfl
  | k + 1 => by rw [schN, List.length_append, schN_len B k]; rfl

theorem wdN_bd {B : List Int} (h : ∀ j, 0 ≤ B.getD j 0 ∧ B.getD j 0 < 256) (i : Nat) : ∀ k, 0 ≤ wdN B i k ∧ wdN B i k < 256 ^ k
  | 0 => by simp [wdN]
  | k + 1 => by
    have ih := wdN_bd h i k
    have hb := h (8 * i + k)
    rw [wdN, Int.pow_succ]
    generalize (256 : Int) ^ k = p at *
    generalize wdN B i k = x at *
    generalize B.getD (8 * i + k) 0 = y at *
    omega

/-- k rounds -/
def rndsN (K H W : List Int) : Nat → List Int
  | 0 => H
  | k + 1 => roundN (rndsN K H W k) (K.getD k 0) (W.getD k 0)
theorem roundN_len {V : List Int} (h : V.length = 8) (k m : Int) : (roundN V k m).length = 8 := by
  match V, h with
  | [a, b, c, d, e, f, g, i], _ => rfl
theorem rndsN_len {K H W : List Int} (h : H.length = 8) : ∀ k, (rndsN K H W k).length = 8
  | 0 => h
  | k + 1 => roundN_len (rndsN_len h k) _ _
theorem eight {A : List Int} (h : A.length = 8) : ∃ x0 x1 x2 x3 x4 x5 x6 x7, A = [x0, x1, x2, x3, x4, x5, x6, x7] := by
  match A, h with
  | [x0, x1, x2, x3, x4, x5, x6, x7], _ => exact ⟨x0, x1, x2, x3, x4, x5, x6, x7, rfl⟩
/-- the first k words summed with those of H -/
def sumsN (A H : List Int) (k : Nat) : List Int := (List.range 8).map fun j => if j < k then (A.getD j 0 + H.getD j 0) % 18446744073709551616 else A.getD j 0
theorem sumsN_0 {A H : List Int} (h : A.length = 8) : sumsN A H 0 = A := by
  match A, h with
  | [x0, x1, x2, x3, x4, x5, x6, x7], _ => rfl
theorem sumsN_len (A H : List Int) (k : Nat) : (sumsN A H k).length = 8 := by simp [sumsN]
theorem sumsN_get (A H : List Int) (k : Nat) (hk : k < 8) : (sumsN A H k).getD k 0 = A.getD k 0 := by
  simp [sumsN, List.getD_eq_getElem?_getD, hk]
theorem sumsN_set (A H : List Int) (k : Nat) : (sumsN A H k).set k ((A.getD k 0 + H.getD k 0) % 18446744073709551616) = sumsN A H (k + 1) := by
  apply List.ext_getElem?
  intro j
  by_cases hj : j < 8
  · by_cases e : k = j
    · subst e
      rw [List.getElem?_set_self (by rw [sumsN_len]; exact hj)]
      simp [sumsN, hj]
    · rw [List.getElem?_set_ne e]
      simp only [sumsN, List.getElem?_map, List.getElem?_range hj, Option.map_some, Option.some.injEq]
      by_cases l : j < k
      · rw [if_pos l, if_pos (by omega)]
      · rw [if_neg l, if_neg (by omega)]
  · rw [List.getElem?_eq_none (by simp [sumsN]; omega), List.getElem?_eq_none (by simp [sumsN]; omega)]
/-- a block's step -/
def stepN (K H B : List Int) : List Int := sumsN (rndsN K H (schN B 80) 80) H 8
theorem stepN_len (K H B : List Int) : (stepN K H B).length = 8 := sumsN_len _ _ _

/-- the numbers from 2 on, below k, that none of those below divides -/
def prs : Nat → List Int
  | 0 => []
  | k + 1 => if k < 2 then [] else if (prs k).all (fun p => (k : Int) % p != 0) then prs k ++ [(k : Int)] else prs k

/-- a root's bits, from the highest on: x stays, or is raised by 2 to the bit where the power is not above the limit -/
def rtN (cube : Bool) (lim : Int) : Nat → Int → Int
  | 0, x => x
  | b + 1, x =>
    let y := x + 2 ^ b
    let z := if cube then y * y * y else y * y
    rtN cube lim b (if z ≤ lim then y else x)
/-- 64 bits behind the point -/
def rootN (p : Int) (cube : Bool) : Int := rtN cube (p * (if cube then 2 ^ 192 else 2 ^ 128)) 72 0 % 18446744073709551616

def KS : List Int := [4794697086780616226, 8158064640168781261, 13096744586834688815, 16840607885511220156, 4131703408338449720, 6480981068601479193, 10538285296894168987, 12329834152419229976, 15566598209576043074, 1334009975649890238, 2608012711638119052, 6128411473006802146, 8268148722764581231, 9286055187155687089, 11230858885718282805, 13951009754708518548, 16472876342353939154, 17275323862435702243, 1135362057144423861, 2597628984639134821, 3308224258029322869, 5365058923640841347, 6679025012923562964, 8573033837759648693, 10970295158949994411, 12119686244451234320, 12683024718118986047, 13788192230050041572, 14330467153632333762, 15395433587784984357, 489312712824947311, 1452737877330783856, 2861767655752347644, 3322285676063803686, 5560940570517711597, 5996557281743188959, 7280758554555802590, 8532644243296465576, 9350256976987008742, 10552545826968843579, 11727347734174303076, 12113106623233404929, 14000437183269869457, 14369950271660146224, 15101387698204529176, 15463397548674623760, 17586052441742319658, 1182934255886127544, 1847814050463011016, 2177327727835720531, 2830643537854262169, 3796741975233480872, 4115178125766777443, 5681478168544905931, 6601373596472566643, 7507060721942968483, 8399075790359081724, 8693463985226723168, 9568029438360202098, 10144078919501101548, 10430055236837252648, 11840083180663258601, 13761210420658862357, 14299343276471374635, 14566680578165727644, 15097957966210449927, 16922976911328602910, 17689382322260857208, 500013540394364858, 748580250866718886, 1242879168328830382, 1977374033974150939, 2944078676154940804, 3659926193048069267, 4368137639120453308, 4836135668995329356, 5532061633213252278, 6448918945643986474, 6902733635092675308, 7801388544844847127]
def HS : List Int := [14680500436340154072, 7105036623409894663, 10473403895298186519, 1526699215303891257, 7436329637833083697, 10282925794625328401, 15784041429090275239, 5167115440072839076]

theorem prs_410 : (prs 410).length = 80 := by decide +kernel
theorem prs_below (k : Nat) (h : k < 410) : (prs k).length < 80 := by
  have : ∀ k : Fin 410, (prs k.1).length < 80 := by decide +kernel
  exact this ⟨k, h⟩
theorem ks_is : (prs 410).map (fun p => rootN p true) = KS := by decide +kernel
theorem hs_is : (((prs 410).drop 8).take 8).map (fun p => rootN p false) = HS := by decide +kernel

end Go.Proofs.YtbglkbfnhnmodaaDoor
