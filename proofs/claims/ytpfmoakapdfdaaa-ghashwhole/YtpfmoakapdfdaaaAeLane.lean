/- Bytes side by side in one number: lanes. Plain facts. -/
import Derived.Test.YtpfmoakapdfdaaaAeMath
namespace Go.Proofs.Ytpfmoakapdfdaaa
open Go.RowKit

/-- lanes, the lowest first, as a number -/
def jn : List Nat → Nat
  | [] => 0
  | x :: xs => x + 256 * jn xs
def lan (xs : List Nat) : Prop := ∀ x, x ∈ xs → x < 256
theorem lan_cons {x : Nat} {xs : List Nat} (h : lan (x :: xs)) : x < 256 ∧ lan xs := ⟨h x (List.Mem.head _), fun y hy => h y (List.Mem.tail _ hy)⟩
theorem lan_map {f : Nat → Nat} (hf : ∀ x, x < 256 → f x < 256) {xs : List Nat} (h : lan xs) : lan (xs.map f) := fun y hy => by
  obtain ⟨x, hx, rfl⟩ := List.mem_map.1 hy
  exact hf x (h x hx)
theorem lan_zip {f : Nat → Nat → Nat} (hf : ∀ x y, x < 256 → y < 256 → f x y < 256) : ∀ {xs ys : List Nat}, lan xs → lan ys → lan (List.zipWith f xs ys)
  | [], _, _, _ => fun y hy => by simp at hy
  | _ :: _, [], _, _ => fun y hy => by simp at hy
  | x :: xs, y :: ys, h, k => fun z hz => by
    rw [List.zipWith_cons_cons] at hz
    rcases List.mem_cons.1 hz with rfl | hz
    · exact hf x y (lan_cons h).1 (lan_cons k).1
    · exact lan_zip hf (lan_cons h).2 (lan_cons k).2 z hz
theorem jn_lt : ∀ {xs : List Nat}, lan xs → jn xs < 256 ^ xs.length
  | [], _ => by simp [jn]
  | x :: xs, h => by
    have := jn_lt (lan_cons h).2
    have := (lan_cons h).1
    rw [jn, List.length_cons, Nat.pow_succ]
    omega
theorem tb (x X j : Nat) (h : x < 256) : (x + 256 * X).testBit j = if j < 8 then x.testBit j else X.testBit (j - 8) := by
  rw [Nat.add_comm]
  exact Nat.testBit_two_pow_mul_add X (i := 8) h j
theorem split_and {x X y Y : Nat} (hx : x < 256) (hy : y < 256) : (x + 256 * X) &&& (y + 256 * Y) = (x &&& y) + 256 * (X &&& Y) := by
  apply Nat.eq_of_testBit_eq
  intro j
  rw [Nat.testBit_and, tb _ _ _ hx, tb _ _ _ hy, tb _ _ _ (Nat.lt_of_le_of_lt Nat.and_le_left hx)]
  split <;> rw [Nat.testBit_and]
theorem split_xor {x X y Y : Nat} (hx : x < 256) (hy : y < 256) : (x + 256 * X) ^^^ (y + 256 * Y) = (x ^^^ y) + 256 * (X ^^^ Y) := by
  apply Nat.eq_of_testBit_eq
  intro j
  rw [Nat.testBit_xor, tb _ _ _ hx, tb _ _ _ hy, tb _ _ _ (Nat.xor_lt_two_pow (n := 8) hx hy)]
  split <;> rw [Nat.testBit_xor]
theorem split_or {x X y Y : Nat} (hx : x < 256) (hy : y < 256) : (x + 256 * X) ||| (y + 256 * Y) = (x ||| y) + 256 * (X ||| Y) := by
  apply Nat.eq_of_testBit_eq
  intro j
  rw [Nat.testBit_or, tb _ _ _ hx, tb _ _ _ hy, tb _ _ _ (Nat.or_lt_two_pow (n := 8) hx hy)]
  split <;> rw [Nat.testBit_or]
theorem jn_and : ∀ {xs ys : List Nat}, xs.length = ys.length → lan xs → lan ys → jn xs &&& jn ys = jn (List.zipWith (· &&& ·) xs ys)
  | [], [], _, _, _ => by simp [jn]
  | x :: xs, y :: ys, l, h, k => by
    rw [List.zipWith_cons_cons, jn, jn, jn, split_and (lan_cons h).1 (lan_cons k).1, jn_and (by simpa using l) (lan_cons h).2 (lan_cons k).2]
theorem jn_xor : ∀ {xs ys : List Nat}, xs.length = ys.length → lan xs → lan ys → jn xs ^^^ jn ys = jn (List.zipWith (· ^^^ ·) xs ys)
  | [], [], _, _, _ => by simp [jn]
  | x :: xs, y :: ys, l, h, k => by
    rw [List.zipWith_cons_cons, jn, jn, jn, split_xor (lan_cons h).1 (lan_cons k).1, jn_xor (by simpa using l) (lan_cons h).2 (lan_cons k).2]
theorem jn_or : ∀ {xs ys : List Nat}, xs.length = ys.length → lan xs → lan ys → jn xs ||| jn ys = jn (List.zipWith (· ||| ·) xs ys)
  | [], [], _, _, _ => by simp [jn]
  | x :: xs, y :: ys, l, h, k => by
    rw [List.zipWith_cons_cons, jn, jn, jn, split_or (lan_cons h).1 (lan_cons k).1, jn_or (by simpa using l) (lan_cons h).2 (lan_cons k).2]
theorem jn_mul (k : Nat) : ∀ xs : List Nat, jn xs * k = jn (xs.map (· * k))
  | [] => by simp [jn]
  | x :: xs => by rw [List.map_cons, jn, jn, ← jn_mul k xs, Nat.add_mul, Nat.mul_assoc]
/-- shifted to the right, what comes from the lane above taken off -/
theorem jn_shr {s k m : Nat} (hs : s + k = 8) (hm : m < 2 ^ k) : ∀ xs : List Nat, lan xs → jn xs / 2 ^ s &&& jn (List.replicate xs.length m) = jn (xs.map fun x => x / 2 ^ s &&& m)
  | [], _ => by simp [jn]
  | x :: xs, h => by
    have p8 : 2 ^ s * 2 ^ k = 256 := by rw [← Nat.pow_add, hs]
    have sp : 0 < 2 ^ s := Nat.two_pow_pos s
    have kp : 0 < 2 ^ k := Nat.two_pow_pos k
    have x8 := (lan_cons h).1
    have m8 : m < 256 := by
      have : 2 ^ k ≤ 2 ^ 8 := Nat.pow_le_pow_right (by decide) (by omega)
      omega
    have xq : x / 2 ^ s < 2 ^ k := by
      rw [Nat.div_lt_iff_lt_mul sp, Nat.mul_comm, p8]
      exact x8
    have e1 : (x + 256 * jn xs) / 2 ^ s = x / 2 ^ s + 2 ^ k * jn xs := by
      rw [← p8, Nat.mul_assoc, Nat.add_mul_div_left _ _ sp]
    have e2 : x / 2 ^ s + 2 ^ k * jn xs = (x / 2 ^ s + 2 ^ k * (jn xs % 2 ^ s)) + 256 * (jn xs / 2 ^ s) := by
      have q := Nat.div_add_mod (jn xs) (2 ^ s)
      have : 2 ^ k * jn xs = 2 ^ k * (jn xs % 2 ^ s) + 256 * (jn xs / 2 ^ s) := by
        conv => lhs; rw [← q, Nat.mul_add, ← Nat.mul_assoc, Nat.mul_comm (2 ^ k) (2 ^ s), p8]
        omega
      omega
    have l1 : x / 2 ^ s + 2 ^ k * (jn xs % 2 ^ s) < 256 := by
      have a : jn xs % 2 ^ s + 1 ≤ 2 ^ s := Nat.mod_lt _ sp
      have b : 2 ^ k * (jn xs % 2 ^ s + 1) ≤ 2 ^ k * 2 ^ s := Nat.mul_le_mul_left _ a
      rw [Nat.mul_comm (2 ^ k) (2 ^ s), p8, Nat.mul_add, Nat.mul_one] at b
      omega
    have e3 : (x / 2 ^ s + 2 ^ k * (jn xs % 2 ^ s)) &&& m = x / 2 ^ s &&& m := by
      apply Nat.eq_of_testBit_eq
      intro j
      rw [Nat.testBit_and, Nat.testBit_and, Nat.add_comm, Nat.testBit_two_pow_mul_add _ xq]
      by_cases hj : j < k
      · rw [if_pos hj]
      · rw [if_neg hj, Nat.testBit_lt_two_pow (Nat.lt_of_lt_of_le hm (Nat.pow_le_pow_right (by decide) (by omega : k ≤ j))), Bool.and_false, Bool.and_false]
    rw [List.length_cons, List.replicate_succ, List.map_cons, jn, jn, jn, e1, e2, split_and l1 m8, e3, jn_shr hs hm xs (lan_cons h).2]
/-- shifted to the left, what comes from the lane below taken off -/
theorem jn_shl {s m : Nat} (hs : s ≤ 8) (hm : m < 256) (h0 : ∀ j, j < s → m.testBit j = false) : ∀ (xs : List Nat) (c : Nat), c < 2 ^ s → lan xs → (jn xs * 2 ^ s + c) % 256 ^ xs.length &&& jn (List.replicate xs.length m) = jn (xs.map fun x => x * 2 ^ s % 256 &&& m)
  | [], _, _, _ => by simp [jn]
  | x :: xs, c, hc, h => by
    have sp : 0 < 2 ^ s := Nat.two_pow_pos s
    have x8 := (lan_cons h).1
    have cc : (x * 2 ^ s + c) / 256 < 2 ^ s := by
      rw [Nat.div_lt_iff_lt_mul (by decide)]
      have : (x + 1) * 2 ^ s ≤ 256 * 2 ^ s := Nat.mul_le_mul_right _ x8
      rw [Nat.add_mul, Nat.one_mul] at this
      omega
    have e1 : (x + 256 * jn xs) * 2 ^ s + c = (x * 2 ^ s + c) % 256 + 256 * (jn xs * 2 ^ s + (x * 2 ^ s + c) / 256) := by
      have q := Nat.div_add_mod (x * 2 ^ s + c) 256
      rw [Nat.add_mul, Nat.mul_add, Nat.mul_assoc 256]
      omega
    have e2 : ((x * 2 ^ s + c) % 256 + 256 * (jn xs * 2 ^ s + (x * 2 ^ s + c) / 256)) % 256 ^ (xs.length + 1) = (x * 2 ^ s + c) % 256 + 256 * ((jn xs * 2 ^ s + (x * 2 ^ s + c) / 256) % 256 ^ xs.length) := by
      rw [Nat.pow_succ, Nat.mul_comm (256 ^ xs.length) 256, Nat.mod_mul, Nat.add_mul_mod_self_left, Nat.mod_mod, Nat.add_mul_div_left _ _ (by decide : 0 < 256), Nat.div_eq_of_lt (Nat.mod_lt _ (by decide)), Nat.zero_add]
    have e3 : (x * 2 ^ s + c) % 256 &&& m = x * 2 ^ s % 256 &&& m := by
      apply Nat.eq_of_testBit_eq
      intro j
      rw [Nat.testBit_and, Nat.testBit_and]
      by_cases hj : j < s
      · rw [h0 j hj, Bool.and_false, Bool.and_false]
      · congr 1
        rw [show (256 : Nat) = 2 ^ 8 from rfl, Nat.testBit_mod_two_pow, Nat.testBit_mod_two_pow, Nat.mul_comm x, Nat.testBit_two_pow_mul_add _ hc, if_neg hj]
        have := Nat.testBit_two_pow_mul_add x sp (i := s) (b := 0) j
        rw [Nat.add_zero] at this
        rw [this, if_neg hj]
    rw [List.length_cons, List.replicate_succ, List.map_cons, jn, jn, jn, e1, e2, split_and (Nat.mod_lt _ (by decide)) hm, e3, jn_shl hs hm h0 xs _ cc (lan_cons h).2]

/-- a byte doubled, as lanes go -/
def dL (x : Nat) : Nat := (x * 2 % 256 &&& 254) ^^^ ((x / 128 &&& 1) * 27)
def dI (x : Nat) : Nat → Nat
  | 0 => x
  | k + 1 => dL (dI x k)
def sI (x y : Nat) : Nat → Nat
  | 0 => 0
  | k + 1 => sI x y k ^^^ (dI x k &&& ((y / 2 ^ k &&& 1) * 255))
/-- a product, as lanes go -/
def pL (x y : Nat) : Nat := sI x y 8
def rL (s x : Nat) : Nat := (x / 2 ^ s &&& (255 / 2 ^ s)) ||| (x * 2 ^ (8 - s) % 256 &&& (255 - 255 / 2 ^ s))
def iL (x : Nat) : Nat :=
  let a2 := pL x x
  let a3 := pL a2 x
  let q (y : Nat) := pL y y
  let a12 := q (q a3)
  let a15 := pL a12 a3
  let a240 := q (q (q (q a15)))
  pL (pL a240 a12) a2
def vL (v : Nat) : Nat := v ^^^ rL 4 v ^^^ rL 5 v ^^^ rL 6 v ^^^ rL 7 v ^^^ 99
theorem and1_lt (n : Nat) : n &&& 1 < 2 := by rw [Nat.and_one_is_mod]; omega
theorem dL_lt {x : Nat} : dL x < 256 := by
  have := and1_lt (x / 128)
  exact Nat.xor_lt_two_pow (n := 8) (Nat.lt_of_le_of_lt Nat.and_le_right (by decide)) (by omega)
theorem dI_lt {x : Nat} (h : x < 256) : ∀ k, dI x k < 256
  | 0 => h
  | _ + 1 => dL_lt
theorem sI_lt {x y : Nat} (h : x < 256) : ∀ k, sI x y k < 256
  | 0 => by rw [sI]; decide
  | k + 1 => Nat.xor_lt_two_pow (n := 8) (sI_lt h k) (Nat.lt_of_le_of_lt Nat.and_le_left (dI_lt h k))
theorem pL_lt {x y : Nat} (h : x < 256) : pL x y < 256 := sI_lt h 8
theorem rL_lt {s x : Nat} : rL s x < 256 := by
  have e : 255 / 2 ^ s < 256 := Nat.lt_of_le_of_lt (Nat.div_le_self _ _) (by decide)
  exact Nat.or_lt_two_pow (n := 8) (Nat.lt_of_le_of_lt Nat.and_le_right e) (Nat.lt_of_le_of_lt Nat.and_le_right (Nat.lt_of_le_of_lt (Nat.sub_le _ _) (by decide)))
theorem iL_lt {x : Nat} (h : x < 256) : iL x < 256 := pL_lt (pL_lt (pL_lt (pL_lt (pL_lt (pL_lt (pL_lt (pL_lt (pL_lt (pL_lt (pL_lt h))))))))))
theorem vL_lt {x : Nat} (h : x < 256) : vL x < 256 := Nat.xor_lt_two_pow (n := 8) (Nat.xor_lt_two_pow (n := 8) (Nat.xor_lt_two_pow (n := 8) (Nat.xor_lt_two_pow (n := 8) (Nat.xor_lt_two_pow (n := 8) h rL_lt) rL_lt) rL_lt) rL_lt) (by decide)
theorem dL_all : ∀ x : Fin 256, dL x.1 = dblN x.1 := by decide +kernel
theorem vL_all : (List.range 256).map (fun x => vL (iL x)) = SBX := by decide +kernel
theorem vL_sub {x : Nat} (h : x < 256) : vL (iL x) = subN x := by
  have e : ((List.range 256).map (fun x => vL (iL x))).getD x 0 = SBX.getD x 0 := by rw [vL_all]
  rw [sub_sbx h] at e
  simpa [List.getD_eq_getElem?_getD, h] using e
end Go.Proofs.Ytpfmoakapdfdaaa
