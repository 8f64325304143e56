/- Identifiers out of bytes, and their bytes. Plain facts. -/
import Derived.Test.YtnkipgbnnhahbaaPmNum
namespace Go.Proofs.Ytnkipgbnnhahbaa
/-- values of seven bits a byte, each capped at 2^40: l so far, v begun, whether a value begins -/
def rawP : List Int → List Int → Int → Bool → Except Nat (List Int)
  | [], l, _, beg => if beg = false ∨ l.length = 0 then .error 7 else .ok l
  | x :: xs, l, v, beg =>
    if beg = true ∧ x = 128 then .error 7
    else if x < 128 then rawP xs (l ++ [min (128 * v + x % 128) 1099511627776]) 0 true
    else rawP xs l (min (128 * v + x % 128) 1099511627776) false
/-- the first value tells the first two numbers -/
def first2 (x : Int) : List Int := if x < 40 then [0, x] else if x < 80 then [1, x - 40] else [2, x - 80]
def oidFin (l : List Int) : Except Nat (List Int) :=
  if 4294967375 < l.getD 0 0 ∨ ∃ j, j < l.length ∧ 0 < j ∧ 4294967295 < l.getD j 0 then .error 3
  else if 16 < (first2 (l.getD 0 0) ++ l.drop 1).length then .error 2
  else .ok (first2 (l.getD 0 0) ++ l.drop 1)
def oidP (B : List Int) : Except Nat (List Int) :=
  match rawP B [] 0 true with
  | .error c => .error c
  | .ok l => oidFin l
/-- a value's bytes above the last -/
def b7F : Nat → Nat → List Int → List Int
  | 0, _, l => l
  | f + 1, v, l => if v = 0 then l else b7F f (v / 128) (((128 + v % 128 : Nat) : Int) :: l)
def b7 (v : Nat) : List Int := b7F 9 (v / 128) [((v % 128 : Nat) : Int)]
theorem b7F_0 (f : Nat) (l : List Int) : b7F f 0 l = l := by
  cases f with
  | zero => rfl
  | succ f => rw [b7F, if_pos rfl]
theorem raw_hi {x : Nat} {xs l : List Int} {v : Nat} {beg : Bool} (hx : x < 128) (hb : beg = true → ¬ x = 0) (hv : 128 * v + x ≤ 1099511627776) : rawP (((128 + x : Nat) : Int) :: xs) l (v : Int) beg = rawP xs l ((128 * v + x : Nat) : Int) false := by
  rw [rawP, if_neg (by rintro ⟨h1, h2⟩; have := hb h1; omega), if_neg (by omega)]
  congr 1
  omega
theorem raw_lo {x : Nat} {xs l : List Int} {v : Nat} {beg : Bool} (hx : x < 128) (hv : 128 * v + x ≤ 1099511627776) : rawP ((x : Int) :: xs) l (v : Int) beg = rawP xs (l ++ [((128 * v + x : Nat) : Int)]) 0 true := by
  rw [rawP, if_neg (by rintro ⟨_, h2⟩; omega), if_pos (by omega)]
  congr 3
  omega
theorem raw_b7F : ∀ (f u : Nat) (l xs acc : List Int), u < 128 ^ f → 0 < u → u ≤ 1099511627776 → rawP (b7F f u l ++ xs) acc 0 true = rawP (l ++ xs) acc (u : Int) false
  | 0, u, l, xs, acc, h, h0, _ => by simp at h; omega
  | f + 1, u, l, xs, acc, h, h0, hc => by
    rw [b7F, if_neg (by omega)]
    by_cases c : u / 128 = 0
    · rw [c, b7F_0, List.cons_append]
      have := raw_hi (x := u % 128) (xs := l ++ xs) (l := acc) (v := 0) (beg := true) (by omega) (fun _ => by omega) (by omega)
      rw [show 128 * 0 + u % 128 = u by omega] at this
      exact this
    · rw [raw_b7F f (u / 128) _ xs acc (by rw [Nat.pow_succ] at h; omega) (by omega) (by omega), List.cons_append]
      have := raw_hi (x := u % 128) (xs := l ++ xs) (l := acc) (v := u / 128) (beg := false) (by omega) (fun h => by cases h) (by omega)
      rw [show 128 * (u / 128) + u % 128 = u by omega] at this
      exact this
/-- a value's bytes are read as it -/
theorem raw_b7 (v : Nat) (xs acc : List Int) (h : v ≤ 4294967375) : rawP (b7 v ++ xs) acc 0 true = rawP xs (acc ++ [(v : Int)]) 0 true := by
  unfold b7
  by_cases c : v / 128 = 0
  · rw [c, b7F_0]
    have := raw_lo (x := v % 128) (xs := xs) (l := acc) (v := 0) (beg := true) (by omega) (by omega)
    rw [show 128 * 0 + v % 128 = v by omega] at this
    exact this
  · have p9 : (128 : Nat) ^ 9 = 9223372036854775808 := by decide
    rw [raw_b7F 9 (v / 128) _ xs acc (by omega) (by omega) (by omega)]
    have := raw_lo (x := v % 128) (xs := xs) (l := acc) (v := v / 128) (beg := false) (by omega) (by omega)
    rw [show 128 * (v / 128) + v % 128 = v by omega] at this
    exact this
/-- many values' bytes -/
def b7s : List Nat → List Int
  | [] => []
  | v :: vs => b7 v ++ b7s vs
theorem raw_b7s : ∀ (vs : List Nat) (acc : List Int), (∀ v, v ∈ vs → v ≤ 4294967375) → rawP (b7s vs) acc 0 true = rawP [] (acc ++ vs.map (fun v : Nat => (v : Int))) 0 true
  | [], acc, _ => by rw [b7s, List.map_nil, List.append_nil]
  | v :: vs, acc, h => by
    rw [b7s, raw_b7 v _ acc (h v (List.Mem.head _)), raw_b7s vs _ (fun x hx => h x (List.Mem.tail _ hx)), List.map_cons, List.append_assoc]
    rfl
theorem b7F_len : ∀ (f v : Nat) (l : List Int), (b7F f v l).length ≤ f + l.length
  | 0, _, _ => by rw [b7F]; omega
  | f + 1, v, l => by
    rw [b7F]
    split
    · omega
    · have := b7F_len f (v / 128) (((128 + v % 128 : Nat) : Int) :: l)
      rw [List.length_cons] at this
      omega
theorem b7F_byt : ∀ (f v : Nat) (l : List Int), byt l → byt (b7F f v l)
  | 0, _, _, h => h
  | f + 1, v, l, h => by
    rw [b7F]
    split
    · exact h
    · refine b7F_byt f _ _ (fun j => ?_)
      cases j with
      | zero => rw [List.getD_cons_zero]; omega
      | succ j => rw [List.getD_cons_succ]; exact h j
end Go.Proofs.Ytnkipgbnnhahbaa
