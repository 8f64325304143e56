/- AES's states: columns mixed four times, rows turned four times, are as they were; each step is one to one. Plain facts. -/
import Derived.Test.YtogbmekgmjmonaaAeMath
import Derived.Test.YtogbmekgmjmonaaAeNumG
namespace Go.Proofs.Ytogbmekgmjmonaa
open Go.RowKit

/-- byte k of column c -/
def cbN (S : List Int) (c k : Nat) : Nat := (S.getD (4 * c + k) 0).toNat
theorem cb_lt {S : List Int} (b : byt S) (c k : Nat) : cbN S c k < 256 := by
  have := b (4 * c + k)
  unfold cbN
  omega
theorem prd2 {x : Nat} (h : x < 256) : prdN 2 x = dblN x := prd_two ⟨x, h⟩
theorem prd1 {x : Nat} (h : x < 256) : prdN 1 x = x := prd_one ⟨x, h⟩
theorem prd3 {x : Nat} (h : x < 256) : prdN 3 x = dblN x ^^^ x := prd_three ⟨x, h⟩
theorem xor4 (a b c d : Nat) : (((0 ^^^ a) ^^^ b) ^^^ c) ^^^ d = a ^^^ b ^^^ c ^^^ d := by rw [Nat.zero_xor]
theorem acc_col {S : List Int} (b : byt S) (c : Nat) : ∀ r, r < 4 → accN S c r 4 = colN (cbN S c r) (cbN S c ((r + 1) % 4)) (cbN S c ((r + 2) % 4)) (cbN S c ((r + 3) % 4)) := by
  have l0 := cb_lt b c 0
  have l1 := cb_lt b c 1
  have l2 := cb_lt b c 2
  have l3 := cb_lt b c 3
  have e : ∀ r, accN S c r 4 = (((0 ^^^ prdN (tmN r 0) (cbN S c 0)) ^^^ prdN (tmN r 1) (cbN S c 1)) ^^^ prdN (tmN r 2) (cbN S c 2)) ^^^ prdN (tmN r 3) (cbN S c 3) := fun r => rfl
  have fin : ∀ x0 x1 x2 x3 y0 y1 y2 y3 : Nat, (∀ i, (Nat.testBit x0 i ^^ Nat.testBit x1 i ^^ Nat.testBit x2 i ^^ Nat.testBit x3 i) = (Nat.testBit y0 i ^^ Nat.testBit y1 i ^^ Nat.testBit y2 i ^^ Nat.testBit y3 i)) → x0 ^^^ x1 ^^^ x2 ^^^ x3 = y0 ^^^ y1 ^^^ y2 ^^^ y3 := fun x0 x1 x2 x3 y0 y1 y2 y3 h => Nat.eq_of_testBit_eq fun i => by simp only [Nat.testBit_xor]; exact h i
  refine four ?_ ?_ ?_ ?_
  · rw [e, xor4, show tmN 0 0 = 2 from rfl, show tmN 0 1 = 3 from rfl, show tmN 0 2 = 1 from rfl, show tmN 0 3 = 1 from rfl, prd2 l0, prd3 l1, prd1 l2, prd1 l3]
    rfl
  · rw [e, xor4, show tmN 1 0 = 1 from rfl, show tmN 1 1 = 2 from rfl, show tmN 1 2 = 3 from rfl, show tmN 1 3 = 1 from rfl, prd1 l0, prd2 l1, prd3 l2, prd1 l3]
    show _ = colN (cbN S c 1) (cbN S c 2) (cbN S c 3) (cbN S c 0)
    unfold colN
    apply fin
    intro i
    simp only [Nat.testBit_xor]
    cases (cbN S c 0).testBit i <;> cases (cbN S c 3).testBit i <;> cases (dblN (cbN S c 1)).testBit i <;> cases (dblN (cbN S c 2)).testBit i <;> cases (cbN S c 2).testBit i <;> rfl
  · rw [e, xor4, show tmN 2 0 = 1 from rfl, show tmN 2 1 = 1 from rfl, show tmN 2 2 = 2 from rfl, show tmN 2 3 = 3 from rfl, prd1 l0, prd1 l1, prd2 l2, prd3 l3]
    show _ = colN (cbN S c 2) (cbN S c 3) (cbN S c 0) (cbN S c 1)
    unfold colN
    apply fin
    intro i
    simp only [Nat.testBit_xor]
    cases (cbN S c 0).testBit i <;> cases (cbN S c 1).testBit i <;> cases (dblN (cbN S c 2)).testBit i <;> cases (dblN (cbN S c 3)).testBit i <;> cases (cbN S c 3).testBit i <;> rfl
  · rw [e, xor4, show tmN 3 0 = 3 from rfl, show tmN 3 1 = 1 from rfl, show tmN 3 2 = 1 from rfl, show tmN 3 3 = 2 from rfl, prd3 l0, prd1 l1, prd1 l2, prd2 l3]
    show _ = colN (cbN S c 3) (cbN S c 0) (cbN S c 1) (cbN S c 2)
    unfold colN
    apply fin
    intro i
    simp only [Nat.testBit_xor]
    cases (cbN S c 1).testBit i <;> cases (cbN S c 2).testBit i <;> cases (dblN (cbN S c 3)).testBit i <;> cases (dblN (cbN S c 0)).testBit i <;> cases (cbN S c 0).testBit i <;> rfl
theorem cb_mix {S : List Int} (b : byt S) {c r : Nat} (hc : c < 4) (hr : r < 4) : cbN (mixN S) c r = colN (cbN S c r) (cbN S c ((r + 1) % 4)) (cbN S c ((r + 2) % 4)) (cbN S c ((r + 3) % 4)) := by
  have hj : 4 * c + r < 16 := by omega
  rw [← acc_col b c r hr]
  unfold cbN mixN
  rw [List.getD_eq_getElem?_getD, List.getElem?_map, List.getElem?_range hj, Option.map_some, Option.getD_some, show (4 * c + r) / 4 = c by omega, show (4 * c + r) % 4 = r by omega]
  exact Int.toNat_natCast _
/-- mixed twice -/
theorem cb_mix2 {S : List Int} (b : byt S) {c r : Nat} (hc : c < 4) (hr : r < 4) : cbN (mixN (mixN S)) c r = dblN (dblN (cbN S c r)) ^^^ cbN S c r ^^^ dblN (dblN (cbN S c ((r + 2) % 4))) := by
  rw [cb_mix (mixN_byt S) hc hr, cb_mix b hc hr, cb_mix b hc (show (r + 1) % 4 < 4 by omega), cb_mix b hc (show (r + 2) % 4 < 4 by omega), cb_mix b hc (show (r + 3) % 4 < 4 by omega)]
  have f := col_twice (cb_lt b c r) (cb_lt b c ((r + 1) % 4)) (cb_lt b c ((r + 2) % 4)) (cb_lt b c ((r + 3) % 4))
  rw [← f]
  congr 1
  · congr 1 <;> (congr 1; omega)
  · congr 1 <;> (congr 1; omega)
  · congr 1 <;> (congr 1; omega)
/-- mixed four times -/
theorem cb_mix4 {S : List Int} (b : byt S) {c r : Nat} (hc : c < 4) (hr : r < 4) : cbN (mixN (mixN (mixN (mixN S)))) c r = cbN S c r := by
  have lx : ∀ {x y : Nat}, x < 256 → y < 256 → x ^^^ y < 256 := fun hx hy => Nat.xor_lt_two_pow (n := 8) hx hy
  have dl : ∀ {x : Nat}, x < 256 → dblN x < 256 := fun {x} h => dbl_lt ⟨x, h⟩
  have q : ∀ {x y : Nat}, x < 256 → y < 256 → dblN (dblN (dblN (dblN x) ^^^ x ^^^ dblN (dblN y))) = dblN (dblN (dblN (dblN x))) ^^^ dblN (dblN x) ^^^ dblN (dblN (dblN (dblN y))) := fun {x y} hx hy => by
    rw [dbl_xor (lx (dl (dl hx)) hx) (dl (dl hy)), dbl_xor (dl (dl hx)) hx, dbl_xor (lx (dl (dl (dl hx))) (dl hx)) (dl (dl (dl hy))), dbl_xor (dl (dl (dl hx))) (dl hx)]
  rw [cb_mix2 (mixN_byt _) hc hr, cb_mix2 b hc hr, cb_mix2 b hc (show (r + 2) % 4 < 4 by omega), show ((r + 2) % 4 + 2) % 4 = r by omega]
  have lr := cb_lt b c r
  have ls := cb_lt b c ((r + 2) % 4)
  rw [q lr ls, q ls lr]
  generalize cbN S c r = x
  generalize cbN S c ((r + 2) % 4) = y
  generalize dblN (dblN (dblN (dblN x))) = X4
  generalize dblN (dblN (dblN (dblN y))) = Y4
  generalize dblN (dblN x) = X2
  generalize dblN (dblN y) = Y2
  apply Nat.eq_of_testBit_eq
  intro i
  simp only [Nat.testBit_xor]
  cases x.testBit i <;> cases X4.testBit i <;> cases Y4.testBit i <;> cases X2.testBit i <;> cases Y2.testBit i <;> rfl
/-- a state is told by its bytes -/
theorem state_ext {A B : List Int} (la : A.length = 16) (lb : B.length = 16) (ba : byt A) (bb : byt B) (h : ∀ c r, c < 4 → r < 4 → cbN A c r = cbN B c r) : A = B := by
  apply List.ext_getElem?
  intro j
  by_cases hj : j < 16
  · have e := h (j / 4) (j % 4) (by omega) (by omega)
    unfold cbN at e
    rw [show 4 * (j / 4) + j % 4 = j by omega] at e
    have x := ba j
    have y := bb j
    have z : A.getD j 0 = B.getD j 0 := by omega
    rw [List.getD_eq_getElem?_getD, List.getD_eq_getElem?_getD, List.getElem?_eq_getElem (by omega), List.getElem?_eq_getElem (by omega)] at z
    rw [List.getElem?_eq_getElem (by omega), List.getElem?_eq_getElem (by omega)]
    simpa using z
  · rw [List.getElem?_eq_none (by omega), List.getElem?_eq_none (by omega)]
theorem mix4 {S : List Int} (l : S.length = 16) (b : byt S) : mixN (mixN (mixN (mixN S))) = S :=
  state_ext (mixN_len _) l (mixN_byt _) b fun _ _ hc hr => cb_mix4 b hc hr
theorem mixN_inj {A B : List Int} (la : A.length = 16) (lb : B.length = 16) (ba : byt A) (bb : byt B) (h : mixN A = mixN B) : A = B := by
  rw [← mix4 la ba, ← mix4 lb bb, h]
theorem turn4 {S : List Int} (l : S.length = 16) : turnN (turnN (turnN (turnN S))) = S := by
  obtain ⟨x0, x1, x2, x3, x4, x5, x6, x7, x8, x9, x10, x11, x12, x13, x14, x15, rfl⟩ := sixteen l
  rfl
theorem turnN_inj {A B : List Int} (la : A.length = 16) (lb : B.length = 16) (h : turnN A = turnN B) : A = B := by
  rw [← turn4 la, ← turn4 lb, h]
theorem get_ext {A B : List Int} (la : A.length = 16) (lb : B.length = 16) (h : ∀ j, j < 16 → A.getD j 0 = B.getD j 0) : A = B := by
  apply List.ext_getElem?
  intro j
  by_cases hj : j < 16
  · have z := h j hj
    rw [List.getD_eq_getElem?_getD, List.getD_eq_getElem?_getD, List.getElem?_eq_getElem (by omega), List.getElem?_eq_getElem (by omega)] at z
    rw [List.getElem?_eq_getElem (by omega), List.getElem?_eq_getElem (by omega)]
    simpa using z
  · rw [List.getElem?_eq_none (by omega), List.getElem?_eq_none (by omega)]
theorem getD_map {f : Nat → Int} {j : Nat} (h : j < 16) : ((List.range 16).map f).getD j 0 = f j := by
  simp [List.getD_eq_getElem?_getD, h]
theorem sboxN_get (X : List Int) {j : Nat} (h : j < 16) : (sboxN X).getD j 0 = sbN (X.getD j 0) := by
  unfold sboxN sbZ
  rw [getD_map h, if_pos h]
theorem xkN_get (X Y : List Int) {j : Nat} (h : j < 16) : (xkN X Y).getD j 0 = bits .xor .u8 (X.getD j 0) (Y.getD j 0) := by
  unfold xkN xkZ
  rw [getD_map h, if_pos h]
theorem sboxN_inj {A B : List Int} (la : A.length = 16) (lb : B.length = 16) (ba : byt A) (bb : byt B) (h : sboxN A = sboxN B) : A = B :=
  get_ext la lb fun j hj => by
    have e := congrArg (fun X => X.getD j 0) h
    simp only [sboxN_get _ hj] at e
    have x := ba j
    have y := bb j
    unfold sbN at e
    have := subN_inj (x := (A.getD j 0).toNat) (y := (B.getD j 0).toNat) (by omega) (by omega) (by omega)
    omega
theorem xor_cancel {a b k : Int} (ha : 0 ≤ a ∧ a < 256) (hb : 0 ≤ b ∧ b < 256) (hk : 0 ≤ k ∧ k < 256) (h : bits .xor .u8 a k = bits .xor .u8 b k) : a = b := by
  obtain ⟨a, rfl⟩ := Int.eq_ofNat_of_zero_le ha.1
  obtain ⟨b, rfl⟩ := Int.eq_ofNat_of_zero_le hb.1
  obtain ⟨k, rfl⟩ := Int.eq_ofNat_of_zero_le hk.1
  rw [u8_xor_nat a k (by omega) (by omega), u8_xor_nat b k (by omega) (by omega)] at h
  have e : a ^^^ k = b ^^^ k := by omega
  have e2 : (a ^^^ k) ^^^ k = (b ^^^ k) ^^^ k := by rw [e]
  rw [Nat.xor_assoc, Nat.xor_assoc, Nat.xor_self, Nat.xor_zero, Nat.xor_zero] at e2
  rw [e2]
theorem xkN_inj {A B Y : List Int} (la : A.length = 16) (lb : B.length = 16) (ba : byt A) (bb : byt B) (bY : byt Y) (h : xkN A Y = xkN B Y) : A = B :=
  get_ext la lb fun j hj => by
    have e := congrArg (fun X => X.getD j 0) h
    simp only [xkN_get _ _ hj] at e
    exact xor_cancel (ba j) (bb j) (bY j) e
theorem preN_inj {A B : List Int} (la : A.length = 16) (lb : B.length = 16) (ba : byt A) (bb : byt B) (i : Nat) (h : preN A i = preN B i) : A = B := by
  unfold preN at h
  split at h
  · exact h
  · have s := sboxN_inj la lb ba bb
    have t := turnN_inj (sbZ_len A 16) (sbZ_len B 16)
    split at h
    · exact s (t (mixN_inj (turnN_len _) (turnN_len _) (turnN_byt (sboxN_byt A)) (turnN_byt (sboxN_byt B)) h))
    · exact s (t h)
/-- two blocks have two codes -/
theorem encN_inj {K A B : List Int} (bK : byt K) (la : A.length = 16) (lb : B.length = 16) (ba : byt A) (bb : byt B) : ∀ i, encN K A i = encN K B i → A = B
  | 0, h => h
  | i + 1, h => by
    rw [encN, encN] at h
    have e := xkN_inj (preN_len (encN_len la i) i) (preN_len (encN_len lb i) i) (preN_byt (encN_byt ba bK i) i) (preN_byt (encN_byt bb bK i) i) (keyN_byt bK i) h
    exact encN_inj bK la lb ba bb i (preN_inj (encN_len la i) (encN_len lb i) (encN_byt ba bK i) (encN_byt bb bK i) i e)
end Go.Proofs.Ytogbmekgmjmonaa
