/- Lanes told by a letter: what the words' operations do to them. Plain facts. -/
import Derived.Test.YtpfmoakapdfdaaaAeLane
namespace Go.Proofs.Ytpfmoakapdfdaaa
open Go.RowKit

/-- a number of eight lanes -/
def Ln (a : Int) (xs : List Nat) : Prop := a = ((jn xs : Nat) : Int) ∧ xs.length = 8 ∧ lan xs
theorem jn_64 {xs : List Nat} (l : xs.length = 8) (h : lan xs) : jn xs < 18446744073709551616 := by
  have := jn_lt h
  rw [l] at this
  exact this
theorem Ln.bd {a : Int} {xs : List Nat} (h : Ln a xs) : 0 ≤ a ∧ a < 18446744073709551616 := by
  have := jn_64 h.2.1 h.2.2
  rw [h.1]
  omega
theorem Ln.and {a b : Int} {xs ys : List Nat} (h : Ln a xs) (k : Ln b ys) : Ln (bits .and .u64 a b) (List.zipWith (· &&& ·) xs ys) := by
  obtain ⟨rfl, l, h⟩ := h
  obtain ⟨rfl, m, k⟩ := k
  exact ⟨by rw [u64_and_nat _ _ (jn_64 l h) (jn_64 m k), jn_and (by omega) h k], by rw [List.length_zipWith]; omega, lan_zip (fun x y hx _ => Nat.lt_of_le_of_lt Nat.and_le_left hx) h k⟩
theorem Ln.xor {a b : Int} {xs ys : List Nat} (h : Ln a xs) (k : Ln b ys) : Ln (bits .xor .u64 a b) (List.zipWith (· ^^^ ·) xs ys) := by
  obtain ⟨rfl, l, h⟩ := h
  obtain ⟨rfl, m, k⟩ := k
  exact ⟨by rw [u64_xor_nat _ _ (jn_64 l h) (jn_64 m k), jn_xor (by omega) h k], by rw [List.length_zipWith]; omega, lan_zip (fun x y hx hy => Nat.xor_lt_two_pow (n := 8) hx hy) h k⟩
theorem Ln.or {a b : Int} {xs ys : List Nat} (h : Ln a xs) (k : Ln b ys) : Ln (bits .or .u64 a b) (List.zipWith (· ||| ·) xs ys) := by
  obtain ⟨rfl, l, h⟩ := h
  obtain ⟨rfl, m, k⟩ := k
  exact ⟨by rw [u64_or_nat _ _ (jn_64 l h) (jn_64 m k), jn_or (by omega) h k], by rw [List.length_zipWith]; omega, lan_zip (fun x y hx hy => Nat.or_lt_two_pow (n := 8) hx hy) h k⟩
theorem Ln.mul {a : Int} {xs : List Nat} (h : Ln a xs) (m : Nat) (hm : ∀ x, x ∈ xs → x * m < 256) : Ln (IntKind.u64.wrap (a * (m : Int))) (xs.map (· * m)) := by
  obtain ⟨rfl, l, h⟩ := h
  have hl : lan (xs.map (· * m)) := fun y hy => by
    obtain ⟨x, hx, rfl⟩ := List.mem_map.1 hy
    exact hm x hx
  have hb := jn_64 (by rw [List.length_map]; exact l) hl
  refine ⟨?_, by rw [List.length_map]; exact l, hl⟩
  rw [← jn_mul] at hb ⊢
  rw [IntKind.wrap_u64]
  omega
theorem Ln.shr {a : Int} {xs : List Nat} (h : Ln a xs) (s k m : Nat) (hs : s + k = 8) (hm : m < 2 ^ k) (q : Int) (hq : q = ((jn (List.replicate 8 m) : Nat) : Int)) : Ln (bits .and .u64 (a / 2 ^ s) q) (xs.map fun x => x / 2 ^ s &&& m) := by
  obtain ⟨rfl, l, h⟩ := h
  subst hq
  have m8 : m < 256 := by
    have : 2 ^ k ≤ 2 ^ 8 := Nat.pow_le_pow_right (by decide) (by omega)
    omega
  have b := jn_64 l h
  have e : (((jn xs : Nat) : Int) / 2 ^ s) = ((jn xs / 2 ^ s : Nat) : Int) := by simp
  have r8 : jn (List.replicate 8 m) < 18446744073709551616 := jn_64 List.length_replicate (fun x hx => by rw [List.eq_of_mem_replicate hx]; exact m8)
  have e2 := jn_shr hs hm xs h
  rw [l] at e2
  refine ⟨by rw [e, u64_and_nat _ _ (Nat.lt_of_le_of_lt (Nat.div_le_self _ _) b) r8, e2], by rw [List.length_map]; exact l, lan_map (fun x _ => Nat.lt_of_le_of_lt Nat.and_le_right m8) h⟩
theorem Ln.shl {a : Int} {xs : List Nat} (h : Ln a xs) (s m : Nat) (hs : s ≤ 8) (hm : m < 256) (h0 : ∀ j, j < s → m.testBit j = false) (q : Int) (r : Nat) (hq : q = (r : Int)) (hr : 18446744073709551615 - r = jn (List.replicate 8 m)) (hr2 : r < 18446744073709551616) : Ln (bits .andNot .u64 (IntKind.u64.wrap (a * 2 ^ s)) q) (xs.map fun x => x * 2 ^ s % 256 &&& m) := by
  obtain ⟨rfl, l, h⟩ := h
  subst hq
  have e : IntKind.u64.wrap (((jn xs : Nat) : Int) * 2 ^ s) = ((jn xs * 2 ^ s % 18446744073709551616 : Nat) : Int) := by
    rw [IntKind.wrap_u64]
    have e1 : (((jn xs : Nat) : Int) * 2 ^ s) = ((jn xs * 2 ^ s : Nat) : Int) := by simp
    rw [e1]
    omega
  have e2 := jn_shl hs hm h0 xs 0 (Nat.two_pow_pos s) h
  rw [l, Nat.add_zero] at e2
  have e3 : (256 : Nat) ^ 8 = 18446744073709551616 := by decide
  rw [e3] at e2
  refine ⟨by rw [e, u64_andNot_nat _ _ (Nat.mod_lt _ (by decide)) hr2, hr, e2], by rw [List.length_map]; exact l, lan_map (fun x _ => Nat.lt_of_le_of_lt Nat.and_le_right hm) h⟩
theorem lan_rep {n m : Nat} (h : m < 256) : lan (List.replicate n m) := fun x hx => by rw [List.eq_of_mem_replicate hx]; exact h
theorem Ln.nil : Ln 0 (List.replicate 8 0) := ⟨by decide, by decide, lan_rep (by decide)⟩
theorem Ln.congr {a : Int} {xs ys : List Nat} (h : Ln a xs) (e : xs = ys) : Ln a ys := e ▸ h
theorem zip_map (f : Nat → Nat → Nat) (g h : Nat → Nat) : ∀ xs : List Nat, List.zipWith f (xs.map g) (xs.map h) = xs.map fun x => f (g x) (h x)
  | [] => rfl
  | x :: xs => by rw [List.map_cons, List.map_cons, List.map_cons, List.zipWith_cons_cons, zip_map f g h xs]
theorem rep_map {xs : List Nat} {n m : Nat} (l : xs.length = n) : List.replicate n m = xs.map fun _ => m := by
  subst l
  exact (List.map_const' ..).symm
/-- doubled -/
theorem Ln.dbl {a : Int} {xs : List Nat} (h : Ln a xs) : Ln (bits .xor .u64 (bits .andNot .u64 (IntKind.u64.wrap (a * 2)) 72340172838076673) (IntKind.u64.wrap (bits .and .u64 (a / 128) 72340172838076673 * 27))) (xs.map dL) := by
  have h1 := h.shl 1 254 (by decide) (by decide) (fun j hj => by obtain rfl : j = 0 := by omega
                                                                 decide) 72340172838076673 72340172838076673 rfl (by decide) (by decide)
  have h2 := h.shr 7 1 1 (by decide) (by decide) 72340172838076673 (by decide)
  have h3 := h2.mul 27 (fun x hx => by
    obtain ⟨y, _, rfl⟩ := List.mem_map.1 hx
    have := and1_lt (y / 2 ^ 7)
    omega)
  have h4 := h1.xor h3
  rw [List.map_map, zip_map] at h4
  exact h4
theorem zip_step (k : Nat) : ∀ xs ys : List Nat, List.zipWith (· ^^^ ·) (List.zipWith (fun x y => sI x y k) xs ys) (List.zipWith (· &&& ·) (xs.map fun x => dI x k) ((ys.map fun y => y / 2 ^ k &&& 1).map (· * 255))) = List.zipWith (fun x y => sI x y (k + 1)) xs ys
  | [], _ => by simp
  | _ :: _, [] => by simp
  | x :: xs, y :: ys => by
    simp only [List.zipWith_cons_cons, List.map_cons, zip_step k xs ys]
    rfl
/-- a step of products -/
theorem Ln.prd {a b c : Int} {xs ys : List Nat} {k : Nat} (hk : k ≤ 7) (h : Ln a (xs.map fun x => dI x k)) (hb : Ln b ys) (hc : Ln c (List.zipWith (fun x y => sI x y k) xs ys)) : Ln (bits .xor .u64 c (bits .and .u64 a (IntKind.u64.wrap (bits .and .u64 (b / 2 ^ k) 72340172838076673 * 255)))) (List.zipWith (fun x y => sI x y (k + 1)) xs ys) := by
  have h2 := hb.shr k (8 - k) 1 (by omega) (by
    have : 2 ^ 1 ≤ 2 ^ (8 - k) := Nat.pow_le_pow_right (by decide) (by omega)
    omega) 72340172838076673 (by decide)
  have h3 := h2.mul 255 (fun x hx => by
    obtain ⟨y, _, rfl⟩ := List.mem_map.1 hx
    have := and1_lt (y / 2 ^ k)
    omega)
  have h4 := hc.xor (h.and h3)
  rw [zip_step] at h4
  exact h4
theorem sI_zero : ∀ {xs ys : List Nat} {n : Nat}, xs.length = n → ys.length = n → List.replicate n 0 = List.zipWith (fun x y => sI x y 0) xs ys
  | [], [], _, h, _ => by subst h; rfl
  | x :: xs, y :: ys, _, h, k => by
    subst h
    rw [List.length_cons, List.replicate_succ, List.zipWith_cons_cons, sI_zero (n := xs.length) rfl (by simpa using k)]
    rfl
theorem Ln.rot4 {a : Int} {xs : List Nat} (h : Ln a xs) : Ln (bits .or .u64 (bits .and .u64 (a / 16) 1085102592571150095) (bits .andNot .u64 (IntKind.u64.wrap (a * 16)) 1085102592571150095)) (xs.map (rL 4)) := by
  have h1 := h.shr 4 4 15 (by decide) (by decide) 1085102592571150095 (by decide)
  have h2 := h.shl 4 240 (by decide) (by decide) (by decide) 1085102592571150095 1085102592571150095 rfl (by decide) (by decide)
  have h3 := h1.or h2
  rw [zip_map] at h3
  exact h3
theorem Ln.rot5 {a : Int} {xs : List Nat} (h : Ln a xs) : Ln (bits .or .u64 (bits .and .u64 (a / 32) 506381209866536711) (bits .andNot .u64 (IntKind.u64.wrap (a * 8)) 506381209866536711)) (xs.map (rL 5)) := by
  have h1 := h.shr 5 3 7 (by decide) (by decide) 506381209866536711 (by decide)
  have h2 := h.shl 3 248 (by decide) (by decide) (by decide) 506381209866536711 506381209866536711 rfl (by decide) (by decide)
  have h3 := h1.or h2
  rw [zip_map] at h3
  exact h3
theorem Ln.rot6 {a : Int} {xs : List Nat} (h : Ln a xs) : Ln (bits .or .u64 (bits .and .u64 (a / 64) 217020518514230019) (bits .andNot .u64 (IntKind.u64.wrap (a * 4)) 217020518514230019)) (xs.map (rL 6)) := by
  have h1 := h.shr 6 2 3 (by decide) (by decide) 217020518514230019 (by decide)
  have h2 := h.shl 2 252 (by decide) (by decide) (by decide) 217020518514230019 217020518514230019 rfl (by decide) (by decide)
  have h3 := h1.or h2
  rw [zip_map] at h3
  exact h3
theorem Ln.rot7 {a : Int} {xs : List Nat} (h : Ln a xs) : Ln (bits .or .u64 (bits .and .u64 (a / 128) 72340172838076673) (bits .andNot .u64 (IntKind.u64.wrap (a * 2)) 72340172838076673)) (xs.map (rL 7)) := by
  have h1 := h.shr 7 1 1 (by decide) (by decide) 72340172838076673 (by decide)
  have h2 := h.shl 1 254 (by decide) (by decide) (by decide) 72340172838076673 72340172838076673 rfl (by decide) (by decide)
  have h3 := h1.or h2
  rw [zip_map] at h3
  exact h3
theorem Ln.sub {v p q r t : Int} {xs : List Nat} (hxs : lan xs) (h0 : Ln v (xs.map iL)) (h4 : Ln p ((xs.map iL).map (rL 4))) (h5 : Ln q ((xs.map iL).map (rL 5))) (h6 : Ln r ((xs.map iL).map (rL 6))) (h7 : Ln t ((xs.map iL).map (rL 7))) : Ln (bits .xor .u64 (bits .xor .u64 (bits .xor .u64 (bits .xor .u64 (bits .xor .u64 v p) q) r) t) 7161677110969590627) (xs.map subN) := by
  have l : xs.length = 8 := by have := h0.2.1; rwa [List.length_map] at this
  have h9 : Ln 7161677110969590627 (xs.map fun _ => 99) := by
    rw [← rep_map l]
    exact ⟨by decide, by decide, lan_rep (by decide)⟩
  have hx := ((((h0.xor h4).xor h5).xor h6).xor h7).xor h9
  simp only [List.map_map, zip_map] at hx
  refine hx.congr ?_
  apply List.map_congr_left
  intro x hxm
  exact vL_sub (hxs x hxm)
/-- one byte alone -/
theorem Ln.one {x : Int} (h : 0 ≤ x ∧ x < 256) : Ln x (x.toNat :: List.replicate 7 0) := by
  refine ⟨?_, rfl, ?_⟩
  · show x = ((x.toNat + 256 * 0 : Nat) : Int)
    omega
  · intro y hy
    rcases List.mem_cons.1 hy with rfl | hy
    · omega
    · rw [List.eq_of_mem_replicate hy]
      decide
theorem Ln.low {a : Int} {x : Nat} {xs : List Nat} (h : Ln a (x :: xs)) : IntKind.u8.wrap a = (x : Int) := by
  have := (lan_cons h.2.2).1
  rw [IntKind.wrap_u8, h.1, jn]
  omega
end Go.Proofs.Ytpfmoakapdfdaaa
