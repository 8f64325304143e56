/- limb.Pick: one of two numbers, by a bit. -/
import Derived.Test.YtflnfjekapngkaaDoorRows
import Derived.Test.YtflnfjekapngkaaDoorBase
import Derived.Deep.RegionHeld3
namespace Go.Proofs.YtflnfjekapngkaaDoor
open Go.RowKit

/-- the mask of a bit -/
theorem mask_num (n : Int) (h0 : 0 ≤ n) (h1 : n < 18446744073709551616) : IntKind.u64.wrap (-bits .and .u64 n 1) = if n % 2 = 1 then 18446744073709551615 else 0 := by
  rw [u64_and n 1 h0 h1 (by decide) (by decide), show (1 : Int).toNat = 1 from rfl, nat_mask1, IntKind.wrap_u64]
  split <;> omega

theorem pick_num (a b m : Int) (odd : Bool) (ha : 0 ≤ a ∧ a < 18446744073709551616) (hb : 0 ≤ b ∧ b < 18446744073709551616) (hm : m = if odd then 18446744073709551615 else 0) :
    bits .xor .u64 a (bits .and .u64 m (bits .xor .u64 a b)) = if odd then b else a := by
  have hx : bits .xor .u64 a b = ((a.toNat ^^^ b.toNat : Nat) : Int) := u64_xor a b ha.1 ha.2 hb.1 hb.2
  have hlt := Nat.xor_lt_two_pow (n := 64) (show a.toNat < 2 ^ 64 by omega) (show b.toNat < 2 ^ 64 by omega)
  have e64 : (2 : Nat) ^ 64 = 18446744073709551616 := by decide
  rw [hx]
  cases odd
  · have : m = 0 := by simpa using hm
    subst this
    rw [u64_and 0 _ (by decide) (by decide) (by omega) (by omega)]
    have : (0 : Int).toNat &&& ((a.toNat ^^^ b.toNat : Nat) : Int).toNat = 0 := by simp
    rw [this, u64_xor a _ ha.1 ha.2 (by decide) (by decide)]
    simp
    omega
  · have : m = 18446744073709551615 := by simpa using hm
    subst this
    rw [u64_and _ _ (by decide) (by decide) (by omega) (by omega)]
    have : (18446744073709551615 : Int).toNat &&& ((a.toNat ^^^ b.toNat : Nat) : Int).toNat = a.toNat ^^^ b.toNat := by
      rw [Nat.and_comm, show (18446744073709551615 : Int).toNat = 2 ^ 64 - 1 from rfl, Nat.and_two_pow_sub_one_eq_mod]
      simp only [Int.toNat_natCast]
      exact Nat.mod_eq_of_lt hlt
    rw [this, u64_xor a _ ha.1 ha.2 (by omega) (by omega)]
    simp only [Int.toNat_natCast, ← Nat.xor_assoc, Nat.xor_self, Nat.zero_xor]
    simp
    omega

def oddB (n : Int) : Bool := decide (n % 2 = 1)
def pk (n : Int) (A B : List Int) : List Int := if oddB n then B else A

theorem pk_len (n : Int) (A B : List Int) (lA : A.length = 6) (lB : B.length = 6) : (pk n A B).length = 6 := by
  unfold pk; split <;> assumption

theorem pk_fits (n : Int) (A B : List Int) (fA : fits A) (fB : fits B) : fits (pk n A B) := by
  unfold pk; split <;> assumption

theorem pk_get (n : Int) (A B : List Int) (k : Nat) : (pk n A B).getD k 0 = if oddB n then B.getD k 0 else A.getD k 0 := by
  unfold pk; split <;> rfl

theorem take_set_next (S P : List Int) (k : Nat) (s : Int) (lS : S.length = 6) (lP : P.length = 6) (hk : k < 6) (hs : P.getD k 0 = s) (h : S.take k = P.take k) : (S.set k s).take (k + 1) = P.take (k + 1) := by
  rw [List.take_add_one, List.take_add_one, take_set_same, h, ← hs]
  simp [List.getD_eq_getElem?_getD, List.getElem?_eq_getElem (show k < P.length by omega), show k < S.length by omega]

set_option maxRecDepth 100000 in
set_option maxHeartbeats 1000000 in
theorem pick_any (n : Int) (A B : List Int) (w : World) (n0 : 0 ≤ n) (n1 : n < 18446744073709551616) (lA : A.length = 6) (lB : B.length = 6) (hx : fits A) (hy : fits B) :
    Calls Tryd.prog 44 #[.int .u64 n, .agg (us A).toArray, .agg (us B).toArray] w fun e w' => e = .returned (.agg (us (pk n A B)).toArray) ∧ Below w.heap.size w w' := by
  have b0 := (((Blk.new w (us A) 24 w.heap.size rfl).alloc (.cells (us B).toArray 24)).alloc (.cells (us [0, 0, 0, 0, 0, 0]).toArray 24)).alloc (.cells (us [0, 0, 0, 0, 0, 0]).toArray 24)
  have b1 := ((Blk.new (w.alloc (.cells (us A).toArray 24)) (us B) 24 (w.heap.size + 1) (by simp)).alloc (.cells (us [0, 0, 0, 0, 0, 0]).toArray 24)).alloc (.cells (us [0, 0, 0, 0, 0, 0]).toArray 24)
  have b2 := (Blk.new ((w.alloc (.cells (us A).toArray 24)).alloc (.cells (us B).toArray 24)) (us [0, 0, 0, 0, 0, 0]) 24 (w.heap.size + 1 + 1) (by simp)).alloc (.cells (us [0, 0, 0, 0, 0, 0]).toArray 24)
  have b3 := Blk.new (((w.alloc (.cells (us A).toArray 24)).alloc (.cells (us B).toArray 24)).alloc (.cells (us [0, 0, 0, 0, 0, 0]).toArray 24)) (us [0, 0, 0, 0, 0, 0]) 24 (w.heap.size + 1 + 1 + 1) (by simp)
  have hbel : Below w.heap.size w ((((w.alloc (.cells (us A).toArray 24)).alloc (.cells (us B).toArray 24)).alloc (.cells (us [0, 0, 0, 0, 0, 0]).toArray 24)).alloc (.cells (us [0, 0, 0, 0, 0, 0]).toArray 24)) := ((((Below.refl _ _).alloc (Nat.le_refl _) _).alloc (by simp) _).alloc (by simp; omega) _).alloc (by simp; omega) _
  obtain ⟨m, hm⟩ : ∃ m, IntKind.u64.wrap (-bits .and .u64 n 1) = m := ⟨_, rfl⟩
  have HM : Hid (m = if oddB n then 18446744073709551615 else 0) := by rw [← hm, mask_num n n0 n1]; simp [oddB, Hid]
  obtain ⟨P, hP⟩ : ∃ P, pk n A B = P := ⟨_, rfl⟩
  have lP := pk_len n A B lA lB
  have fP := pk_fits n A B hx hy
  have gP : Hid (∀ k, P.getD k 0 = if oddB n then B.getD k 0 else A.getD k 0) := by rw [← hP]; exact pk_get n A B
  rw [hP] at lP fP ⊢
  clear hP
  go_enter Tryd.func44, Tryd.ntmps44
  go_wp2
  clear hm
  go_loopw [13] (fun i wr => ∃ (k : Nat) (S : List Int), k ≤ 6 ∧ i = .int .i64 k ∧ S.length = 6 ∧ S.take k = P.take k ∧
      Blk wr w.heap.size (us A) ∧ Blk wr (w.heap.size + 1) (us B) ∧ Blk wr (w.heap.size + 1 + 1) (us [0, 0, 0, 0, 0, 0]) ∧ Blk wr (w.heap.size + 1 + 1 + 1) (us S) ∧ Below w.heap.size w wr)
    (fun i _ => 6 - (intOf i).toNat)
  case atStart => exact ⟨0, [0, 0, 0, 0, 0, 0], by omega, rfl, rfl, rfl, b0, b1, b2, b3, hbel⟩
  case round =>
    obtain ⟨k, S, hk, rfl, lS, hv, hSA, hSB, hSZ, hSS, hbel⟩ := hrel
    clear b0 b1 b2 b3
    by_cases hlt : k < 6
    · obtain ⟨a, hA⟩ : ∃ a, A.getD k 0 = a := ⟨_, rfl⟩
      obtain ⟨b, hB⟩ : ∃ b, B.getD k 0 = b := ⟨_, rfl⟩
      obtain ⟨s, hS⟩ : ∃ s, S.getD k 0 = s := ⟨_, rfl⟩
      have ha := hSA.cell k _ (us_get A k (by omega))
      have hb := hSB.cell k _ (us_get B k (by omega))
      have hs := hSS.cell k _ (us_get S k (by omega))
      rw [hA] at ha
      rw [hB] at hb
      rw [hS] at hs
      have hf := hSS.frozen k
      have st : Hid (bits .xor .u64 a (bits .and .u64 m (bits .xor .u64 a b)) = P.getD k 0) := by
        have := pick_num a b m (oddB n) (hA ▸ hx k) (hB ▸ hy k) HM.out
        rw [gP.out k, hA, hB]; exact this
      clear hA hB hS
      have h1 : (k : Int) < 6 := by omega
      have h2 : (0 : Int) ≤ (k : Int) := by omega
      go_wp2
      go_region_held3 (fun w' => w'.cell? ⟨w.heap.size, k, none⟩ = some (.int .u64 a) ∧ w'.cell? ⟨w.heap.size + 1, k, none⟩ = some (.int .u64 b)) (first | exact ⟨ha, hb⟩ | (refine ⟨?_, ?_⟩ <;> (rw [World.cell?_drew, World.cell?_setCell_far _ _ _ _ (by simp <;> omega)]; assumption))) (fail)
      all_goals go_wp2
      all_goals go_roundw
      case rel => exact ⟨k + 1, S.set k (bits .xor .u64 a (bits .and .u64 m (bits .xor .u64 a b))), by omega, by go_num, by simpa using lS, take_set_next S P k _ lS lP hlt st.out.symm hv, (hSA.other _ _ (by simp <;> omega)).drew, (hSB.other _ _ (by simp <;> omega)).drew, (hSZ.other _ _ (by simp)).drew, (hSS.setu k _).drew, (hbel.setCell (by simp <;> omega) _).drew⟩
      case measure => simp [intOf]; omega
    · have h6 : (6 : Int) ≤ (k : Int) := by omega
      have hk6 : k = 6 := by omega
      have hSP : S = P := by
        rw [hk6, List.take_of_length_le (by omega), List.take_of_length_le (by omega)] at hv
        exact hv
      subst hSP
      obtain ⟨s0, s1, s2, s3, s4, s5, rfl⟩ := six lS
      obtain ⟨c0, c1, c2, c3, c4, c5⟩ := hSS.cells6
      obtain ⟨z0, z1, z2, z3, z4, z5⟩ := hSZ.cells6
      have f0 := hSZ.frozen 0
      have f1 := hSZ.frozen 1
      have f2 := hSZ.frozen 2
      have f3 := hSZ.frozen 3
      have f4 := hSZ.frozen 4
      have f5 := hSZ.frozen 5
      clear hv
      go_wp2
      exact bodyPost_ret (v := .agg #[.int .u64 s0, .int .u64 s1, .int .u64 s2, .int .u64 s3, .int .u64 s4, .int .u64 s5]) (by simp [results, Tryd.results44, go_sem, z0, z1, z2, z3, z4, z5]) rfl
        ⟨rfl, (((((hbel.setCell (by simp; omega) _).setCell (by simp; omega) _).setCell (by simp; omega) _).setCell (by simp; omega) _).setCell (by simp; omega) _).setCell (by simp; omega) _⟩
end Go.Proofs.YtflnfjekapngkaaDoor
