/- The laws of layer 13 on identifiers: what errors there are. -/
import Derived.Test.YteejcokpkginbaaRows
import Derived.Test.YteejcokpkginbaaPmOidN
import Derived.Test.YteejcokpkginbaaApUs
import Derived.Deep.WholeRow
import Derived.Deep.RegionHeld3
import Derived.Deep.DeepCutAuto
import Derived.Deep.DeepFit
namespace Go.Proofs.Yteejcokpkginbaa
open Go.RowKit

theorem us_list (w : World) (X : List Int) (n : Nat) (hn : X.length = n) (hm : n ≤ maxLen) : Us (w.alloc (.cells (us X).toArray 44)) (.slice (some ⟨w.heap.size, 0, none⟩) n n) X := us_blk (Blk.new w (us X) 44 w.heap.size rfl) hn hm
theorem raw_bad : ∀ (B L : List Int) (x : Int) (beg : Bool) (c : Nat), rawP B L x beg = .error c → c = 7
  | [], L, x, beg, c, h => by
    rw [rawP] at h
    split at h
    · cases h; rfl
    · cases h
  | y :: B, L, x, beg, c, h => by
    rw [rawP] at h
    split at h
    · cases h; rfl
    · split at h
      · exact raw_bad _ _ _ _ _ h
      · exact raw_bad _ _ _ _ _ h
theorem oid_bad {B : List Int} {c : Nat} (h : oidP B = .error c) : 1 ≤ c ∧ c ≤ 21 := by
  unfold oidP at h
  cases hp : rawP B [] 0 true with
  | error k =>
    rw [hp] at h
    cases h
    have := raw_bad _ _ _ _ _ hp
    omega
  | ok l =>
    rw [hp] at h
    simp only [oidFin] at h
    split at h
    · cases h; omega
    · split at h
      · cases h; omega
      · cases h
theorem oid_len {B n : List Int} (h : oidP B = .ok n) : n.length ≤ 16 := by
  unfold oidP at h
  cases hp : rawP B [] 0 true with
  | error k => rw [hp] at h; cases h
  | ok l =>
    rw [hp] at h
    simp only [oidFin] at h
    split at h
    · cases h
    · split at h
      · cases h
      · cases h; omega
theorem oidOf_bad {L : List Int} {c : Nat} (h : oidOf L = .error c) : 1 ≤ c ∧ c ≤ 21 := by
  unfold oidOf at h
  split at h
  · cases h; omega
  · split at h
    · cases h; omega
    · cases h
theorem oidOf_good {L n : List Int} (h : oidOf L = .ok n) : byt n ∧ n.length ≤ 1000 ∧ L.length ≤ 16 := by
  unfold oidOf at h
  by_cases c : L.length < 2 ∨ 16 < L.length ∨ 2 < L.getD 0 0 ∨ (L.getD 0 0 < 2 ∧ 39 < L.getD 1 0)
  · rw [if_pos c] at h; cases h
  rw [if_neg c] at h
  split at h
  · cases h
  · cases h
    have := b7s_len (valsO L)
    rw [vals_len (by omega)] at this
    exact ⟨b7s_byt _, by omega, by omega⟩
end Go.Proofs.Yteejcokpkginbaa
