/- modp's upper: a number's upper half. -/
import Derived.Test.YtflnfjekapngkaaDoorRows
import Derived.Test.YtflnfjekapngkaaDoorMRed
import Derived.Test.YtflnfjekapngkaaDoorLPick
import Derived.Test.YtflnfjekapngkaaDoorPut
namespace Go.Proofs.YtflnfjekapngkaaDoor
open Go.RowKit

set_option maxRecDepth 100000 in
set_option maxHeartbeats 1000000 in
theorem upper_any (P : List Int) (w : World) (lP : P.length = 12) :
    Calls Tryd.prog 69 #[.agg (us P).toArray] w fun e w' => e = .returned (.agg (us (P.drop 6)).toArray) ∧ Below w.heap.size w w' := by
  have b0 := ((Blk.new w (us P) 80 w.heap.size rfl).alloc (.cells (us [0, 0, 0, 0, 0, 0]).toArray 24)).alloc (.cells (us [0, 0, 0, 0, 0, 0]).toArray 24)
  have b1 := (Blk.new (w.alloc (.cells (us P).toArray 80)) (us [0, 0, 0, 0, 0, 0]) 24 (w.heap.size + 1) (by simp)).alloc (.cells (us [0, 0, 0, 0, 0, 0]).toArray 24)
  have b2 := Blk.new ((w.alloc (.cells (us P).toArray 80)).alloc (.cells (us [0, 0, 0, 0, 0, 0]).toArray 24)) (us [0, 0, 0, 0, 0, 0]) 24 (w.heap.size + 1 + 1) (by simp)
  have hbel : Below w.heap.size w (((w.alloc (.cells (us P).toArray 80)).alloc (.cells (us [0, 0, 0, 0, 0, 0]).toArray 24)).alloc (.cells (us [0, 0, 0, 0, 0, 0]).toArray 24)) := (((Below.refl _ _).alloc (Nat.le_refl _) _).alloc (by simp) _).alloc (by simp; omega) _
  have lU : (P.drop 6).length = 6 := by simp [lP]
  obtain ⟨U, hU⟩ : ∃ U, P.drop 6 = U := ⟨_, rfl⟩
  have HU : Hid (∀ k, k < 6 → P.getD (k + 6) 0 = U.getD k 0) := fun k _ => by rw [← hU]; simp [List.getD_eq_getElem?_getD, Nat.add_comm]
  rw [hU] at lU ⊢
  clear hU
  go_enter Tryd.func69, Tryd.ntmps69
  go_wp2
  go_loopw [5] (fun i wr => ∃ (k : Nat) (S : List Int), k ≤ 6 ∧ i = .int .i64 k ∧ S.length = 6 ∧ Hid (S.take k = U.take k) ∧ Blk wr w.heap.size (us P) ∧ Blk wr (w.heap.size + 1) (us [0, 0, 0, 0, 0, 0]) ∧ Blk wr (w.heap.size + 1 + 1) (us S) ∧ Below w.heap.size w wr)
    (fun i _ => 6 - (intOf i).toNat)
  case atStart => exact ⟨0, [0, 0, 0, 0, 0, 0], by omega, rfl, rfl, by show _ = _; simp, b0, b1, b2, hbel⟩
  case round =>
    obtain ⟨k, S, hk, rfl, lS, HT, hSP, hSZ, hSS, hbel⟩ := hrel
    clear b0 b1 b2
    by_cases hlt : k < 6
    · obtain ⟨p, hp⟩ : ∃ p, P.getD (k + 6) 0 = p := ⟨_, rfl⟩
      obtain ⟨s, hs⟩ : ∃ s, S.getD k 0 = s := ⟨_, rfl⟩
      have xp := hSP.cell (k + 6) _ (us_get P (k + 6) (by omega))
      have xs := hSS.cell k _ (us_get S k (by omega))
      rw [hp] at xp
      rw [hs] at xs
      have hf := hSS.frozen k
      have st : Hid _ := take_set_next S U k p lS lU hlt ((HU.out k hlt).symm.trans hp) HT.out
      clear hp hs HT
      have g1 : (k : Int) < 6 := by omega
      have g2 : (0 : Int) ≤ (k : Int) + 6 := by omega
      have g3 : (k : Int) + 6 < 12 := by omega
      have g4 : ((k : Int) + 6).toNat = k + 6 := by omega
      have g5 : (0 : Int) ≤ (k : Int) := by omega
      go_wp2
      go_roundw
      case rel => exact ⟨k + 1, S.set k p, by omega, by go_num, by simpa using lS, st, hSP.other _ _ (by simp <;> omega), hSZ.other _ _ (by simp <;> omega), hSS.setu k _, hbel.setCell (by simp <;> omega) _⟩
      case measure => simp [intOf]; omega
    · have h6 : (6 : Int) ≤ (k : Int) := by omega
      have hk6 : k = 6 := by omega
      have hE : S = U := by
        have := HT.out
        rw [List.take_of_length_le (by omega), List.take_of_length_le (by omega)] at this
        exact this
      subst hE
      obtain ⟨s0, s1, s2, s3, s4, s5, rfl⟩ := six lS
      have c0 := hSS.cell 0 _ rfl; have g0 := hSS.frozen 0; have c1 := hSS.cell 1 _ rfl; have g1 := hSS.frozen 1; have c2 := hSS.cell 2 _ rfl; have g2 := hSS.frozen 2; have c3 := hSS.cell 3 _ rfl; have g3 := hSS.frozen 3; have c4 := hSS.cell 4 _ rfl; have g4 := hSS.frozen 4; have c5 := hSS.cell 5 _ rfl; have g5 := hSS.frozen 5
      have z0 := hSZ.cell 0 _ rfl; have f0 := hSZ.frozen 0; have z1 := hSZ.cell 1 _ rfl; have f1 := hSZ.frozen 1; have z2 := hSZ.cell 2 _ rfl; have f2 := hSZ.frozen 2; have z3 := hSZ.cell 3 _ rfl; have f3 := hSZ.frozen 3; have z4 := hSZ.cell 4 _ rfl; have f4 := hSZ.frozen 4; have z5 := hSZ.cell 5 _ rfl; have f5 := hSZ.frozen 5
      clear HU HT
      go_wp2
      exact bodyPost_ret (v := .agg #[.int .u64 s0, .int .u64 s1, .int .u64 s2, .int .u64 s3, .int .u64 s4, .int .u64 s5]) (by simp [results, Tryd.results69, go_sem, z0, z1, z2, z3, z4, z5]) rfl ⟨rfl, below_put6 hbel (by omega)⟩
end Go.Proofs.YtflnfjekapngkaaDoor
