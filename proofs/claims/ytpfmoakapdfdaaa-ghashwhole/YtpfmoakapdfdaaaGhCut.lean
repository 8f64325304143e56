/- The laws of layer 10: bytes cut, and their sums. -/
import Derived.Test.YtpfmoakapdfdaaaRows
import Derived.Test.YtpfmoakapdfdaaaGhLaw
import Derived.Laws.CopyOwn
import Derived.Deep.WholeRow
import Derived.Deep.RegionHeld3
import Derived.Deep.DeepCutAuto
import Derived.Deep.DeepFit
namespace Go.Proofs.Ytpfmoakapdfdaaa
open Go.RowKit

theorem bs_uptoG {w : World} {ao : Option Addr} {n r cap : Nat} {B : List Int} (h : Bs w (.slice ao n cap) B) (hn : B.length = n) (hr : r ≤ n) : Bs w (.slice ao r cap) (B.take r) := by
  obtain ⟨a, c, e, h1, h2, h3⟩ := h
  obtain ⟨rfl, _, rfl⟩ : ao = a ∧ n = B.length ∧ cap = c := by simpa using e
  have el : (B.take r).length = r := by rw [List.length_take]; omega
  refine ⟨ao, cap, by rw [el], h1, by rw [el]; omega, fun h0 => ?_⟩
  rw [el] at h0
  obtain ⟨b, o, rfl, k1, k2⟩ := h3 (by omega)
  refine ⟨b, o, rfl, k1, fun j hj => ?_⟩
  rw [el] at hj
  rw [k2 j (by omega), List.getD_eq_getElem?_getD, List.getD_eq_getElem?_getD, List.getElem?_take, if_pos hj]
theorem byt_takeG {B : List Int} (h : byt B) (r : Nat) : byt (B.take r) := by
  intro j
  rw [List.getD_eq_getElem?_getD, List.getElem?_take]
  split
  · rw [← List.getD_eq_getElem?_getD]; exact h j
  · exact ⟨by decide, by decide⟩
theorem con_cut {v : Value} {B : List Int} {w : World} (h : Bs w v B) :
    Calls Try.prog 12 #[v] w fun e w' => ∃ v' : Value, e = .returned v' ∧ Bs w v' (B.take 600) ∧ w' = w := by
  have h0 := h
  obtain ⟨ao, cap, rfl, c1, c2, c3⟩ := h
  clear c3
  unfold maxLen at c1
  by_cases hl : 600 < B.length
  · have g1 : (600 : Int) < ((B.length : Nat) : Int) := by omega
    have g3 : 600 ≤ cap := by omega
    go_enter Try.func12, Try.ntmps12
    go_wp2_with fail
    go_ret
    exact ⟨_, rfl, bs_uptoG h0 rfl (by omega), rfl⟩
  · have g1 : ¬ (600 : Int) < ((B.length : Nat) : Int) := by omega
    have HT : Hid (B.take 600 = B) := List.take_of_length_le (by omega)
    go_enter Try.func12, Try.ntmps12
    go_wp2_with fail
    go_ret
    exact ⟨_, rfl, by rw [HT.out]; exact h0, rfl⟩
theorem con_HashL {H B : List Int} {F G : List Value} {v : Value} {w : World} (hF : u8s H = F) (hG : u8s (hashB H B) = G) (lH : H.length = 16) (bH : byt H) (hv : Bs w v B) (bB : byt B) (l : B.length ≤ 1099511627776) :
    Calls Try.prog 13 #[.agg F.toArray, v] w fun e w' => e = .returned (.agg G.toArray) ∧ Below w.heap.size w w' := by
  subst hF hG
  exact con_Hash lH bH hv bB l
theorem hash_one : hashB oneB [128] = oneB := by decide +kernel
theorem byt_128 : byt [128] := byt_of _ (fun j hj => by
  have e : j = 0 := by simp at hj; exact hj
  subst e
  exact ⟨by decide, by decide⟩)
theorem con_Hash1 {O1 : List Value} {v : Value} {w : World} (h : u8s oneB = O1) (hv : Bs w v [128]) :
    Calls Try.prog 13 #[.agg O1.toArray, v] w fun e w' => e = .returned (.agg O1.toArray) ∧ Below w.heap.size w w' := con_HashL h (by rw [hash_one]; exact h) one_len one_byt hv byt_128 (by decide)
end Go.Proofs.Ytpfmoakapdfdaaa
