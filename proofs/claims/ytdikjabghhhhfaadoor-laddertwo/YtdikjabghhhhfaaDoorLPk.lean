/- Plain facts of layer 6: one of two points, a round of the walk. -/
import Derived.Test.YtdikjabghhhhfaaDoorRows
import Derived.Test.YtdikjabghhhhfaaDoorCAddC
import Derived.Test.YtdikjabghhhhfaaDoorCNum
import Derived.Test.YtdikjabghhhhfaaDoorLimb
import Derived.Test.YtdikjabghhhhfaaDoorShape
import Derived.Deep.WholeRow
import Derived.Deep.RegionHeld3
import Derived.Deep.DeepCutAuto
import Derived.Deep.DeepFit
namespace Go.Proofs.YtdikjabghhhhfaaDoor
open Go.RowKit

/-- one of two points -/
def pkP (c : Int) (P Q : Pt) : Pt := if c = 1 then Q else P
theorem pkP_one (P Q : Pt) : pkP 1 P Q = Q := rfl
theorem pkP_zero (P Q : Pt) : pkP 0 P Q = P := rfl
theorem pkP_on {c : Int} {P Q : Pt} (hP : OnC P) (hQ : OnC Q) : OnC (pkP c P Q) := by unfold pkP; split <;> assumption

theorem told_self {P : Pt} {A B : List Int} {n : Bool} (t : Told P A B n) (hP : OnC P) : Told P A B (Noo A B) := by
  refine told_noo t.fA t.fB hP ?_
  rcases t.is with ⟨rfl, _, hx, hy⟩ | ⟨rfl, _⟩
  · exact .inl ⟨rfl, hx, hy⟩
  · exact .inr rfl

theorem pk_told {P Q : Pt} {X Y A B S T : List Int} {n m : Bool} {c : Int} (c01 : c = 0 ∨ c = 1) (t : Told P X Y n) (u : Told Q A B m) (hP : OnC P) (hQ : OnC Q) (hs : S = pkN c X A) (ht : T = pkN c Y B) : Told (pkP c P Q) S T (Noo S T) := by
  rcases c01 with rfl | rfl
  · rw [pk_zero] at hs ht
    rw [pkP_zero, hs, ht]
    exact told_self t hP
  · rw [pk_one] at hs ht
    rw [pkP_one, hs, ht]
    exact told_self u hQ

theorem bit_01 {A : List Int} {j : Nat} (l : A.length = 6) (f : fits A) (hj : j < 384) : bitN A j = 0 ∨ bitN A j = 1 := by
  have := bitN_nat A j l f hj
  omega

/-- a round: what was doubled, or that and the point, by the bit -/
theorem climb_round {P : Pt} (h : OnC P) {E j : Nat} {c : Int} (hc : c = ((E / 2 ^ j % 2 : Nat) : Int)) :
    pkP c (cadd (cmul (E / 2 ^ (j + 1)) P) (cmul (E / 2 ^ (j + 1)) P)) (cadd (cadd (cmul (E / 2 ^ (j + 1)) P) (cmul (E / 2 ^ (j + 1)) P)) P) = cmul (E / 2 ^ j) P := by
  by_cases hb : E / 2 ^ j % 2 = 1
  · rw [hc, hb, ← times_bit1 h hb]; rfl
  · have h0 : E / 2 ^ j % 2 = 0 := by omega
    rw [hc, h0, ← times_bit0 h hb]; rfl

theorem half_pk {P : Pt} (h : OnC P) {E j : Nat} {c : Int} (hc : c = ((E / 2 ^ j % 2 : Nat) : Int)) :
    cmul (E / 2 ^ j) P = cadd (cadd (cmul (E / 2 ^ (j + 1)) P) (cmul (E / 2 ^ (j + 1)) P)) (pkP c none P) := by
  by_cases hb : E / 2 ^ j % 2 = 1
  · rw [hc, hb, ← times_bit1 h hb]; rfl
  · have h0 : E / 2 ^ j % 2 = 0 := by omega
    rw [hc, h0, ← times_bit0 h hb, show pkP ((0 : Nat) : Int) none P = none from rfl, cadd_none]

theorem pk_both {P : Pt} {c d : Int} (c01 : c = 0 ∨ c = 1) (d01 : d = 0 ∨ d = 1) : pkP d (pkP c none GG) (pkP c P (cadd GG P)) = cadd (pkP c none GG) (pkP d none P) := by
  rcases c01 with rfl | rfl <;> rcases d01 with rfl | rfl <;> simp only [pkP_one, pkP_zero, cadd_none, none_cadd]

/-- four that are added go in any order -/
theorem add_four {A B C D : Pt} (hA : OnC A) (hB : OnC B) (hC : OnC C) (hD : OnC D) : cadd (cadd A B) (cadd C D) = cadd (cadd A C) (cadd B D) := by
  rw [assoc hA hB (on_add hC hD), ← assoc hB hC hD, add_comm' hB hC, assoc hC hB hD, ← assoc hA hC (on_add hB hD)]

theorem two_round {P : Pt} (h : OnC P) {U V j : Nat} {c d : Int} (hc : c = ((U / 2 ^ j % 2 : Nat) : Int)) (hd : d = ((V / 2 ^ j % 2 : Nat) : Int)) :
    cadd (cadd (cadd (cmul (U / 2 ^ (j + 1)) GG) (cmul (V / 2 ^ (j + 1)) P)) (cadd (cmul (U / 2 ^ (j + 1)) GG) (cmul (V / 2 ^ (j + 1)) P))) (pkP d (pkP c none GG) (pkP c P (cadd GG P))) = cadd (cmul (U / 2 ^ j) GG) (cmul (V / 2 ^ j) P) := by
  have oA := on_cmul on_G (U / 2 ^ (j + 1))
  have oB := on_cmul h (V / 2 ^ (j + 1))
  have oc : OnC (pkP c none GG) := pkP_on trivial on_G
  have od : OnC (pkP d none P) := pkP_on trivial h
  rw [pk_both (by omega) (by omega), half_pk on_G hc, half_pk h hd]
  generalize cmul (U / 2 ^ (j + 1)) GG = A at *
  generalize cmul (V / 2 ^ (j + 1)) P = B at *
  generalize pkP c none GG = C at *
  generalize pkP d none P = D at *
  rw [add_four oA oB oA oB, add_four (on_add oA oA) (on_add oB oB) oc od]

/-- as held3, from the world at hand on: what lies below B stays -/
theorem held4 {W : World} (B : Nat) (hBW : B ≤ W.heap.size) (bs : List (Nat × List Value)) (hB : ∀ b X, (b, X) ∈ bs → Blk W b X) :
    ∃ S : World → Prop, Hd S W ∧ Hid (∀ w1 w2, Hd S w1 → Below w1.heap.size w1 w2 → Hd S w2) ∧ Hid (∀ w1 o, Hd S w1 → Hd S (w1.alloc o)) ∧ Hid (∀ w1, Hd S w1 → Hd S w1.drew) ∧
      Hid (∀ w1 b j y, Hd S w1 → (∀ c X, (c, X) ∈ bs → c ≠ b) → B ≤ b → Hd S (w1.setCell ⟨b, j, none⟩ y)) ∧
      Hid (∀ w1, Hd S w1 → W.heap.size ≤ w1.heap.size) ∧ Hid (∀ w1, Hd S w1 → Below B W w1) ∧ Hid (∀ w1 b X, Hd S w1 → (b, X) ∈ bs → Blk w1 b X) := by
  refine ⟨fun wx => (∀ b X, (b, X) ∈ bs → Blk wx b X) ∧ W.heap.size ≤ wx.heap.size ∧ Below B W wx, ⟨hB, Nat.le_refl _, Below.refl _ _⟩, ?_, ?_, ?_, ?_, ?_, ?_, ?_⟩
  · rintro w1 w2 ⟨h1, h3, h4⟩ hb
    exact ⟨fun b X h => (h1 b X h).later hb, Nat.le_trans h3 hb.size, h4.trans (hb.mono (Nat.le_trans hBW h3))⟩
  · rintro w1 o ⟨h1, h3, h4⟩
    exact ⟨fun b X h => (h1 b X h).alloc o, by simp; omega, h4.alloc (Nat.le_trans hBW h3) _⟩
  · rintro w1 ⟨h1, h3, h4⟩
    exact ⟨h1, h3, h4.drew⟩
  · rintro w1 b j y ⟨h1, h3, h4⟩ hn hl
    exact ⟨fun c X h => (h1 c X h).other _ _ (hn c X h), by simpa using h3, h4.setCell hl _⟩
  · rintro w1 ⟨_, h3, _⟩
    exact h3
  · rintro w1 ⟨_, _, h4⟩
    exact h4
  · rintro w1 b X ⟨h1, _, _⟩ h
    exact h1 b X h

theorem blk_farP {w : World} {b c : Nat} {cs : List Value} {v0 v1 v2 v3 v4 v5 v6 v7 v8 v9 v10 v11 v12 : Value} (h : Blk w c cs) (hb : c ≠ b) : Blk ((((((((((((((w.setCell ⟨b, 0, none⟩ v0).setCell ⟨b, 1, none⟩ v1).setCell ⟨b, 2, none⟩ v2).setCell ⟨b, 3, none⟩ v3).setCell ⟨b, 4, none⟩ v4).setCell ⟨b, 5, none⟩ v5).setCell ⟨b, 6, none⟩ v6).setCell ⟨b, 7, none⟩ v7).setCell ⟨b, 8, none⟩ v8).setCell ⟨b, 9, none⟩ v9).setCell ⟨b, 10, none⟩ v10).setCell ⟨b, 11, none⟩ v11).setCell ⟨b, 12, none⟩ v12)) c cs :=
  (((((((((((((h.other _ _ hb).other _ _ hb).other _ _ hb).other _ _ hb).other _ _ hb).other _ _ hb).other _ _ hb).other _ _ hb).other _ _ hb).other _ _ hb).other _ _ hb).other _ _ hb).other _ _ hb)

end Go.Proofs.YtdikjabghhhhfaaDoor
