/- What stays: bytes and words in other blocks; what is answered, be it an error. -/
import Derived.Test.YteejcokpkginbacRows
import Derived.Test.YteejcokpkginbacPrNumber
import Derived.Test.YteejcokpkginbacPrNumberOf
import Derived.Test.YteejcokpkginbacPrOid
import Derived.Test.YteejcokpkginbacPrOidOf
import Derived.Test.YteejcokpkginbacPrBits
import Derived.Test.YteejcokpkginbacPrText
import Derived.Test.YteejcokpkginbacPmSame
import Derived.Test.YteejcokpkginbacPmLawO
import Derived.Test.YteejcokpkginbacPmLaw0
import Derived.Test.YteejcokpkginbacPmNew
import Derived.Deep.WholeRow
import Derived.Deep.RegionHeld3
import Derived.Deep.DeepCutAuto
import Derived.Deep.DeepFit
namespace Go.Proofs.Yteejcokpkginbac
open Go.RowKit

/-- the slice value v holds the bytes X, wherever it ends -/
def Bs0 (w : World) (v : Value) (X : List Int) : Prop := ∃ ao cap, v = .slice ao X.length cap ∧ (0 < X.length → ∃ b o, ao = some ⟨b, o, none⟩ ∧ b < w.heap.size ∧ ∀ j, j < X.length → w.cell? ⟨b, o + j, none⟩ = some (.int .u8 (X.getD j 0)))
theorem Bs.weak {w : World} {v : Value} {X : List Int} (h : Bs w v X) : Bs0 w v X := by
  obtain ⟨ao, cap, h1, _, _, h4⟩ := h
  exact ⟨ao, cap, h1, h4⟩
theorem bs0_zero (w : World) (ao : Option Addr) (cap : Nat) : Bs0 w (.slice ao 0 cap) [] := ⟨ao, cap, rfl, fun h => absurd h (by decide)⟩
theorem Bs0.later {w w' : World} {v : Value} {X : List Int} (h : Bs0 w v X) (hb : Below w.heap.size w w') : Bs0 w' v X := by
  obtain ⟨ao, cap, h1, h4⟩ := h
  refine ⟨ao, cap, h1, fun hp => ?_⟩
  obtain ⟨b, o, e1, e2, e3⟩ := h4 hp
  exact ⟨b, o, e1, Nat.lt_of_lt_of_le e2 hb.size, fun j hj => (hb.cell e2).trans (e3 j hj)⟩
theorem Us0.later {w w' : World} {v : Value} {X : List Int} (h : Us0 w v X) (hb : Below w.heap.size w w') : Us0 w' v X := by
  obtain ⟨ao, cap, h1, h4⟩ := h
  refine ⟨ao, cap, h1, fun hp => ?_⟩
  obtain ⟨b, o, e1, e2, e3⟩ := h4 hp
  exact ⟨b, o, e1, Nat.lt_of_lt_of_le e2 hb.size, fun j hj => (hb.cell e2).trans (e3 j hj)⟩
theorem conv0 {w : World} {v : Value} {X : List Int} (h : Bs0 w v X) : (convert 22 9 v).run Try.prog w = .ok (.string (strOfNums X)) w := by
  obtain ⟨ao, cap, rfl, h4⟩ := h
  by_cases h0 : 0 < X.length
  · obtain ⟨b, o, rfl, _, h6⟩ := h4 h0
    exact run_convert_bytes_arg w 22 5 Try.underlying22 Try.underlying5 b o X.length _ X rfl h6 9 Try.underlying9
  · obtain rfl : X = [] := List.eq_nil_of_length_eq_zero (by omega)
    exact conv_zero w ao cap
/-- w' is w but for the block g -/
def Only (g : Nat) (w w' : World) : Prop := w'.heap.size = w.heap.size ∧ ∀ b, b ≠ g → w'.heap[b]? = w.heap[b]?
theorem Only.refl (g : Nat) (w : World) : Only g w w := ⟨rfl, fun _ _ => rfl⟩
theorem Only.cell {g : Nat} {w w' : World} (h : Only g w w') {b o : Nat} (hb : b ≠ g) : w'.cell? ⟨b, o, none⟩ = w.cell? ⟨b, o, none⟩ := by
  unfold World.cell?
  rw [show (⟨b, o, none⟩ : Addr).block = b from rfl, h.2 b hb]
theorem Only.set {g k : Nat} {w w' : World} {x : Value} (h : Only g w w') : Only g w (w'.setCell ⟨g, k, none⟩ x) := by
  refine ⟨?_, fun b hb => ?_⟩
  · rw [← h.1]; simp [World.setCell]
  · rw [← h.2 b hb]
    simp [World.setCell, Array.getElem?_modify, Ne.symm hb]
/-- v does not lie in the block g -/
def Apt (g : Nat) (v : Value) : Prop := ∀ (a : Addr) (n c : Nat), v = .slice (some a) n c → 0 < n → a.block ≠ g
theorem Bs0.only {g : Nat} {w w' : World} {v : Value} {X : List Int} (h : Bs0 w v X) (a : Apt g v) (o : Only g w w') : Bs0 w' v X := by
  obtain ⟨ao, cap, h1, h4⟩ := h
  refine ⟨ao, cap, h1, fun hp => ?_⟩
  obtain ⟨b, q, e1, e2, e3⟩ := h4 hp
  have hb : b ≠ g := a ⟨b, q, none⟩ X.length cap (by rw [h1, e1]) hp
  exact ⟨b, q, e1, by rw [o.1]; exact e2, fun j hj => (o.cell hb).trans (e3 j hj)⟩
theorem Us0.only {g : Nat} {w w' : World} {v : Value} {X : List Int} (h : Us0 w v X) (a : Apt g v) (o : Only g w w') : Us0 w' v X := by
  obtain ⟨ao, cap, h1, h4⟩ := h
  refine ⟨ao, cap, h1, fun hp => ?_⟩
  obtain ⟨b, q, e1, e2, e3⟩ := h4 hp
  have hb : b ≠ g := a ⟨b, q, none⟩ X.length cap (by rw [h1, e1]) hp
  exact ⟨b, q, e1, by rw [o.1]; exact e2, fun j hj => (o.cell hb).trans (e3 j hj)⟩
theorem Bs.only {g : Nat} {w w' : World} {v : Value} {X : List Int} (h : Bs w v X) (a : Apt g v) (o : Only g w w') : Bs w' v X := by
  obtain ⟨ao, cap, h1, h2, h3, h4⟩ := h
  refine ⟨ao, cap, h1, h2, h3, fun hp => ?_⟩
  obtain ⟨b, q, e1, e2, e3⟩ := h4 hp
  have hb : b ≠ g := a ⟨b, q, none⟩ X.length cap (by rw [h1, e1]) hp
  exact ⟨b, q, e1, by rw [o.1]; exact e2, fun j hj => (o.cell hb).trans (e3 j hj)⟩
theorem Us.only {g : Nat} {w w' : World} {v : Value} {X : List Int} (h : Us w v X) (a : Apt g v) (o : Only g w w') : Us w' v X := by
  obtain ⟨ao, cap, h1, h2, h3, h4⟩ := h
  refine ⟨ao, cap, h1, h2, h3, fun hp => ?_⟩
  obtain ⟨b, q, e1, e2, e3⟩ := h4 hp
  have hb : b ≠ g := a ⟨b, q, none⟩ X.length cap (by rw [h1, e1]) hp
  exact ⟨b, q, e1, by rw [o.1]; exact e2, fun j hj => (o.cell hb).trans (e3 j hj)⟩
/-- what lies in a block of w lies not in a later one -/
theorem Bs.apt {g : Nat} {w : World} {v : Value} {X : List Int} (h : Bs w v X) (hg : w.heap.size ≤ g) : Apt g v := by
  obtain ⟨ao, cap, rfl, _, _, h4⟩ := h
  intro a n c e hp
  simp only [Value.slice.injEq] at e
  obtain ⟨rfl, rfl, rfl⟩ := e
  obtain ⟨b, q, e1, e2, -⟩ := h4 hp
  simp only [Option.some.injEq] at e1
  subst e1
  show b ≠ g
  omega
theorem Us.apt {g : Nat} {w : World} {v : Value} {X : List Int} (h : Us w v X) (hg : w.heap.size ≤ g) : Apt g v := by
  obtain ⟨ao, cap, rfl, _, _, h4⟩ := h
  intro a n c e hp
  simp only [Value.slice.injEq] at e
  obtain ⟨rfl, rfl, rfl⟩ := e
  obtain ⟨b, q, e1, e2, -⟩ := h4 hp
  simp only [Option.some.injEq] at e1
  subst e1
  show b ≠ g
  omega
theorem NewV.apt {g : Nat} {w : World} {v : Value} (h : NewV w v) (hg : g < w.heap.size) : Apt g v := fun a n c e hp => by
  have := h a n c e hp
  omega
theorem new_zero (w : World) (ao : Option Addr) (cap : Nat) : NewV w (.slice ao 0 cap) := fun a n c e hp => by
  simp only [Value.slice.injEq] at e
  omega
/-- what is answered, be it an error -/
def ansL : Except Nat (List Int) → List Int
  | .ok n => n
  | .error _ => []
def ansB : Except Nat (List Int × Int) → List Int
  | .ok n => n.1
  | .error _ => []
theorem any_Number {v : Value} {B : List Int} {w : World} (hv : Bs w v B) (b : byt B) (hl : B.length ≤ 140737488351232) : Calls Try.prog 4 #[v] w fun e w' => ∃ v' er : Value, e = .returned (.tuple #[v', er]) ∧ Bs0 w' v' (ansL (numP B)) ∧ NewV w v' ∧ Below w.heap.size w w' := by
  refine (con_Number hv b hl).mono ?_
  rintro e w' ⟨h1, h2⟩
  cases hp : numP B with
  | ok n => obtain ⟨v', rfl, x, nw, hb⟩ := h1 n hp; exact ⟨_, _, rfl, x.weak, nw, hb⟩
  | error c => obtain ⟨ao, cap, rfl, hb⟩ := h2 c hp; exact ⟨_, _, rfl, bs0_zero _ _ _, new_zero _ _ _, hb⟩
theorem any_NumberOf {v : Value} {B : List Int} {w : World} (hv : Bs w v B) (b : byt B) (hl : B.length ≤ 140737488351232) : Calls Try.prog 5 #[v] w fun e w' => ∃ v' er : Value, e = .returned (.tuple #[v', er]) ∧ Bs0 w' v' (ansL (numOf B)) ∧ NewV w v' ∧ Below w.heap.size w w' := by
  refine (con_NumberOf hv b hl).mono ?_
  rintro e w' ⟨h1, h2⟩
  cases hp : numOf B with
  | ok n => obtain ⟨v', rfl, x, nw, hb⟩ := h1 n hp; exact ⟨_, _, rfl, x.weak, nw, hb⟩
  | error c => obtain ⟨ao, cap, rfl, hb⟩ := h2 c hp; exact ⟨_, _, rfl, bs0_zero _ _ _, new_zero _ _ _, hb⟩
theorem any_Oid {v : Value} {B : List Int} {w : World} (hv : Bs w v B) (b : byt B) (hl : B.length ≤ 140737488351232) : Calls Try.prog 6 #[v] w fun e w' => ∃ v' er : Value, e = .returned (.tuple #[v', er]) ∧ Us0 w' v' (ansL (oidP B)) ∧ NewV w v' ∧ Below w.heap.size w w' := by
  refine (con_Oid hv b hl).mono ?_
  rintro e w' ⟨h1, h2⟩
  cases hp : oidP B with
  | ok n => obtain ⟨v', rfl, x, nw, hb⟩ := h1 n hp; exact ⟨_, _, rfl, x.weak, nw, hb⟩
  | error c => obtain ⟨ao, cap, rfl, hb⟩ := h2 c hp; exact ⟨_, _, rfl, us0_zero _ _ _, new_zero _ _ _, hb⟩
theorem any_Bits {v : Value} {B : List Int} {w : World} (hv : Bs w v B) (b : byt B) (hl : B.length ≤ 140737488351232) : Calls Try.prog 7 #[v] w fun e w' => ∃ v' k er : Value, e = .returned (.tuple #[v', k, er]) ∧ Bs0 w' v' (ansB (bitsP B)) ∧ NewV w v' ∧ Below w.heap.size w w' := by
  refine (con_Bits hv b hl).mono ?_
  rintro e w' ⟨h1, h2⟩
  cases hp : bitsP B with
  | ok n => obtain ⟨n, k⟩ := n; obtain ⟨v', rfl, x, nw, hb⟩ := h1 n k hp; exact ⟨_, _, _, rfl, x.weak, nw, hb⟩
  | error c => obtain ⟨ao, cap, rfl, hb⟩ := h2 c hp; exact ⟨_, _, _, rfl, bs0_zero _ _ _, new_zero _ _ _, hb⟩
theorem any_Text {v : Value} {B : List Int} {w : World} (hv : Bs w v B) (b : byt B) : Calls Try.prog 8 #[v] w fun e w' => ∃ er : Value, e = .returned (.tuple #[.string (strOfNums (ansL (textP B))), er]) ∧ Below w.heap.size w w' := by
  refine (con_Text hv b).mono ?_
  rintro e w' ⟨h1, h2⟩
  cases hp : textP B with
  | ok n => obtain ⟨rfl, hb⟩ := h1 n hp; exact ⟨_, rfl, hb⟩
  | error c => obtain ⟨rfl, hb⟩ := h2 c hp; exact ⟨_, rfl, hb⟩
theorem any_OidOf {v : Value} {L : List Int} {w : World} (hv : Us w v L) (b : wrd L) : Calls Try.prog 10 #[v] w fun e w' => ∃ v' : Value, e = .returned v' ∧ Below w.heap.size w w' := by
  refine (con_OidOf hv b).mono ?_
  rintro e w' ⟨h1, h2⟩
  cases hp : oidOf L with
  | ok n => obtain ⟨v', rfl, _, _, hb⟩ := h1 n hp; exact ⟨_, rfl, hb⟩
  | error c => obtain ⟨ao, cap, rfl, hb⟩ := h2 c hp; exact ⟨_, rfl, hb⟩
theorem oid_ans (B : List Int) : (ansL (oidP B)).length ≤ 16 := by
  cases hp : oidP B with
  | ok n => exact oid_len hp
  | error c => exact Nat.zero_le _
theorem own_len {w : World} {base : Nat} {e : TypeId} {v : Value} {X : List Int} (h : w.ownsRow base e 1 v X.length (u8s X)) (h0 : 0 < X.length) : ∃ g cap cur, v = .slice (some ⟨g, 0, none⟩) X.length cap ∧ base ≤ g ∧ Blk w g cur ∧ ∀ j, j < X.length → cur[j]? = some (.int .u8 (X.getD j 0)) := by
  obtain ⟨g, cap, cur, h1, h2, h3, _, _, h6⟩ := own_bytes h h0
  exact ⟨g, cap, cur, h1, h2, h3, h6⟩
end Go.Proofs.Yteejcokpkginbac
