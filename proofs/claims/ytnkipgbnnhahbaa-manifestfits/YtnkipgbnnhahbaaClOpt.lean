/- What each part of a body is, or none. -/
import Derived.Test.YtnkipgbnnhahbaaCtSpec
import Derived.Test.YtnkipgbnnhahbaaRwT
import Derived.Test.YtnkipgbnnhahbaaNlElem
import Derived.Test.YtnkipgbnnhahbaaCtPl
import Derived.Test.YtnkipgbnnhahbaaDrTlv
import Derived.Test.YtnkipgbnnhahbaaDrDep
import Derived.Test.YtnkipgbnnhahbaaDrOwn
import Derived.Test.YtnkipgbnnhahbaaRows
import Derived.Deep.OwnRows
import Derived.Deep.AppendLies
import Derived.Great.BuildSlice
import Derived.Laws.Rows
import Derived.BigQuiet
import Derived.Deep.WholeRow
import Derived.Deep.RegionHeld3
import Derived.Deep.DeepCutAuto
import Derived.Deep.DeepFit
namespace Go.Proofs.Ytnkipgbnnhahbaa
open Go.RowKit
theorem with_keyK {T G : Prop} (main : T → G) (kp : T) : G := main kp
/-- what a function tells that makes an element, or an error -/
def ElR (w : World) (r : Option Tl) (e : Ending) (w' : World) : Prop := Below w.heap.size w w' ∧ (r = none → ∃ c : Int, e = .returned (.tuple #[.agg #[.int .i64 0, .int .i64 0, .bool false, .slice none 0 0, .slice none 0 0], .iface 38 (.int .i64 c)])) ∧ (∀ T, r = some T → ∃ cs : List Value, e = .returned (.tuple #[.agg cs.toArray, .nilIface]) ∧ Dep (fun g => w.heap.size ≤ g) w' T cs)
theorem ElR.bad {w w' : World} {r : Option Tl} {c : Int} (h : r = none) (hb : Below w.heap.size w w') : ElR w r (.returned (.tuple #[.agg #[.int .i64 0, .int .i64 0, .bool false, .slice none 0 0, .slice none 0 0], .iface 38 (.int .i64 c)])) w' := ⟨hb, fun _ => ⟨c, rfl⟩, fun T k => (by rw [h] at k; cases k)⟩
theorem ElR.ok {w w' : World} {r : Option Tl} {T : Tl} {cs : List Value} (h : r = some T) (hd : Dep (fun g => w.heap.size ≤ g) w' T cs) (hb : Below w.heap.size w w') : ElR w r (.returned (.tuple #[.agg cs.toArray, .nilIface])) w' := ⟨hb, fun k => (by rw [h] at k; cases k), fun T' k => (by rw [h] at k; cases k; exact ⟨cs, rfl, hd⟩)⟩
theorem RwT.cell {w : World} {N c k : Nat} {kv v : Value} {Ts : List Tl} (h : RwT w N kv Ts) (hc : c < N) : RwT (w.setCell ⟨c, k, none⟩ v) N kv Ts := by
  obtain ⟨xs, h1, h2⟩ := h
  exact ⟨xs, own_agr (S := fun b => N ≤ b) h1 ((Agr.refl _ _).cell (by omega)) (fun g hg => (own_geK h1 hg).1), fun i t ht => (h2 i t ht).next ((Agr.refl _ _).cell (fun h => by have := h.1; omega)) (fun _ h _ => h)⟩
theorem RwT.rowS {w : World} {N g : Nat} {kv : Value} {Ts : List Tl} {X : Array Value} (h : RwT w N kv Ts) (hg : g < N) : RwT (w.setRow g X) N kv Ts := by
  obtain ⟨xs, h1, h2⟩ := h
  exact ⟨xs, own_agr (S := fun b => N ≤ b) h1 ((Agr.refl _ _).row (by omega)) (fun g hg => (own_geK h1 hg).1), fun i t ht => (h2 i t ht).next ((Agr.refl _ _).row (fun h => by have := h.1; omega)) (fun _ h _ => h)⟩
theorem RwT.ltE {w : World} {N b : Nat} {kv : Value} {Ts : List Tl} (h : RwT w N kv Ts) (hb : kv.ownBlock = some b) : N ≤ b ∧ b < w.heap.size := by
  obtain ⟨xs, h1, _⟩ := h
  exact own_geK h1 hb
/-- may it be a serial number? -/
def serB (n : List Int) : Bool := decide (¬ (n.length < 1 ∨ 20 < n.length ∨ n.getD 0 0 = 0))
theorem serT_no {n : List Int} (h : serB n = false) : serT n = none := by
  unfold serB at h
  unfold serT
  rw [if_pos (Decidable.not_not.1 (of_decide_eq_false h))]
theorem serT_yes {n : List Int} (h : serB n = true) : ∃ b, numOf n = .ok b ∧ serT n = some (.mk 0 2 false b []) := by
  have h1 := of_decide_eq_true h
  unfold serT
  rw [if_neg h1]
  cases hn : numOf n with
  | ok b => exact ⟨b, rfl, rfl⟩
  | error c =>
    exfalso
    unfold numOf at hn
    have hz : ∀ X : List Int, (lessZ X).length ≤ X.length := by
      intro X
      induction X with
      | nil => simp [lessZ]
      | cons x X ih =>
        rw [lessZ]
        split
        · rw [List.length_cons]; omega
        · exact Nat.le_refl _
    have := hz n
    rw [if_neg (by omega)] at hn
    split at hn <;> cases hn
/-- two times, or none -/
def tmsO (f t : Int) : Option Tl := match timT f, timT t with | some a, some b => some (listT [a, b]) | _, _ => none
theorem tmsO_no {f t : Int} (h : timT f = none ∨ timT t = none) : tmsO f t = none := by
  unfold tmsO
  rcases h with h | h
  · rw [h]
  · rw [h]
    cases timT f <;> rfl
theorem tmsO_yes {f t : Int} {a b : Tl} (h : timT f = some a) (k : timT t = some b) : tmsO f t = some (listT [a, b]) := by
  unfold tmsO
  rw [h, k]
theorem timT_no {t : Int} {c : Nat} (h : timeOf t = .error c) : timT t = none := by unfold timT; rw [h]
theorem timT_yes {t a : Int} {b : List Int} (h : timeOf t = .ok (a, b)) : timT t = some (.mk 0 a false b []) := by unfold timT; rw [h]
/-- a name's element, or none -/
def nameO (n : List Pn) : Option Tl := if mayN n = true then some (elemN n) else none
theorem take_mem {α : Type} {L : List α} {i : Nat} {x : α} {P : α → Prop} (h : ∀ l ∈ L.take i, P l) (hx : L[i]? = some x) (k : P x) : ∀ l ∈ L.take (i + 1), P l := fun l hl => by
  rw [List.take_add_one, hx, List.mem_append] at hl
  rcases hl with hl | hl
  · exact h l hl
  · simp at hl
    subst hl
    exact k
theorem map_next {α β : Type} {L : List α} {i : Nat} {x : α} {f : α → β} (hx : L[i]? = some x) : (L.take (i + 1)).map f = (L.take i).map f ++ [f x] := by
  rw [List.take_add_one, hx, List.map_append]
  rfl
/-- two blocks that are known whole -/
def Two (w : World) (g : Nat) (X : List Value) (h : Nat) (Y : List Value) : Prop := Blk w g X ∧ Blk w h Y
theorem Two.later {w w' : World} {g h : Nat} {X Y : List Value} (B : Two w g X h Y) (hb : Below w.heap.size w w') : Two w' g X h Y := ⟨B.1.later hb, B.2.later hb⟩
theorem Two.alloc {w : World} {g h : Nat} {X Y : List Value} (B : Two w g X h Y) (o : Obj) : Two (w.alloc o) g X h Y := ⟨B.1.alloc o, B.2.alloc o⟩
theorem Two.grown {w w' : World} {row : Option Nat} {g h : Nat} {X Y : List Value} (B : Two w g X h Y) (hg : w.grownBy w' row) (hr : ∀ k, row = some k → ¬ (k = g ∨ k = h)) : Two w' g X h Y := ⟨B.1.grown hg (fun k hk e => hr k hk (.inl e)), B.2.grown hg (fun k hk e => hr k hk (.inr e))⟩
theorem Two.other {w : World} {g h : Nat} {X Y : List Value} (B : Two w g X h Y) (a : Addr) (v : Value) (hne : ¬ (g = a.block ∨ h = a.block)) : Two (w.setCell a v) g X h Y := ⟨B.1.other a v (fun e => hne (.inl e)), B.2.other a v (fun e => hne (.inr e))⟩
end Go.Proofs.Ytnkipgbnnhahbaa
