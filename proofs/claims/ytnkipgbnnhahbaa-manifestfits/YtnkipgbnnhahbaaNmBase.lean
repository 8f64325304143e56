/- Names as they lie. -/
import Derived.Test.YtnkipgbnnhahbaaByt
import Derived.Test.YtnkipgbnnhahbaaWpRow
import Derived.Test.YtnkipgbnnhahbaaSConv
import Derived.Test.YtnkipgbnnhahbaaRows
import Derived.Laws.StructEq
import Derived.Deep.WholeRow
import Derived.Deep.RegionHeld3
import Derived.Deep.DeepCutAuto
import Derived.Deep.DeepFit
namespace Go.Proofs.Ytnkipgbnnhahbaa
open Go.RowKit
/-- a part: its kind, its text's bytes -/
abbrev Pn := Int × List Int
/-- a name as it lies -/
def NmAt (w : World) (v : Value) (n : List Pn) : Prop := ∃ ao cap, v = .slice ao n.length cap ∧ n.length ≤ cap ∧ cap ≤ maxLen ∧ (0 < n.length → ∃ b o, ao = some ⟨b, o, none⟩ ∧ b < w.heap.size ∧ ∀ i p, n[i]? = some p → w.cell? ⟨b, o + i * 2, none⟩ = some (.int .i64 p.1) ∧ w.cell? ⟨b, o + i * 2 + 1, none⟩ = some (.string (strOfNums p.2)))
/-- kinds that are ints, texts that are bytes -/
def WfN (n : List Pn) : Prop := ∀ (i : Nat) (p : Pn), n[i]? = some p → (-9223372036854775808 ≤ p.1 ∧ p.1 < 9223372036854775808) ∧ byt p.2 ∧ p.2.length ≤ maxLen
theorem NmAt.later {w w' : World} {v : Value} {n : List Pn} (h : NmAt w v n) (hb : Below w.heap.size w w') : NmAt w' v n := by
  obtain ⟨ao, cap, e, h1, h2, h3⟩ := h
  refine ⟨ao, cap, e, h1, h2, fun h0 => ?_⟩
  obtain ⟨b, o, e2, hl, hc⟩ := h3 h0
  exact ⟨b, o, e2, Nat.lt_of_lt_of_le hl hb.size, fun i p hp => ⟨(hb.cell (p := ⟨b, o + i * 2, none⟩) hl).trans (hc i p hp).1, (hb.cell (p := ⟨b, o + i * 2 + 1, none⟩) hl).trans (hc i p hp).2⟩⟩
theorem NmAt.nil0 (w : World) : NmAt w (.slice none 0 0) [] := ⟨_, _, rfl, Nat.le_refl _, by decide, fun h => absurd h (by decide)⟩
theorem str_one {A B : List Int} (ha : byt A) (hb : byt B) (h : strOfNums A = strOfNums B) : A = B := by
  have e : ∀ {A B : List Int}, byt A → byt B → (A.map fun n => UInt8.ofNat n.toNat) = (B.map fun n => UInt8.ofNat n.toNat) → A = B := by
    intro A
    induction A with
    | nil => intro B _ _ h; cases B with
      | nil => rfl
      | cons b B => simp at h
    | cons a A ih => intro B ha hb h; cases B with
      | nil => simp at h
      | cons b B =>
        simp only [List.map_cons, List.cons.injEq] at h
        have h0 := ha 0
        have k0 := hb 0
        simp only [List.getD_cons_zero] at h0 k0
        have e1 : a = b := by
          have := congrArg UInt8.toNat h.1
          rw [UInt8.toNat_ofNat_of_lt' (by have : UInt8.size = 256 := rfl; omega), UInt8.toNat_ofNat_of_lt' (by have : UInt8.size = 256 := rfl; omega)] at this
          omega
        rw [e1, ih (fun j => by simpa using ha (j + 1)) (fun j => by simpa using hb (j + 1)) h.2]
  refine e ha hb ?_
  have := congrArg (fun s : ByteArray => s.data.toList) h
  simpa [strOfNums] using this
theorem eqF_consN {P : Program} {w : World} {d : Nat} {xs ys : Array Value} {f : Field} {fs : List Field} {a b : Value} {r : Bool} (hn : (f.name == "_") = false) (ha : ∀ w, (part f.type xs f.offset).run P w = .ok a w) (hb : ∀ w, (part f.type ys f.offset).run P w = .ok b w) (hr : ∀ w, (Op.equalIn d f.type a b).run P w = .ok r w) :
    (Op.eqFields d xs ys (f :: fs)).run P w = if r then (Op.eqFields d xs ys fs).run P w else .ok false w := by
  have : f.name ≠ "_" := by simpa using hn
  rw [Op.eqFields, if_pos this]
  simp only [Sem.run_bind, ha, hb, hr, Result.andThen_ok]
  cases r <;> simp
theorem ba_beq : ∀ x y : ByteArray, (x == y) = (x.data == y.data)
  | ⟨_⟩, ⟨_⟩ => rfl
theorem str_dec {A B : List Int} (ha : byt A) (hb : byt B) : (strOfNums A == strOfNums B) = decide (A = B) := by
  rw [ba_beq]
  by_cases h : A = B
  · subst h
    simp
  · rw [decide_eq_false h, beq_eq_false_iff_ne]
    exact fun e => h (str_one ha hb (ByteArray.ext e))
end Go.Proofs.Ytnkipgbnnhahbaa
