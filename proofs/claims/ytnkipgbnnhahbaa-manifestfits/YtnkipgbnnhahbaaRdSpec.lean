/- What is read, or an error. -/
import Derived.Test.YtnkipgbnnhahbaaCtRead
import Derived.Test.YtnkipgbnnhahbaaClOpt
import Derived.Test.YtnkipgbnnhahbaaEdDecode
import Derived.Test.YtnkipgbnnhahbaaNlKind
import Derived.Test.YtnkipgbnnhahbaaPmNew
import Derived.Test.YtnkipgbnnhahbaaDrErr
import Derived.Test.YtnkipgbnnhahbaaRows
import Derived.Deep.OwnRows
import Derived.Deep.AppendLies
import Derived.Great.BuildSlice
import Derived.Laws.Rows
import Derived.BigQuiet
import Derived.Deep.WholeRow
import Derived.Deep.RegionHeld3
import Derived.Deep.DeepCutAuto
import Derived.Deep.DeepFit
namespace Go.Proofs.Ytnkipgbnnhahbaa
open Go.RowKit
/-- an error, whichever it is -/
def ErrV (er : Value) : Prop := (∃ ty pv, er = .iface ty pv) ∧ ∀ w : World, (binOp .neq 27 er .nilIface).run Try.prog w = .ok (.bool true) w
theorem errV_code (c : Int) : ErrV (.iface 38 (.int .i64 c)) := ⟨⟨_, _, rfl⟩, ne_codeL c⟩
theorem errV_at {w : World} {c p : Nat} {er : Value} (h : ErAt w c p er) : ErrV er := ⟨by rcases h with ⟨_, h⟩ | ⟨_, g, h, _⟩; exact ⟨_, _, h⟩; exact ⟨_, _, h⟩, h.ne⟩
/-- bytes, or an error -/
def BytO (w : World) (r : Option (List Int)) (e : Ending) (w' : World) : Prop := Below w.heap.size w w' ∧ (r = none → ∃ er, ErrV er ∧ e = .returned (.tuple #[.slice none 0 0, er])) ∧ (∀ n, r = some n → ∃ v, e = .returned (.tuple #[v, .nilIface]) ∧ Bs w' v n ∧ NewV w v)
theorem BytO.bad {w w' : World} {r : Option (List Int)} {er : Value} (h : r = none) (k : ErrV er) (hb : Below w.heap.size w w') : BytO w r (.returned (.tuple #[.slice none 0 0, er])) w' := ⟨hb, fun _ => ⟨er, k, rfl⟩, fun n q => (by rw [h] at q; cases q)⟩
theorem BytO.ok {w w' : World} {r : Option (List Int)} {n : List Int} {v : Value} (h : r = some n) (hv : Bs w' v n) (hn : NewV w v) (hb : Below w.heap.size w w') : BytO w r (.returned (.tuple #[v, .nilIface])) w' := ⟨hb, fun q => (by rw [h] at q; cases q), fun m q => (by rw [h] at q; cases q; exact ⟨v, rfl, hv, hn⟩)⟩
/-- an int, or an error -/
def IntO (w : World) (r : Option Int) (e : Ending) (w' : World) : Prop := Below w.heap.size w w' ∧ (r = none → ∃ er, ErrV er ∧ e = .returned (.tuple #[.int .i64 0, er])) ∧ (∀ n, r = some n → e = .returned (.tuple #[.int .i64 n, .nilIface]))
theorem IntO.bad {w w' : World} {r : Option Int} {er : Value} (h : r = none) (k : ErrV er) (hb : Below w.heap.size w w') : IntO w r (.returned (.tuple #[.int .i64 0, er])) w' := ⟨hb, fun _ => ⟨er, k, rfl⟩, fun n q => (by rw [h] at q; cases q)⟩
theorem IntO.ok {w w' : World} {r : Option Int} {n : Int} (h : r = some n) (hb : Below w.heap.size w w') : IntO w r (.returned (.tuple #[.int .i64 n, .nilIface])) w' := ⟨hb, fun q => (by rw [h] at q; cases q), fun m q => (by rw [h] at q; cases q; rfl)⟩
/-- a signature in bytes -/
noncomputable def sigD (b : List Int) : Option (Int × Int) := open Classical in match parseP b with
  | .ok T => (match sigP T with | some (x, y) => if isSc (beN x) ∧ isSc (beN y) then some (beN x, beN y) else none | none => none)
  | .error _ => none
/-- a signature, or an error -/
def SigO8 (w : World) (r : Option (Int × Int)) (e : Ending) (w' : World) : Prop := Below w.heap.size w w' ∧ (r = none → ∃ er, ErrV er ∧ e = .returned (.tuple #[.agg #[.int .u64 0, .int .u64 0, .int .u64 0, .int .u64 0, .int .u64 0, .int .u64 0, .int .u64 0, .int .u64 0, .int .u64 0, .int .u64 0, .int .u64 0, .int .u64 0], er])) ∧ (∀ x y, r = some (x, y) → ∃ rs ss : List Value, e = .returned (.tuple #[.agg (rs ++ ss).toArray, .nilIface]) ∧ U6 rs x ∧ U6 ss y)
theorem SigO8.bad {w w' : World} {r : Option (Int × Int)} {er : Value} (h : r = none) (k : ErrV er) (hb : Below w.heap.size w w') : SigO8 w r (.returned (.tuple #[.agg #[.int .u64 0, .int .u64 0, .int .u64 0, .int .u64 0, .int .u64 0, .int .u64 0, .int .u64 0, .int .u64 0, .int .u64 0, .int .u64 0, .int .u64 0, .int .u64 0], er])) w' := ⟨hb, fun _ => ⟨er, k, rfl⟩, fun x y q => (by rw [h] at q; cases q)⟩
theorem SigO8.ok {w w' : World} {r : Option (Int × Int)} {x y : Int} {rs ss : List Value} (h : r = some (x, y)) (h1 : U6 rs x) (h2 : U6 ss y) (hb : Below w.heap.size w w') : SigO8 w r (.returned (.tuple #[.agg (rs ++ ss).toArray, .nilIface])) w' := ⟨hb, fun q => (by rw [h] at q; cases q), fun x' y' q => (by rw [h] at q; cases q; exact ⟨rs, ss, rfl, h1, h2⟩)⟩
theorem sigD_e {B : List Int} {q : Nat × Nat} (h : parseP B = .error q) : sigD B = none := by unfold sigD; rw [h]
theorem sigD_n {B : List Int} {T : Tl} (h : parseP B = .ok T) (k : sigP T = none) : sigD B = none := by unfold sigD; simp only [h, k]
theorem sigD_s {B x y : List Int} {T : Tl} (h : parseP B = .ok T) (k : sigP T = some (x, y)) (l : isSc (beN x) ∧ isSc (beN y)) : sigD B = some (beN x, beN y) := by
  unfold sigD
  simp only [h, k]
  rw [if_pos l]
theorem sigD_r {B x y : List Int} {T : Tl} (h : parseP B = .ok T) (k : sigP T = some (x, y)) (l : ¬ (isSc (beN x) ∧ isSc (beN y))) : sigD B = none := by
  unfold sigD
  simp only [h, k]
  rw [if_neg l]
theorem num_lead {b n : List Int} (h : numP b = .ok n) (h0 : 0 < n.length) : ¬ n.getD 0 0 = 0 := by
  unfold numP at h
  by_cases k : b.length = 0 ∨ 127 < b.getD 0 0 ∨ (1 < b.length ∧ b.getD 0 0 = 0 ∧ b.getD 1 0 < 128)
  · rw [if_pos k] at h
    cases h
  · rw [if_neg k] at h
    by_cases z : b.getD 0 0 = 0
    · simp only [if_pos z] at h
      split at h
      · cases h
      · cases h
        rw [List.length_drop] at h0
        intro e
        have e2 : (b.drop 1).getD 0 0 = b.getD 1 0 := by
          rw [List.getD_eq_getElem?_getD, List.getElem?_drop, List.getD_eq_getElem?_getD]
        rw [e2] at e
        exact k (.inr (.inr ⟨by omega, z, by omega⟩))
    · simp only [if_neg z] at h
      split at h
      · cases h
      · cases h
        exact z
theorem numD_mk {c t : Int} {m : Bool} {b : List Int} {ks : List Tl} : numD (.mk c t m b ks) = if c = 0 ∧ t = 2 ∧ m = false then okO (numP b) else none := rfl
theorem timD_mk {c t : Int} {m : Bool} {b : List Int} {ks : List Tl} : timD (.mk c t m b ks) = if c = 0 ∧ m = false then okO (timeP t b) else none := rfl
theorem bitD_mk {c t : Int} {m : Bool} {b : List Int} {ks : List Tl} : bitD (.mk c t m b ks) = if c = 0 ∧ t = 3 ∧ m = false then (match bitsP b with | .ok (x, n) => if n = 0 then some x else none | .error _ => none) else none := rfl
theorem serD_plain {b n : List Int} {ks : List Tl} (h : numP b = .ok n) : serD (.mk 0 2 false b ks) = if serB n = true then some n else none := by
  unfold serD
  rw [numD_mk, if_pos ⟨rfl, rfl, rfl⟩, h]
  show (if 0 < n.length ∧ n.length ≤ 20 then some n else none) = _
  unfold serB
  by_cases k : 0 < n.length ∧ n.length ≤ 20
  · have := num_lead h k.1
    rw [if_pos k, if_pos (decide_eq_true (by omega))]
  · rw [if_neg k, if_neg (by rw [decide_eq_true_eq]; omega)]
theorem serD_bad {b : List Int} {ks : List Tl} {c : Nat} (h : numP b = .error c) : serD (.mk 0 2 false b ks) = none := by
  unfold serD
  rw [numD_mk, if_pos ⟨rfl, rfl, rfl⟩, h]
  rfl
theorem serD_other {c t : Int} {m : Bool} {b : List Int} {ks : List Tl} (h : ¬ (c = 0 ∧ t = 2 ∧ m = false)) : serD (.mk c t m b ks) = none := by
  unfold serD
  rw [numD_mk, if_neg h]
theorem timD_plain {t n : Int} {b : List Int} {ks : List Tl} (h : timeP t b = .ok n) : timD (.mk 0 t false b ks) = some n := by
  rw [timD_mk, if_pos ⟨rfl, rfl⟩, h]
  rfl
theorem timD_bad {t : Int} {c : Nat} {b : List Int} {ks : List Tl} (h : timeP t b = .error c) : timD (.mk 0 t false b ks) = none := by
  rw [timD_mk, if_pos ⟨rfl, rfl⟩, h]
  rfl
theorem timD_other {c t : Int} {m : Bool} {b : List Int} {ks : List Tl} (h : ¬ (c = 0 ∧ m = false)) : timD (.mk c t m b ks) = none := by
  rw [timD_mk, if_neg h]
theorem bitD_plain {b x : List Int} {n : Int} {ks : List Tl} (h : bitsP b = .ok (x, n)) : bitD (.mk 0 3 false b ks) = if n = 0 then some x else none := by
  rw [bitD_mk, if_pos ⟨rfl, rfl, rfl⟩, h]
theorem bitD_bad {b : List Int} {c : Nat} {ks : List Tl} (h : bitsP b = .error c) : bitD (.mk 0 3 false b ks) = none := by
  rw [bitD_mk, if_pos ⟨rfl, rfl, rfl⟩, h]
theorem bitD_other {c t : Int} {m : Bool} {b : List Int} {ks : List Tl} (h : ¬ (c = 0 ∧ t = 3 ∧ m = false)) : bitD (.mk c t m b ks) = none := by
  rw [bitD_mk, if_neg h]
end Go.Proofs.Ytnkipgbnnhahbaa
