/- Names and their elements. -/
import Derived.Test.YtnkipgbnnhahbaaNmBase
import Derived.Test.YtnkipgbnnhahbaaDrTree
import Derived.Test.YtnkipgbnnhahbaaDrByN
import Derived.Test.YtnkipgbnnhahbaaDrWrN
import Derived.Test.YtnkipgbnnhahbaaDrDep
import Derived.Test.YtnkipgbnnhahbaaPmNum
import Derived.Test.YtnkipgbnnhahbaaRows
import Derived.Deep.WholeRow
import Derived.Deep.RegionHeld3
import Derived.Deep.DeepCutAuto
import Derived.Deep.DeepFit
namespace Go.Proofs.Ytnkipgbnnhahbaa
open Go.RowKit
/-- kinds of parts -/
def kindN (k : Int) : Bool := decide (k = 3) || decide (k = 6) || decide (k = 10) || decide (k = 11)
/-- may it be a part? -/
def partN (p : Pn) : Bool := kindN p.1 && (match textP p.2 with | .ok _ => true | .error _ => false)
/-- is it a name? -/
def mayN (n : List Pn) : Bool := decide (n.length ≤ 8) && n.all partN
/-- a part's element, a name's -/
def setN (p : Pn) : Tl := .mk 0 17 true [] [.mk 0 16 true [] [.mk 0 6 false [85, 4, p.1] [], .mk 0 12 false p.2 []]]
def elemN (n : List Pn) : Tl := .mk 0 16 true [] (n.map setN)
/-- an element's part -/
def ofSet : Tl → Option Pn
  | .mk c t m _ [.mk c1 t1 m1 _ [.mk c2 t2 m2 [x, y, k] _, .mk c3 t3 m3 b _]] => if c = 0 ∧ t = 17 ∧ m = true ∧ c1 = 0 ∧ t1 = 16 ∧ m1 = true ∧ c2 = 0 ∧ t2 = 6 ∧ m2 = false ∧ x = 85 ∧ y = 4 ∧ c3 = 0 ∧ t3 = 12 ∧ m3 = false ∧ partN (k, b) = true then some (k, b) else none
  | _ => none
/-- an element's name, or the error's number -/
def readN : Tl → Except Nat (List Pn)
  | .mk c t m _ ks => if c = 0 ∧ t = 16 ∧ m = true then (match ks.mapM ofSet with | none => .error 7 | some n => if 8 < n.length then .error 2 else .ok n) else .error 7
/-- an error that is a Code itself -/
def codeN (c : Int) : Value := .iface 38 (.int .i64 c)
/-- what Element tells: the kids lie in a row of its own, which may be written -/
def ElemR (w : World) (n : List Pn) (e : Ending) (w' : World) : Prop :=
  (mayN n = false → e = .returned (.tuple #[.agg #[.int .i64 0, .int .i64 0, .bool false, .slice none 0 0, .slice none 0 0], .iface 38 (.int .i64 1)]) ∧ Below w.heap.size w w') ∧
  (mayN n = true → ∃ (kv : Value) (xs : List Value), e = .returned (.tuple #[.agg #[.int .i64 0, .int .i64 16, .bool true, .slice none 0 0, kv], .nilIface]) ∧ w'.ownsRow w.heap.size 42 5 kv n.length xs ∧ (∀ (i : Nat) (t : Tl), (n.map setN)[i]? = some t → Dep (fun b => w.heap.size ≤ b ∧ kv.ownBlock ≠ some b) w' t ((xs.drop (5 * i)).take 5)) ∧ Below w.heap.size w w')
/-- a name in a row of its own -/
def NmNew (w w' : World) (v : Value) (n : List Pn) : Prop := ∀ w2, Agr (fun b => w.heap.size ≤ b) w' w2 → NmAt w2 v n
/-- what Of tells -/
def OfR (w : World) (T : Tl) (e : Ending) (w' : World) : Prop :=
  (∃ v er : Value, e = .returned (.tuple #[v, er]) ∧ Below w.heap.size w w') ∧ (wrN T = 0 → (∀ n, readN T = .ok n → ∃ v, e = .returned (.tuple #[v, .nilIface]) ∧ NmNew w w' v n) ∧ (∀ c, readN T = .error c → ∃ (ao : Option Addr) (cap : Nat), e = .returned (.tuple #[.slice ao 0 cap, .iface 38 (.int .i64 (c : Int))])))
theorem nilT_atN (w : World) : TlAt w (.mk 0 0 false [] []) [.int .i64 0, .int .i64 0, .bool false, .slice none 0 0, .slice none 0 0] := by
  rw [TlAt]
  exact ⟨_, _, _, rfl, ⟨none, 0, rfl, by decide, by decide, fun h => by simp at h⟩, by decide, by decide, fun h => absurd h (by decide)⟩
/-- Element's answer as an element, from this world on -/
theorem ElemR.tl {w w' : World} {n : List Pn} {kv : Value} {xs : List Value} (h : w'.ownsRow w.heap.size 42 5 kv n.length xs) (hk : ∀ (i : Nat) (t : Tl), (n.map setN)[i]? = some t → Dep (fun b => w.heap.size ≤ b ∧ kv.ownBlock ≠ some b) w' t ((xs.drop (5 * i)).take 5)) : Dep (fun b => w.heap.size ≤ b) w' (elemN n) [.int .i64 0, .int .i64 16, .bool true, .slice none 0 0, kv] :=
  kids_own (ks := n.map setN) (by rw [List.length_map]; exact h) hk 0 16 true (fun _ h => h.1) (fun g hg => (own_geK h hg).1)
end Go.Proofs.Ytnkipgbnnhahbaa
