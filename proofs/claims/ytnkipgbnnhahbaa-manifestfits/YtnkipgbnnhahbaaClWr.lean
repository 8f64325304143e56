/- Elements of several, and what der.Write answers, shortly. -/
import Derived.Test.YtnkipgbnnhahbaaNmSpec
import Derived.Test.YtnkipgbnnhahbaaNmBase
import Derived.Test.YtnkipgbnnhahbaaCtSpec
import Derived.Test.YtnkipgbnnhahbaaRwT
import Derived.Test.YtnkipgbnnhahbaaCtPl
import Derived.Test.YtnkipgbnnhahbaaDrTlv
import Derived.Test.YtnkipgbnnhahbaaDrDep
import Derived.Test.YtnkipgbnnhahbaaDrOwn
import Derived.Test.YtnkipgbnnhahbaaDcOut
import Derived.Test.YtnkipgbnnhahbaaDrErr
import Derived.Test.YtnkipgbnnhahbaaDrWrN
import Derived.Test.YtnkipgbnnhahbaaPmNew
import Derived.Test.YtnkipgbnnhahbaaRows
import Derived.ChangeArms
import Derived.ChangeOld
import Derived.Lib.ConvBytes
import Derived.Laws.AppendOwn
import Derived.Deep.WholeRow
import Derived.Deep.RegionHeld3
import Derived.Deep.DeepCutAuto
import Derived.Deep.DeepFit
import Derived.Deep.OwnRows
import Derived.Deep.AppendLies
import Derived.Great.BuildSlice
import Derived.Laws.Rows
import Derived.BigQuiet
namespace Go.Proofs.Ytnkipgbnnhahbaa
open Go.RowKit
theorem kc_n {P : Tl → List Value → Prop} : ∀ (i : Nat) (k : Tl), ([] : List Tl)[i]? = some k → P k ((([] : List Value).drop (5 * i)).take 5) := fun i k h => by simp at h
theorem kc_c {P : Tl → List Value → Prop} {T : Tl} {cs xs : List Value} {Ts : List Tl} (h : P T cs) (l : cs.length = 5) (hr : ∀ (i : Nat) (k : Tl), Ts[i]? = some k → P k ((xs.drop (5 * i)).take 5)) : ∀ (i : Nat) (k : Tl), (T :: Ts)[i]? = some k → P k (((cs ++ xs).drop (5 * i)).take 5) := fun i k hk => by
  match i, hk with
  | 0, hk =>
    simp only [List.getElem?_cons_zero, Option.some.injEq] at hk
    subst hk
    rw [Nat.mul_zero, List.drop_zero, List.take_append_of_le_length (by omega), List.take_of_length_le (by omega)]
    exact h
  | i + 1, hk =>
    rw [List.getElem?_cons_succ] at hk
    have := hr i k hk
    rw [show 5 * (i + 1) = cs.length + 5 * i by omega, ← List.drop_drop, List.drop_left]
    exact this
theorem fill_15 {c0 c1 c2 : List Value} (h0 : c0.length = 5) (h1 : c1.length = 5) (h2 : c2.length = 5) : Instr.fill (fun i => some (i * 5, 5)) ((Array.range (3 * 5)).map ((Value.agg #[.int .i64 0, .int .i64 0, .bool false, .slice none 0 0, .slice none 0 0]).cells[· % (Value.agg #[.int .i64 0, .int .i64 0, .bool false, .slice none 0 0, .slice none 0 0]).cells.size]!)) [(0, .agg c0.toArray), (1, .agg c1.toArray), (2, .agg c2.toArray)] = some (c0 ++ (c1 ++ (c2 ++ []))).toArray := by
  obtain ⟨_, _, _, _, _, rfl⟩ := five h0
  obtain ⟨_, _, _, _, _, rfl⟩ := five h1
  obtain ⟨_, _, _, _, _, rfl⟩ := five h2
  kernel_rfl
/-- an error of this number, or none -/
def erN (n : Nat) : Value := if n = 0 then .nilIface else .iface 38 (.int .i64 (n : Int))
theorem erN_0 : erN 0 = .nilIface := rfl
theorem erN_s {n : Nat} (h : ¬ n = 0) : erN n = .iface 38 (.int .i64 (n : Int)) := if_neg h
/-- what der.Write answers, shortly -/
theorem c17_Write {T : Tl} {cs : List Value} {w : World} (h : TlAt w T cs) (hl : (bytesT T).length ≤ 1099511627776) :
    Calls Try.prog 13 #[.agg cs.toArray] w fun e w' => ∃ v' : Value, e = .returned (.tuple #[v', erN (wrN T)]) ∧ Bs w' v' (wrB T) ∧ NewV w v' ∧ Below w.heap.size w w' := by
  refine (c12_Write (smT_of_len hl) h).mono ?_
  rintro e w' ⟨v, er, rfl, hw, hb⟩
  by_cases k : wrN T = 0
  · obtain ⟨hf, rfl⟩ := hw.1 k
    refine ⟨v, by rw [k, erN_0], ?_, ?_, hb⟩
    · unfold wrB
      rw [if_pos k]
      exact hf.bs
    · obtain ⟨g, o, cap, cur, rfl, -, -, h3, -, -⟩ := hf
      exact fun a m c e h0 => by simp only [Value.slice.injEq, Option.some.injEq] at e; rw [← e.1]; exact h3
  · obtain ⟨hf, rfl⟩ := hw.2 k
    refine ⟨v, by rw [erN_s k], ?_, ?_, hb⟩
    · unfold wrB
      rw [if_neg k]
      exact hf
    · obtain ⟨ao, cap, rfl, -, -, -⟩ := hf
      exact fun a m c e h0 => by simp only [Value.slice.injEq] at e; simp at e; omega
end Go.Proofs.Ytnkipgbnnhahbaa
