/- '==' on the program's points. -/
import Derived.Test.YtpgidlnpcjbfhabDoorRows
import Derived.Test.YtpgidlnpcjbfhabDoorEqSix
import Derived.Laws.StructEq
namespace Go.Proofs.YtpgidlnpcjbfhabDoor
open Go.RowKit

theorem part_x (x0 x1 x2 x3 x4 x5 y0 y1 y2 y3 y4 y5 : Int) (n : Bool) (w : World) : (part 24 #[.int .u64 x0, .int .u64 x1, .int .u64 x2, .int .u64 x3, .int .u64 x4, .int .u64 x5, .int .u64 y0, .int .u64 y1, .int .u64 y2, .int .u64 y3, .int .u64 y4, .int .u64 y5, .bool n] 0).run Tryd.prog w = .ok (.agg #[.int .u64 x0, .int .u64 x1, .int .u64 x2, .int .u64 x3, .int .u64 x4, .int .u64 x5]) w := by kernel_rfl
theorem part_y (x0 x1 x2 x3 x4 x5 y0 y1 y2 y3 y4 y5 : Int) (n : Bool) (w : World) : (part 24 #[.int .u64 x0, .int .u64 x1, .int .u64 x2, .int .u64 x3, .int .u64 x4, .int .u64 x5, .int .u64 y0, .int .u64 y1, .int .u64 y2, .int .u64 y3, .int .u64 y4, .int .u64 y5, .bool n] 6).run Tryd.prog w = .ok (.agg #[.int .u64 y0, .int .u64 y1, .int .u64 y2, .int .u64 y3, .int .u64 y4, .int .u64 y5]) w := by kernel_rfl
theorem part_n (x0 x1 x2 x3 x4 x5 y0 y1 y2 y3 y4 y5 : Int) (n : Bool) (w : World) : (part 4 #[.int .u64 x0, .int .u64 x1, .int .u64 x2, .int .u64 x3, .int .u64 x4, .int .u64 x5, .int .u64 y0, .int .u64 y1, .int .u64 y2, .int .u64 y3, .int .u64 y4, .int .u64 y5, .bool n] 12).run Tryd.prog w = .ok (.bool n) w := by kernel_rfl

theorem pt_fields : (Tryd.prog.fieldsOf 27).toList.map (fun f => (f.name == "_", f.type, f.offset)) = [(false, 24, 0), (false, 24, 6), (false, 4, 12)] := by kernel_rfl

theorem eqFields_cons {P : Program} {w : World} {d : Nat} {xs ys : Array Value} {f : Field} {fs : List Field} {a b : Value} {r : Bool} (hn : (f.name == "_") = false) (ha : ∀ w, (part f.type xs f.offset).run P w = .ok a w) (hb : ∀ w, (part f.type ys f.offset).run P w = .ok b w) (hr : ∀ w, (Op.equalIn d f.type a b).run P w = .ok r w) :
    (Op.eqFields d xs ys (f :: fs)).run P w = if r then (Op.eqFields d xs ys fs).run P w else .ok false w := by
  have : f.name ≠ "_" := by simpa using hn
  rw [Op.eqFields, if_pos this]
  simp only [Sem.run_bind, ha, hb, hr, Result.andThen_ok]
  cases r <;> simp

theorem eql_pt (x0 x1 x2 x3 x4 x5 y0 y1 y2 y3 y4 y5 p0 p1 p2 p3 p4 p5 q0 q1 q2 q3 q4 q5 : Int) (n m : Bool) : ∀ w : World, (Op.equalIn 10000 27 (.agg #[.int .u64 x0, .int .u64 x1, .int .u64 x2, .int .u64 x3, .int .u64 x4, .int .u64 x5, .int .u64 y0, .int .u64 y1, .int .u64 y2, .int .u64 y3, .int .u64 y4, .int .u64 y5, .bool n]) (.agg #[.int .u64 p0, .int .u64 p1, .int .u64 p2, .int .u64 p3, .int .u64 p4, .int .u64 p5, .int .u64 q0, .int .u64 q1, .int .u64 q2, .int .u64 q3, .int .u64 q4, .int .u64 q5, .bool m])).run Tryd.prog w = .ok (decide ([x0, x1, x2, x3, x4, x5] = [p0, p1, p2, p3, p4, p5] ∧ [y0, y1, y2, y3, y4, y5] = [q0, q1, q2, q3, q4, q5] ∧ n = m)) w := fun w => by
  rw [run_equalIn_struct w 9999 27 _ _ (by kernel_rfl) (by kernel_rfl)]
  have hf := pt_fields
  generalize (Tryd.prog.fieldsOf 27).toList = fs at *
  have hl : fs.length = 3 := by simpa using congrArg List.length hf
  match fs, hl, hf with
  | [f0, f1, f2], _, hf =>
    simp only [List.map_cons, List.map_nil, List.cons.injEq, and_true, Prod.mk.injEq] at hf
    obtain ⟨⟨n0, t0, o0⟩, ⟨n1, t1, o1⟩, ⟨n2, t2, o2⟩⟩ := hf
    have e0 := eql_six9 x0 x1 x2 x3 x4 x5 p0 p1 p2 p3 p4 p5
    have e1 := eql_six9 y0 y1 y2 y3 y4 y5 q0 q1 q2 q3 q4 q5
    rw [eqFields_cons n0 (by rw [t0, o0]; exact part_x x0 x1 x2 x3 x4 x5 y0 y1 y2 y3 y4 y5 n) (by rw [t0, o0]; exact part_x p0 p1 p2 p3 p4 p5 q0 q1 q2 q3 q4 q5 m) (by rw [t0]; exact e0)]
    rw [eqFields_cons n1 (by rw [t1, o1]; exact part_y x0 x1 x2 x3 x4 x5 y0 y1 y2 y3 y4 y5 n) (by rw [t1, o1]; exact part_y p0 p1 p2 p3 p4 p5 q0 q1 q2 q3 q4 q5 m) (by rw [t1]; exact e1)]
    rw [eqFields_cons (r := n == m) n2 (by rw [t2, o2]; exact part_n x0 x1 x2 x3 x4 x5 y0 y1 y2 y3 y4 y5 n) (by rw [t2, o2]; exact part_n p0 p1 p2 p3 p4 p5 q0 q1 q2 q3 q4 q5 m) (by rw [t2]; intro w; exact run_equalIn_bool w 9998 _ n m Tryd.underlying4)]
    simp only [Op.eqFields, Sem.run_pure]
    clear e0 e1
    generalize [x0, x1, x2, x3, x4, x5] = X
    generalize [y0, y1, y2, y3, y4, y5] = Y
    generalize [p0, p1, p2, p3, p4, p5] = P
    generalize [q0, q1, q2, q3, q4, q5] = Q
    by_cases h1 : X = P <;> by_cases h2 : Y = Q <;> cases n <;> cases m <;> simp [h1, h2]

theorem eql_pt_same (x0 x1 x2 x3 x4 x5 y0 y1 y2 y3 y4 y5 : Int) (n : Bool) : ∀ w : World, (Op.equalIn 10000 27 (.agg #[.int .u64 x0, .int .u64 x1, .int .u64 x2, .int .u64 x3, .int .u64 x4, .int .u64 x5, .int .u64 y0, .int .u64 y1, .int .u64 y2, .int .u64 y3, .int .u64 y4, .int .u64 y5, .bool n]) (.agg #[.int .u64 x0, .int .u64 x1, .int .u64 x2, .int .u64 x3, .int .u64 x4, .int .u64 x5, .int .u64 y0, .int .u64 y1, .int .u64 y2, .int .u64 y3, .int .u64 y4, .int .u64 y5, .bool n])).run Tryd.prog w = .ok true w := fun w => by
  rw [eql_pt]; simp
end Go.Proofs.YtpgidlnpcjbfhabDoor
