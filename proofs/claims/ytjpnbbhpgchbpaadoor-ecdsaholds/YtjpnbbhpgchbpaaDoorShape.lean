/- '==' on six limbs. '==' on the program's points. The reference's numbers as slices: their lengths; stores beside them. What stays through a walk: known blocks of whatever cells; any other block may be written. The law's num, and the reference's To6 where the answer is known. The program's points by value: opened as they are read, and shut again. A package-level variable that is a point: from the row's list to its cells. -/
import Derived.Test.YtjpnbbhpgchbpaaDoorRows
import Derived.Test.YtjpnbbhpgchbpaaDoorBase
import Derived.Laws.StructEq
import Derived.Test.YtjpnbbhpgchbpaaDoorRefA
import Derived.Test.YtjpnbbhpgchbpaaDoorMath
import Derived.Deep.FieldsWide
import Derived.Lib.LaidTab
import Derived.Stop.LaidErr
import Derived.LaidMore
import Derived.ProofKit
namespace Go.Proofs.YtjpnbbhpgchbpaaDoor
open Go.RowKit

theorem run_eql_usd {P : Program} (w : World) (d : Nat) {t e : TypeId} {n : Nat} {i : TypeInfo} (hp : P.underlying t = some (.array n e)) (hi : P.info? e = some i) (he : P.plainKey e = true) (hu : P.underlying e = some (.int .u64)) (hc : P.cellsOf e = 1) (A B : List Int) (lA : A.length = n) (lB : B.length = n) :
    (Op.equalIn (d + 2) t (.agg (us A).toArray) (.agg (us B).toArray)).run P w = .ok (decide (A = B)) w := by
  rw [run_equalIn_array w (d + 1) _ _ hp hi, List.range_eq_range', run_eqItems_us w d he hu hc A B n lA lB n 0 (by omega)]
  simp

theorem info_u64 : (Tryd.prog.info? 22).map (fun i => (i.zero, i.size, i.bytes)) = some (some (.int .u64 0), 1, 8) := by kernel_rfl

theorem eql_six (x0 x1 x2 x3 x4 x5 y0 y1 y2 y3 y4 y5 : Int) : ∀ w : World, (Op.equalIn 10000 24 (.agg #[.int .u64 x0, .int .u64 x1, .int .u64 x2, .int .u64 x3, .int .u64 x4, .int .u64 x5]) (.agg #[.int .u64 y0, .int .u64 y1, .int .u64 y2, .int .u64 y3, .int .u64 y4, .int .u64 y5])).run Tryd.prog w = .ok (decide ([x0, x1, x2, x3, x4, x5] = [y0, y1, y2, y3, y4, y5])) w := fun w => by
  cases hi : Tryd.prog.info? 22 with
  | none => have := info_u64; rw [hi] at this; simp at this
  | some i => exact run_eql_us (P := Tryd.prog) w (t := 24) (e := 22) (n := 6) Tryd.underlying24 hi (by kernel_rfl) Tryd.underlying22 (by kernel_rfl) [x0, x1, x2, x3, x4, x5] [y0, y1, y2, y3, y4, y5] rfl rfl

theorem eql_same (x0 x1 x2 x3 x4 x5 : Int) : ∀ w : World, (Op.equalIn 10000 24 (.agg #[.int .u64 x0, .int .u64 x1, .int .u64 x2, .int .u64 x3, .int .u64 x4, .int .u64 x5]) (.agg #[.int .u64 x0, .int .u64 x1, .int .u64 x2, .int .u64 x3, .int .u64 x4, .int .u64 x5])).run Tryd.prog w = .ok true w := fun w => by
  rw [eql_six]; simp

theorem eql_not {x0 x1 x2 x3 x4 x5 y0 y1 y2 y3 y4 y5 : Int} (h : [x0, x1, x2, x3, x4, x5] ≠ [y0, y1, y2, y3, y4, y5]) : ∀ w : World, (Op.equalIn 10000 24 (.agg #[.int .u64 x0, .int .u64 x1, .int .u64 x2, .int .u64 x3, .int .u64 x4, .int .u64 x5]) (.agg #[.int .u64 y0, .int .u64 y1, .int .u64 y2, .int .u64 y3, .int .u64 y4, .int .u64 y5])).run Tryd.prog w = .ok false w := fun w => by
  rw [eql_six, decide_eq_false h]
theorem eql_six9 (x0 x1 x2 x3 x4 x5 y0 y1 y2 y3 y4 y5 : Int) : ∀ w : World, (Op.equalIn 9999 24 (.agg #[.int .u64 x0, .int .u64 x1, .int .u64 x2, .int .u64 x3, .int .u64 x4, .int .u64 x5]) (.agg #[.int .u64 y0, .int .u64 y1, .int .u64 y2, .int .u64 y3, .int .u64 y4, .int .u64 y5])).run Tryd.prog w = .ok (decide ([x0, x1, x2, x3, x4, x5] = [y0, y1, y2, y3, y4, y5])) w := fun w => by
  cases hi : Tryd.prog.info? 22 with
  | none => have := info_u64; rw [hi] at this; simp at this
  | some i => exact run_eql_usd (P := Tryd.prog) w 9997 (t := 24) (e := 22) (n := 6) Tryd.underlying24 hi (by kernel_rfl) Tryd.underlying22 (by kernel_rfl) [x0, x1, x2, x3, x4, x5] [y0, y1, y2, y3, y4, y5] rfl rfl
end Go.Proofs.YtjpnbbhpgchbpaaDoor

namespace Go.Proofs.YtjpnbbhpgchbpaaDoor
open Go.RowKit

theorem part_x (x0 x1 x2 x3 x4 x5 y0 y1 y2 y3 y4 y5 : Int) (n : Bool) (w : World) : (part 24 #[.int .u64 x0, .int .u64 x1, .int .u64 x2, .int .u64 x3, .int .u64 x4, .int .u64 x5, .int .u64 y0, .int .u64 y1, .int .u64 y2, .int .u64 y3, .int .u64 y4, .int .u64 y5, .bool n] 0).run Tryd.prog w = .ok (.agg #[.int .u64 x0, .int .u64 x1, .int .u64 x2, .int .u64 x3, .int .u64 x4, .int .u64 x5]) w := by kernel_rfl
theorem part_y (x0 x1 x2 x3 x4 x5 y0 y1 y2 y3 y4 y5 : Int) (n : Bool) (w : World) : (part 24 #[.int .u64 x0, .int .u64 x1, .int .u64 x2, .int .u64 x3, .int .u64 x4, .int .u64 x5, .int .u64 y0, .int .u64 y1, .int .u64 y2, .int .u64 y3, .int .u64 y4, .int .u64 y5, .bool n] 6).run Tryd.prog w = .ok (.agg #[.int .u64 y0, .int .u64 y1, .int .u64 y2, .int .u64 y3, .int .u64 y4, .int .u64 y5]) w := by kernel_rfl
theorem part_n (x0 x1 x2 x3 x4 x5 y0 y1 y2 y3 y4 y5 : Int) (n : Bool) (w : World) : (part 4 #[.int .u64 x0, .int .u64 x1, .int .u64 x2, .int .u64 x3, .int .u64 x4, .int .u64 x5, .int .u64 y0, .int .u64 y1, .int .u64 y2, .int .u64 y3, .int .u64 y4, .int .u64 y5, .bool n] 12).run Tryd.prog w = .ok (.bool n) w := by kernel_rfl

theorem pt_fields : (Tryd.prog.fieldsOf 37).toList.map (fun f => (f.name == "_", f.type, f.offset)) = [(false, 24, 0), (false, 24, 6), (false, 4, 12)] := by kernel_rfl

theorem eqFields_cons {P : Program} {w : World} {d : Nat} {xs ys : Array Value} {f : Field} {fs : List Field} {a b : Value} {r : Bool} (hn : (f.name == "_") = false) (ha : ∀ w, (part f.type xs f.offset).run P w = .ok a w) (hb : ∀ w, (part f.type ys f.offset).run P w = .ok b w) (hr : ∀ w, (Op.equalIn d f.type a b).run P w = .ok r w) :
    (Op.eqFields d xs ys (f :: fs)).run P w = if r then (Op.eqFields d xs ys fs).run P w else .ok false w := by
  have : f.name ≠ "_" := by simpa using hn
  rw [Op.eqFields, if_pos this]
  simp only [Sem.run_bind, ha, hb, hr, Result.andThen_ok]
  cases r <;> simp

theorem eql_pt (x0 x1 x2 x3 x4 x5 y0 y1 y2 y3 y4 y5 p0 p1 p2 p3 p4 p5 q0 q1 q2 q3 q4 q5 : Int) (n m : Bool) : ∀ w : World, (Op.equalIn 10000 37 (.agg #[.int .u64 x0, .int .u64 x1, .int .u64 x2, .int .u64 x3, .int .u64 x4, .int .u64 x5, .int .u64 y0, .int .u64 y1, .int .u64 y2, .int .u64 y3, .int .u64 y4, .int .u64 y5, .bool n]) (.agg #[.int .u64 p0, .int .u64 p1, .int .u64 p2, .int .u64 p3, .int .u64 p4, .int .u64 p5, .int .u64 q0, .int .u64 q1, .int .u64 q2, .int .u64 q3, .int .u64 q4, .int .u64 q5, .bool m])).run Tryd.prog w = .ok (decide ([x0, x1, x2, x3, x4, x5] = [p0, p1, p2, p3, p4, p5] ∧ [y0, y1, y2, y3, y4, y5] = [q0, q1, q2, q3, q4, q5] ∧ n = m)) w := fun w => by
  rw [run_equalIn_struct w 9999 37 _ _ (by kernel_rfl) (by kernel_rfl)]
  have hf := pt_fields
  generalize (Tryd.prog.fieldsOf 37).toList = fs at *
  have hl : fs.length = 3 := by simpa using congrArg List.length hf
  match fs, hl, hf with
  | [f0, f1, f2], _, hf =>
    simp only [List.map_cons, List.map_nil, List.cons.injEq, and_true, Prod.mk.injEq] at hf
    obtain ⟨⟨n0, t0, o0⟩, ⟨n1, t1, o1⟩, ⟨n2, t2, o2⟩⟩ := hf
    have e0 := eql_six9 x0 x1 x2 x3 x4 x5 p0 p1 p2 p3 p4 p5
    have e1 := eql_six9 y0 y1 y2 y3 y4 y5 q0 q1 q2 q3 q4 q5
    rw [eqFields_cons n0 (by rw [t0, o0]; exact part_x x0 x1 x2 x3 x4 x5 y0 y1 y2 y3 y4 y5 n) (by rw [t0, o0]; exact part_x p0 p1 p2 p3 p4 p5 q0 q1 q2 q3 q4 q5 m) (by rw [t0]; exact e0)]
    rw [eqFields_cons n1 (by rw [t1, o1]; exact part_y x0 x1 x2 x3 x4 x5 y0 y1 y2 y3 y4 y5 n) (by rw [t1, o1]; exact part_y p0 p1 p2 p3 p4 p5 q0 q1 q2 q3 q4 q5 m) (by rw [t1]; exact e1)]
    rw [eqFields_cons (r := n == m) n2 (by rw [t2, o2]; exact part_n x0 x1 x2 x3 x4 x5 y0 y1 y2 y3 y4 y5 n) (by rw [t2, o2]; exact part_n p0 p1 p2 p3 p4 p5 q0 q1 q2 q3 q4 q5 m) (by rw [t2]; intro w; exact run_equalIn_bool w 9998 _ n m Tryd.underlying4)]
    simp only [Op.eqFields, Sem.run_pure]
    clear e0 e1
    generalize [x0, x1, x2, x3, x4, x5] = X
    generalize [y0, y1, y2, y3, y4, y5] = Y
    generalize [p0, p1, p2, p3, p4, p5] = P
    generalize [q0, q1, q2, q3, q4, q5] = Q
    by_cases h1 : X = P <;> by_cases h2 : Y = Q <;> cases n <;> cases m <;> simp [h1, h2]

theorem eql_pt_same (x0 x1 x2 x3 x4 x5 y0 y1 y2 y3 y4 y5 : Int) (n : Bool) : ∀ w : World, (Op.equalIn 10000 37 (.agg #[.int .u64 x0, .int .u64 x1, .int .u64 x2, .int .u64 x3, .int .u64 x4, .int .u64 x5, .int .u64 y0, .int .u64 y1, .int .u64 y2, .int .u64 y3, .int .u64 y4, .int .u64 y5, .bool n]) (.agg #[.int .u64 x0, .int .u64 x1, .int .u64 x2, .int .u64 x3, .int .u64 x4, .int .u64 x5, .int .u64 y0, .int .u64 y1, .int .u64 y2, .int .u64 y3, .int .u64 y4, .int .u64 y5, .bool n])).run Tryd.prog w = .ok true w := fun w => by
  rw [eql_pt]; simp
end Go.Proofs.YtjpnbbhpgchbpaaDoor

namespace Go.Proofs.YtjpnbbhpgchbpaaDoor
open Go.RowKit

theorem num_len {w : World} {v : Value} {N : Int} (h : NumIs w v N) : ∃ (ao : Option Addr) (n cap : Nat), v = .slice ao n cap ∧ n ≤ cap ∧ cap ≤ maxLen ∧ ((n : Int) = 0 ↔ N = 0) := by
  obtain ⟨D, sD, dD, tD, rfl⟩ := h
  obtain ⟨ao, cap, rfl, m, k, -⟩ := sD.form
  refine ⟨ao, D.length, cap, rfl, k, m, fun h => ?_, fun h => ?_⟩
  · match D, h with
    | [], _ => rfl
  · apply Classical.byContradiction
    intro hn
    have l := trd_lower D dD tD (by omega)
    have p : (0 : Int) < 4294967296 ^ (D.length - 1) := Int.pow_pos (by decide)
    omega

theorem NumIs.form {w : World} {v : Value} {N : Int} (h : NumIs w v N) : ∃ (ao : Option Addr) (n cap : Nat), v = .slice ao n cap := by
  obtain ⟨ao, n, cap, e, -⟩ := num_len h
  exact ⟨ao, n, cap, e⟩

/-- a store into a block that begins with a bool leaves numbers as they are -/
theorem NumIs.set {w : World} {v : Value} {N : Int} {b j : Nat} {c : Bool} {X : List Value} {y : Value} (h : NumIs w v N) (B : Blk w b (.bool c :: X)) : NumIs (w.setCell ⟨b, j, none⟩ y) v N := by
  obtain ⟨D, sD, h2⟩ := h
  refine ⟨D, ?_, h2⟩
  rcases sD with ⟨h1, h3⟩ | ⟨b', cap, h1, h3, h4, h5, h6⟩
  · exact .inl ⟨h1, h3⟩
  · refine .inr ⟨b', cap, h1, h3, h4, by simpa using h5, fun k hk => ?_⟩
    have h0 := h6 0 (by omega)
    have hb := B.cell 0 _ rfl
    have hne : b' ≠ b := by
      rintro rfl
      rw [hb] at h0
      simp at h0
    rw [World.cell?_setCell_other _ _ _ _ (by simp)]
    exact h6 k hk

theorem NumIs.put3 {w : World} {v : Value} {N : Int} {b : Nat} {c u0 : Bool} {v1 v2 u1 u2 : Value} (h : NumIs w v N) (B : Blk w b [.bool c, v1, v2]) : NumIs (((w.setCell ⟨b, 0, none⟩ (.bool u0)).setCell ⟨b, 1, none⟩ u1).setCell ⟨b, 2, none⟩ u2) v N :=
  ((h.set B).set (B.set 0 (.bool u0))).set ((B.set 0 (.bool u0)).set 1 u1)
end Go.Proofs.YtjpnbbhpgchbpaaDoor

namespace Go.Proofs.YtjpnbbhpgchbpaaDoor
open Go.RowKit

theorem held3 {w0 W : World} (bs : List (Nat × List Value)) (hB : ∀ b X, (b, X) ∈ bs → Blk W b X) (bel : Below w0.heap.size w0 W) :
    ∃ S : World → Prop, Hd S W ∧ Hid (∀ w1 w2, Hd S w1 → Below w1.heap.size w1 w2 → Hd S w2) ∧ Hid (∀ w1 o, Hd S w1 → Hd S (w1.alloc o)) ∧ Hid (∀ w1, Hd S w1 → Hd S w1.drew) ∧ Hid (∀ (w1 : World) (o o' : Obj), W.heap.size ≤ w1.heap.size → Hd S (w1.alloc o) → Hd S (w1.alloc o')) ∧
      Hid (∀ w1 b j y, Hd S w1 → (W.heap.size ≤ b ∨ ∀ c X, (c, X) ∈ bs → c ≠ b) → w0.heap.size ≤ b → Hd S (w1.setCell ⟨b, j, none⟩ y)) ∧
      Hid (∀ w1, Hd S w1 → W.heap.size ≤ w1.heap.size) ∧ Hid (∀ w1, Hd S w1 → Below w0.heap.size w0 w1) ∧ Hid (∀ w1 b X, Hd S w1 → (b, X) ∈ bs → Blk w1 b X) ∧
      Hid (∀ w1 b cs, Hd S w1 → (W.heap.size ≤ b ∨ ∀ c X, (c, X) ∈ bs → c ≠ b) → w0.heap.size ≤ b → Hd S (w1.setRow b cs)) := by
  refine ⟨fun wx => (∀ b X, (b, X) ∈ bs → Blk wx b X) ∧ W.heap.size ≤ wx.heap.size ∧ Below w0.heap.size w0 wx, ⟨hB, Nat.le_refl _, bel⟩, ?_, ?_, ?_, ?_, ?_, ?_, ?_, ?_, ?_⟩
  · rintro w1 w2 ⟨h1, h3, h4⟩ hb
    exact ⟨fun b X h => (h1 b X h).later hb, Nat.le_trans h3 hb.size, below_step h4 hb⟩
  · rintro w1 o ⟨h1, h3, h4⟩
    exact ⟨fun b X h => (h1 b X h).alloc o, by simp; omega, below_alloc h4⟩
  · rintro w1 ⟨h1, h3, h4⟩
    exact ⟨h1, h3, h4.drew⟩
  · rintro w1 o o' hn ⟨h1, h3, h4⟩
    exact ⟨fun b X h => (h1 b X h).swap (Nat.lt_of_lt_of_le (hB b X h).lt hn), by simp; omega, below_swap h4 (Nat.le_trans bel.size hn)⟩
  · rintro w1 b j y ⟨h1, h3, h4⟩ hn hl
    refine ⟨fun c X h => (h1 c X h).other _ _ ?_, by simpa using h3, h4.setCell hl _⟩
    rcases hn with hn | hn
    · have := (hB c X h).lt
      exact Nat.ne_of_lt (Nat.lt_of_lt_of_le this hn)
    · exact hn c X h
  · rintro w1 ⟨_, h3, _⟩
    exact h3
  · rintro w1 ⟨_, _, h4⟩
    exact h4
  · rintro w1 b X ⟨h1, _, _⟩ h
    exact h1 b X h
  · rintro w1 b cs ⟨h1, h3, h4⟩ hn hl
    refine ⟨fun c X h => (h1 c X h).row ?_, by simpa [World.setRow] using h3, below_setRow h4 hl _⟩
    rcases hn with hn | hn
    · have := (hB c X h).lt
      exact Nat.ne_of_lt (Nat.lt_of_lt_of_le this hn)
    · exact hn c X h
end Go.Proofs.YtjpnbbhpgchbpaaDoor

namespace Go.Proofs.YtjpnbbhpgchbpaaDoor
open Go.RowKit

theorem to6_is {v : Value} {N : Int} {w : World} {s0 s1 s2 s3 s4 s5 : Int} (h : NumIs w v N) (fS : fits [s0, s1, s2, s3, s4, s5]) (hS : v64 [s0, s1, s2, s3, s4, s5] = N) :
    Calls Tryd.prog 9 #[v] w fun e w' => e = .returned (.agg #[.int .u64 s0, .int .u64 s1, .int .u64 s2, .int .u64 s3, .int .u64 s4, .int .u64 s5]) ∧ Below w.heap.size w w' := by
  refine (to6_any v N w h).mono ?_
  rintro e w' ⟨T, rfl, lT, fT, hT, hb⟩
  have b := v6_bound [s0, s1, s2, s3, s4, s5] rfl fS
  have e : T = [s0, s1, s2, s3, s4, s5] := v64_inj _ _ (by rw [lT]; rfl) fT fS (by rw [hT, ← hS, Int.emod_eq_of_lt b.1 b.2])
  rw [e]
  exact ⟨rfl, hb⟩

theorem num_30 (X : List Int) (lX : X.length = 6) (fX : fits X) : v64 X < 4294967296 ^ 30 := by
  have b := (v6_bound X lX fX).2
  rw [show (18446744073709551616 : Int) = 4294967296 ^ 2 by decide, ← Int.pow_mul] at b
  have : (4294967296 : Int) ^ (2 * 6) < 4294967296 ^ 30 := by decide
  omega

theorem sum_30 (X Y : List Int) (lX : X.length = 6) (lY : Y.length = 6) (fX : fits X) (fY : fits Y) : v64 X + v64 Y < 4294967296 ^ 30 := by
  have b := (v6_bound X lX fX).2
  have c := (v6_bound Y lY fY).2
  rw [show (18446744073709551616 : Int) = 4294967296 ^ 2 by decide, ← Int.pow_mul] at b c
  have : (4294967296 : Int) ^ (2 * 6) + 4294967296 ^ (2 * 6) < 4294967296 ^ 30 := by decide
  omega

theorem prod_30 (X Y : List Int) (lX : X.length = 6) (lY : Y.length = 6) (fX : fits X) (fY : fits Y) : v64 X * v64 Y < 4294967296 ^ 30 := by
  have b := v6_bound X lX fX
  have c := v6_bound Y lY fY
  rw [show (18446744073709551616 : Int) = 4294967296 ^ 2 by decide, ← Int.pow_mul] at b c
  have h1 : v64 X * v64 Y ≤ 4294967296 ^ (2 * 6) * 4294967296 ^ (2 * 6) := Int.mul_le_mul (by omega) (by omega) c.1 (by omega)
  have : (4294967296 : Int) ^ (2 * 6) * 4294967296 ^ (2 * 6) < 4294967296 ^ 30 := by decide
  omega

theorem mod_pos {M T : List Int} {i : Int} (h : IsMod M i T) : 0 < v64 M := by
  have h0 := (v6_bound M h.lM h.fM).1
  have h1 := h.odd
  omega
end Go.Proofs.YtjpnbbhpgchbpaaDoor

namespace Go.Proofs.YtjpnbbhpgchbpaaDoor
open Go.ChangeShapes Go.WideShapes Go.ChangeAt Go.RowKit Go.Deep
variable {H : Type} {enc : TypeId × Value → H} {w : World} {base : Nat} {spare : Nat → Bool} {held : Bool}

theorem cells_u384 : Tryd.prog.cellsOf 24 = 6 := by kernel_rfl
theorem cells_u64 : Tryd.prog.cellsOf 22 = 1 := by kernel_rfl
theorem cells_pt : Tryd.prog.cellsOf 37 = 13 := by kernel_rfl
theorem cells_bool : Tryd.prog.cellsOf 4 = 1 := by kernel_rfl

theorem thirteenV {l : List Value} (h : l.length = 13) : ∃ v0 v1 v2 v3 v4 v5 v6 v7 v8 v9 v10 v11 v12, l = [v0, v1, v2, v3, v4, v5, v6, v7, v8, v9, v10, v11, v12] := by
  match l, h with
  | [v0, v1, v2, v3, v4, v5, v6, v7, v8, v9, v10, v11, v12], _ => exact ⟨v0, v1, v2, v3, v4, v5, v6, v7, v8, v9, v10, v11, v12, rfl⟩

theorem open_pt {cs : Array Value} {d : DataW H} {p : List MemPlace} (h : DataW.Trod enc Tryd.prog w base spare held 37 (.agg cs) d p) :
    ∃ (x0 x1 x2 x3 x4 x5 y0 y1 y2 y3 y4 y5 : Int) (n : Bool), cs = #[.int .u64 x0, .int .u64 x1, .int .u64 x2, .int .u64 x3, .int .u64 x4, .int .u64 x5, .int .u64 y0, .int .u64 y1, .int .u64 y2, .int .u64 y3, .int .u64 y4, .int .u64 y5, .bool n] ∧ d = .agg [.agg [.lit (.int .u64 x0), .lit (.int .u64 x1), .lit (.int .u64 x2), .lit (.int .u64 x3), .lit (.int .u64 x4), .lit (.int .u64 x5)], .agg [.lit (.int .u64 y0), .lit (.int .u64 y1), .lit (.int .u64 y2), .lit (.int .u64 y3), .lit (.int .u64 y4), .lit (.int .u64 y5)], .lit (.bool n)] ∧ p = [] ∧ fits [x0, x1, x2, x3, x4, x5] ∧ fits [y0, y1, y2, y3, y4, y5] := by
  obtain ⟨fuel, hf⟩ := h
  obtain ⟨y0, y1, y2, m, hx, hl, t0, t1, t2⟩ := trod_struct3 Tryd.underlying37 hf
  obtain ⟨l⟩ := cs
  simp only [Value.cells] at hl t0 t1 t2
  rw [cells_pt] at hl
  obtain ⟨v0, v1, v2, v3, v4, v5, v6, v7, v8, v9, v10, v11, v12, rfl⟩ := thirteenV hl
  simp only [cells_u384, cells_bool, List.drop_zero, List.drop_succ_cons, List.take_succ_cons, List.take_zero] at t0 t1 t2
  obtain ⟨A, lA, eA, dA, pA, fA⟩ := open_arr (n := 6) Tryd.underlying24 cells_u384 Tryd.underlying22 cells_u64 (cs := #[v0, v1, v2, v3, v4, v5]) (d := y0.1) (p := y0.2) ⟨m, t0⟩
  obtain ⟨B, lB, eB, dB, pB, fB⟩ := open_arr (n := 6) Tryd.underlying24 cells_u384 Tryd.underlying22 cells_u64 (cs := #[v6, v7, v8, v9, v10, v11]) (d := y1.1) (p := y1.2) ⟨m, t1⟩
  obtain ⟨n, h2, hb⟩ := DataW.trod_bool Tryd.underlying4 t2
  obtain ⟨x0, x1, x2, x3, x4, x5, rfl⟩ := six lA
  obtain ⟨z0, z1, z2, z3, z4, z5, rfl⟩ := six lB
  simp only [us, List.map_cons, List.map_nil, Array.mk.injEq, List.cons.injEq, and_true] at eA eB h2 dA dB
  obtain ⟨rfl, rfl, rfl, rfl, rfl, rfl⟩ := eA
  obtain ⟨rfl, rfl, rfl, rfl, rfl, rfl⟩ := eB
  subst h2
  obtain ⟨e1, e2⟩ := Prod.mk.inj hx
  refine ⟨x0, x1, x2, x3, x4, x5, z0, z1, z2, z3, z4, z5, n, rfl, ?_, ?_, fA, fB⟩
  · rw [e1, dA, dB, hb]
  · rw [e2, pA, pB, hb]; rfl

theorem shut_pt (x0 x1 x2 x3 x4 x5 y0 y1 y2 y3 y4 y5 : Int) (n : Bool) (fX : fits [x0, x1, x2, x3, x4, x5]) (fY : fits [y0, y1, y2, y3, y4, y5]) :
    DataW.Trod enc Tryd.prog w base spare held 37 (.agg #[.int .u64 x0, .int .u64 x1, .int .u64 x2, .int .u64 x3, .int .u64 x4, .int .u64 x5, .int .u64 y0, .int .u64 y1, .int .u64 y2, .int .u64 y3, .int .u64 y4, .int .u64 y5, .bool n]) (.agg [.agg [.lit (.int .u64 x0), .lit (.int .u64 x1), .lit (.int .u64 x2), .lit (.int .u64 x3), .lit (.int .u64 x4), .lit (.int .u64 x5)], .agg [.lit (.int .u64 y0), .lit (.int .u64 y1), .lit (.int .u64 y2), .lit (.int .u64 y3), .lit (.int .u64 y4), .lit (.int .u64 y5)], .lit (.bool n)]) [] := by
  obtain ⟨m0, h0⟩ := shut_six (enc := enc) (w := w) (base := base) (spare := spare) (held := held) Tryd.underlying24 cells_u384 Tryd.underlying22 cells_u64 x0 x1 x2 x3 x4 x5 fX
  obtain ⟨m1, h1⟩ := shut_six (enc := enc) (w := w) (base := base) (spare := spare) (held := held) Tryd.underlying24 cells_u384 Tryd.underlying22 cells_u64 y0 y1 y2 y3 y4 y5 fY
  obtain ⟨m2, h2⟩ := shut_bool (enc := enc) (w := w) (base := base) (spare := spare) (held := held) Tryd.underlying4 n
  refine ⟨_, trod_struct3_mk (n := max m0 (max m1 m2)) (cs := [.int .u64 x0, .int .u64 x1, .int .u64 x2, .int .u64 x3, .int .u64 x4, .int .u64 x5, .int .u64 y0, .int .u64 y1, .int .u64 y2, .int .u64 y3, .int .u64 y4, .int .u64 y5, .bool n]) Tryd.underlying37 (by rw [cells_pt]; rfl) (y0 := (.agg [.lit (.int .u64 x0), .lit (.int .u64 x1), .lit (.int .u64 x2), .lit (.int .u64 x3), .lit (.int .u64 x4), .lit (.int .u64 x5)], [])) (y1 := (.agg [.lit (.int .u64 y0), .lit (.int .u64 y1), .lit (.int .u64 y2), .lit (.int .u64 y3), .lit (.int .u64 y4), .lit (.int .u64 y5)], [])) (y2 := (.lit (.bool n), [])) ?_ ?_ ?_⟩
  · simp only [cells_u384, List.drop_zero, List.take_succ_cons, List.take_zero]
    exact DataW.trod_le (Nat.le_max_left _ _) h0
  · simp only [cells_u384, List.drop_succ_cons, List.drop_zero, List.take_succ_cons, List.take_zero]
    exact DataW.trod_le (Nat.le_trans (Nat.le_max_left _ _) (Nat.le_max_right _ _)) h1
  · simp only [cells_bool, List.drop_succ_cons, List.drop_zero, List.take_succ_cons, List.take_zero]
    exact DataW.trod_le (Nat.le_trans (Nat.le_max_right _ _) (Nat.le_max_right _ _)) h2
end Go.Proofs.YtjpnbbhpgchbpaaDoor

namespace Go.Proofs.YtjpnbbhpgchbpaaDoor
open Go.ChangeShapes Go.WideShapes Go.ChangeAt Go.RowKit

theorem ptIs_of_head {W : World} {name : String} {rest : List (String × DataW Unit)} {g : Nat} {x0 x1 x2 x3 x4 x5 y0 y1 y2 y3 y4 y5 : Int} {n : Bool}
    (hg : Tryd.prog.globalNamed name = some g) (hty : (Tryd.prog.globals[g]?).map (·.type) = some 37)
    (h : laidMet Tryd.prog ((name, .agg [.agg [.lit (.int .u64 x0), .lit (.int .u64 x1), .lit (.int .u64 x2), .lit (.int .u64 x3), .lit (.int .u64 x4), .lit (.int .u64 x5)], .agg [.lit (.int .u64 y0), .lit (.int .u64 y1), .lit (.int .u64 y2), .lit (.int .u64 y3), .lit (.int .u64 y4), .lit (.int .u64 y5)], .lit (.bool n)]) :: rest) W) : ∀ i v, ([.int .u64 x0, .int .u64 x1, .int .u64 x2, .int .u64 x3, .int .u64 x4, .int .u64 x5, .int .u64 y0, .int .u64 y1, .int .u64 y2, .int .u64 y3, .int .u64 y4, .int .u64 y5, .bool n] : List Value)[i]? = some v → W.cell? ⟨g, i, none⟩ = some v := by
  obtain ⟨ps, ⟨g', t', cs, fuel, p, q, hg', ht', hvar, hd, _, _⟩, _⟩ := h
  obtain rfl := Option.some.inj (hg.symm.trans hg')
  obtain rfl := Option.some.inj (hty.symm.trans ht')
  obtain ⟨a0, a1, a2, a3, a4, a5, b0, b1, b2, b3, b4, b5, m, e1, e2, -, -, -⟩ := open_pt (cs := cs) ⟨fuel, hd⟩
  simp only [DataW.agg.injEq, List.cons.injEq, DataW.lit.injEq, Lit.int.injEq, Lit.bool.injEq, and_true, true_and] at e2
  obtain ⟨⟨rfl, rfl, rfl, rfl, rfl, rfl⟩, ⟨rfl, rfl, rfl, rfl, rfl, rfl⟩, rfl⟩ := e2
  rw [e1] at hvar
  intro i v hv
  have := World.var?_cell hg hvar i
  rw [this]
  simpa using hv
end Go.Proofs.YtjpnbbhpgchbpaaDoor
