/- Numbers of six limbs and points as rows of cells. Rows of cells: numbers, points and signatures loaded and stored whole. The document's Of6 of a row of cells. The document's order. What Sign and Verify tell. Signatures held against each other, and put together. What curve.On answers of a row of cells. -/
import Derived.Test.YtjpnbbhpgchbpaaDoorRows
import Derived.Test.YtjpnbbhpgchbpaaDoorShape
import Derived.Test.YtjpnbbhpgchbpaaDoorOBase
import Derived.Test.YtjpnbbhpgchbpaaDoorCRef
import Derived.Test.YtjpnbbhpgchbpaaDoorCNum
import Derived.Deep.WholeRow
import Derived.Deep.RegionHeld3
import Derived.Deep.DeepCutAuto
import Derived.Deep.DeepFit
import Derived.Test.YtjpnbbhpgchbpaaDoorWpRowG
import Derived.Test.YtjpnbbhpgchbpaaDoorRefA
import Derived.Test.YtjpnbbhpgchbpaaDoorBase
import Derived.Test.YtjpnbbhpgchbpaaDoorCCode
import Derived.Test.YtjpnbbhpgchbpaaDoorFrom
import Derived.Deep.OwnRows
import Derived.Deep.AppendLies
import Derived.Great.BuildSlice
import Derived.Laws.Rows
import Derived.Laws.StructEq
namespace Go.Proofs.YtjpnbbhpgchbpaaDoor
open Go.RowKit

/-- each of them is one cell -/
def OneR (cs : List Value) : Prop := cs.toArray.all (·.oneCell') = true
/-- a number of six limbs, as a row of cells -/
def U6 (cs : List Value) (x : Int) : Prop := ∃ z0 z1 z2 z3 z4 z5 : Int, cs = [.int .u64 z0, .int .u64 z1, .int .u64 z2, .int .u64 z3, .int .u64 z4, .int .u64 z5] ∧ fits [z0, z1, z2, z3, z4, z5] ∧ v64 [z0, z1, z2, z3, z4, z5] = x
theorem U6.mk {z0 z1 z2 z3 z4 z5 : Int} (h : fits [z0, z1, z2, z3, z4, z5]) : U6 [.int .u64 z0, .int .u64 z1, .int .u64 z2, .int .u64 z3, .int .u64 z4, .int .u64 z5] (v64 [z0, z1, z2, z3, z4, z5]) := ⟨z0, z1, z2, z3, z4, z5, rfl, h, rfl⟩
theorem U6.len {cs : List Value} {x : Int} (h : U6 cs x) : cs.length = 6 := by
  obtain ⟨z0, z1, z2, z3, z4, z5, rfl, _⟩ := h
  rfl
theorem U6.ones {cs : List Value} {x : Int} (h : U6 cs x) : OneR cs := by
  obtain ⟨z0, z1, z2, z3, z4, z5, rfl, _⟩ := h
  simp [OneR, Value.oneCell']
theorem U6.bd {cs : List Value} {x : Int} (h : U6 cs x) : 0 ≤ x ∧ x < 18446744073709551616 ^ 6 := by
  obtain ⟨z0, z1, z2, z3, z4, z5, rfl, hf, rfl⟩ := h
  exact v6_bound _ rfl hf
theorem U6.same {cs ds : List Value} {x y : Int} (h : U6 cs x) (k : U6 ds y) : cs = ds ↔ x = y := by
  obtain ⟨z0, z1, z2, z3, z4, z5, rfl, hf, rfl⟩ := h
  obtain ⟨y0, y1, y2, y3, y4, y5, rfl, kf, rfl⟩ := k
  constructor
  · intro e
    simp only [List.cons.injEq, Value.int.injEq, true_and, and_true] at e
    obtain ⟨rfl, rfl, rfl, rfl, rfl, rfl⟩ := e
    rfl
  · intro e
    have e2 := v64_inj [z0, z1, z2, z3, z4, z5] [y0, y1, y2, y3, y4, y5] rfl hf kf e
    simp only [List.cons.injEq, and_true] at e2
    obtain ⟨rfl, rfl, rfl, rfl, rfl, rfl⟩ := e2
    rfl
theorem U6.zero : U6 [.int .u64 0, .int .u64 0, .int .u64 0, .int .u64 0, .int .u64 0, .int .u64 0] 0 := ⟨0, 0, 0, 0, 0, 0, rfl, fits6 (by decide), by decide⟩
theorem U6.one : U6 [.int .u64 1, .int .u64 0, .int .u64 0, .int .u64 0, .int .u64 0, .int .u64 0] 1 := ⟨1, 0, 0, 0, 0, 0, rfl, fits6 (by decide), by decide⟩
theorem eqU {cs ds : List Value} {x y : Int} (h : U6 cs x) (k : U6 ds y) : ∀ w : World, (Op.equalIn 10000 24 (.agg cs.toArray) (.agg ds.toArray)).run Tryd.prog w = .ok (decide (x = y)) w := fun w => by
  obtain ⟨z0, z1, z2, z3, z4, z5, rfl, hf, rfl⟩ := h
  obtain ⟨y0, y1, y2, y3, y4, y5, rfl, kf, rfl⟩ := k
  rw [eql_six]
  congr 1
  by_cases e : [z0, z1, z2, z3, z4, z5] = [y0, y1, y2, y3, y4, y5]
  · rw [decide_eq_true e, decide_eq_true (by rw [e])]
  · rw [decide_eq_false e, decide_eq_false (fun h => e (v64_inj [z0, z1, z2, z3, z4, z5] [y0, y1, y2, y3, y4, y5] rfl hf kf h))]
/-- from 1 to N - 1 -/
def isSc (x : Int) : Prop := 1 ≤ x ∧ x < QQ
instance (x : Int) : Decidable (isSc x) := by unfold isSc; exact inferInstance
/-- 1 over it (0 of 0) -/
def InvO (x z : Int) : Prop := OutO x 39402006196394479212279040100143613805079739270465446667946905279627659399113263569398956308152294913554433653942641 z
theorem InvO.one {x y z : Int} (h : InvO x y) (k : InvO x z) : y = z := h.trans k.symm
/-- a point as a row of cells -/
def P13 (cs : List Value) (P : Pt) : Prop := ∃ (s0 s1 s2 s3 s4 s5 t0 t1 t2 t3 t4 t5 : Int) (k : Bool), cs = [.int .u64 s0, .int .u64 s1, .int .u64 s2, .int .u64 s3, .int .u64 s4, .int .u64 s5, .int .u64 t0, .int .u64 t1, .int .u64 t2, .int .u64 t3, .int .u64 t4, .int .u64 t5, .bool k] ∧ Told P [s0, s1, s2, s3, s4, s5] [t0, t1, t2, t3, t4, t5] k
/-- thirteen cells that may be a point -/
def P13R (cs : List Value) (X Y : Int) (n : Bool) : Prop := ∃ xs ys, cs = xs ++ ys ++ [.bool n] ∧ U6 xs X ∧ U6 ys Y
/-- a point's X; 0, where it has none -/
def xOf : Pt → Int
  | none => 0
  | some (X, _) => X
theorem P13.raw {cs : List Value} {P : Pt} (h : P13 cs P) : ∃ X Y, P13R cs X Y (decide (P = none)) ∧ X = xOf P := by
  obtain ⟨s0, s1, s2, s3, s4, s5, t0, t1, t2, t3, t4, t5, k, rfl, f1, f2, h⟩ := h
  rcases h with ⟨rfl, rfl, h1, h2⟩ | ⟨rfl, rfl⟩
  · refine ⟨_, _, ⟨[.int .u64 s0, .int .u64 s1, .int .u64 s2, .int .u64 s3, .int .u64 s4, .int .u64 s5], [.int .u64 t0, .int .u64 t1, .int .u64 t2, .int .u64 t3, .int .u64 t4, .int .u64 t5], rfl, .mk f1, .mk f2⟩, ?_⟩
    rw [h1]
    decide
  · exact ⟨_, _, ⟨[.int .u64 s0, .int .u64 s1, .int .u64 s2, .int .u64 s3, .int .u64 s4, .int .u64 s5], [.int .u64 t0, .int .u64 t1, .int .u64 t2, .int .u64 t3, .int .u64 t4, .int .u64 t5], rfl, .mk f1, .mk f2⟩, rfl⟩
theorem P13.len {cs : List Value} {P : Pt} (h : P13 cs P) : cs.length = 13 := by
  obtain ⟨s0, s1, s2, s3, s4, s5, t0, t1, t2, t3, t4, t5, k, rfl, _⟩ := h
  rfl
theorem P13R.len {cs : List Value} {X Y : Int} {n : Bool} (h : P13R cs X Y n) : cs.length = 13 := by
  obtain ⟨xs, ys, rfl, h1, h2⟩ := h
  simp [h1.len, h2.len]
theorem P13R.ones {cs : List Value} {X Y : Int} {n : Bool} (h : P13R cs X Y n) : OneR cs := by
  obtain ⟨xs, ys, rfl, ⟨z0, z1, z2, z3, z4, z5, rfl, _⟩, ⟨y0, y1, y2, y3, y4, y5, rfl, _⟩⟩ := h
  simp [OneR, Value.oneCell']
theorem P13R.told {cs : List Value} {X Y : Int} (h : P13R cs X Y false) : P13 cs (some (X, Y)) := by
  obtain ⟨xs, ys, rfl, ⟨s0, s1, s2, s3, s4, s5, rfl, hf, rfl⟩, ⟨t0, t1, t2, t3, t4, t5, rfl, kf, rfl⟩⟩ := h
  exact ⟨s0, s1, s2, s3, s4, s5, t0, t1, t2, t3, t4, t5, false, rfl, hf, kf, .inr ⟨rfl, rfl⟩⟩
theorem P13.rawS {cs : List Value} {X Y : Int} (h : P13 cs (some (X, Y))) : P13R cs X Y false := by
  obtain ⟨s0, s1, s2, s3, s4, s5, t0, t1, t2, t3, t4, t5, k, rfl, f1, f2, h⟩ := h
  rcases h with ⟨h, _⟩ | ⟨h, rfl⟩
  · cases h
  · simp only [Option.some.injEq, Prod.mk.injEq] at h
    obtain ⟨rfl, rfl⟩ := h
    exact ⟨[.int .u64 s0, .int .u64 s1, .int .u64 s2, .int .u64 s3, .int .u64 s4, .int .u64 s5], [.int .u64 t0, .int .u64 t1, .int .u64 t2, .int .u64 t3, .int .u64 t4, .int .u64 t5], rfl, .mk f1, .mk f2⟩
end Go.Proofs.YtjpnbbhpgchbpaaDoor

namespace Go.Proofs.YtjpnbbhpgchbpaaDoor
open Go.RowKit

theorem size_u : (Tryd.prog.info? 24).map (·.size) = some 6 := by kernel_rfl
theorem size_p : (Tryd.prog.info? 37).map (·.size) = some 13 := by kernel_rfl
theorem size_s : (Tryd.prog.info? 30).map (·.size) = some 12 := by kernel_rfl
theorem zero_u : Hid (∀ w : World, (zeroValue 24).run Tryd.prog w = .ok (.agg #[.int .u64 0, .int .u64 0, .int .u64 0, .int .u64 0, .int .u64 0, .int .u64 0]) w) := fun w => by kernel_rfl
theorem zero_p : Hid (∀ w : World, (zeroValue 37).run Tryd.prog w = .ok (.agg #[.int .u64 0, .int .u64 0, .int .u64 0, .int .u64 0, .int .u64 0, .int .u64 0, .int .u64 0, .int .u64 0, .int .u64 0, .int .u64 0, .int .u64 0, .int .u64 0, .bool false]) w) := fun w => by kernel_rfl
theorem zero_s : Hid (∀ w : World, (zeroValue 30).run Tryd.prog w = .ok (.agg #[.int .u64 0, .int .u64 0, .int .u64 0, .int .u64 0, .int .u64 0, .int .u64 0, .int .u64 0, .int .u64 0, .int .u64 0, .int .u64 0, .int .u64 0, .int .u64 0]) w) := fun w => by kernel_rfl
/-- a part of a block that is a number -/
theorem load_u {w : World} {g o : Nat} {X ys : List Value} {y : Int} (B : Blk w g X) (h : U6 ys y) (hx : ∀ j v, ys[j]? = some v → X[o + j]? = some v) : (loadVar 24 ⟨g, o, none⟩).run Tryd.prog w = .ok (.agg ys.toArray) w :=
  load_cells (n := 6) (fun j v hv => B.cell _ _ (hx j v hv)) h.len Tryd.underlying24 rfl size_u
theorem app_at {xs ys zs : List Value} {n : Nat} (h : xs.length = n) : ∀ j v, ys[j]? = some v → (xs ++ ys ++ zs)[n + j]? = some v := fun j v hv => by
  have hj := (List.getElem?_eq_some_iff.1 hv).1
  rw [List.append_assoc, List.getElem?_append_right (by omega), show n + j - xs.length = j by omega, List.getElem?_append_left hj]
  exact hv
theorem app_at0 {xs ys : List Value} : ∀ j v, xs[j]? = some v → (xs ++ ys)[0 + j]? = some v := fun j v hv => by
  have hj := (List.getElem?_eq_some_iff.1 hv).1
  rw [Nat.zero_add, List.getElem?_append_left hj]
  exact hv
theorem app_at2 {xs ys : List Value} {n : Nat} (h : xs.length = n) : ∀ j v, ys[j]? = some v → (xs ++ ys)[n + j]? = some v := fun j v hv => by
  rw [List.getElem?_append_right (by omega), show n + j - xs.length = j by omega]
  exact hv
theorem OneR.app {xs ys : List Value} (h : OneR xs) (k : OneR ys) : OneR (xs ++ ys) := by
  unfold OneR at *
  rw [Array.all_eq_true_iff_forall_mem] at *
  intro u hu
  simp only [List.mem_toArray, List.mem_append] at hu
  rcases hu with hu | hu
  · exact h u (by simpa using hu)
  · exact k u (by simpa using hu)
/-- a block that is written whole -/
theorem Blk.put {w : World} {g : Nat} {X ys : List Value} (B : Blk w g X) : Blk (w.setRow g ys.toArray) g ys := by
  obtain ⟨t, h⟩ := B
  exact ⟨t, setRow_heap _ _ _ _ _ _ h⟩
theorem sig_zero : ([.int .u64 0, .int .u64 0, .int .u64 0, .int .u64 0, .int .u64 0, .int .u64 0, .int .u64 0, .int .u64 0, .int .u64 0, .int .u64 0, .int .u64 0, .int .u64 0] : List Value) = [.int .u64 0, .int .u64 0, .int .u64 0, .int .u64 0, .int .u64 0, .int .u64 0] ++ [.int .u64 0, .int .u64 0, .int .u64 0, .int .u64 0, .int .u64 0, .int .u64 0] := rfl
end Go.Proofs.YtjpnbbhpgchbpaaDoor

namespace Go.Proofs.YtjpnbbhpgchbpaaDoor
open Go.RowKit

theorem six_of {l : List Int} (h : l.length = 6) : ∃ z0 z1 z2 z3 z4 z5 : Int, l = [z0, z1, z2, z3, z4, z5] := by
  match l, h with
  | [z0, z1, z2, z3, z4, z5], _ => exact ⟨z0, z1, z2, z3, z4, z5, rfl⟩
theorem uOf6 {cs : List Value} {x : Int} {w : World} (h : U6 cs x) : Calls Tryd.prog 12 #[.agg cs.toArray] w fun e w' => ∃ v', e = .returned v' ∧ NumIs w' v' x ∧ Below w.heap.size w w' := by
  obtain ⟨z0, z1, z2, z3, z4, z5, rfl, hf, rfl⟩ := h
  exact of6_any [z0, z1, z2, z3, z4, z5] w rfl hf
end Go.Proofs.YtjpnbbhpgchbpaaDoor

namespace Go.Proofs.YtjpnbbhpgchbpaaDoor
open Go.RowKit

theorem n_num (w : World) (t : TypeId) : NumIs (w.alloc (.cells (us [3435473267, 3974895978, 1219536762, 1478102450, 4097256927, 3345173889, 4294967295, 4294967295, 4294967295, 4294967295, 4294967295, 4294967295]).toArray t)) (.slice (some ⟨w.heap.size, 0, none⟩) 12 12) QQ := by
  have B := Blk.new w (us [3435473267, 3974895978, 1219536762, 1478102450, 4097256927, 3345173889, 4294967295, 4294967295, 4294967295, 4294967295, 4294967295, 4294967295]) t w.heap.size rfl
  refine ⟨[3435473267, 3974895978, 1219536762, 1478102450, 4097256927, 3345173889, 4294967295, 4294967295, 4294967295, 4294967295, 4294967295, 4294967295], .inr ⟨w.heap.size, 12, rfl, Nat.le_refl _, by unfold maxLen; omega, B.lt, fun j hj => B.cell j _ (us_get _ j hj)⟩, ?_, ?_, ?_⟩
  · intro j
    match j with
    | 0 => decide
    | 1 => decide
    | 2 => decide
    | 3 => decide
    | 4 => decide
    | 5 => decide
    | 6 => decide
    | 7 => decide
    | 8 => decide
    | 9 => decide
    | 10 => decide
    | 11 => decide
    | _ + 12 => exact ⟨by simp, by simp⟩
  · intro _; simp
  · simp only [v32, pv]; decide

set_option maxRecDepth 100000 in
theorem n_any {w : World} :
    Calls Tryd.prog 11 #[] w fun e w' => ∃ v', e = .returned v' ∧ NumIs w' v' QQ ∧ Below w.heap.size w w' := by
  have h := n_num w 22
  go_enter Tryd.func11, Tryd.ntmps11
  go_wp2
  go_ret
  exact ⟨_, rfl, h, (Below.refl _ _).alloc (Nat.le_refl _) _⟩

end Go.Proofs.YtjpnbbhpgchbpaaDoor

namespace Go.Proofs.YtjpnbbhpgchbpaaDoor
open Go.RowKit

/-- the tables of curve and order lie where they lay -/
def GA (w : World) : Prop := GlsC w ∧ GlsO w
theorem GA.below {w w' : World} (G : GA w) (hb : Below w.heap.size w w') : GA w' := ⟨G.1.below hb, G.2.below hb⟩
/-- an error that is a Code itself -/
def codeV (c : Int) : Value := .iface 35 (.int .i64 c)
/-- R of a nonce, S of a secret, a nonce, a digest -/
noncomputable def sigR (k : Int) : Int := xOf (cmul k.toNat GG) % QQ
def sigS (d r h i : Int) : Int := (h + r * d % QQ) % QQ * i % QQ
/-- what Sign tells -/
def SignIs (d k : Int) (D : List Int) (r s : Int) (er : Value) : Prop :=
  (¬ (isSc d ∧ isSc k) → er = codeV 3 ∧ r = 0 ∧ s = 0) ∧ (isSc d → isSc k → (∀ c, decBad D c → er = codeV c ∧ r = 0 ∧ s = 0) ∧
    (D.length = 48 → ∀ i, InvO k i → ((sigR k = 0 ∨ sigS d (sigR k) (beN D % QQ) i = 0) → er = codeV 10 ∧ r = 0 ∧ s = 0) ∧ (¬ (sigR k = 0 ∨ sigS d (sigR k) (beN D % QQ) i = 0) → er = .nilIface ∧ r = sigR k ∧ s = sigS d (sigR k) (beN D % QQ) i)))
/-- the point that is to be looked at -/
def verP (Q : Pt) (h r i : Int) : Pt := cadd (cmul (h * i % QQ).toNat GG) (cmul (r * i % QQ).toNat Q)
/-- does it hold? -/
def holdsP (P : Pt) (r : Int) : Prop := P ≠ none ∧ xOf P % QQ = r
/-- what Verify tells -/
def VerIs (X Y : Int) (n : Bool) (D : List Int) (r s : Int) (er : Value) : Prop :=
  (¬ (n = false ∧ Aff X Y) → er = codeV 4) ∧ (n = false → Aff X Y → (∀ c, decBad D c → er = codeV c) ∧ (D.length = 48 → (¬ (isSc r ∧ isSc s) → er = codeV 3) ∧
    (isSc r → isSc s → ∀ i, InvO s i → (holdsP (verP (some (X, Y)) (beN D % QQ) r i) r → er = .nilIface) ∧ (¬ holdsP (verP (some (X, Y)) (beN D % QQ) r i) r → er = codeV 10))))
end Go.Proofs.YtjpnbbhpgchbpaaDoor

namespace Go.Proofs.YtjpnbbhpgchbpaaDoor
open Go.RowKit

theorem with_keyE {T G : Prop} (main : T → G) (kp : T) : G := main kp
theorem sg_fields : (Tryd.prog.fieldsOf 30).toList.map (fun f => (f.name == "_", f.type, f.offset)) = [(false, 24, 0), (false, 24, 6)] := by kernel_rfl
theorem eqF_cons {P : Program} {w : World} {d : Nat} {xs ys : Array Value} {f : Field} {fs : List Field} {a b : Value} {r : Bool} (hn : (f.name == "_") = false) (ha : ∀ w, (part f.type xs f.offset).run P w = .ok a w) (hb : ∀ w, (part f.type ys f.offset).run P w = .ok b w) (hr : ∀ w, (Op.equalIn d f.type a b).run P w = .ok r w) :
    (Op.eqFields d xs ys (f :: fs)).run P w = if r then (Op.eqFields d xs ys fs).run P w else .ok false w := by
  have : f.name ≠ "_" := by simpa using hn
  rw [Op.eqFields, if_pos this]
  simp only [Sem.run_bind, ha, hb, hr, Result.andThen_ok]
  cases r <;> simp
theorem part_r {ps qs : List Value} {a b : Int} (ha : U6 ps a) (hb : U6 qs b) : ∀ w : World, (part 24 (ps ++ qs).toArray 0).run Tryd.prog w = .ok (.agg ps.toArray) w := fun w => by
  obtain ⟨z0, z1, z2, z3, z4, z5, rfl, _⟩ := ha
  obtain ⟨y0, y1, y2, y3, y4, y5, rfl, _⟩ := hb
  kernel_rfl
theorem part_s {ps qs : List Value} {a b : Int} (ha : U6 ps a) (hb : U6 qs b) : ∀ w : World, (part 24 (ps ++ qs).toArray 6).run Tryd.prog w = .ok (.agg qs.toArray) w := fun w => by
  obtain ⟨z0, z1, z2, z3, z4, z5, rfl, _⟩ := ha
  obtain ⟨y0, y1, y2, y3, y4, y5, rfl, _⟩ := hb
  kernel_rfl
theorem eqU9 {cs ds : List Value} {x y : Int} (h : U6 cs x) (k : U6 ds y) : ∀ w : World, (Op.equalIn 9999 24 (.agg cs.toArray) (.agg ds.toArray)).run Tryd.prog w = .ok (decide (x = y)) w := fun w => by
  obtain ⟨z0, z1, z2, z3, z4, z5, rfl, hf, rfl⟩ := h
  obtain ⟨y0, y1, y2, y3, y4, y5, rfl, kf, rfl⟩ := k
  rw [eql_six9]
  congr 1
  by_cases e : [z0, z1, z2, z3, z4, z5] = [y0, y1, y2, y3, y4, y5]
  · rw [decide_eq_true e, decide_eq_true (by rw [e])]
  · rw [decide_eq_false e, decide_eq_false (fun h => e (v64_inj [z0, z1, z2, z3, z4, z5] [y0, y1, y2, y3, y4, y5] rfl hf kf h))]
theorem eqS {ps qs cs ds : List Value} {a b c d : Int} (ha : U6 ps a) (hb : U6 qs b) (hc : U6 cs c) (hd : U6 ds d) : ∀ w : World, (Op.equalIn 10000 30 (.agg (ps ++ qs).toArray) (.agg (cs ++ ds).toArray)).run Tryd.prog w = .ok (decide (a = c ∧ b = d)) w := fun w => by
  rw [run_equalIn_struct w 9999 30 _ _ (by kernel_rfl) (by kernel_rfl)]
  have hf := sg_fields
  generalize (Tryd.prog.fieldsOf 30).toList = fs at *
  have hl : fs.length = 2 := by simpa using congrArg List.length hf
  match fs, hl, hf with
  | [f0, f1], _, hf =>
    simp only [List.map_cons, List.map_nil, List.cons.injEq, and_true, Prod.mk.injEq] at hf
    obtain ⟨⟨n0, t0, o0⟩, ⟨n1, t1, o1⟩⟩ := hf
    rw [eqF_cons n0 (by rw [t0, o0]; exact part_r ha hb) (by rw [t0, o0]; exact part_r hc hd) (by rw [t0]; exact eqU9 ha hc)]
    rw [eqF_cons n1 (by rw [t1, o1]; exact part_s ha hb) (by rw [t1, o1]; exact part_s hc hd) (by rw [t1]; exact eqU9 hb hd)]
    simp only [Op.eqFields, Sem.run_pure]
    by_cases h1 : a = c <;> by_cases h2 : b = d <;> simp [h1, h2]
theorem wpList_build_run {P : Program} {ops : Array Oper} {rest : List Oper} {o : Oper} {a : Act} {w : World} {Q : Exit → Act → World → Prop} {ty : TypeId} {fs : Array (Nat × Operand)} {ps : List (Nat × Value)} {v : Value} (hw : Region.wanted o (yielded ops a.tmps) = true) (ho : o.op = .build ty fs) (hx : fs.toList.map (fun p => (p.1, a.eval p.2)) = ps) (h : (Instr.build ty ps.toArray).run P w = .ok v w)
    (k : wpList P ops Q rest (a.put o.dst v) w) : wpList P ops Q (o :: rest) a w := by
  refine wpList_step fun K hK => ?_
  simp only [hw, if_true]
  have e : (fs.map fun (p : Nat × Operand) => (p.1, a.eval p.2)) = ps.toArray := by rw [← hx]; exact Array.ext' (by rw [Array.toList_map])
  unfold Oper.wp execOp
  simp only [ho, e, Sem.run_bind, Sem.run_pure, Result.andThen_ok, h]
  exact hK _ _ k
theorem exec_build14 {P : Program} {o : Oper} {a : Act} {w : World} {ty : TypeId} {fs : Array (Nat × Operand)} {ps : List (Nat × Value)} {v : Value} (ho : o.op = .build ty fs) (hx : fs.toList.map (fun p => (p.1, a.eval p.2)) = ps) (h : (Instr.build ty ps.toArray).run P w = .ok v w) : (execOp a.eval o).run P w = .ok (.value v) w := by
  have e : (fs.map fun (p : Nat × Operand) => (p.1, a.eval p.2)) = ps.toArray := by rw [← hx]; exact Array.ext' (by rw [Array.toList_map])
  unfold execOp
  simp only [ho, e, Sem.run_bind, Sem.run_pure, Result.andThen_ok, h]
theorem build_sig {ps qs : List Value} {a b : Int} (ha : U6 ps a) (hb : U6 qs b) : ∀ w : World, (Instr.build 30 #[(0, .agg ps.toArray), (1, .agg qs.toArray)]).run Tryd.prog w = .ok (.agg (ps ++ qs).toArray) w := fun w => by
  obtain ⟨z0, z1, z2, z3, z4, z5, rfl, _⟩ := ha
  obtain ⟨y0, y1, y2, y3, y4, y5, rfl, _⟩ := hb
  kernel_rfl
end Go.Proofs.YtjpnbbhpgchbpaaDoor

namespace Go.Proofs.YtjpnbbhpgchbpaaDoor
open Go.RowKit
theorem uOn {cs : List Value} {X Y : Int} {n : Bool} {w : World} (G : GlsC w) (h : P13R cs X Y n) : Calls Tryd.prog 23 #[.agg cs.toArray] w fun e w' => ∃ b : Bool, e = .returned (.bool b) ∧ (b = true ↔ IsOn n X Y) ∧ Below w.heap.size w w' := by
  obtain ⟨xs, ys, rfl, ⟨s0, s1, s2, s3, s4, s5, rfl, hf, rfl⟩, ⟨t0, t1, t2, t3, t4, t5, rfl, kf, rfl⟩⟩ := h
  obtain ⟨b, hb⟩ : ∃ b : Bool, b = true ↔ IsOn n (v64 [s0, s1, s2, s3, s4, s5]) (v64 [t0, t1, t2, t3, t4, t5]) := by
    classical exact ⟨decide (IsOn n (v64 [s0, s1, s2, s3, s4, s5]) (v64 [t0, t1, t2, t3, t4, t5])), by simp⟩
  refine (con_On (b := b) G hf kf hb).mono ?_
  rintro e w' ⟨rfl, hb2⟩
  exact ⟨b, rfl, hb, hb2⟩
end Go.Proofs.YtjpnbbhpgchbpaaDoor
