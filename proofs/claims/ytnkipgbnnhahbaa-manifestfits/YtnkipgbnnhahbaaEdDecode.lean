/- What ecdsa.Decode answers. -/
import Derived.Test.YtnkipgbnnhahbaaEdSpec2
import Derived.Test.YtnkipgbnnhahbaaDrWrN
import Derived.Test.YtnkipgbnnhahbaaDrTlv
import Derived.Test.YtnkipgbnnhahbaaEdU0
import Derived.Test.YtnkipgbnnhahbaaOBasePl
import Derived.Test.YtnkipgbnnhahbaaHeld
import Derived.Test.YtnkipgbnnhahbaaSixK
import Derived.Test.YtnkipgbnnhahbaaMMath
import Derived.Test.YtnkipgbnnhahbaaByt
import Derived.Test.YtnkipgbnnhahbaaBase
import Derived.Test.YtnkipgbnnhahbaaPut
import Derived.Test.YtnkipgbnnhahbaaEdRow0
import Derived.Test.YtnkipgbnnhahbaaWpRow
import Derived.Test.YtnkipgbnnhahbaaTakeRow
import Derived.Test.YtnkipgbnnhahbaaApBs
import Derived.Test.YtnkipgbnnhahbaaDrOwn
import Derived.Test.YtnkipgbnnhahbaaDrDep
import Derived.Test.YtnkipgbnnhahbaaPrNumber
import Derived.Test.YtnkipgbnnhahbaaEdCode
import Derived.Test.YtnkipgbnnhahbaaDrErr
import Derived.Test.YtnkipgbnnhahbaaDrCode
import Derived.Test.YtnkipgbnnhahbaaRows
import Derived.Deep.RegionHeld3
import Derived.Shelf.Spec.BitsCarry
import Derived.Deep.QuietTactic
import Derived.BigQuiet
import Derived.Deep.WholeRow
import Derived.Deep.DeepCutAuto
import Derived.Deep.DeepFit
import Derived.Deep.OwnRows
import Derived.Deep.AppendLies
import Derived.Great.BuildSlice
import Derived.Laws.Rows
import Derived.Laws.StructEq
namespace Go.Proofs.Ytnkipgbnnhahbaa
open Go.RowKit
/-- what Decode tells -/
def DecR (w : World) (B : List Int) (e : Ending) (w' : World) : Prop := (∀ c p, parseP B = .error (c, p) → ∃ er : Value, e = .returned (.tuple #[.agg #[.int .u64 0, .int .u64 0, .int .u64 0, .int .u64 0, .int .u64 0, .int .u64 0, .int .u64 0, .int .u64 0, .int .u64 0, .int .u64 0, .int .u64 0, .int .u64 0], er]) ∧ ErAt w' c p er ∧ Below w.heap.size w w') ∧ (∀ T, parseP B = .ok T → (sigP T = none → e = .returned (.tuple #[.agg #[.int .u64 0, .int .u64 0, .int .u64 0, .int .u64 0, .int .u64 0, .int .u64 0, .int .u64 0, .int .u64 0, .int .u64 0, .int .u64 0, .int .u64 0, .int .u64 0], codeV 7]) ∧ Below w.heap.size w w') ∧ (∀ x y, sigP T = some (x, y) → (¬ (isSc (beN x) ∧ isSc (beN y)) → e = .returned (.tuple #[.agg #[.int .u64 0, .int .u64 0, .int .u64 0, .int .u64 0, .int .u64 0, .int .u64 0, .int .u64 0, .int .u64 0, .int .u64 0, .int .u64 0, .int .u64 0, .int .u64 0], codeV 3]) ∧ Below w.heap.size w w') ∧ (isSc (beN x) → isSc (beN y) → ∃ rs ss, e = .returned (.tuple #[.agg (rs ++ ss).toArray, .nilIface]) ∧ U6 rs (beN x) ∧ U6 ss (beN y) ∧ Below w.heap.size w w')))
theorem DecR.bad {w w' : World} {B : List Int} {c p : Nat} {er : Value} (h : parseP B = .error (c, p)) (k : ErAt w' c p er) (bel : Below w.heap.size w w') : DecR w B (.returned (.tuple #[.agg #[.int .u64 0, .int .u64 0, .int .u64 0, .int .u64 0, .int .u64 0, .int .u64 0, .int .u64 0, .int .u64 0, .int .u64 0, .int .u64 0, .int .u64 0, .int .u64 0], er])) w' :=
  ⟨fun c2 p2 h2 => (by rw [h] at h2; cases h2; exact ⟨er, rfl, k, bel⟩), fun T h2 => (by rw [h] at h2; cases h2)⟩
theorem DecR.form {w w' : World} {B : List Int} {T : Tl} (h : parseP B = .ok T) (k : sigP T = none) (bel : Below w.heap.size w w') : DecR w B (.returned (.tuple #[.agg #[.int .u64 0, .int .u64 0, .int .u64 0, .int .u64 0, .int .u64 0, .int .u64 0, .int .u64 0, .int .u64 0, .int .u64 0, .int .u64 0, .int .u64 0, .int .u64 0], .iface 38 (.int .i64 7)])) w' :=
  ⟨fun c2 p2 h2 => (by rw [h] at h2; cases h2), fun T2 h2 => (by rw [h] at h2; cases h2; exact ⟨fun _ => ⟨rfl, bel⟩, fun x y h3 => (by rw [k] at h3; cases h3)⟩)⟩
theorem DecR.range {w w' : World} {B : List Int} {T : Tl} {x y : List Int} (h : parseP B = .ok T) (k : sigP T = some (x, y)) (hn : ¬ (isSc (beN x) ∧ isSc (beN y))) (bel : Below w.heap.size w w') : DecR w B (.returned (.tuple #[.agg #[.int .u64 0, .int .u64 0, .int .u64 0, .int .u64 0, .int .u64 0, .int .u64 0, .int .u64 0, .int .u64 0, .int .u64 0, .int .u64 0, .int .u64 0, .int .u64 0], .iface 38 (.int .i64 3)])) w' :=
  ⟨fun c2 p2 h2 => (by rw [h] at h2; cases h2), fun T2 h2 => (by rw [h] at h2; cases h2; exact ⟨fun h3 => (by rw [k] at h3; cases h3), fun x2 y2 h3 => (by rw [k] at h3; cases h3; exact ⟨fun _ => ⟨rfl, bel⟩, fun a b => absurd ⟨a, b⟩ hn⟩)⟩)⟩
theorem DecR.ok {w w' : World} {B : List Int} {T : Tl} {x y : List Int} {rs ss us : List Value} (h : parseP B = .ok T) (k : sigP T = some (x, y)) (hr : U6 rs (beN x)) (hs : U6 ss (beN y)) (h1 : isSc (beN x)) (h2 : isSc (beN y)) (hu : rs ++ ss = us) (bel : Below w.heap.size w w') : DecR w B (.returned (.tuple #[.agg us.toArray, .nilIface])) w' :=
  ⟨fun c2 p2 h2 => (by rw [h] at h2; cases h2), fun T2 h3 => (by rw [h] at h3; cases h3; exact ⟨fun h4 => (by rw [k] at h4; cases h4), fun x2 y2 h4 => (by rw [k] at h4; cases h4; exact ⟨fun hn => absurd ⟨h1, h2⟩ hn, fun _ _ => ⟨rs, ss, by rw [hu], hr, hs, bel⟩⟩)⟩)⟩
theorem ErAt.ne {w : World} {c p : Nat} {er : Value} (h : ErAt w c p er) : ∀ w : World, (binOp .neq 27 er .nilIface).run Try.prog w = .ok (.bool true) w := fun w => by
  rcases h with ⟨_, rfl⟩ | ⟨_, g, rfl, _⟩
  · kernel_rfl
  · kernel_rfl
/-- what was read of the kids so far -/
def RdTo (w : World) (gt : Nat) (ks : List Tl) (i : Nat) (X : List Value) : Prop := (∀ j, j < 2 → ∃ a n c, X[j]? = some (.slice a n c)) ∧ ∀ j, j < i → ∃ k n v, ks[j]? = some k ∧ partP k = some n ∧ X[j]? = some v ∧ Bs w v n ∧ (∀ a m c, v = .slice (some a) m c → 0 < m → a.block ≠ gt) ∧ byt n ∧ n.length ≤ 64 ∧ (48 < n.length → QQ ≤ beN n)
theorem RdTo.later {w w' : World} {gt i : Nat} {ks : List Tl} {X : List Value} (h : RdTo w gt ks i X) (hb : Below w.heap.size w w') : RdTo w' gt ks i X :=
  ⟨h.1, fun j hj => by obtain ⟨k, n, v, h1, h2, h3, h4, h5⟩ := h.2 j hj; exact ⟨k, n, v, h1, h2, h3, h4.later hb, h5⟩⟩
theorem bs_cellC {w : World} {v u : Value} {n : List Int} {g k : Nat} (h : Bs w v n) (hg : ∀ a m c, v = .slice (some a) m c → 0 < m → a.block ≠ g) : Bs (w.setCell ⟨g, k, none⟩ u) v n := by
  obtain ⟨ao, cp, e, h1, h2, h3⟩ := h
  refine ⟨ao, cp, e, h1, h2, fun h0 => ?_⟩
  obtain ⟨b, o, e2, hb, hc⟩ := h3 h0
  have hne : b ≠ g := hg ⟨b, o, none⟩ _ _ (by rw [e, e2]) h0
  refine ⟨b, o, e2, by simpa using hb, fun j hj => ?_⟩
  rw [World.cell?_setCell_far _ _ _ _ (by exact fun h => hne h.symm)]
  exact hc j hj
theorem RdTo.next {w : World} {gt i : Nat} {ks : List Tl} {X : List Value} {k : Tl} {n : List Int} {a : Option Addr} {m c : Nat} (h : RdTo w gt ks i X) (hX : X.length = 2) (hi : i < 2) (hk : ks[i]? = some k) (hp : partP k = some n) (hv : Bs w (.slice a m c) n) (hg : ∀ b m' c', Value.slice a m c = .slice (some b) m' c' → 0 < m' → b.block ≠ gt) (hb : byt n) (hl : n.length ≤ 64) (hq : 48 < n.length → QQ ≤ beN n) : RdTo (w.setCell ⟨gt, i, none⟩ (.slice a m c)) gt ks (i + 1) (X.set i (.slice a m c)) := by
  refine ⟨fun j hj => ?_, fun j hj => ?_⟩
  · by_cases e : j = i
    · subst e
      exact ⟨_, _, _, List.getElem?_set_self (by omega)⟩
    · rw [List.getElem?_set_ne (fun h => e h.symm)]
      exact h.1 j hj
  · by_cases e : j = i
    · subst e
      exact ⟨k, n, _, hk, hp, List.getElem?_set_self (by omega), bs_cellC hv hg, hg, hb, hl, hq⟩
    · rw [List.getElem?_set_ne (fun h => e h.symm)]
      obtain ⟨k', n', v, h1, h2, h3, h4, h5, h6⟩ := h.2 j (by omega)
      exact ⟨k', n', v, h1, h2, h3, bs_cellC h4 h5, h5, h6⟩
theorem two_kidsC {ks : List Tl} {a b : Tl} (h : ks.length = 2) (ha : ks[0]? = some a) (hb : ks[1]? = some b) : ks = [a, b] := by
  match ks, h, ha, hb with
  | [x, y], _, ha, hb =>
    simp at ha hb
    rw [ha, hb]
theorem two_cells {X : List Value} {a b : Value} (h : X.length = 2) (ha : X[0]? = some a) (hb : X[1]? = some b) : X = [a, b] := by
  match X, h, ha, hb with
  | [x, y], _, ha, hb =>
    simp at ha hb
    rw [ha, hb]
theorem er_row {w : World} {c p g : Nat} {er : Value} {cs : Array Value} (h : ErAt w c p er) (hg : ∀ k, er = .iface 77 (.pointer (some ⟨k, 0, none⟩)) → k ≠ g) : ErAt (w.setRow g cs) c p er := by
  rcases h with h | ⟨h, k, rfl, B⟩
  · exact .inl h
  · exact .inr ⟨h, k, rfl, B.row (hg k rfl)⟩
end Go.Proofs.Ytnkipgbnnhahbaa
