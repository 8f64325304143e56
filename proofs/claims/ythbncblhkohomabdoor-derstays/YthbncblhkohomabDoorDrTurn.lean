/- Other bytes in the same place. -/
import Derived.Test.YthbncblhkohomabDoorRows
import Derived.Test.YthbncblhkohomabDoorDrDep
import Derived.Deep.WholeRow
import Derived.Deep.RegionHeld3
import Derived.Deep.DeepCutAuto
import Derived.Deep.DeepFit
namespace Go.Proofs.YthbncblhkohomabDoor
open Go.RowKit

/-- bytes that may be turned: none, or such as lie in a block at or behind lo and below hi -/
def TurnOk (lo hi : Nat) (w : World) (v : Value) : Prop := (∃ ao cap, v = .slice ao 0 cap) ∨ ∃ g o n cap cur, v = .slice (some ⟨g, o, none⟩) n cap ∧ n ≤ 1099511627776 ∧ lo ≤ g ∧ g < hi ∧ Blk w g cur ∧ ∀ j, j < n → ∃ y : Int, cur[o + j]? = some (.int .u8 y)
theorem TurnOk.later {lo hi : Nat} {w w' : World} {v : Value} (h : TurnOk lo hi w v) (hb : Below w.heap.size w w') : TurnOk lo hi w' v := by
  rcases h with h | ⟨g, o, n, cap, cur, h1, h2, h3, h4, h5, h6⟩
  · exact .inl h
  · exact .inr ⟨g, o, n, cap, cur, h1, h2, h3, h4, h5.later hb, h6⟩
/-- what stays where bytes are turned -/
def Turned (lo hi : Nat) (w w' : World) : Prop := Agr (fun b => hi ≤ b) w w' ∧ ∀ B a, B ≤ lo → Below B a w → Below B a w'
set_option linter.unusedSimpArgs false in
set_option maxRecDepth 100000 in
theorem con_turn {lo hi : Nat} {v : Value} {w : World} (h : TurnOk lo hi w v) :
    Calls Tryd.prog 7 #[v] w fun e w' => e = .returned (.tuple #[]) ∧ Turned lo hi w w' := by
  rcases h with ⟨ao, cap, rfl⟩ | ⟨g, o, n, cap, cur, rfl, hn, hlo, hhi, B0, hc⟩
  · go_enter Tryd.func7, Tryd.ntmps7
    go_wp2_with fail
    go_loop [2] (fun cv => cv = .int .i64 0) (fun _ => 0)
    case atStart => rfl
    case round =>
      subst hrel
      go_wp2_with fail
      exact bodyPost_end (v := .tuple #[]) (by simp [results, Tryd.results7, go_sem]) rfl ⟨rfl, Agr.refl _ _, fun _ _ _ h => h⟩
  · have HC : Hid (∀ j, j < n → ∃ y : Int, cur[o + j]? = some (.int .u8 y)) := hc
    clear hc
    go_enter Tryd.func7, Tryd.ntmps7
    go_wp2_with fail
    obtain ⟨W, hW⟩ : ∃ z, z = w := ⟨_, rfl⟩
    rw [← hW] at B0 ⊢
    have HW : Hid (W = w) := hW
    clear hW
    go_loopw [2] (fun iv wx => ∃ (i : Nat) (X : List Value), i ≤ n ∧ iv = .int .i64 (i : Int) ∧ Blk wx g X ∧ Hid (∀ j, j < n → ∃ y : Int, X[o + j]? = some (.int .u8 y)) ∧ Hid (Turned lo hi W wx)) (fun iv _ => n - (intOf iv).toNat)
    case atStart => exact ⟨0, cur, by omega, rfl, B0, HC, ⟨Agr.refl _ _, fun _ _ _ h => h⟩⟩
    case round =>
      clear B0 HC
      obtain ⟨i, X, hi2, rfl, B0, HC, HT⟩ := hrel
      by_cases hil : i < n
      · have g1 : (i : Int) < (n : Int) := by omega
        have g2 : (0 : Int) ≤ (i : Int) := by omega
        have gi : IntKind.i64.wrap ((i : Int) + 1) = (i : Int) + 1 := by rw [IntKind.wrap_i64]; omega
        obtain ⟨y, hy⟩ := HC.out i hil
        have cy := B0.cell (o + i) _ hy
        have fz := B0.frozen (o + i)
        have l0 := B0.lt
        have B1 := B0.set (o + i) (.int .u8 (bits .xor .u8 y 255))
        have HC1 : Hid (∀ j, j < n → ∃ z : Int, (X.set (o + i) (.int .u8 (bits .xor .u8 y 255)))[o + j]? = some (.int .u8 z)) := fun j hj => by
          have hl := (List.getElem?_eq_some_iff.1 hy).1
          by_cases e : j = i
          · subst e
            exact ⟨_, List.getElem?_set_self hl⟩
          · obtain ⟨z, hz⟩ := HC.out j hj
            exact ⟨z, by rw [List.getElem?_set_ne (by omega)]; exact hz⟩
        have HT1 : Hid (Turned lo hi W (wr.setCell ⟨g, o + i, none⟩ (.int .u8 (bits .xor .u8 y 255)))) := ⟨Agr.cell HT.out.1 (by show ¬ hi ≤ g; omega), fun B a hB hl => (HT.out.2 B a hB hl).setCell (by show B ≤ g; omega) _⟩
        clear hy HC HT B0
        go_wp2_with fail
        go_roundw
        case rel => exact ⟨i + 1, _, by omega, by go_num, B1, HC1, HT1⟩
        case measure => simp [intOf]; omega
      · have g1 : ¬ (i : Int) < (n : Int) := by omega
        go_wp2_with fail
        exact bodyPost_end (v := .tuple #[]) (by simp [results, Tryd.results7, go_sem]) rfl ⟨rfl, by rw [← HW.out]; exact HT.out⟩
end Go.Proofs.YthbncblhkohomabDoor
