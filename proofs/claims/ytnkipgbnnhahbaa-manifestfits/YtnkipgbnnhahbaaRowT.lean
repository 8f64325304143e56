/- Elements that are handed in: from the row's reading to the walk's words. -/
import Derived.Test.YtnkipgbnnhahbaaRowB
import Derived.Test.YtnkipgbnnhahbaaDrDep
import Derived.ChangeArms
import Derived.ChangeOld
namespace Go.Proofs.Ytnkipgbnnhahbaa
open Go.ChangeShapes Go.WideShapes Go.ChangeAt Go.RowKit
theorem cells_tlv : Try.prog.cellsOf 42 = 5 := by kernel_rfl
theorem cells_int12 : Try.prog.cellsOf 3 = 1 := by kernel_rfl
theorem cells_bool12 : Try.prog.cellsOf 4 = 1 := by kernel_rfl
theorem cells_bs12 : Try.prog.cellsOf 22 = 1 := by kernel_rfl
theorem cells_ks12 : Try.prog.cellsOf 40 = 1 := by kernel_rfl
theorem wf_int12 {n : Int} : (Lit.int .i64 n).wf = true ↔ -9223372036854775808 ≤ n ∧ n < 9223372036854775808 := by
  have h1 : IntKind.i64.min = -9223372036854775808 := rfl
  have h2 : IntKind.i64.max = 9223372036854775807 := rfl
  simp [Lit.wf, h1, h2]
  omega
theorem bytes_open {H : Type} {enc : TypeId × Value → H} {w : World} {fuel : Nat} {v : Value} {x : DataW H × List MemPlace} (h : DataW.trod enc Try.prog w 0 (fun _ => true) true fuel 22 [v] = some x) : ∃ bs, Bs w v bs ∧ byt bs := by
  rcases open_ints Try.underlying22 Try.underlying5 (by kernel_rfl) h with ⟨hcs, _⟩ | ⟨a, l, c, zs, hcs, _, hl, hm, hz, _, hcell, hwz⟩
  · simp at hcs
    subst hcs
    exact ⟨[], ⟨none, 0, rfl, Nat.zero_le _, Nat.le_refl _, fun h => absurd h (by simp)⟩, fun j => by simp⟩
  · simp at hcs
    subst hcs
    have := row_bytes hl hm (by simpa using hz) hcell hwz
    exact ⟨_, this.1, this.2⟩
theorem add_none12 (b o j : Nat) : (⟨b, o, none⟩ : Addr).add j = ⟨b, o + j, none⟩ := by unfold Addr.add; split <;> simp_all
theorem cells_five {w : World} {a : Addr} {cs : List Value} (h : w.cells? 0 a 5 = some cs) : cs.length = 5 ∧ ∀ j v, cs[j]? = some v → w.cell? (a.add j) = some v := by
  unfold World.cells? at h
  rw [if_pos (Nat.zero_le _)] at h
  have e : List.range 5 = [0, 1, 2, 3, 4] := rfl
  rw [e] at h
  simp only [List.mapM_cons, List.mapM_nil, Option.bind_eq_bind, Option.pure_def, Option.bind_eq_some_iff, Option.some.injEq] at h
  obtain ⟨v0, h0, t0, ⟨v1, h1, t1, ⟨v2, h2, t2, ⟨v3, h3, t3, ⟨v4, h4, t4, rfl, rfl⟩, rfl⟩, rfl⟩, rfl⟩, rfl⟩ := h
  refine ⟨rfl, fun j v hj => ?_⟩
  match j, hj with
  | 0, hj => rw [h0]; simpa using hj
  | 1, hj => rw [h1]; simpa using hj
  | 2, hj => rw [h2]; simpa using hj
  | 3, hj => rw [h3]; simpa using hj
  | 4, hj => rw [h4]; simpa using hj
theorem WfL.snoc : ∀ {ks : List Tl} {T : Tl}, WfL ks → WfT T → WfL (ks ++ [T])
  | [], T, _, h => by rw [List.nil_append, WfL, WfL]; exact ⟨h, trivial⟩
  | k :: ks, T, hk, h => by
    rw [WfL] at hk
    rw [List.cons_append, WfL]
    exact ⟨hk.1, WfL.snoc hk.2 h⟩
theorem kids_open {w : World} {x : Addr} : ∀ (n : Nat), (∀ i, i < n → ∃ T cs, (∀ j v, cs[j]? = some v → w.cell? (x.add (i * 5 + j)) = some v) ∧ TlAt w T cs ∧ WfT T) → ∃ ks : List Tl, ks.length = n ∧ WfL ks ∧ ∀ i k, ks[i]? = some k → ∃ cs, (∀ j v, cs[j]? = some v → w.cell? (x.add (i * 5 + j)) = some v) ∧ TlAt w k cs
  | 0, _ => ⟨[], rfl, by rw [WfL]; trivial, fun i k h => by simp at h⟩
  | n + 1, h => by
    obtain ⟨ks, h1, h2, h3⟩ := kids_open n (fun i hi => h i (by omega))
    obtain ⟨T, cs, c1, c2, c3⟩ := h n (by omega)
    refine ⟨ks ++ [T], by rw [List.length_append, h1]; rfl, WfL.snoc h2 c3, fun i k hk => ?_⟩
    by_cases hi : i < ks.length
    · rw [List.getElem?_append_left hi] at hk
      exact h3 i k hk
    · have hl := (List.getElem?_eq_some_iff.1 hk).1
      rw [List.length_append] at hl
      have ei : i = n := by simp at hl; omega
      subst ei
      rw [List.getElem?_append_right (by omega), h1, Nat.sub_self] at hk
      simp at hk
      subst hk
      exact ⟨cs, c1, c2⟩
/-- what reads as an element is one -/
theorem open_tlv {H : Type} {enc : TypeId × Value → H} {w : World} : ∀ (fuel : Nat) (cs : List Value) (x : DataW H × List MemPlace), DataW.trod enc Try.prog w 0 (fun _ => true) true fuel 42 cs = some x → ∃ T, TlAt w T cs ∧ WfT T := by
  intro fuel
  induction fuel using Nat.strongRecOn with
  | _ fuel IH =>
  intro cs x h
  obtain ⟨xs, n, rfl, _, hl, hlen, hf⟩ := DataW.trod_struct Try.underlying42 h
  rw [cells_tlv] at hl
  obtain ⟨a, b, c, d, e, rfl⟩ := five hl
  have some5 : ∀ i, i < 5 → ∃ y, xs[i]? = some y := fun i hi => ⟨_, List.getElem?_eq_getElem (by rw [hlen]; exact hi)⟩
  obtain ⟨y0, s0⟩ := some5 0 (by decide)
  obtain ⟨y1, s1⟩ := some5 1 (by decide)
  obtain ⟨y2, s2⟩ := some5 2 (by decide)
  obtain ⟨y3, s3⟩ := some5 3 (by decide)
  obtain ⟨y4, s4⟩ := some5 4 (by decide)
  have f0 : DataW.trod enc Try.prog w 0 (fun _ => true) true n 3 (([a, b, c, d, e].drop 0).take (Try.prog.cellsOf 3)) = some y0 := (hf 0 _ rfl).trans s0
  rw [cells_int12] at f0
  replace f0 : DataW.trod enc Try.prog w 0 (fun _ => true) true n 3 [a] = some y0 := f0
  have f1 : DataW.trod enc Try.prog w 0 (fun _ => true) true n 3 (([a, b, c, d, e].drop 1).take (Try.prog.cellsOf 3)) = some y1 := (hf 1 _ rfl).trans s1
  rw [cells_int12] at f1
  replace f1 : DataW.trod enc Try.prog w 0 (fun _ => true) true n 3 [b] = some y1 := f1
  have f2 : DataW.trod enc Try.prog w 0 (fun _ => true) true n 4 (([a, b, c, d, e].drop 2).take (Try.prog.cellsOf 4)) = some y2 := (hf 2 _ rfl).trans s2
  rw [cells_bool12] at f2
  replace f2 : DataW.trod enc Try.prog w 0 (fun _ => true) true n 4 [c] = some y2 := f2
  have f3 : DataW.trod enc Try.prog w 0 (fun _ => true) true n 22 (([a, b, c, d, e].drop 3).take (Try.prog.cellsOf 22)) = some y3 := (hf 3 _ rfl).trans s3
  rw [cells_bs12] at f3
  replace f3 : DataW.trod enc Try.prog w 0 (fun _ => true) true n 22 [d] = some y3 := f3
  have f4 : DataW.trod enc Try.prog w 0 (fun _ => true) true n 40 (([a, b, c, d, e].drop 4).take (Try.prog.cellsOf 40)) = some y4 := (hf 4 _ rfl).trans s4
  rw [cells_ks12] at f4
  replace f4 : DataW.trod enc Try.prog w 0 (fun _ => true) true n 40 [e] = some y4 := f4
  obtain ⟨n0, e0, _, w0⟩ := DataW.trod_int Try.underlying3 f0
  obtain ⟨n1, e1, _, w1⟩ := DataW.trod_int Try.underlying3 f1
  obtain ⟨m, e2, _⟩ := DataW.trod_bool Try.underlying4 f2
  obtain ⟨bs, hbs, hbyt⟩ := bytes_open f3
  simp only [List.cons.injEq, and_true] at e0 e1 e2
  subst e0 e1 e2
  rcases DataW.trod_slice Try.underlying40 f4 with ⟨e4, _⟩ | ⟨ad, len, cap, elems, rest, n', hn', e4, _, _, hlc, hcm, hel, hea, _, _⟩
  · simp only [List.cons.injEq, and_true] at e4
    subst e4
    refine ⟨.mk n0 n1 m bs [], ?_, ?_⟩
    · rw [TlAt]
      exact ⟨d, none, 0, rfl, hbs, by simp, by decide, fun h => by simp at h⟩
    · rw [WfT, WfL]
      exact ⟨wf_int12.1 w0, wf_int12.1 w1, hbyt, trivial⟩
  · simp only [List.cons.injEq, and_true] at e4
    subst e4
    have each : ∀ i, i < len → ∃ T cs, (∀ j v, cs[j]? = some v → w.cell? (ad.add (i * 5 + j)) = some v) ∧ TlAt w T cs ∧ WfT T := fun i hi => by
      have hi2 := hea i hi
      rw [cells_tlv, List.getElem?_eq_getElem (by omega)] at hi2
      obtain ⟨cs, hc1, hc2⟩ := Option.bind_eq_some_iff.1 hi2
      obtain ⟨T, t1, t2⟩ := IH n' (by omega) cs _ hc2
      refine ⟨T, cs, fun j v hj => ?_, t1, t2⟩
      have := (cells_five hc1).2 j v hj
      rw [Addr.add_add] at this
      exact this
    obtain ⟨ks, k1, k2, k3⟩ := kids_open len each
    refine ⟨.mk n0 n1 m bs ks, ?_, ?_⟩
    · rw [TlAt]
      refine ⟨d, some ad, cap, by rw [k1], hbs, by omega, hcm, fun h0 => ?_⟩
      obtain ⟨g, o, spot⟩ := ad
      obtain ⟨k, hk⟩ : ∃ k, ks[0]? = some k := ⟨_, List.getElem?_eq_getElem h0⟩
      obtain ⟨cs, hc, ht⟩ := k3 0 k hk
      have c0 := hc 0 _ (List.getElem?_eq_getElem (by rw [ht.five]; decide))
      have hs : spot = none := by simpa [Addr.add] using World.cell?_spot c0
      subst hs
      have hb := World.block_lt_of_cell? w _ c0
      refine ⟨g, o, rfl, kids_at (fun i k hi => ?_)⟩
      obtain ⟨cs, hc, ht⟩ := k3 i k hi
      refine ⟨cs, ⟨by simpa [Addr.add] using hb, fun j v hj => ?_⟩, ht⟩
      have := hc j v hj
      rw [add_none12] at this
      rw [show o + 5 * i + j = o + (i * 5 + j) by omega]
      exact this
    · rw [WfT]
      exact ⟨wf_int12.1 w0, wf_int12.1 w1, hbyt, k2⟩
end Go.Proofs.Ytnkipgbnnhahbaa
