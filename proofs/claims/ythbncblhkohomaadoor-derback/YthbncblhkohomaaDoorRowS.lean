/- Elements that are handed in, with the form's own reach: every body is one that a machine bears. -/
import Derived.Test.YthbncblhkohomaaDoorRowT
import Derived.Test.YthbncblhkohomaaDoorDcNum
import Derived.SizedLaws
namespace Go.Proofs.YthbncblhkohomaaDoor
open Go.ChangeShapes Go.WideShapes Go.ChangeAt Go.RowKit

theorem byt1_tlv : Tryd.prog.bytesOf 5 = 1 := by kernel_rfl
theorem SmL.snoc : ∀ {ks : List Tl} {T : Tl}, SmL ks → SmT T → SmL (ks ++ [T])
  | [], T, _, h => by rw [List.nil_append, SmL, SmL]; exact ⟨h, trivial⟩
  | k :: ks, T, hk, h => by
    rw [SmL] at hk
    rw [List.cons_append, SmL]
    exact ⟨hk.1, SmL.snoc hk.2 h⟩
theorem bytes_openS {H : Type} {enc : TypeId × Value → H} {w : World} {fuel : Nat} {v : Value} {x : DataW H × List MemPlace} (h : DataW.trod enc Tryd.prog w 0 (fun _ => true) true fuel 22 [v] = some x) (hs : ∀ n ∈ x.1.weights Tryd.prog 22, n ≤ reachBytes) : ∃ bs, Bs w v bs ∧ byt bs ∧ bs.length ≤ 140737488355328 := by
  rcases open_ints Tryd.underlying22 Tryd.underlying5 (by kernel_rfl) h with ⟨hcs, _⟩ | ⟨a, l, c, zs, hcs, _, hl, hm, hz, hx, hcell, hwz⟩
  · simp at hcs
    subst hcs
    exact ⟨[], ⟨none, 0, rfl, Nat.zero_le _, Nat.le_refl _, fun h => absurd h (by simp)⟩, fun j => by simp, by simp⟩
  · simp at hcs
    subst hcs
    have hb := row_bytes hl hm (by simpa using hz) hcell hwz
    refine ⟨_, hb.1, hb.2, ?_⟩
    have e : x.1 = .slice (lits .u8 (zs.take l)) (lits .u8 (zs.drop l)) := congrArg Prod.fst hx
    have s := hs (((lits (H := H) .u8 (zs.take l)).length + (lits (H := H) .u8 (zs.drop l)).length) * Tryd.prog.bytesOf 5) (by rw [e]; simp [DataW.weights, Tryd.underlying22])
    rw [byt1_tlv] at s
    simp only [lits, List.length_map, List.length_take, List.length_drop, reachBytes] at s
    rw [List.length_take]
    omega
theorem mem_allS {H : Type} {P : Program} {e : TypeId} : ∀ {l : List (DataW H)} {i : Nat} {d : DataW H}, l[i]? = some d → ∀ n ∈ d.weights P e, n ∈ DataW.weightsAll P e l
  | [], i, d, h, n, hn => by simp at h
  | x :: xs, 0, d, h, n, hn => by
    simp at h
    subst h
    rw [DataW.weightsAll]
    exact List.mem_append_left _ hn
  | x :: xs, i + 1, d, h, n, hn => by
    rw [List.getElem?_cons_succ] at h
    rw [DataW.weightsAll]
    exact List.mem_append_right _ (mem_allS h n hn)
/-- the types of an element's parts -/
def tlvTypes : List TypeId := [3, 3, 4, 22, 24]
theorem kids_openS {w : World} {x : Addr} : ∀ (n : Nat), (∀ i, i < n → ∃ T cs, (∀ j v, cs[j]? = some v → w.cell? (x.add (i * 5 + j)) = some v) ∧ TlAt w T cs ∧ WfT T ∧ SmT T) → ∃ ks : List Tl, ks.length = n ∧ WfL ks ∧ SmL ks ∧ ∀ i k, ks[i]? = some k → ∃ cs, (∀ j v, cs[j]? = some v → w.cell? (x.add (i * 5 + j)) = some v) ∧ TlAt w k cs
  | 0, _ => ⟨[], rfl, by rw [WfL]; trivial, by rw [SmL]; trivial, fun i k h => by simp at h⟩
  | n + 1, h => by
    obtain ⟨ks, h1, h2, h2s, h3⟩ := kids_openS n (fun i hi => h i (by omega))
    obtain ⟨T, cs, c1, c2, c3, c3s⟩ := h n (by omega)
    refine ⟨ks ++ [T], by rw [List.length_append, h1]; rfl, WfL.snoc h2 c3, SmL.snoc h2s c3s, fun i k hk => ?_⟩
    by_cases hi : i < ks.length
    · rw [List.getElem?_append_left hi] at hk
      exact h3 i k hk
    · have hl := (List.getElem?_eq_some_iff.1 hk).1
      rw [List.length_append] at hl
      have ei : i = n := by simp at hl; omega
      subst ei
      rw [List.getElem?_append_right (by omega), h1, Nat.sub_self] at hk
      simp at hk
      subst hk
      exact ⟨cs, c1, c2⟩
/-- what reads as an element is one, and no body of it is too great -/
theorem open_tlvS {H : Type} {enc : TypeId × Value → H} {w : World} : ∀ (fuel : Nat) (cs : List Value) (x : DataW H × List MemPlace), DataW.trod enc Tryd.prog w 0 (fun _ => true) true fuel 26 cs = some x → (∀ n ∈ x.1.weights Tryd.prog 26, n ≤ reachBytes) → ∃ T, TlAt w T cs ∧ WfT T ∧ SmT T := by
  intro fuel
  induction fuel using Nat.strongRecOn with
  | _ fuel IH =>
  intro cs x h hs
  obtain ⟨xs, n, rfl, hx0, hl, hlen, hf⟩ := DataW.trod_struct Tryd.underlying26 h
  have hs2 : ∀ (j : Nat) (t : TypeId) (y : DataW H × List MemPlace), tlvTypes[j]? = some t → xs[j]? = some y → ∀ n ∈ y.1.weights Tryd.prog t, n ≤ reachBytes := fun j t y ht hy n hn => hs n (by
    rw [hx0]
    simp only [DataW.weights, Tryd.underlying26]
    exact DataW.weights_mem_each (j := j) (t := t) (d := y.1) ht (by rw [List.getElem?_map, hy]; rfl) n hn)
  rw [cells_tlv] at hl
  obtain ⟨a, b, c, d, e, rfl⟩ := five hl
  have some5 : ∀ i, i < 5 → ∃ y, xs[i]? = some y := fun i hi => ⟨_, List.getElem?_eq_getElem (by rw [hlen]; exact hi)⟩
  obtain ⟨y0, s0⟩ := some5 0 (by decide)
  obtain ⟨y1, s1⟩ := some5 1 (by decide)
  obtain ⟨y2, s2⟩ := some5 2 (by decide)
  obtain ⟨y3, s3⟩ := some5 3 (by decide)
  obtain ⟨y4, s4⟩ := some5 4 (by decide)
  have f0 : DataW.trod enc Tryd.prog w 0 (fun _ => true) true n 3 (([a, b, c, d, e].drop 0).take (Tryd.prog.cellsOf 3)) = some y0 := (hf 0 _ rfl).trans s0
  rw [cells_int12] at f0
  replace f0 : DataW.trod enc Tryd.prog w 0 (fun _ => true) true n 3 [a] = some y0 := f0
  have f1 : DataW.trod enc Tryd.prog w 0 (fun _ => true) true n 3 (([a, b, c, d, e].drop 1).take (Tryd.prog.cellsOf 3)) = some y1 := (hf 1 _ rfl).trans s1
  rw [cells_int12] at f1
  replace f1 : DataW.trod enc Tryd.prog w 0 (fun _ => true) true n 3 [b] = some y1 := f1
  have f2 : DataW.trod enc Tryd.prog w 0 (fun _ => true) true n 4 (([a, b, c, d, e].drop 2).take (Tryd.prog.cellsOf 4)) = some y2 := (hf 2 _ rfl).trans s2
  rw [cells_bool12] at f2
  replace f2 : DataW.trod enc Tryd.prog w 0 (fun _ => true) true n 4 [c] = some y2 := f2
  have f3 : DataW.trod enc Tryd.prog w 0 (fun _ => true) true n 22 (([a, b, c, d, e].drop 3).take (Tryd.prog.cellsOf 22)) = some y3 := (hf 3 _ rfl).trans s3
  rw [cells_bs12] at f3
  replace f3 : DataW.trod enc Tryd.prog w 0 (fun _ => true) true n 22 [d] = some y3 := f3
  have f4 : DataW.trod enc Tryd.prog w 0 (fun _ => true) true n 24 (([a, b, c, d, e].drop 4).take (Tryd.prog.cellsOf 24)) = some y4 := (hf 4 _ rfl).trans s4
  rw [cells_ks12] at f4
  replace f4 : DataW.trod enc Tryd.prog w 0 (fun _ => true) true n 24 [e] = some y4 := f4
  obtain ⟨n0, e0, _, w0⟩ := DataW.trod_int Tryd.underlying3 f0
  obtain ⟨n1, e1, _, w1⟩ := DataW.trod_int Tryd.underlying3 f1
  obtain ⟨m, e2, _⟩ := DataW.trod_bool Tryd.underlying4 f2
  obtain ⟨bs, hbs, hbyt, hbl⟩ := bytes_openS f3 (hs2 3 _ y3 rfl s3)
  simp only [List.cons.injEq, and_true] at e0 e1 e2
  subst e0 e1 e2
  rcases DataW.trod_slice Tryd.underlying24 f4 with ⟨e4, _⟩ | ⟨ad, len, cap, elems, rest, n', hn', e4, hx4, _, hlc, hcm, hel, hea, _, _⟩
  · simp only [List.cons.injEq, and_true] at e4
    subst e4
    refine ⟨.mk n0 n1 m bs [], ?_, ?_, by rw [SmT, SmL]; exact ⟨hbl, trivial⟩⟩
    · rw [TlAt]
      exact ⟨d, none, 0, rfl, hbs, by simp, by decide, fun h => by simp at h⟩
    · rw [WfT, WfL]
      exact ⟨wf_int12.1 w0, wf_int12.1 w1, hbyt, trivial⟩
  · simp only [List.cons.injEq, and_true] at e4
    subst e4
    have each : ∀ i, i < len → ∃ T cs, (∀ j v, cs[j]? = some v → w.cell? (ad.add (i * 5 + j)) = some v) ∧ TlAt w T cs ∧ WfT T ∧ SmT T := fun i hi => by
      have hi2 := hea i hi
      rw [cells_tlv, List.getElem?_eq_getElem (by omega)] at hi2
      obtain ⟨cs, hc1, hc2⟩ := Option.bind_eq_some_iff.1 hi2
      obtain ⟨T, t1, t2, t3⟩ := IH n' (by omega) cs _ hc2 (fun q hq => hs2 4 _ y4 rfl s4 q (by
        rw [hx4]
        simp only [DataW.weights, Tryd.underlying24]
        refine List.mem_cons_of_mem _ (List.mem_append_left _ (mem_allS (i := i) (d := (elems[i]'(by omega)).1) ?_ q hq))
        rw [List.getElem?_map, List.getElem?_eq_getElem (by omega)]
        rfl))
      refine ⟨T, cs, fun j v hj => ?_, t1, t2, t3⟩
      have := (cells_five hc1).2 j v hj
      rw [Addr.add_add] at this
      exact this
    obtain ⟨ks, k1, k2, k2s, k3⟩ := kids_openS len each
    refine ⟨.mk n0 n1 m bs ks, ?_, ?_, by rw [SmT]; exact ⟨hbl, k2s⟩⟩
    · rw [TlAt]
      refine ⟨d, some ad, cap, by rw [k1], hbs, by omega, hcm, fun h0 => ?_⟩
      obtain ⟨g, o, spot⟩ := ad
      obtain ⟨k, hk⟩ : ∃ k, ks[0]? = some k := ⟨_, List.getElem?_eq_getElem h0⟩
      obtain ⟨cs, hc, ht⟩ := k3 0 k hk
      have c0 := hc 0 _ (List.getElem?_eq_getElem (by rw [ht.five]; decide))
      have hs : spot = none := by simpa [Addr.add] using World.cell?_spot c0
      subst hs
      have hb := World.block_lt_of_cell? w _ c0
      refine ⟨g, o, rfl, kids_at (fun i k hi => ?_)⟩
      obtain ⟨cs, hc, ht⟩ := k3 i k hi
      refine ⟨cs, ⟨by simpa [Addr.add] using hb, fun j v hj => ?_⟩, ht⟩
      have := hc j v hj
      rw [add_none12] at this
      rw [show o + 5 * i + j = o + (i * 5 + j) by omega]
      exact this
    · rw [WfT]
      exact ⟨wf_int12.1 w0, wf_int12.1 w1, hbyt, k2⟩
end Go.Proofs.YthbncblhkohomaaDoor
