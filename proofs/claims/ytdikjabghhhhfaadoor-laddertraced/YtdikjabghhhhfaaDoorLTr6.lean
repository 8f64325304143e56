/- ladder.Traced: a multiple, and its steps. -/
import Derived.Test.YtdikjabghhhhfaaDoorRows
import Derived.Test.YtdikjabghhhhfaaDoorLClimbT
import Derived.Test.YtdikjabghhhhfaaDoorLSteps
import Derived.Deep.WholeRow
import Derived.Deep.RegionHeld3
import Derived.Deep.DeepCutAuto
import Derived.Deep.DeepFit
namespace Go.Proofs.YtdikjabghhhhfaaDoor
open Go.RowKit

/-- the steps so far: the variable's block bs holds the row's first k, the row lies in br; rr is as it was -/
def TrJ (w0 : World) (bs br rr : Nat) (zs : List Value) (k : Nat) (b : World) : Prop := ∃ cs : List Value, Blk b bs [.slice (some ⟨br, 0, none⟩) k 1152] ∧ Blk b br cs ∧ cs.length = 1152 ∧ (∀ i, i < k → cs[i]? = some (.int .i64 (((i % 3 : Nat) : Int) + 1))) ∧ Blk b rr zs ∧ Below w0.heap.size w0 b

theorem TrJ.below {w0 b c : World} {bs br rr k B : Nat} {zs : List Value} (h : TrJ w0 bs br rr zs k b) (hb : Below B b c) (h1 : bs < B) (h2 : br < B) (h3 : rr < B) (h4 : w0.heap.size ≤ B) : TrJ w0 bs br rr zs k c := by
  obtain ⟨cs, B1, B2, l, hs, B3, bel⟩ := h
  exact ⟨cs, B1.below hb h1, B2.below hb h2, l, hs, B3.below hb h3, bel.trans (hb.mono h4)⟩

theorem steps_set {cs : List Value} {k : Nat} {d : Int} (l : cs.length = 1152) (hk : k < 1152) (hd : d = ((k % 3 : Nat) : Int) + 1) (h : ∀ i, i < k → cs[i]? = some (.int .i64 (((i % 3 : Nat) : Int) + 1))) : ∀ i, i < k + 1 → (cs.set k (.int .i64 d))[i]? = some (.int .i64 (((i % 3 : Nat) : Int) + 1)) := by
  intro i hi
  by_cases e : k = i
  · subst e
    rw [List.getElem?_set_self (by omega), hd]
  · rw [List.getElem?_set_ne e]
    exact h i (by omega)

theorem tr_note {w0 : World} {bs br rr B : Nat} {zs : List Value} (h1 : bs < B) (h2 : br < B) (h4 : w0.heap.size ≤ bs) (h5 : w0.heap.size ≤ br) (h6 : br ≠ bs) (h7 : rr ≠ bs) (h8 : rr ≠ br) :
    Hid (∀ (k : Nat) (d : Int) (b : World), TrJ w0 bs br rr zs k b → k < 1152 → d = ((k % 3 : Nat) : Int) + 1 → Calls Tryd.prog 52 #[.int .i64 d, .pointer (some ⟨bs, 0, none⟩)] b fun e c => e = .returned (.tuple #[]) ∧ TrJ w0 bs br rr zs (k + 1) c ∧ b.heap.size ≤ c.heap.size ∧ ∀ i X, B ≤ i → Blk b i X → Blk c i X) := by
  intro k d b h hk hd
  obtain ⟨cs, B1, B2, l, hs, B3, bel⟩ := h
  refine (con_nTr B1 B2 l hk h6).mono ?_
  rintro e w' ⟨rfl, rfl⟩
  refine ⟨rfl, ⟨cs.set k (.int .i64 d), (((B1.other _ _ (Ne.symm h6)).set 0 _).alloc _), (((B2.set k _).other _ _ h6).alloc _), by rw [List.length_set]; exact l, steps_set l hk hd hs, (((B3.other _ _ h8).other _ _ h7).alloc _), ?_⟩, ?_, ?_⟩
  · have q : Below w0.heap.size w0 ((b.setCell ⟨br, k, none⟩ (.int .i64 d)).setCell ⟨bs, 0, none⟩ (.slice (some ⟨br, 0, none⟩) (k + 1) 1152)) := (bel.setCell h5 _).setCell h4 _
    exact q.alloc q.size _
  · simp
  · intro i X hi BX
    exact ((BX.other _ _ (by show i ≠ br; omega)).other _ _ (by show i ≠ bs; omega)).alloc _

theorem steps_of {w : World} {b : Nat} {cs : List Value} (h : Blk w b cs) (hs : ∀ i, i < 1152 → cs[i]? = some (.int .i64 (((i % 3 : Nat) : Int) + 1))) : Steps w b := by
  refine ⟨h.lt, fun i hi => ⟨?_, ?_, ?_⟩⟩
  · have := h.cell _ _ (hs (3 * i) (by omega))
    rw [this, show 3 * i % 3 = 0 by omega]; rfl
  · have := h.cell _ _ (hs (3 * i + 1) (by omega))
    rw [this, show (3 * i + 1) % 3 = 1 by omega]; rfl
  · have := h.cell _ _ (hs (3 * i + 2) (by omega))
    rw [this, show (3 * i + 2) % 3 = 2 by omega]; rfl

theorem info_int : (Tryd.prog.info? 3).map (fun i => (i.zero, i.size, i.bytes)) = some (some (.int .i64 0), 1, 8) := by kernel_rfl

set_option maxRecDepth 100000 in
set_option maxHeartbeats 8000000 in
theorem con_Traced {a0 a1 a2 a3 a4 a5 x0 x1 x2 x3 x4 x5 y0 y1 y2 y3 y4 y5 : Int} {n : Bool} {P : Pt} {w : World} (G : GlsC w) (fA : fits [a0, a1, a2, a3, a4, a5]) (t : Told P [x0, x1, x2, x3, x4, x5] [y0, y1, y2, y3, y4, y5] n) (hP : OnC P) :
    Calls Tryd.prog 21 #[.agg #[.int .u64 a0, .int .u64 a1, .int .u64 a2, .int .u64 a3, .int .u64 a4, .int .u64 a5], .agg #[.int .u64 x0, .int .u64 x1, .int .u64 x2, .int .u64 x3, .int .u64 x4, .int .u64 x5, .int .u64 y0, .int .u64 y1, .int .u64 y2, .int .u64 y3, .int .u64 y4, .int .u64 y5, .bool n]] w fun e w' => ∃ (s0 s1 s2 s3 s4 s5 t0 t1 t2 t3 t4 t5 : Int) (k : Bool) (b cap : Nat), e = .returned (.tuple #[.agg #[.int .u64 s0, .int .u64 s1, .int .u64 s2, .int .u64 s3, .int .u64 s4, .int .u64 s5, .int .u64 t0, .int .u64 t1, .int .u64 t2, .int .u64 t3, .int .u64 t4, .int .u64 t5, .bool k], .slice (some ⟨b, 0, none⟩) 1152 cap, .nilIface]) ∧ Told (cmul (v64 [a0, a1, a2, a3, a4, a5]).toNat P) [s0, s1, s2, s3, s4, s5] [t0, t1, t2, t3, t4, t5] k ∧ Steps w' b ∧ 1152 ≤ cap ∧ cap ≤ maxLen ∧ Below w.heap.size w w' := by
  have fX : fits [x0, x1, x2, x3, x4, x5] := t.fA
  have fY : fits [y0, y1, y2, y3, y4, y5] := t.fB
  have HO : Hid _ := on_told t hP
  have HT : Hid (Told P [x0, x1, x2, x3, x4, x5] [y0, y1, y2, y3, y4, y5] n ∧ OnC P) := ⟨t, hP⟩
  clear t hP
  obtain ⟨i0, hi0, hz0, hz1, hz2⟩ := info_parts info_int
  have B0 := ((Blk.new w [.int .u64 a0, .int .u64 a1, .int .u64 a2, .int .u64 a3, .int .u64 a4, .int .u64 a5] 24 (w.heap.size) rfl).alloc (.cells [.int .u64 x0, .int .u64 x1, .int .u64 x2, .int .u64 x3, .int .u64 x4, .int .u64 x5, .int .u64 y0, .int .u64 y1, .int .u64 y2, .int .u64 y3, .int .u64 y4, .int .u64 y5, .bool n].toArray 26)).alloc (.cells [.int .u64 0, .int .u64 0, .int .u64 0, .int .u64 0, .int .u64 0, .int .u64 0, .int .u64 0, .int .u64 0, .int .u64 0, .int .u64 0, .int .u64 0, .int .u64 0, .bool false].toArray 26)
  have B1 := (Blk.new (w.alloc (.cells [.int .u64 a0, .int .u64 a1, .int .u64 a2, .int .u64 a3, .int .u64 a4, .int .u64 a5].toArray 24)) [.int .u64 x0, .int .u64 x1, .int .u64 x2, .int .u64 x3, .int .u64 x4, .int .u64 x5, .int .u64 y0, .int .u64 y1, .int .u64 y2, .int .u64 y3, .int .u64 y4, .int .u64 y5, .bool n] 26 (w.heap.size + 1) (by simp)).alloc (.cells [.int .u64 0, .int .u64 0, .int .u64 0, .int .u64 0, .int .u64 0, .int .u64 0, .int .u64 0, .int .u64 0, .int .u64 0, .int .u64 0, .int .u64 0, .int .u64 0, .bool false].toArray 26)
  have B2 := Blk.new ((w.alloc (.cells [.int .u64 a0, .int .u64 a1, .int .u64 a2, .int .u64 a3, .int .u64 a4, .int .u64 a5].toArray 24)).alloc (.cells [.int .u64 x0, .int .u64 x1, .int .u64 x2, .int .u64 x3, .int .u64 x4, .int .u64 x5, .int .u64 y0, .int .u64 y1, .int .u64 y2, .int .u64 y3, .int .u64 y4, .int .u64 y5, .bool n].toArray 26)) [.int .u64 0, .int .u64 0, .int .u64 0, .int .u64 0, .int .u64 0, .int .u64 0, .int .u64 0, .int .u64 0, .int .u64 0, .int .u64 0, .int .u64 0, .int .u64 0, .bool false] 26 (w.heap.size + 1 + 1) (by simp)
  have bel : Below w.heap.size w (((w.alloc (.cells [.int .u64 a0, .int .u64 a1, .int .u64 a2, .int .u64 a3, .int .u64 a4, .int .u64 a5].toArray 24)).alloc (.cells [.int .u64 x0, .int .u64 x1, .int .u64 x2, .int .u64 x3, .int .u64 x4, .int .u64 x5, .int .u64 y0, .int .u64 y1, .int .u64 y2, .int .u64 y3, .int .u64 y4, .int .u64 y5, .bool n].toArray 26)).alloc (.cells [.int .u64 0, .int .u64 0, .int .u64 0, .int .u64 0, .int .u64 0, .int .u64 0, .int .u64 0, .int .u64 0, .int .u64 0, .int .u64 0, .int .u64 0, .int .u64 0, .bool false].toArray 26)) := ((((Below.refl _ _).alloc (Nat.le_refl _) _).alloc (by simp) _).alloc (by simp; omega) _)
  go_enter Tryd.func21, Tryd.ntmps21
  go_upto_region 1 with fail
  try simp only [us, List.map_cons, List.map_nil] at bel
  generalize (((w.alloc (Obj.cells #[.int .u64 a0, .int .u64 a1, .int .u64 a2, .int .u64 a3, .int .u64 a4, .int .u64 a5] 24)).alloc (Obj.cells #[.int .u64 x0, .int .u64 x1, .int .u64 x2, .int .u64 x3, .int .u64 x4, .int .u64 x5, .int .u64 y0, .int .u64 y1, .int .u64 y2, .int .u64 y3, .int .u64 y4, .int .u64 y5, .bool n] 26)).alloc (Obj.cells #[.int .u64 0, .int .u64 0, .int .u64 0, .int .u64 0, .int .u64 0, .int .u64 0, .int .u64 0, .int .u64 0, .int .u64 0, .int .u64 0, .int .u64 0, .int .u64 0, .bool false] 26)) = W at *
  have Bk := B0
  have Bp := B1
  have Br := B2
  clear B0 B1 B2
  have ltp := Bp.lt
  have cp0 := Bp.cell 0 _ rfl
  have cp1 := Bp.cell 1 _ rfl
  have cp2 := Bp.cell 2 _ rfl
  have cp3 := Bp.cell 3 _ rfl
  have cp4 := Bp.cell 4 _ rfl
  have cp5 := Bp.cell 5 _ rfl
  have cp6 := Bp.cell 6 _ rfl
  have cp7 := Bp.cell 7 _ rfl
  have cp8 := Bp.cell 8 _ rfl
  have cp9 := Bp.cell 9 _ rfl
  have cp10 := Bp.cell 10 _ rfl
  have cp11 := Bp.cell 11 _ rfl
  have cp12 := Bp.cell 12 _ rfl
  go_wp2_with fail
  refine (con_On (b := true) (G.below bel) fX fY ⟨fun _ => HO.out, fun _ => rfl⟩).mono ?_
  rintro e w1 ⟨rfl, hb⟩
  clear ltp cp0 cp1 cp2 cp3 cp4 cp5 cp6 cp7 cp8 cp9 cp10 cp11 cp12
  replace Bk := Bk.later hb
  replace Bp := Bp.later hb
  replace Br := Br.later hb
  replace bel := below_step bel hb
  clear hb
  have hmk0 := run_makeSlice (P := Tryd.prog) w1 49 3 i0 _ Tryd.underlying49 hi0 hz0 .i64 .i64 0 1152 (by decide) (by decide) (by rw [hz1]; decide) (by rw [hz2]; decide) (by decide)
  obtain ⟨cs, hcs⟩ : ∃ cs, cs = madeCells (Value.int .i64 0).cells ((1152 : Int).toNat * i0.size) := ⟨_, rfl⟩
  rw [← hcs] at hmk0
  have lcs : cs.size = 1152 := by rw [hcs, size_madeCells, hz1]; rfl
  clear hcs hi0 hz0 hz1 hz2
  have hmk : (Instr.makeSlice 49 (.int .i64 0) (.int .i64 1152)).run Tryd.prog w1 = .ok (.slice (some ⟨w1.heap.size, 0, none⟩) 0 1152) (w1.alloc (.cells cs 3)) := hmk0
  clear hmk0
  have ltr0 := Br.lt
  have Bw : Blk (w1.alloc (.cells cs 3)) w1.heap.size cs.toList := by have := Blk.new w1 cs.toList 3 w1.heap.size rfl; simpa using this
  replace Bk := Bk.alloc (.cells cs 3)
  replace Bp := Bp.alloc (.cells cs 3)
  replace Br := Br.alloc (.cells cs 3)
  replace bel := below_alloc (o := .cells cs 3) bel
  replace Bk := Bk.alloc (.cells [.slice (some ⟨w1.heap.size, 0, none⟩) 0 1152].toArray 49)
  replace Bp := Bp.alloc (.cells [.slice (some ⟨w1.heap.size, 0, none⟩) 0 1152].toArray 49)
  replace Br := Br.alloc (.cells [.slice (some ⟨w1.heap.size, 0, none⟩) 0 1152].toArray 49)
  replace Bw := Bw.alloc (.cells [.slice (some ⟨w1.heap.size, 0, none⟩) 0 1152].toArray 49)
  have Bs := Blk.new (w1.alloc (.cells cs 3)) [.slice (some ⟨w1.heap.size, 0, none⟩) 0 1152] 49 (w1.heap.size + 1) (by simp)
  replace bel := below_alloc (o := .cells [.slice (some ⟨w1.heap.size, 0, none⟩) 0 1152].toArray 49) bel
  have ltk := Bk.lt
  have ck0 := Bk.cell 0 _ rfl
  have ck1 := Bk.cell 1 _ rfl
  have ck2 := Bk.cell 2 _ rfl
  have ck3 := Bk.cell 3 _ rfl
  have ck4 := Bk.cell 4 _ rfl
  have ck5 := Bk.cell 5 _ rfl
  have ltp := Bp.lt
  have cp0 := Bp.cell 0 _ rfl
  have cp1 := Bp.cell 1 _ rfl
  have cp2 := Bp.cell 2 _ rfl
  have cp3 := Bp.cell 3 _ rfl
  have cp4 := Bp.cell 4 _ rfl
  have cp5 := Bp.cell 5 _ rfl
  have cp6 := Bp.cell 6 _ rfl
  have cp7 := Bp.cell 7 _ rfl
  have cp8 := Bp.cell 8 _ rfl
  have cp9 := Bp.cell 9 _ rfl
  have cp10 := Bp.cell 10 _ rfl
  have cp11 := Bp.cell 11 _ rfl
  have cp12 := Bp.cell 12 _ rfl
  go_wp2_with fail
  clear ltk ck0 ck1 ck2 ck3 ck4 ck5 ltp cp0 cp1 cp2 cp3 cp4 cp5 cp6 cp7 cp8 cp9 cp10 cp11 cp12
  obtain ⟨br, hbr⟩ : ∃ b, b = w1.heap.size := ⟨_, rfl⟩
  generalize (w1.alloc (Obj.cells cs 3)).alloc (Obj.cells #[.slice (some ⟨w1.heap.size, 0, none⟩) 0 1152] 49) = W2 at *
  rw [← hbr] at Bs Bw ltr0 ⊢
  clear hbr hmk
  have lts := Bs.lt
  have hJ : TrJ w (br + 1) br (w.heap.size + 1 + 1) [.int .u64 0, .int .u64 0, .int .u64 0, .int .u64 0, .int .u64 0, .int .u64 0, .int .u64 0, .int .u64 0, .int .u64 0, .int .u64 0, .int .u64 0, .int .u64 0, .bool false] 0 W2 := ⟨cs.toList, Bs, Bw, by simpa using lcs, fun i hi => absurd hi (by omega), Br, bel⟩
  clear Bs Bw Br Bk Bp
  refine (con_climbT (J := TrJ w (br + 1) br (w.heap.size + 1 + 1) [.int .u64 0, .int .u64 0, .int .u64 0, .int .u64 0, .int .u64 0, .int .u64 0, .int .u64 0, .int .u64 0, .int .u64 0, .int .u64 0, .int .u64 0, .int .u64 0, .bool false]) (fun _ _ => rfl) hJ (fun _ _ h => by obtain ⟨_, _, _, _, _, _, h⟩ := h; exact G.below h) (fun _ _ _ h h2 => h.below h2 (by omega) (by omega) (by omega) bel.size) (tr_note (by omega) (by omega) (by omega) (by omega) (by omega) (by omega) (by omega)) fA HT.out.1 HT.out.2).mono ?_
  rintro e w3 ⟨s0, s1, s2, s3, s4, s5, t0, t1, t2, t3, t4, t5, kk, rfl, TS, hJ2⟩
  clear hJ bel lts lcs
  obtain ⟨cs2, Bs, Bw, lc, hst, Br, bel⟩ := hJ2
  clear lc
  have HS : Hid _ := hst
  clear hst
  have lts := Bs.lt
  replace Bs := Bs.alloc (.cells [.int .u64 s0, .int .u64 s1, .int .u64 s2, .int .u64 s3, .int .u64 s4, .int .u64 s5, .int .u64 t0, .int .u64 t1, .int .u64 t2, .int .u64 t3, .int .u64 t4, .int .u64 t5, .bool kk].toArray 26)
  replace Bw := Bw.alloc (.cells [.int .u64 s0, .int .u64 s1, .int .u64 s2, .int .u64 s3, .int .u64 s4, .int .u64 s5, .int .u64 t0, .int .u64 t1, .int .u64 t2, .int .u64 t3, .int .u64 t4, .int .u64 t5, .bool kk].toArray 26)
  replace Br := Br.alloc (.cells [.int .u64 s0, .int .u64 s1, .int .u64 s2, .int .u64 s3, .int .u64 s4, .int .u64 s5, .int .u64 t0, .int .u64 t1, .int .u64 t2, .int .u64 t3, .int .u64 t4, .int .u64 t5, .bool kk].toArray 26)
  have Bo := Blk.new w3 [.int .u64 s0, .int .u64 s1, .int .u64 s2, .int .u64 s3, .int .u64 s4, .int .u64 s5, .int .u64 t0, .int .u64 t1, .int .u64 t2, .int .u64 t3, .int .u64 t4, .int .u64 t5, .bool kk] 26 w3.heap.size rfl
  replace bel := below_alloc (o := .cells [.int .u64 s0, .int .u64 s1, .int .u64 s2, .int .u64 s3, .int .u64 s4, .int .u64 s5, .int .u64 t0, .int .u64 t1, .int .u64 t2, .int .u64 t3, .int .u64 t4, .int .u64 t5, .bool kk].toArray 26) bel
  have lw : ∀ z, z < w3.heap.size → z ≠ w3.heap.size := fun z h => Nat.ne_of_lt h
  go_upto_region 5 with fail
  obtain ⟨bo, hbo⟩ : ∃ b, b = w3.heap.size := ⟨_, rfl⟩
  clear lw
  generalize w3.alloc (Obj.cells #[.int .u64 s0, .int .u64 s1, .int .u64 s2, .int .u64 s3, .int .u64 s4, .int .u64 s5, .int .u64 t0, .int .u64 t1, .int .u64 t2, .int .u64 t3, .int .u64 t4, .int .u64 t5, .bool kk] 26) = W4 at *
  rw [← hbo] at Bo lts ⊢
  clear hbo
  have lto := Bo.lt
  have ltr := Br.lt
  have lt5 := Bs.lt
  have e0 := Bo.cell 0 _ rfl
  have e1 := Bo.cell 1 _ rfl
  have e2 := Bo.cell 2 _ rfl
  have e3 := Bo.cell 3 _ rfl
  have e4 := Bo.cell 4 _ rfl
  have e5 := Bo.cell 5 _ rfl
  have e6 := Bo.cell 6 _ rfl
  have e7 := Bo.cell 7 _ rfl
  have e8 := Bo.cell 8 _ rfl
  have e9 := Bo.cell 9 _ rfl
  have e10 := Bo.cell 10 _ rfl
  have e11 := Bo.cell 11 _ rfl
  have e12 := Bo.cell 12 _ rfl
  have q0 := Bs.cell 0 _ rfl
  have d0 := Br.cell 0 _ rfl; have g0 := Br.frozen 0; have d1 := Br.cell 1 _ rfl; have g1 := Br.frozen 1; have d2 := Br.cell 2 _ rfl; have g2 := Br.frozen 2; have d3 := Br.cell 3 _ rfl; have g3 := Br.frozen 3; have d4 := Br.cell 4 _ rfl; have g4 := Br.frozen 4; have d5 := Br.cell 5 _ rfl; have g5 := Br.frozen 5; have d6 := Br.cell 6 _ rfl; have g6 := Br.frozen 6; have d7 := Br.cell 7 _ rfl; have g7 := Br.frozen 7; have d8 := Br.cell 8 _ rfl; have g8 := Br.frozen 8; have d9 := Br.cell 9 _ rfl; have g9 := Br.frozen 9; have d10 := Br.cell 10 _ rfl; have g10 := Br.frozen 10; have d11 := Br.cell 11 _ rfl; have g11 := Br.frozen 11; have d12 := Br.cell 12 _ rfl; have g12 := Br.frozen 12
  go_region
  all_goals
    go_wp2_with fail
    exact bodyPost_ret (v := .tuple #[.agg #[.int .u64 s0, .int .u64 s1, .int .u64 s2, .int .u64 s3, .int .u64 s4, .int .u64 s5, .int .u64 t0, .int .u64 t1, .int .u64 t2, .int .u64 t3, .int .u64 t4, .int .u64 t5, .bool kk], .slice (some ⟨br, 0, none⟩) 1152 1152, .nilIface]) (by simp [results, Tryd.results21, go_sem, d0, d1, d2, d3, d4, d5, d6, d7, d8, d9, d10, d11, d12]) rfl ⟨s0, s1, s2, s3, s4, s5, t0, t1, t2, t3, t4, t5, kk, br, 1152, rfl, TS, steps_of (Blk.drew (blk_farP Bw (by omega))) HS.out, by omega, by decide, (below_put13 bel (by omega)).drew⟩

set_option maxRecDepth 100000 in
set_option maxHeartbeats 4000000 in
theorem tr_bad {a0 a1 a2 a3 a4 a5 x0 x1 x2 x3 x4 x5 y0 y1 y2 y3 y4 y5 : Int} {n : Bool} {w : World} (G : GlsC w) (fX : fits [x0, x1, x2, x3, x4, x5]) (fY : fits [y0, y1, y2, y3, y4, y5]) (h : ¬ IsOn n (v64 [x0, x1, x2, x3, x4, x5]) (v64 [y0, y1, y2, y3, y4, y5])) :
    Calls Tryd.prog 21 #[.agg #[.int .u64 a0, .int .u64 a1, .int .u64 a2, .int .u64 a3, .int .u64 a4, .int .u64 a5], .agg #[.int .u64 x0, .int .u64 x1, .int .u64 x2, .int .u64 x3, .int .u64 x4, .int .u64 x5, .int .u64 y0, .int .u64 y1, .int .u64 y2, .int .u64 y3, .int .u64 y4, .int .u64 y5, .bool n]] w fun e w' => e = .returned (.tuple #[.agg #[.int .u64 0, .int .u64 0, .int .u64 0, .int .u64 0, .int .u64 0, .int .u64 0, .int .u64 0, .int .u64 0, .int .u64 0, .int .u64 0, .int .u64 0, .int .u64 0, .bool false], .slice none 0 0, .iface 33 (.int .i64 4)]) ∧ Below w.heap.size w w' := by
  have HO : Hid _ := h
  clear h
  have B0 := ((Blk.new w [.int .u64 a0, .int .u64 a1, .int .u64 a2, .int .u64 a3, .int .u64 a4, .int .u64 a5] 24 (w.heap.size) rfl).alloc (.cells [.int .u64 x0, .int .u64 x1, .int .u64 x2, .int .u64 x3, .int .u64 x4, .int .u64 x5, .int .u64 y0, .int .u64 y1, .int .u64 y2, .int .u64 y3, .int .u64 y4, .int .u64 y5, .bool n].toArray 26)).alloc (.cells [.int .u64 0, .int .u64 0, .int .u64 0, .int .u64 0, .int .u64 0, .int .u64 0, .int .u64 0, .int .u64 0, .int .u64 0, .int .u64 0, .int .u64 0, .int .u64 0, .bool false].toArray 26)
  have B1 := (Blk.new (w.alloc (.cells [.int .u64 a0, .int .u64 a1, .int .u64 a2, .int .u64 a3, .int .u64 a4, .int .u64 a5].toArray 24)) [.int .u64 x0, .int .u64 x1, .int .u64 x2, .int .u64 x3, .int .u64 x4, .int .u64 x5, .int .u64 y0, .int .u64 y1, .int .u64 y2, .int .u64 y3, .int .u64 y4, .int .u64 y5, .bool n] 26 (w.heap.size + 1) (by simp)).alloc (.cells [.int .u64 0, .int .u64 0, .int .u64 0, .int .u64 0, .int .u64 0, .int .u64 0, .int .u64 0, .int .u64 0, .int .u64 0, .int .u64 0, .int .u64 0, .int .u64 0, .bool false].toArray 26)
  have B2 := Blk.new ((w.alloc (.cells [.int .u64 a0, .int .u64 a1, .int .u64 a2, .int .u64 a3, .int .u64 a4, .int .u64 a5].toArray 24)).alloc (.cells [.int .u64 x0, .int .u64 x1, .int .u64 x2, .int .u64 x3, .int .u64 x4, .int .u64 x5, .int .u64 y0, .int .u64 y1, .int .u64 y2, .int .u64 y3, .int .u64 y4, .int .u64 y5, .bool n].toArray 26)) [.int .u64 0, .int .u64 0, .int .u64 0, .int .u64 0, .int .u64 0, .int .u64 0, .int .u64 0, .int .u64 0, .int .u64 0, .int .u64 0, .int .u64 0, .int .u64 0, .bool false] 26 (w.heap.size + 1 + 1) (by simp)
  have bel : Below w.heap.size w (((w.alloc (.cells [.int .u64 a0, .int .u64 a1, .int .u64 a2, .int .u64 a3, .int .u64 a4, .int .u64 a5].toArray 24)).alloc (.cells [.int .u64 x0, .int .u64 x1, .int .u64 x2, .int .u64 x3, .int .u64 x4, .int .u64 x5, .int .u64 y0, .int .u64 y1, .int .u64 y2, .int .u64 y3, .int .u64 y4, .int .u64 y5, .bool n].toArray 26)).alloc (.cells [.int .u64 0, .int .u64 0, .int .u64 0, .int .u64 0, .int .u64 0, .int .u64 0, .int .u64 0, .int .u64 0, .int .u64 0, .int .u64 0, .int .u64 0, .int .u64 0, .bool false].toArray 26)) := ((((Below.refl _ _).alloc (Nat.le_refl _) _).alloc (by simp) _).alloc (by simp; omega) _)
  go_enter Tryd.func21, Tryd.ntmps21
  go_upto_region 1 with fail
  try simp only [us, List.map_cons, List.map_nil] at bel
  generalize (((w.alloc (Obj.cells #[.int .u64 a0, .int .u64 a1, .int .u64 a2, .int .u64 a3, .int .u64 a4, .int .u64 a5] 24)).alloc (Obj.cells #[.int .u64 x0, .int .u64 x1, .int .u64 x2, .int .u64 x3, .int .u64 x4, .int .u64 x5, .int .u64 y0, .int .u64 y1, .int .u64 y2, .int .u64 y3, .int .u64 y4, .int .u64 y5, .bool n] 26)).alloc (Obj.cells #[.int .u64 0, .int .u64 0, .int .u64 0, .int .u64 0, .int .u64 0, .int .u64 0, .int .u64 0, .int .u64 0, .int .u64 0, .int .u64 0, .int .u64 0, .int .u64 0, .bool false] 26)) = W at *
  have Bk := B0
  have Bp := B1
  have Br := B2
  clear B0 B1 B2
  have ltp := Bp.lt
  have cp0 := Bp.cell 0 _ rfl
  have cp1 := Bp.cell 1 _ rfl
  have cp2 := Bp.cell 2 _ rfl
  have cp3 := Bp.cell 3 _ rfl
  have cp4 := Bp.cell 4 _ rfl
  have cp5 := Bp.cell 5 _ rfl
  have cp6 := Bp.cell 6 _ rfl
  have cp7 := Bp.cell 7 _ rfl
  have cp8 := Bp.cell 8 _ rfl
  have cp9 := Bp.cell 9 _ rfl
  have cp10 := Bp.cell 10 _ rfl
  have cp11 := Bp.cell 11 _ rfl
  have cp12 := Bp.cell 12 _ rfl
  go_wp2_with fail
  refine (con_On (b := false) (G.below bel) fX fY ⟨fun h => absurd h (by simp), fun h => absurd h HO.out⟩).mono ?_
  rintro e w1 ⟨rfl, hb⟩
  clear ltp cp0 cp1 cp2 cp3 cp4 cp5 cp6 cp7 cp8 cp9 cp10 cp11 cp12
  replace Bk := Bk.later hb
  replace Bp := Bp.later hb
  replace Br := Br.later hb
  replace bel := below_step bel hb
  clear hb
  have ltr := Br.lt
  have d0 := Br.cell 0 _ rfl; have g0 := Br.frozen 0; have d1 := Br.cell 1 _ rfl; have g1 := Br.frozen 1; have d2 := Br.cell 2 _ rfl; have g2 := Br.frozen 2; have d3 := Br.cell 3 _ rfl; have g3 := Br.frozen 3; have d4 := Br.cell 4 _ rfl; have g4 := Br.frozen 4; have d5 := Br.cell 5 _ rfl; have g5 := Br.frozen 5; have d6 := Br.cell 6 _ rfl; have g6 := Br.frozen 6; have d7 := Br.cell 7 _ rfl; have g7 := Br.frozen 7; have d8 := Br.cell 8 _ rfl; have g8 := Br.frozen 8; have d9 := Br.cell 9 _ rfl; have g9 := Br.frozen 9; have d10 := Br.cell 10 _ rfl; have g10 := Br.frozen 10; have d11 := Br.cell 11 _ rfl; have g11 := Br.frozen 11; have d12 := Br.cell 12 _ rfl; have g12 := Br.frozen 12
  go_wp2_with fail
  exact bodyPost_ret (v := .tuple #[.agg #[.int .u64 0, .int .u64 0, .int .u64 0, .int .u64 0, .int .u64 0, .int .u64 0, .int .u64 0, .int .u64 0, .int .u64 0, .int .u64 0, .int .u64 0, .int .u64 0, .bool false], .slice none 0 0, .iface 33 (.int .i64 4)]) (by simp [results, Tryd.results21, go_sem, d0, d1, d2, d3, d4, d5, d6, d7, d8, d9, d10, d11, d12]) rfl ⟨rfl, below_put13 bel (by omega)⟩

theorem con_TracedBad {a0 a1 a2 a3 a4 a5 x0 x1 x2 x3 x4 x5 y0 y1 y2 y3 y4 y5 : Int} {n : Bool} {w : World} (G : GlsC w) (_ : fits [a0, a1, a2, a3, a4, a5]) (fX : fits [x0, x1, x2, x3, x4, x5]) (fY : fits [y0, y1, y2, y3, y4, y5]) (h : ¬ IsOn n (v64 [x0, x1, x2, x3, x4, x5]) (v64 [y0, y1, y2, y3, y4, y5])) :
    Calls Tryd.prog 21 #[.agg #[.int .u64 a0, .int .u64 a1, .int .u64 a2, .int .u64 a3, .int .u64 a4, .int .u64 a5], .agg #[.int .u64 x0, .int .u64 x1, .int .u64 x2, .int .u64 x3, .int .u64 x4, .int .u64 x5, .int .u64 y0, .int .u64 y1, .int .u64 y2, .int .u64 y3, .int .u64 y4, .int .u64 y5, .bool n]] w fun e w' => ∃ (ao : Option Addr) (cap : Nat), e = .returned (.tuple #[.agg #[.int .u64 0, .int .u64 0, .int .u64 0, .int .u64 0, .int .u64 0, .int .u64 0, .int .u64 0, .int .u64 0, .int .u64 0, .int .u64 0, .int .u64 0, .int .u64 0, .bool false], .slice ao 0 cap, .iface 33 (.int .i64 4)]) ∧ Below w.heap.size w w' := by
  refine (tr_bad G fX fY h).mono ?_
  rintro e w' ⟨rfl, hb⟩
  exact ⟨none, 0, rfl, hb⟩

end Go.Proofs.YtdikjabghhhhfaaDoor
