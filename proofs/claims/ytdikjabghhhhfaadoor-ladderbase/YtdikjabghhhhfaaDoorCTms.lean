/- The document's Times: a point, taken so often. -/
import Derived.Test.YtdikjabghhhhfaaDoorRows
import Derived.Test.YtdikjabghhhhfaaDoorCRefC
import Derived.Test.YtdikjabghhhhfaaDoorRefA
import Derived.Test.YtdikjabghhhhfaaDoorCNum
import Derived.Deep.WholeRow
import Derived.Deep.RegionHeld3
import Derived.Deep.DeepCutAuto
import Derived.Deep.DeepFit
namespace Go.Proofs.YtdikjabghhhhfaaDoor
open Go.RowKit

/-- the document's point in a block of its own -/
def OutIs (w : World) (b : Nat) (Q : Pt) : Prop := ∃ (qb : Bool) (qa : Option Addr) (qn qk : Nat) (qc : Option Addr) (qm ql : Nat), Blk w b [.bool qb, .slice qa qn qk, .slice qc qm ql] ∧ PtIs w (.agg #[.bool qb, .slice qa qn qk, .slice qc qm ql]) Q

theorem PtIs.put3 {w : World} {v : Value} {P : Pt} {b : Nat} {c u0 : Bool} {v1 v2 u1 u2 : Value} (h : PtIs w v P) (B : Blk w b [.bool c, v1, v2]) : PtIs (((w.setCell ⟨b, 0, none⟩ (.bool u0)).setCell ⟨b, 1, none⟩ u1).setCell ⟨b, 2, none⟩ u2) v P := by
  cases P with
  | none => exact h
  | some p =>
    obtain ⟨a, m, c, a', m', c', e, h1, h2⟩ := h
    exact ⟨a, m, c, a', m', c', e, h1.put3 B, h2.put3 B⟩
theorem blk_put3 {w : World} {b : Nat} {c0 c1 c2 u0 u1 u2 : Value} (h : Blk w b [c0, c1, c2]) : Blk (((w.setCell ⟨b, 0, none⟩ u0).setCell ⟨b, 1, none⟩ u1).setCell ⟨b, 2, none⟩ u2) b [u0, u1, u2] := ((h.set 0 _).set 1 _).set 2 _
theorem blk_far3 {w : World} {b c : Nat} {cs : List Value} {u0 u1 u2 : Value} (h : Blk w c cs) (hb : c ≠ b) : Blk (((w.setCell ⟨b, 0, none⟩ u0).setCell ⟨b, 1, none⟩ u1).setCell ⟨b, 2, none⟩ u2) c cs := ((h.other _ _ hb).other _ _ hb).other _ _ hb

set_option maxRecDepth 100000 in
set_option maxHeartbeats 4000000 in
theorem r5_Times {u v : Value} {K : Int} {P : Pt} {w : World} (hu : NumIs w u K) (hK : K < 4294967296 ^ 40) (hv : PtIs w v P) (hP : OnC P) :
    Calls Tryd.prog 13 #[u, v] w fun e w' => ∃ v', e = .returned v' ∧ PtIs w' v' (cmul K.toNat P) ∧ Below w.heap.size w w' := by
  obtain ⟨pb, pa, pn, pk, pc, pm, pl, rfl⟩ := hv.form
  have HK : Hid _ := hK
  have HP : Hid (OnC P) := hP
  clear hK hP
  have B0 := (Blk.new w [.bool pb, .slice pa pn pk, .slice pc pm pl] 38 (w.heap.size) rfl).alloc (.cells [.bool false, .slice none 0 0, .slice none 0 0].toArray 38)
  have B1 := Blk.new (w.alloc (.cells [.bool pb, .slice pa pn pk, .slice pc pm pl].toArray 38)) [.bool false, .slice none 0 0, .slice none 0 0] 38 (w.heap.size + 1) (by simp)
  have bel : Below w.heap.size w ((w.alloc (.cells [.bool pb, .slice pa pn pk, .slice pc pm pl].toArray 38)).alloc (.cells [.bool false, .slice none 0 0, .slice none 0 0].toArray 38)) := (((Below.refl _ _).alloc (Nat.le_refl _) _).alloc (by simp) _)
  go_enter Tryd.func13, Tryd.ntmps13
  go_upto_region 1 with fail
  try simp only [us, List.map_cons, List.map_nil] at bel
  generalize ((w.alloc (Obj.cells #[.bool pb, .slice pa pn pk, .slice pc pm pl] 38)).alloc (Obj.cells #[.bool false, .slice none 0 0, .slice none 0 0] 38)) = w0 at *
  have Bp := B0
  have Br := B1
  clear B0 B1
  replace hu := hu.later bel
  replace hv := hv.later bel
  have ltr0 := Br.lt
  replace Bp := Bp.alloc (.cells [.bool true, .slice none 0 0, .slice none 0 0].toArray 38)
  replace Br := Br.alloc (.cells [.bool true, .slice none 0 0, .slice none 0 0].toArray 38)
  replace hu := hu.alloc (.cells [.bool true, .slice none 0 0, .slice none 0 0].toArray 38)
  replace hv := hv.alloc (.cells [.bool true, .slice none 0 0, .slice none 0 0].toArray 38)
  have Bo := Blk.new w0 [.bool true, .slice none 0 0, .slice none 0 0] 38 w0.heap.size rfl
  replace bel := below_alloc (o := .cells [.bool true, .slice none 0 0, .slice none 0 0].toArray 38) bel
  have lwo : ∀ z, z < w0.heap.size → z ≠ w0.heap.size := fun z h => Nat.ne_of_lt h
  go_upto_region 2 with fail
  obtain ⟨bo, hbo⟩ : ∃ b, b = w0.heap.size := ⟨_, rfl⟩
  clear lwo
  generalize w0.alloc (Obj.cells #[.bool true, .slice none 0 0, .slice none 0 0] 38) = Wo at *
  rw [← hbo] at Bo ltr0 ⊢
  clear hbo
  go_wp2_with fail
  refine (bits_any _ _ _ hu HK.out).mono ?_
  rintro e w' ⟨n, rfl, hn, hn2, hw⟩
  obtain rfl := hw.symm
  have E0 : Hid _ := hu.nonneg
  have TOP : Hid (K.toNat < 2 ^ n) := by
    show _ < _
    have h1 := hn.1
    have h2 := E0.out
    have : ((K.toNat : Nat) : Int) < ((2 ^ n : Nat) : Int) := by
      rw [Int.toNat_of_nonneg h2, Int.natCast_pow]
      exact h1
    exact Int.ofNat_lt.1 this
  clear hn hw
  have gn : IntKind.i64.wrap ((n : Int) - 1) = (n : Int) - 1 := by rw [IntKind.wrap_i64]; omega
  go_wp2_with fail
  go_loopw [6] (fun iv wr => ∃ k : Nat, k ≤ n ∧ iv = .int .i64 ((k : Int) - 1) ∧ OutIs wr bo (cmul (K.toNat / 2 ^ k) P) ∧ Blk wr (w.heap.size) [.bool pb, .slice pa pn pk, .slice pc pm pl] ∧ Blk wr (w.heap.size + 1) [.bool false, .slice none 0 0, .slice none 0 0] ∧ NumIs wr u K ∧ PtIs wr (.agg #[.bool pb, .slice pa pn pk, .slice pc pm pl]) P ∧ Below w.heap.size w wr)
    (fun iv _ => (intOf iv + 1).toNat)
  case atStart => exact ⟨n, Nat.le_refl _, rfl, ⟨true, none, 0, 0, none, 0, 0, Bo, by rw [times_top TOP.out]; rfl⟩, Bp, Br, hu, hv, bel⟩
  case round =>
    clear Bo Bp Br hu hv bel
    obtain ⟨k, hk, rfl, OI, Bp, Br, hu, hv, bel⟩ := hrel
    by_cases h0 : k = 0
    · subst h0
      rw [Nat.pow_zero, Nat.div_one] at OI
      obtain ⟨qb, qa, qn, qk, qc, qm, ql, BO, PO⟩ := OI
      have g1 : ¬ (0 : Int) ≤ ((0 : Nat) : Int) - 1 := by omega
      have g2 : decide ((0 : Int) ≤ ((0 : Nat) : Int) - 1) = false := by decide
      have ltr := Br.lt
      have lto := BO.lt
      have c0 := BO.cell 0 _ rfl; have c1 := BO.cell 1 _ rfl; have c2 := BO.cell 2 _ rfl
      have d0 := Br.cell 0 _ rfl; have fd0 := Br.frozen 0; have d1 := Br.cell 1 _ rfl; have fd1 := Br.frozen 1; have d2 := Br.cell 2 _ rfl; have fd2 := Br.frozen 2
      go_wp2_with fail
      exact bodyPost_ret (v := .agg #[.bool qb, .slice qa qn qk, .slice qc qm ql]) (by simp [results, Tryd.results13, go_sem, d0, d1, d2]) rfl ⟨_, rfl, PO.put3 Br, below_put3 bel (by omega)⟩
    · obtain ⟨j, rfl⟩ : ∃ j, k = j + 1 := ⟨k - 1, by omega⟩
      have ej : ((j + 1 : Nat) : Int) - 1 = (j : Int) := by omega
      rw [ej]
      clear h0
      obtain ⟨qb, qa, qn, qk, qc, qm, ql, BO, PO⟩ := OI
      have g1 : (0 : Int) ≤ (j : Int) := by omega
      have gj : IntKind.i64.wrap ((j : Int) - 1) = (j : Int) - 1 := by rw [IntKind.wrap_i64]; omega
      have OQ : Hid _ := on_cmul HP.out (K.toNat / 2 ^ (j + 1))
      have lto := BO.lt
      have c0 := BO.cell 0 _ rfl; have c1 := BO.cell 1 _ rfl; have c2 := BO.cell 2 _ rfl
      go_wp2_with fail
      refine (r5_Add PO PO OQ.out OQ.out).mono ?_
      rintro e w4 ⟨v4, rfl, P4, hb⟩
      obtain ⟨sb, sa, sn, sk, sc, sm, sl, rfl⟩ := P4.form
      replace BO := BO.later hb
      replace Bp := Bp.later hb
      replace Br := Br.later hb
      replace hu := hu.later hb
      replace hv := hv.later hb
      replace bel := below_step bel hb
      clear hb
      have lto := BO.lt
      have e0 := BO.cell 0 _ rfl; have fe0 := BO.frozen 0; have e1 := BO.cell 1 _ rfl; have fe1 := BO.frozen 1; have e2 := BO.cell 2 _ rfl; have fe2 := BO.frozen 2
      go_upto_region 6 with fail
      replace P4 : PtIs (((w4.setCell ⟨bo, 0, none⟩ (.bool sb)).setCell ⟨bo, 1, none⟩ (.slice sa sn sk)).setCell ⟨bo, 2, none⟩ (.slice sc sm sl)) (.agg #[.bool sb, .slice sa sn sk, .slice sc sm sl]) _ := P4.put3 BO
      replace hu : NumIs (((w4.setCell ⟨bo, 0, none⟩ (.bool sb)).setCell ⟨bo, 1, none⟩ (.slice sa sn sk)).setCell ⟨bo, 2, none⟩ (.slice sc sm sl)) u K := hu.put3 BO
      replace hv : PtIs (((w4.setCell ⟨bo, 0, none⟩ (.bool sb)).setCell ⟨bo, 1, none⟩ (.slice sa sn sk)).setCell ⟨bo, 2, none⟩ (.slice sc sm sl)) (.agg #[.bool pb, .slice pa pn pk, .slice pc pm pl]) P := hv.put3 BO
      replace Bp : Blk (((w4.setCell ⟨bo, 0, none⟩ (.bool sb)).setCell ⟨bo, 1, none⟩ (.slice sa sn sk)).setCell ⟨bo, 2, none⟩ (.slice sc sm sl)) _ _ := blk_far3 Bp (by omega)
      replace Br : Blk (((w4.setCell ⟨bo, 0, none⟩ (.bool sb)).setCell ⟨bo, 1, none⟩ (.slice sa sn sk)).setCell ⟨bo, 2, none⟩ (.slice sc sm sl)) _ _ := blk_far3 Br (by omega)
      replace BO : Blk (((w4.setCell ⟨bo, 0, none⟩ (.bool sb)).setCell ⟨bo, 1, none⟩ (.slice sa sn sk)).setCell ⟨bo, 2, none⟩ (.slice sc sm sl)) _ _ := blk_put3 BO
      replace bel : Below _ _ (((w4.setCell ⟨bo, 0, none⟩ (.bool sb)).setCell ⟨bo, 1, none⟩ (.slice sa sn sk)).setCell ⟨bo, 2, none⟩ (.slice sc sm sl)) := below_put3 bel (by omega)
      clear lto e0 e1 e2 fe0 fe1 fe2
      generalize ((w4.setCell ⟨bo, 0, none⟩ (.bool sb)).setCell ⟨bo, 1, none⟩ (.slice sa sn sk)).setCell ⟨bo, 2, none⟩ (.slice sc sm sl) = w5 at *
      clear PO
      have OQ2 : Hid _ := on_add OQ.out OQ.out
      go_wp2_with fail
      refine (rbit_any _ _ j _ hu (by omega)).mono ?_
      rintro e w' ⟨rfl, hw⟩
      obtain rfl := hw.symm
      clear hw
      by_cases hb1 : K.toNat / 2 ^ j % 2 = 1
      · rw [decide_eq_true hb1]
        have HO2 : Hid _ := times_bit1 HP.out hb1
        clear hb1
        have lto := BO.lt
        have ltp := Bp.lt
        have c0 := BO.cell 0 _ rfl; have c1 := BO.cell 1 _ rfl; have c2 := BO.cell 2 _ rfl
        have d0 := Bp.cell 0 _ rfl; have d1 := Bp.cell 1 _ rfl; have d2 := Bp.cell 2 _ rfl
        go_wp2_with fail
        clear c0 c1 c2 d0 d1 d2 ltp lto
        refine (r5_Add P4 hv OQ2.out HP.out).mono ?_
        rintro e w6 ⟨v4, rfl, P6, hb⟩
        obtain ⟨tb, ta, tn, tk, tc, tm, tl, rfl⟩ := P6.form
        replace BO := BO.later hb
        replace Bp := Bp.later hb
        replace Br := Br.later hb
        replace hu := hu.later hb
        replace hv := hv.later hb
        replace bel := below_step bel hb
        clear hb
        have lto := BO.lt
        have e0 := BO.cell 0 _ rfl; have fe0 := BO.frozen 0; have e1 := BO.cell 1 _ rfl; have fe1 := BO.frozen 1; have e2 := BO.cell 2 _ rfl; have fe2 := BO.frozen 2
        go_wp2_with fail
        replace P6 : PtIs (((w6.setCell ⟨bo, 0, none⟩ (.bool tb)).setCell ⟨bo, 1, none⟩ (.slice ta tn tk)).setCell ⟨bo, 2, none⟩ (.slice tc tm tl)) (.agg #[.bool tb, .slice ta tn tk, .slice tc tm tl]) _ := P6.put3 BO
        replace hu : NumIs (((w6.setCell ⟨bo, 0, none⟩ (.bool tb)).setCell ⟨bo, 1, none⟩ (.slice ta tn tk)).setCell ⟨bo, 2, none⟩ (.slice tc tm tl)) u K := hu.put3 BO
        replace hv : PtIs (((w6.setCell ⟨bo, 0, none⟩ (.bool tb)).setCell ⟨bo, 1, none⟩ (.slice ta tn tk)).setCell ⟨bo, 2, none⟩ (.slice tc tm tl)) (.agg #[.bool pb, .slice pa pn pk, .slice pc pm pl]) P := hv.put3 BO
        replace Bp : Blk (((w6.setCell ⟨bo, 0, none⟩ (.bool tb)).setCell ⟨bo, 1, none⟩ (.slice ta tn tk)).setCell ⟨bo, 2, none⟩ (.slice tc tm tl)) _ _ := blk_far3 Bp (by omega)
        replace Br : Blk (((w6.setCell ⟨bo, 0, none⟩ (.bool tb)).setCell ⟨bo, 1, none⟩ (.slice ta tn tk)).setCell ⟨bo, 2, none⟩ (.slice tc tm tl)) _ _ := blk_far3 Br (by omega)
        replace BO : Blk (((w6.setCell ⟨bo, 0, none⟩ (.bool tb)).setCell ⟨bo, 1, none⟩ (.slice ta tn tk)).setCell ⟨bo, 2, none⟩ (.slice tc tm tl)) _ _ := blk_put3 BO
        replace bel : Below _ _ (((w6.setCell ⟨bo, 0, none⟩ (.bool tb)).setCell ⟨bo, 1, none⟩ (.slice ta tn tk)).setCell ⟨bo, 2, none⟩ (.slice tc tm tl)) := below_put3 bel (by omega)
        clear lto e0 e1 e2 fe0 fe1 fe2
        generalize ((w6.setCell ⟨bo, 0, none⟩ (.bool tb)).setCell ⟨bo, 1, none⟩ (.slice ta tn tk)).setCell ⟨bo, 2, none⟩ (.slice tc tm tl) = w7 at *
        go_roundw
        case rel => exact ⟨j, by omega, rfl, ⟨_, _, _, _, _, _, _, BO, by rw [← HO2.out]; exact P6⟩, Bp, Br, hu, hv, bel⟩
        case measure => simp [intOf]
      · rw [decide_eq_false hb1]
        have HO2 : Hid _ := times_bit0 HP.out hb1
        clear hb1
        go_wp2_with fail
        go_roundw
        case rel => exact ⟨j, by omega, rfl, ⟨_, _, _, _, _, _, _, BO, by rw [← HO2.out]; exact P4⟩, Bp, Br, hu, hv, bel⟩
        case measure => simp [intOf]

end Go.Proofs.YtdikjabghhhhfaaDoor
