/- The law's part. -/
import Derived.Test.YtjpnbbhpgchbpaaGreatDoorRows
import Derived.Test.YtjpnbbhpgchbpaaGreatDoorEdG
import Derived.Test.YtjpnbbhpgchbpaaGreatDoorEdFactG
import Derived.Test.YtjpnbbhpgchbpaaGreatDoorPmNumR
import Derived.Test.YtjpnbbhpgchbpaaGreatDoorDrTG
import Derived.Deep.OwnRows
import Derived.Deep.AppendLies
import Derived.Great.BuildSlice
import Derived.Laws.Rows
import Derived.Deep.WholeRow
import Derived.Deep.RegionHeld3
import Derived.Deep.DeepCutAuto
import Derived.Deep.DeepFit
namespace Go.Proofs.YtjpnbbhpgchbpaaGreatDoor
open Go.RowKit

/-- what the law's part tells of an element -/
def PartR (w : World) (T : Tl) (e : Ending) (w' : World) : Prop := (∃ n v', partP T = some n ∧ e = .returned (.tuple #[v', .bool true]) ∧ Bs w' v' n ∧ byt n ∧ n.length ≤ 64 ∧ Below w.heap.size w w') ∨ (partP T = none ∧ ∃ v', e = .returned (.tuple #[v', .bool false]) ∧ Below w.heap.size w w')
theorem num_goodE {B n : List Int} (b : byt B) (h : numP B = .ok n) : byt n ∧ n.length ≤ 64 := by
  unfold numP at h
  obtain ⟨R, hR⟩ : ∃ R, (if B.getD 0 0 = 0 then B.drop 1 else B) = R := ⟨_, rfl⟩
  rw [hR] at h
  have hb : byt R := by
    rw [← hR]
    split
    · exact byt_dropM b 1
    · exact b
  by_cases g : B.length = 0 ∨ 127 < B.getD 0 0 ∨ (1 < B.length ∧ B.getD 0 0 = 0 ∧ B.getD 1 0 < 128)
  · rw [if_pos g] at h; cases h
  · rw [if_neg g] at h
    by_cases g2 : 64 < R.length
    · rw [if_pos g2] at h; cases h
    · rw [if_neg g2] at h; cases h; exact ⟨hb, by omega⟩
theorem num_badE {B : List Int} {c : Nat} (h : numP B = .error c) : c = 7 ∨ c = 2 := by
  unfold numP at h
  obtain ⟨R, hR⟩ : ∃ R, (if B.getD 0 0 = 0 then B.drop 1 else B) = R := ⟨_, rfl⟩
  rw [hR] at h
  by_cases g : B.length = 0 ∨ 127 < B.getD 0 0 ∨ (1 < B.length ∧ B.getD 0 0 = 0 ∧ B.getD 1 0 < 128)
  · rw [if_pos g] at h; cases h; exact .inl rfl
  · rw [if_neg g] at h
    by_cases g2 : 64 < R.length
    · rw [if_pos g2] at h; cases h; exact .inr rfl
    · rw [if_neg g2] at h; cases h
theorem part_no {c t : Int} {m : Bool} {b : List Int} {ks : List Tl} (h : ¬ (c = 0 ∧ t = 2 ∧ m = false)) : partP (.mk c t m b ks) = none := by rw [partP, if_neg h]
theorem part_bad {c t : Int} {m : Bool} {b : List Int} {ks : List Tl} {e : Nat} (h : numP b = .error e) : partP (.mk c t m b ks) = none := by
  rw [partP, h]
  split <;> rfl
theorem part_ok {b n : List Int} {ks : List Tl} (h : numP b = .ok n) : partP (.mk 0 2 false b ks) = some n := by rw [partP, if_pos ⟨rfl, rfl, rfl⟩, h]
set_option linter.unusedSimpArgs false in
set_option maxRecDepth 100000 in
set_option maxHeartbeats 2000000 in
theorem con_part14 {c t : Int} {m : Bool} {b : List Int} {ks : List Tl} {cs : List Value} {w : World} (h : TlAt w (.mk c t m b ks) cs) (bb : byt b) (hl : b.length ≤ 1048576) :
    Calls Tryz.prog 30 #[.agg cs.toArray] w (PartR w (.mk c t m b ks)) := by
  rw [TlAt] at h
  obtain ⟨bv, ka, kc, rfl, hbv, -, -, -⟩ := h
  have HBv : Hid (Bs w bv b) := hbv
  obtain ⟨ba, bc, rfl, -, -, -⟩ := hbv
  have B0 := Blk.new w [.int .i64 c, .int .i64 t, .bool m, .slice ba b.length bc, .slice ka ks.length kc] 61 w.heap.size rfl
  have bel : Below w.heap.size w (w.alloc (.cells #[.int .i64 c, .int .i64 t, .bool m, .slice ba b.length bc, .slice ka ks.length kc] 61)) := (Below.refl _ _).alloc (Nat.le_refl _) _
  go_enter Tryz.func30, Tryz.ntmps30
  go_upto_region 1 with fail
  generalize w.alloc (.cells #[.int .i64 c, .int .i64 t, .bool m, .slice ba b.length bc, .slice ka ks.length kc] 61) = W at *
  have e3 := B0.cell 3 _ rfl
  have lt0 := B0.lt
  go_wp2_with fail
  refine (r13_Number (HBv.out.later bel) bb (by omega)).mono ?_
  rintro e w1 ⟨hok, hbad⟩
  cases hp : numP b with
  | ok nn =>
    obtain ⟨v1, rfl, bs1, hb⟩ := hok nn hp
    have HNm : Hid (numP b = .ok nn) := hp
    have HGd : Hid _ := num_goodE bb hp
    have HBn : Hid (Bs w1 v1 nn) := bs1
    replace B0 := B0.later hb
    replace bel := below_step bel hb
    clear hok hbad hp bs1 hb e3 lt0
    have e0 := B0.cell 0 _ rfl
    have e1 := B0.cell 1 _ rfl
    have e2 := B0.cell 2 _ rfl
    have lt0 := B0.lt
    by_cases c1 : c = 0
    rotate_left
    · have H : Hid (partP (.mk c t m b ks) = none) := part_no (fun h => c1 h.1)
      have d1 : (c == 0) = false := by rw [beq_eq_false_iff_ne]; exact c1
      go_wp2_with fail
      refine bodyPost_ret (results_tmp2 rfl _ _ _) rfl ?_
      exact .inr ⟨H.out, _, rfl, bel⟩
    subst c1
    by_cases c2 : t = 2
    rotate_left
    · have H : Hid (partP (.mk 0 t m b ks) = none) := part_no (fun h => c2 h.2.1)
      have d1 : (t == 2) = false := by rw [beq_eq_false_iff_ne]; exact c2
      go_wp2_with fail
      refine bodyPost_ret (results_tmp2 rfl _ _ _) rfl ?_
      exact .inr ⟨H.out, _, rfl, bel⟩
    subst c2
    cases m with
    | true =>
      have H : Hid (partP (.mk 0 2 true b ks) = none) := part_no (fun h => by cases h.2.2)
      go_wp2_with fail
      refine bodyPost_ret (results_tmp2 rfl _ _ _) rfl ?_
      exact .inr ⟨H.out, _, rfl, bel⟩
    | false =>
      have H : Hid (partP (.mk 0 2 false b ks) = some nn) := part_ok HNm.out
      go_wp2_with fail
      refine bodyPost_ret (results_tmp2 rfl _ _ _) rfl ?_
      exact .inl ⟨nn, _, H.out, rfl, HBn.out, HGd.out.1, HGd.out.2, bel⟩
  | error cc =>
    obtain ⟨rfl, hb⟩ := hbad cc hp
    have HNm : Hid (numP b = .error cc) := hp
    have hcc := num_badE hp
    replace B0 := B0.later hb
    replace bel := below_step bel hb
    clear hok hbad hp hb e3 lt0
    have e0 := B0.cell 0 _ rfl
    have e1 := B0.cell 1 _ rfl
    have e2 := B0.cell 2 _ rfl
    have lt0 := B0.lt
    by_cases c1 : c = 0
    rotate_left
    · have H : Hid (partP (.mk c t m b ks) = none) := part_no (fun h => c1 h.1)
      have d1 : (c == 0) = false := by rw [beq_eq_false_iff_ne]; exact c1
      go_wp2_with fail
      refine bodyPost_ret (results_tmp2 rfl _ _ _) rfl ?_
      exact .inr ⟨H.out, _, rfl, bel⟩
    subst c1
    by_cases c2 : t = 2
    rotate_left
    · have H : Hid (partP (.mk 0 t m b ks) = none) := part_no (fun h => c2 h.2.1)
      have d1 : (t == 2) = false := by rw [beq_eq_false_iff_ne]; exact c2
      go_wp2_with fail
      refine bodyPost_ret (results_tmp2 rfl _ _ _) rfl ?_
      exact .inr ⟨H.out, _, rfl, bel⟩
    subst c2
    cases m with
    | true =>
      have H : Hid (partP (.mk 0 2 true b ks) = none) := part_no (fun h => by cases h.2.2)
      go_wp2_with fail
      refine bodyPost_ret (results_tmp2 rfl _ _ _) rfl ?_
      exact .inr ⟨H.out, _, rfl, bel⟩
    | false =>
      have H : Hid (partP (.mk 0 2 false b ks) = none) := part_bad HNm.out
      have d9 : (((cc : Nat) : Int) == 0) = false := by rw [beq_eq_false_iff_ne]; omega
      go_wp2_with fail
      refine bodyPost_ret (results_tmp2 rfl _ _ _) rfl ?_
      exact .inr ⟨H.out, _, rfl, bel⟩
end Go.Proofs.YtjpnbbhpgchbpaaGreatDoor
