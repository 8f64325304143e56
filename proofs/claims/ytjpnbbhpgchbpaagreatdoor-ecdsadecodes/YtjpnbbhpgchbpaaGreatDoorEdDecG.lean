/- ecdsa.isA, numberOf and belowN. What ecdsa.Decode answers. -/
import Derived.Test.YtjpnbbhpgchbpaaGreatDoorRows
import Derived.Test.YtjpnbbhpgchbpaaGreatDoorEdFactG
import Derived.Test.YtjpnbbhpgchbpaaGreatDoorEdLowG
import Derived.Test.YtjpnbbhpgchbpaaGreatDoorEdG
import Derived.Test.YtjpnbbhpgchbpaaGreatDoorWpRowG
import Derived.Test.YtjpnbbhpgchbpaaGreatDoorApBs
import Derived.Test.YtjpnbbhpgchbpaaGreatDoorDrOwn
import Derived.Test.YtjpnbbhpgchbpaaGreatDoorDrTG
import Derived.Test.YtjpnbbhpgchbpaaGreatDoorDrDG
import Derived.Test.YtjpnbbhpgchbpaaGreatDoorPrG
import Derived.Deep.OwnRows
import Derived.Deep.AppendLies
import Derived.Great.BuildSlice
import Derived.Laws.Rows
import Derived.Deep.WholeRow
import Derived.Deep.RegionHeld3
import Derived.Deep.DeepCutAuto
import Derived.Deep.DeepFit
import Derived.Test.YtjpnbbhpgchbpaaGreatDoorDcG3
namespace Go.Proofs.YtjpnbbhpgchbpaaGreatDoor
open Go.RowKit

set_option linter.unusedSimpArgs false in
set_option maxRecDepth 100000 in
set_option maxHeartbeats 1000000 in
theorem c14_isA {c t tag : Int} {m mk : Bool} {b : List Int} {ks : List Tl} {cs : List Value} {w : World} (h : TlAt w (.mk c t m b ks) cs) :
    Calls Tryz.prog 65 #[.agg cs.toArray, .int .i64 tag, .bool mk] w fun e w' => e = .returned (.bool (decide (c = 0 ∧ t = tag ∧ m = mk))) ∧ Below w.heap.size w w' := by
  rw [TlAt] at h
  obtain ⟨bv, ka, kc, rfl, hbv, -, -, -⟩ := h
  obtain ⟨ba, bc, rfl, -, -, -⟩ := hbv
  have B0 := Blk.new w [.int .i64 c, .int .i64 t, .bool m, .slice ba b.length bc, .slice ka ks.length kc] 61 w.heap.size rfl
  have bel : Below w.heap.size w (w.alloc (.cells #[.int .i64 c, .int .i64 t, .bool m, .slice ba b.length bc, .slice ka ks.length kc] 61)) := (Below.refl _ _).alloc (Nat.le_refl _) _
  go_enter Tryz.func65, Tryz.ntmps65
  go_upto_region 1 with fail
  generalize w.alloc (.cells #[.int .i64 c, .int .i64 t, .bool m, .slice ba b.length bc, .slice ka ks.length kc] 61) = W at *
  have e0 := B0.cell 0 _ rfl
  have e1 := B0.cell 1 _ rfl
  have e2 := B0.cell 2 _ rfl
  have lt0 := B0.lt
  by_cases c1 : c = 0
  rotate_left
  · have H : Hid (decide (c = 0 ∧ t = tag ∧ m = mk) = false) := decide_eq_false (fun h => c1 h.1)
    have d1 : (c == 0) = false := by rw [beq_eq_false_iff_ne]; exact c1
    clear c1
    go_wp2_with fail
    go_ret
    exact ⟨by rw [H.out]; rfl, bel⟩
  have d1 : (c == 0) = true := by rw [c1]; rfl
  by_cases c2 : t = tag
  rotate_left
  · have H : Hid (decide (c = 0 ∧ t = tag ∧ m = mk) = false) := decide_eq_false (fun h => c2 h.2.1)
    have d2 : (t == tag) = false := by rw [beq_eq_false_iff_ne]; exact c2
    clear c1 c2
    go_wp2_with fail
    go_ret
    exact ⟨by rw [H.out]; rfl, bel⟩
  have d2 : (t == tag) = true := by rw [c2]; exact beq_self_eq_true _
  have HC1 : Hid (c = 0) := c1
  have HC2 : Hid (t = tag) := c2
  clear c1 c2
  cases m <;> cases mk
  all_goals
    go_wp2_with fail
    go_ret
    exact ⟨by first | rfl | (simp only [HC1.out, HC2.out, decide_true, Bool.and_self]; rfl), bel⟩

/-- what numberOf tells of an element -/
def NumR (w : World) (T : Tl) (e : Ending) (w' : World) : Prop := (∃ n v', partP T = some n ∧ e = .returned (.tuple #[v', .nilIface]) ∧ Bs w' v' n ∧ NewV w v' ∧ byt n ∧ n.length ≤ 64 ∧ (48 < n.length → QQ ≤ beN n) ∧ Below w.heap.size w w') ∨ (partP T = none ∧ e = .returned (.tuple #[.slice none 0 0, .iface 34 (.int .i64 7)]) ∧ Below w.heap.size w w')
theorem ne_codeT (c : Int) : ∀ w : World, (binOp .neq 30 (.iface 34 (.int .i64 c)) .nilIface).run Tryz.prog w = .ok (.bool true) w := fun _ => by kernel_rfl
theorem ne_nilT : ∀ w : World, (binOp .neq 30 .nilIface .nilIface).run Tryz.prog w = .ok (.bool false) w := fun _ => by kernel_rfl
set_option linter.unusedSimpArgs false in
set_option maxRecDepth 100000 in
set_option maxHeartbeats 1000000 in
theorem c14_numberOf {c t : Int} {m : Bool} {b : List Int} {ks : List Tl} {cs : List Value} {w : World} (h : TlAt w (.mk c t m b ks) cs) (bb : byt b) (hl : b.length ≤ 1048576) :
    Calls Tryz.prog 66 #[.agg cs.toArray] w (NumR w (.mk c t m b ks)) := by
  have HT : Hid (TlAt w (.mk c t m b ks) cs) := h
  rw [TlAt] at h
  obtain ⟨bv, ka, kc, hcs, hbv, -, -, -⟩ := h
  have HBv : Hid (Bs w bv b) := hbv
  obtain ⟨ba, bc, rfl, -, -, -⟩ := hbv
  have HL5 : Hid (cs.length = 5) := HT.out.five
  have HC3 : Hid (cs[3]? = some (.slice ba b.length bc)) := by show _ = _; rw [hcs]; rfl
  clear hcs
  have B0 := Blk.new w cs 61 w.heap.size rfl
  have bel : Below w.heap.size w (w.alloc (.cells cs.toArray 61)) := (Below.refl _ _).alloc (Nat.le_refl _) _
  go_enter Tryz.func66, Tryz.ntmps66
  go_upto_region 1 with fail
  generalize w.alloc (.cells cs.toArray 61) = W at *
  have lt0 := B0.lt
  go_wp2_with (first | (refine wpList_load_run (by rfl) (by rfl) (by rfl) (B0.load Tryz.underlying61 rfl size_tlv HL5.out) ?_) | fail)
  refine (c14_isA (HT.out.later bel)).mono ?_
  rintro e w1 ⟨rfl, hb⟩
  replace B0 := B0.later hb
  replace bel := below_step bel hb
  clear hb lt0
  by_cases c1 : c = 0 ∧ t = 2 ∧ m = false
  rotate_left
  · have H : Hid (partP (.mk c t m b ks) = none) := partC_no c1
    rw [decide_eq_false c1]
    clear c1
    go_wp2_with fail
    refine bodyPost_ret (results_tmp2 rfl _ _ _) rfl ?_
    exact .inr ⟨H.out, rfl, bel⟩
  rw [decide_eq_true c1]
  obtain ⟨rfl, rfl, rfl⟩ := c1
  have lt0 := B0.lt
  have e3 := B0.cell 3 _ HC3.out
  go_wp2_with fail
  refine (con_Number (HBv.out.later bel) bb (by omega)).mono ?_
  rintro e w2 ⟨hok, hbad⟩
  cases hp : numP b with
  | ok nn =>
    obtain ⟨v1, rfl, bs1, hnw, hb⟩ := hok nn hp
    have HNw : Hid (NewV w v1) := hnw.up bel.size
    clear hnw
    have H : Hid (partP (.mk 0 2 false b ks) = some nn) := partC_ok hp
    have HGd : Hid _ := numC_good bb hp
    have HGr : Hid (48 < nn.length → QQ ≤ beN nn) := num_great bb hp
    have HBn : Hid (Bs w2 v1 nn) := bs1
    obtain ⟨na, nc, rfl, -, -, -⟩ := bs1
    replace bel := below_step bel hb
    clear hok hbad hp hb e3 lt0 B0
    have q3 := ne_nilT
    go_wp2_with fail
    refine bodyPost_ret (results_tmp2 rfl _ _ _) rfl ?_
    exact .inl ⟨nn, _, H.out, rfl, HBn.out, HNw.out, HGd.out.1, HGd.out.2, HGr.out, bel⟩
  | error cc =>
    obtain ⟨na, nc, rfl, hb⟩ := hbad cc hp
    have H : Hid (partP (.mk 0 2 false b ks) = none) := partC_bad hp
    replace bel := below_step bel hb
    clear hok hbad hp hb e3 lt0 B0
    have q3 := ne_codeT
    go_wp2_with fail
    refine bodyPost_ret (results_tmp2 rfl _ _ _) rfl ?_
    exact .inr ⟨H.out, rfl, bel⟩

/-- what belowN tells of bytes -/
def BelR (w : World) (n : List Int) (e : Ending) (w' : World) : Prop := (¬ isSc (beN n) ∧ e = .returned (.tuple #[.agg #[.int .u64 0, .int .u64 0, .int .u64 0, .int .u64 0, .int .u64 0, .int .u64 0], .iface 34 (.int .i64 3)]) ∧ Below w.heap.size w w') ∨ (∃ es, isSc (beN n) ∧ e = .returned (.tuple #[.agg es.toArray, .nilIface]) ∧ U6 es (beN n) ∧ Below w.heap.size w w')
theorem info_C : (Tryz.prog.info? 5).map (fun i => (i.zero, i.size, i.bytes)) = some (some (.int .u8 0), 1, 1) := by kernel_rfl
theorem mk_C (n : Nat) (hn : n ≤ 48) : ∀ w : World, (Instr.makeSlice 25 (.int .i64 (n : Int)) (.int .i64 (n : Int))).run Tryz.prog w = .ok (.slice (some ⟨w.heap.size, 0, none⟩) n n) (w.alloc (.cells (u8s (List.replicate n 0)).toArray 5)) := fun w => by
  have := run_make_row' 25 5 (.int .u8 0) 1 Tryz.underlying25 info_C rfl .i64 .i64 n (by omega) (by omega) w
  rw [made_zero] at this
  exact this
set_option linter.unusedSimpArgs false in
set_option maxRecDepth 100000 in
set_option maxHeartbeats 2000000 in
theorem c14_belowN {v : Value} {n : List Int} {w : World} (G : GlsO w) (hv : Bs w v n) (b : byt n) (hl : n.length ≤ 64) (hg : 48 < n.length → QQ ≤ beN n) :
    Calls Tryz.prog 67 #[v] w (BelR w n) := by
  have HG : Hid (GlsO w) := G
  have HB : Hid (byt n) := b
  have HGr : Hid (48 < n.length → QQ ≤ beN n) := hg
  have HV : Hid (Bs w v n) := hv
  obtain ⟨ao, cap, rfl, h1, h2, h3⟩ := hv
  clear G b hg h1 h2 h3
  have R0 := Blk.new w [.int .u64 0, .int .u64 0, .int .u64 0, .int .u64 0, .int .u64 0, .int .u64 0] 24 w.heap.size rfl
  have bel : Below w.heap.size w (w.alloc (.cells #[.int .u64 0, .int .u64 0, .int .u64 0, .int .u64 0, .int .u64 0, .int .u64 0] 24)) := (Below.refl _ _).alloc (Nat.le_refl _) _
  have hz := zero_u.out
  go_enter Tryz.func67, Tryz.ntmps67
  go_upto_region 1 with fail
  generalize w.alloc (.cells #[.int .u64 0, .int .u64 0, .int .u64 0, .int .u64 0, .int .u64 0, .int .u64 0] 24) = W at *
  clear hz
  by_cases c1 : 48 < n.length
  · have H : Hid (¬ isSc (beN n)) := fun h => by have := HGr.out c1; have := h.2; omega
    have g1 : (48 : Int) < (n.length : Int) := by omega
    obtain ⟨tR, hR⟩ := R0
    have HR1 : Hid _ := hR
    clear hR c1
    have hz := zero_u.out
    go_wp2_with (first | (refine wpList_store_row rfl 24 _ _ rfl w.heap.size #[.int .u64 0, .int .u64 0, .int .u64 0, .int .u64 0, .int .u64 0, .int .u64 0] rfl rfl tR _ HR1.out (by rw [size_u]; rfl) rfl (by simp [Value.oneCell']) ?_) | fail)
    exact bodyPost_ret (results_row_tmp rfl _ _ w.heap.size tR #[.int .u64 0, .int .u64 0, .int .u64 0, .int .u64 0, .int .u64 0, .int .u64 0] (0, 0) _ rfl (setRow_heap _ _ _ _ _ _ HR1.out) Tryz.underlying24 rfl (by rw [size_u]; rfl)) rfl (.inl ⟨H.out, rfl, below_setRow bel (by omega) _⟩)
  have g1 : ¬ (48 : Int) < (n.length : Int) := by omega
  obtain ⟨k, hk⟩ : ∃ k : Nat, k = 48 - n.length := ⟨_, rfl⟩
  have hk48 : k ≤ 48 := by omega
  have HKn : Hid (k + n.length = 48) := by show _ = _; omega
  have g2 : IntKind.i64.wrap (48 - (n.length : Int)) = (k : Int) := by rw [IntKind.wrap_i64]; omega
  have mk := mk_C k hk48
  clear hk
  obtain ⟨CZ, hCZ⟩ : ∃ c, (u8s (List.replicate k 0)).toArray = c := ⟨_, rfl⟩
  rw [hCZ] at mk
  have HCZ : Hid ((u8s (List.replicate k 0)).toArray = CZ) := hCZ
  clear hCZ
  have HV1 : Hid (Bs (W.alloc (.cells CZ 5)) (.slice ao n.length cap) n) := HV.out.later (bel.trans (((Below.refl _ _).alloc (Nat.le_refl _) _).mono bel.size))
  have own1 : (W.alloc (.cells CZ 5)).ownsRow W.heap.size 5 1 (.slice (some ⟨W.heap.size, 0, none⟩) k k) k (u8s (List.replicate k 0)) := by rw [← HCZ.out]; exact own_lits W _ k W.heap.size (by simp) (Nat.le_refl _) (by unfold maxLen; omega)
  have bel1 : Below W.heap.size W (W.alloc (.cells CZ 5)) := (Below.refl _ _).alloc (Nat.le_refl _) _
  have hs1 := bel1.size
  go_wp2_with (first | (at_builtin; refine wpList_append_bs (by rfl) _ _ (by rfl) W.heap.size _ k _ (by rfl) own1 _ n (by rfl) HV1.out (by omega) hs1 ?_; intro v8 w8 own8 hgrow hat) | fail)
  have bel8 := below_own (base := W.heap.size) bel1 hgrow hs1 (fun g hg => own_geD own1 hg) (Nat.le_refl _)
  have R1 := R0.below bel8 R0.lt
  have HL8 : Hid ((List.replicate k 0 ++ n).length = 48) := by show _ = _; rw [List.length_append, List.length_replicate]; exact HKn.out
  have HB8 : Hid (Bs w8 v8 (List.replicate k 0 ++ n)) := by have own9 := own8; rw [show k + n.length = (List.replicate k 0 ++ n).length by simp] at own9; exact Bs.of_own own9
  have HE8 : Hid (beN (List.replicate k 0 ++ n) = beN n) := beN_pad k n
  have HY8 : Hid (byt (List.replicate k 0 ++ n)) := byt_pad k HB.out
  have belw : Below w.heap.size w w8 := bel.trans (bel8.mono bel.size)
  obtain ⟨va, vc, hva⟩ : ∃ va vc, v8 = .slice va (k + n.length) vc := by obtain ⟨a, c, e, _⟩ := own_slice own8; exact ⟨a, c, e⟩
  subst hva
  clear hgrow hat own8 own1 bel1 hs1 bel8 R0 mk
  generalize List.replicate k 0 ++ n = P at *
  by_cases c2 : isSc (beN n)
  · refine (uODec (HG.out.below belw) HB8.out HY8.out HL8.out (by rw [HE8.out]; exact c2)).mono ?_
    rintro e w9 ⟨es, rfl, hu, hb⟩
    rw [HE8.out] at hu
    have HU : Hid (U6 es (beN n)) := hu
    have HC2 : Hid (isSc (beN n)) := c2
    have HSe : Hid (es.toArray.size = 6) := by show _ = _; rw [List.size_toArray]; exact hu.len
    have HOe : Hid (OneR es) := hu.ones
    replace R1 := R1.later hb
    replace belw := below_step belw hb
    clear hb hu c2
    obtain ⟨tR, hR⟩ := R1
    have HR1 : Hid _ := hR
    clear hR
    go_wp2_with (first | (refine wpList_store_row rfl 24 _ _ rfl w.heap.size es.toArray rfl rfl tR _ HR1.out (by rw [size_u, HSe.out]) (by rw [HSe.out]; rfl) HOe.out ?_) | fail)
    exact bodyPost_ret (results_row_tmp rfl _ _ w.heap.size tR es.toArray (0, 0) _ rfl (setRow_heap _ _ _ _ _ _ HR1.out) Tryz.underlying24 rfl (by rw [size_u, HSe.out])) rfl (.inr ⟨es, HC2.out, rfl, HU.out, below_setRow belw (by omega) _⟩)
  · refine (uODecNo (HG.out.below belw) HB8.out HY8.out HL8.out (beN_nonneg HY8.out) (by rw [HE8.out]; exact c2)).mono ?_
    rintro e w9 ⟨rfl, hb⟩
    have HC2 : Hid (¬ isSc (beN n)) := c2
    replace R1 := R1.later hb
    replace belw := below_step belw hb
    clear hb c2
    obtain ⟨tR, hR⟩ := R1
    have HR1 : Hid _ := hR
    clear hR
    go_wp2_with (first | (refine wpList_store_row rfl 24 _ _ rfl w.heap.size #[.int .u64 0, .int .u64 0, .int .u64 0, .int .u64 0, .int .u64 0, .int .u64 0] rfl rfl tR _ HR1.out (by rw [size_u]; rfl) rfl (by simp [Value.oneCell']) ?_) | fail)
    exact bodyPost_ret (results_row_tmp rfl _ _ w.heap.size tR #[.int .u64 0, .int .u64 0, .int .u64 0, .int .u64 0, .int .u64 0, .int .u64 0] (0, 0) _ rfl (setRow_heap _ _ _ _ _ _ HR1.out) Tryz.underlying24 rfl (by rw [size_u]; rfl)) rfl (.inl ⟨HC2.out, rfl, below_setRow belw (by omega) _⟩)
end Go.Proofs.YtjpnbbhpgchbpaaGreatDoor

namespace Go.Proofs.YtjpnbbhpgchbpaaGreatDoor
open Go.RowKit

/-- what Decode tells -/
def DecR (w : World) (B : List Int) (e : Ending) (w' : World) : Prop := (∀ c p, parseP B = .error (c, p) → ∃ er : Value, e = .returned (.tuple #[.agg #[.int .u64 0, .int .u64 0, .int .u64 0, .int .u64 0, .int .u64 0, .int .u64 0, .int .u64 0, .int .u64 0, .int .u64 0, .int .u64 0, .int .u64 0, .int .u64 0], er]) ∧ ErAt w' c p er ∧ Below w.heap.size w w') ∧ (∀ T, parseP B = .ok T → (sigP T = none → e = .returned (.tuple #[.agg #[.int .u64 0, .int .u64 0, .int .u64 0, .int .u64 0, .int .u64 0, .int .u64 0, .int .u64 0, .int .u64 0, .int .u64 0, .int .u64 0, .int .u64 0, .int .u64 0], codeV 7]) ∧ Below w.heap.size w w') ∧ (∀ x y, sigP T = some (x, y) → (¬ (isSc (beN x) ∧ isSc (beN y)) → e = .returned (.tuple #[.agg #[.int .u64 0, .int .u64 0, .int .u64 0, .int .u64 0, .int .u64 0, .int .u64 0, .int .u64 0, .int .u64 0, .int .u64 0, .int .u64 0, .int .u64 0, .int .u64 0], codeV 3]) ∧ Below w.heap.size w w') ∧ (isSc (beN x) → isSc (beN y) → ∃ rs ss, e = .returned (.tuple #[.agg (rs ++ ss).toArray, .nilIface]) ∧ U6 rs (beN x) ∧ U6 ss (beN y) ∧ Below w.heap.size w w')))
theorem DecR.bad {w w' : World} {B : List Int} {c p : Nat} {er : Value} (h : parseP B = .error (c, p)) (k : ErAt w' c p er) (bel : Below w.heap.size w w') : DecR w B (.returned (.tuple #[.agg #[.int .u64 0, .int .u64 0, .int .u64 0, .int .u64 0, .int .u64 0, .int .u64 0, .int .u64 0, .int .u64 0, .int .u64 0, .int .u64 0, .int .u64 0, .int .u64 0], er])) w' :=
  ⟨fun c2 p2 h2 => (by rw [h] at h2; cases h2; exact ⟨er, rfl, k, bel⟩), fun T h2 => (by rw [h] at h2; cases h2)⟩
theorem DecR.form {w w' : World} {B : List Int} {T : Tl} (h : parseP B = .ok T) (k : sigP T = none) (bel : Below w.heap.size w w') : DecR w B (.returned (.tuple #[.agg #[.int .u64 0, .int .u64 0, .int .u64 0, .int .u64 0, .int .u64 0, .int .u64 0, .int .u64 0, .int .u64 0, .int .u64 0, .int .u64 0, .int .u64 0, .int .u64 0], .iface 34 (.int .i64 7)])) w' :=
  ⟨fun c2 p2 h2 => (by rw [h] at h2; cases h2), fun T2 h2 => (by rw [h] at h2; cases h2; exact ⟨fun _ => ⟨rfl, bel⟩, fun x y h3 => (by rw [k] at h3; cases h3)⟩)⟩
theorem DecR.range {w w' : World} {B : List Int} {T : Tl} {x y : List Int} (h : parseP B = .ok T) (k : sigP T = some (x, y)) (hn : ¬ (isSc (beN x) ∧ isSc (beN y))) (bel : Below w.heap.size w w') : DecR w B (.returned (.tuple #[.agg #[.int .u64 0, .int .u64 0, .int .u64 0, .int .u64 0, .int .u64 0, .int .u64 0, .int .u64 0, .int .u64 0, .int .u64 0, .int .u64 0, .int .u64 0, .int .u64 0], .iface 34 (.int .i64 3)])) w' :=
  ⟨fun c2 p2 h2 => (by rw [h] at h2; cases h2), fun T2 h2 => (by rw [h] at h2; cases h2; exact ⟨fun h3 => (by rw [k] at h3; cases h3), fun x2 y2 h3 => (by rw [k] at h3; cases h3; exact ⟨fun _ => ⟨rfl, bel⟩, fun a b => absurd ⟨a, b⟩ hn⟩)⟩)⟩
theorem DecR.ok {w w' : World} {B : List Int} {T : Tl} {x y : List Int} {rs ss us : List Value} (h : parseP B = .ok T) (k : sigP T = some (x, y)) (hr : U6 rs (beN x)) (hs : U6 ss (beN y)) (h1 : isSc (beN x)) (h2 : isSc (beN y)) (hu : rs ++ ss = us) (bel : Below w.heap.size w w') : DecR w B (.returned (.tuple #[.agg us.toArray, .nilIface])) w' :=
  ⟨fun c2 p2 h2 => (by rw [h] at h2; cases h2), fun T2 h3 => (by rw [h] at h3; cases h3; exact ⟨fun h4 => (by rw [k] at h4; cases h4), fun x2 y2 h4 => (by rw [k] at h4; cases h4; exact ⟨fun hn => absurd ⟨h1, h2⟩ hn, fun _ _ => ⟨rs, ss, by rw [hu], hr, hs, bel⟩⟩)⟩)⟩
theorem ErAt.ne {w : World} {c p : Nat} {er : Value} (h : ErAt w c p er) : ∀ w : World, (binOp .neq 30 er .nilIface).run Tryz.prog w = .ok (.bool true) w := fun w => by
  rcases h with ⟨_, rfl⟩ | ⟨_, g, rfl, _⟩
  · kernel_rfl
  · kernel_rfl
/-- what was read of the kids so far -/
def RdTo (w : World) (gt : Nat) (ks : List Tl) (i : Nat) (X : List Value) : Prop := (∀ j, j < 2 → ∃ a n c, X[j]? = some (.slice a n c)) ∧ ∀ j, j < i → ∃ k n v, ks[j]? = some k ∧ partP k = some n ∧ X[j]? = some v ∧ Bs w v n ∧ (∀ a m c, v = .slice (some a) m c → 0 < m → a.block ≠ gt) ∧ byt n ∧ n.length ≤ 64 ∧ (48 < n.length → QQ ≤ beN n)
theorem RdTo.later {w w' : World} {gt i : Nat} {ks : List Tl} {X : List Value} (h : RdTo w gt ks i X) (hb : Below w.heap.size w w') : RdTo w' gt ks i X :=
  ⟨h.1, fun j hj => by obtain ⟨k, n, v, h1, h2, h3, h4, h5⟩ := h.2 j hj; exact ⟨k, n, v, h1, h2, h3, h4.later hb, h5⟩⟩
theorem bs_cellC {w : World} {v u : Value} {n : List Int} {g k : Nat} (h : Bs w v n) (hg : ∀ a m c, v = .slice (some a) m c → 0 < m → a.block ≠ g) : Bs (w.setCell ⟨g, k, none⟩ u) v n := by
  obtain ⟨ao, cp, e, h1, h2, h3⟩ := h
  refine ⟨ao, cp, e, h1, h2, fun h0 => ?_⟩
  obtain ⟨b, o, e2, hb, hc⟩ := h3 h0
  have hne : b ≠ g := hg ⟨b, o, none⟩ _ _ (by rw [e, e2]) h0
  refine ⟨b, o, e2, by simpa using hb, fun j hj => ?_⟩
  rw [World.cell?_setCell_far _ _ _ _ (by exact fun h => hne h.symm)]
  exact hc j hj
theorem RdTo.next {w : World} {gt i : Nat} {ks : List Tl} {X : List Value} {k : Tl} {n : List Int} {a : Option Addr} {m c : Nat} (h : RdTo w gt ks i X) (hX : X.length = 2) (hi : i < 2) (hk : ks[i]? = some k) (hp : partP k = some n) (hv : Bs w (.slice a m c) n) (hg : ∀ b m' c', Value.slice a m c = .slice (some b) m' c' → 0 < m' → b.block ≠ gt) (hb : byt n) (hl : n.length ≤ 64) (hq : 48 < n.length → QQ ≤ beN n) : RdTo (w.setCell ⟨gt, i, none⟩ (.slice a m c)) gt ks (i + 1) (X.set i (.slice a m c)) := by
  refine ⟨fun j hj => ?_, fun j hj => ?_⟩
  · by_cases e : j = i
    · subst e
      exact ⟨_, _, _, List.getElem?_set_self (by omega)⟩
    · rw [List.getElem?_set_ne (fun h => e h.symm)]
      exact h.1 j hj
  · by_cases e : j = i
    · subst e
      exact ⟨k, n, _, hk, hp, List.getElem?_set_self (by omega), bs_cellC hv hg, hg, hb, hl, hq⟩
    · rw [List.getElem?_set_ne (fun h => e h.symm)]
      obtain ⟨k', n', v, h1, h2, h3, h4, h5, h6⟩ := h.2 j (by omega)
      exact ⟨k', n', v, h1, h2, h3, bs_cellC h4 h5, h5, h6⟩
theorem two_kidsC {ks : List Tl} {a b : Tl} (h : ks.length = 2) (ha : ks[0]? = some a) (hb : ks[1]? = some b) : ks = [a, b] := by
  match ks, h, ha, hb with
  | [x, y], _, ha, hb =>
    simp at ha hb
    rw [ha, hb]
theorem two_cells {X : List Value} {a b : Value} (h : X.length = 2) (ha : X[0]? = some a) (hb : X[1]? = some b) : X = [a, b] := by
  match X, h, ha, hb with
  | [x, y], _, ha, hb =>
    simp at ha hb
    rw [ha, hb]
theorem zero_told : Hid (∀ w : World, (zeroValue 108).run Tryz.prog w = .ok (.agg #[.slice none 0 0, .slice none 0 0]) w) := fun w => by kernel_rfl
theorem er_row {w : World} {c p g : Nat} {er : Value} {cs : Array Value} (h : ErAt w c p er) (hg : ∀ k, er = .iface 76 (.pointer (some ⟨k, 0, none⟩)) → k ≠ g) : ErAt (w.setRow g cs) c p er := by
  rcases h with h | ⟨h, k, rfl, B⟩
  · exact .inl h
  · exact .inr ⟨h, k, rfl, B.row (hg k rfl)⟩
set_option linter.unusedSimpArgs false in
set_option maxRecDepth 100000 in
set_option maxHeartbeats 4000000 in
theorem c14_Decode {v : Value} {B : List Int} {w : World} (G : GlsO w) (hv : Bs w v B) (b : byt B) :
    Calls Tryz.prog 26 #[v] w (DecR w B) := by
  have HG : Hid (GlsO w) := G
  have HB : Hid (byt B) := b
  have HV : Hid (Bs w v B) := hv
  obtain ⟨ao, cap, rfl, h1, h2, h3⟩ := hv
  clear G b h1 h2 h3
  have R0 := Blk.new w [.int .u64 0, .int .u64 0, .int .u64 0, .int .u64 0, .int .u64 0, .int .u64 0, .int .u64 0, .int .u64 0, .int .u64 0, .int .u64 0, .int .u64 0, .int .u64 0] 28 w.heap.size rfl
  have bel : Below w.heap.size w (w.alloc (.cells #[.int .u64 0, .int .u64 0, .int .u64 0, .int .u64 0, .int .u64 0, .int .u64 0, .int .u64 0, .int .u64 0, .int .u64 0, .int .u64 0, .int .u64 0, .int .u64 0] 28)) := (Below.refl _ _).alloc (Nat.le_refl _) _
  have hz := zero_s.out
  go_enter Tryz.func26, Tryz.ntmps26
  go_upto_region 1 with fail
  generalize w.alloc (.cells #[.int .u64 0, .int .u64 0, .int .u64 0, .int .u64 0, .int .u64 0, .int .u64 0, .int .u64 0, .int .u64 0, .int .u64 0, .int .u64 0, .int .u64 0, .int .u64 0] 28) = W at *
  clear hz
  go_wp2_with fail
  refine (con_Parse (HV.out.later bel) HB.out).mono ?_
  rintro e w1 ⟨hok, hbad⟩
  cases hp : parseP B with
  | error q =>
    obtain ⟨c, p⟩ := q
    have R0w := R0
    obtain ⟨cs, er, rfl, htl, her, hfr, hb⟩ := hbad c p hp
    have HP : Hid (parseP B = .error (c, p)) := hp
    clear hok hbad hp
    have HS5 : Hid (cs.toArray.size = 5) := by show _ = _; rw [List.size_toArray]; exact htl.five
    have HO5 : Hid (OneC cs) := htl.ones
    have HL5 : Hid (cs.length = 5) := htl.five
    replace R0 := (R0.later hb).alloc (.cells cs.toArray 61)
    replace bel := below_alloc (o := .cells cs.toArray 61) (below_step bel hb)
    have HEr : Hid (ErAt (w1.alloc (.cells cs.toArray 61)) c p er) := her.later ((Below.refl _ _).alloc (Nat.le_refl _) _)
    have q3 := her.ne
    have HEl : Hid (∀ g, er = .iface 76 (.pointer (some ⟨g, 0, none⟩)) → g ≠ w.heap.size) := fun g hg => by have := hfr g hg; have := R0w.lt; omega
    clear her htl hb hfr R0w
    have hz := zero_tlv.out
    go_upto_region 2 with (first | (refine wpList_store_row rfl 61 _ _ rfl w1.heap.size cs.toArray rfl rfl 61 _ (heap_alloc_last _ _) (by rw [size_tlv, HS5.out]) (by rw [HS5.out]; rfl) HO5.out ?_; rw [World.setRow_alloc_new]) | fail)
    clear hz
    generalize w1.alloc (.cells cs.toArray 61) = V1 at *
    have lR := R0.lt
    obtain ⟨ty, pv, hev⟩ : ∃ ty pv, er = .iface ty pv := by rcases HEr.out with ⟨_, h⟩ | ⟨_, g, h, _⟩; exact ⟨_, _, h⟩; exact ⟨_, _, h⟩
    subst hev
    have HEz : Hid (ErAt (V1.setRow w.heap.size #[.int .u64 0, .int .u64 0, .int .u64 0, .int .u64 0, .int .u64 0, .int .u64 0, .int .u64 0, .int .u64 0, .int .u64 0, .int .u64 0, .int .u64 0, .int .u64 0]) c p (.iface ty pv)) := er_row HEr.out HEl.out
    obtain ⟨tR, hR⟩ := R0
    have HR1 : Hid _ := hR
    clear hR
    have hz := zero_s.out
    go_wp2_with (first | (refine wpList_store_row rfl 28 _ _ rfl (w.heap.size) #[.int .u64 0, .int .u64 0, .int .u64 0, .int .u64 0, .int .u64 0, .int .u64 0, .int .u64 0, .int .u64 0, .int .u64 0, .int .u64 0, .int .u64 0, .int .u64 0] rfl rfl tR _ HR1.out (by rw [size_s]; rfl) rfl (by simp [Value.oneCell']) ?_) | fail)
    refine bodyPost_ret (results_row_tmp rfl _ _ (w.heap.size) tR #[.int .u64 0, .int .u64 0, .int .u64 0, .int .u64 0, .int .u64 0, .int .u64 0, .int .u64 0, .int .u64 0, .int .u64 0, .int .u64 0, .int .u64 0, .int .u64 0] (0, 0) _ rfl (setRow_heap _ _ _ _ _ _ HR1.out) Tryz.underlying28 rfl (by rw [size_s]; rfl)) rfl ?_
    exact DecR.bad HP.out HEz.out (below_setRow bel (by omega) _)
  | ok T =>
  obtain ⟨cs, rfl, hdep, hb⟩ := hok T hp
  have R0w := R0
  have HP : Hid (parseP B = .ok T) := hp
  have HPo : Hid _ := parse_ok HB.out hp
  clear hok hbad hp
  obtain ⟨c, t, m, bb, ks⟩ := T
  have htl := hdep.now
  have HS5 : Hid (cs.toArray.size = 5) := by show _ = _; rw [List.size_toArray]; exact htl.five
  have HO5 : Hid (OneC cs) := htl.ones
  have HL5 : Hid (cs.length = 5) := htl.five
  have HT1 : Hid (TlAt w1 (.mk c t m bb ks) cs) := htl
  have hcs := htl
  rw [TlAt] at hcs
  obtain ⟨bv, ka, kc, hcs, -, -, -, hkids⟩ := hcs
  have HKd : Hid (0 < ks.length → ∃ g o, ka = some ⟨g, o, none⟩ ∧ KidsAt w1 ks g o) := hkids
  have HC4 : Hid (cs[4]? = some (.slice ka ks.length kc)) := by show _ = _; rw [hcs]; rfl
  replace R0 := (R0.later hb).alloc (.cells cs.toArray 61)
  replace bel := below_alloc (o := .cells cs.toArray 61) (below_step bel hb)
  have KB := Blk.new w1 cs 61 w1.heap.size rfl
  have st : Below w1.heap.size w1 (w1.alloc (.cells cs.toArray 61)) := (Below.refl _ _).alloc (Nat.le_refl _) _
  have HRw : Hid (w.heap.size < w1.heap.size) := by show _ < _; have := (R0w.later hb).lt; exact this
  clear hdep htl hcs hkids hb R0w
  have hz := zero_tlv.out
  go_upto_region 2 with (first | (refine wpList_store_row rfl 61 _ _ rfl w1.heap.size cs.toArray rfl rfl 61 _ (heap_alloc_last _ _) (by rw [size_tlv, HS5.out]) (by rw [HS5.out]; rfl) HO5.out ?_; rw [World.setRow_alloc_new]) | fail)
  clear hz
  obtain ⟨gk, hgk⟩ : ∃ g, g = w1.heap.size := ⟨_, rfl⟩
  have HGk : Hid (gk = w1.heap.size) := hgk
  rw [← hgk] at KB
  generalize w1.alloc (.cells cs.toArray 61) = V1 at *
  rw [← hgk]
  clear hgk
  have q3 := ne_nilT
  have lk := KB.lt
  go_wp2_with (first | (refine wpList_load_run (by rfl) (by rfl) (by rfl) (KB.load Tryz.underlying61 rfl size_tlv HL5.out) ?_) | fail)
  refine (c14_isA (HT1.out.later st)).mono ?_
  rintro e w2 ⟨rfl, hb⟩
  replace R0 := R0.later hb
  replace KB := KB.later hb
  replace bel := below_step bel hb
  replace st := below_stepD st hb
  clear hb
  clear lk q3
  have lk := KB.lt
  have e4 := KB.cell 4 _ HC4.out
  by_cases c1 : c = 0 ∧ t = 16 ∧ m = true
  rotate_left
  · have HN : Hid (sigP (.mk c t m bb ks) = none) := sigC_none (fun h => c1 h.1)
    rw [decide_eq_false c1]
    clear c1
    obtain ⟨tR, hR⟩ := R0
    have HR1 : Hid _ := hR
    clear hR
    have hz := zero_s.out
    go_wp2_with (first | (refine wpList_store_row rfl 28 _ _ rfl (w.heap.size) #[.int .u64 0, .int .u64 0, .int .u64 0, .int .u64 0, .int .u64 0, .int .u64 0, .int .u64 0, .int .u64 0, .int .u64 0, .int .u64 0, .int .u64 0, .int .u64 0] rfl rfl tR _ HR1.out (by rw [size_s]; rfl) rfl (by simp [Value.oneCell']) ?_) | fail)
    refine bodyPost_ret (results_row_tmp rfl _ _ (w.heap.size) tR #[.int .u64 0, .int .u64 0, .int .u64 0, .int .u64 0, .int .u64 0, .int .u64 0, .int .u64 0, .int .u64 0, .int .u64 0, .int .u64 0, .int .u64 0, .int .u64 0] (0, 0) _ rfl (setRow_heap _ _ _ _ _ _ HR1.out) Tryz.underlying28 rfl (by rw [size_s]; rfl)) rfl ?_
    exact DecR.form HP.out HN.out (below_setRow bel (by omega) _)
  rw [decide_eq_true c1]
  obtain ⟨rfl, rfl, rfl⟩ := c1
  by_cases c2 : ks.length = 2
  rotate_left
  · have HN : Hid (sigP (.mk 0 16 true bb ks) = none) := sigC_none (fun h => c2 h.2)
    have g1 : ((ks.length : Int) == 2) = false := by rw [beq_eq_false_iff_ne]; omega
    have g2 : ((ks.length : Int) != 2) = true := by rw [bne, g1]; rfl
    clear c2
    obtain ⟨tR, hR⟩ := R0
    have HR1 : Hid _ := hR
    clear hR
    have hz := zero_s.out
    go_wp2_with (first | (refine wpList_store_row rfl 28 _ _ rfl (w.heap.size) #[.int .u64 0, .int .u64 0, .int .u64 0, .int .u64 0, .int .u64 0, .int .u64 0, .int .u64 0, .int .u64 0, .int .u64 0, .int .u64 0, .int .u64 0, .int .u64 0] rfl rfl tR _ HR1.out (by rw [size_s]; rfl) rfl (by simp [Value.oneCell']) ?_) | fail)
    refine bodyPost_ret (results_row_tmp rfl _ _ (w.heap.size) tR #[.int .u64 0, .int .u64 0, .int .u64 0, .int .u64 0, .int .u64 0, .int .u64 0, .int .u64 0, .int .u64 0, .int .u64 0, .int .u64 0, .int .u64 0, .int .u64 0] (0, 0) _ rfl (setRow_heap _ _ _ _ _ _ HR1.out) Tryz.underlying28 rfl (by rw [size_s]; rfl)) rfl ?_
    exact DecR.form HP.out HN.out (below_setRow bel (by omega) _)
  have HK2 : Hid (ks.length = 2) := c2
  clear c2
  obtain ⟨kn, hkn⟩ : ∃ kn, ks.length = kn := ⟨_, rfl⟩
  have HKn : Hid (kn = 2) := by show _ = _; rw [← hkn]; exact HK2.out
  rw [hkn] at e4
  have g1 : ((kn : Int) == 2) = true := by rw [HKn.out]; rfl
  have g2 : ((kn : Int) != 2) = false := by rw [bne, g1]; rfl
  have HC4n : Hid (cs[4]? = some (.slice ka kn kc)) := by show _ = _; rw [← hkn]; exact HC4.out
  clear hkn HC4
  obtain ⟨gkk, gko, hka, hks⟩ := HKd.out (by rw [HK2.out]; omega)
  subst hka
  have HKs : Hid (KidsAt w1 ks gkk gko) := hks
  clear hks
  have hz := zero_told.out
  have HSt2 : Hid (w1.heap.size ≤ w2.heap.size) := st.size
  go_upto_region 7 with fail
  clear hz g1 g2
  have Bt := Blk.new w2 [.slice none 0 0, .slice none 0 0] 108 w2.heap.size rfl
  replace R0 := R0.alloc (.cells #[.slice none 0 0, .slice none 0 0] 108)
  replace KB := KB.alloc (.cells #[.slice none 0 0, .slice none 0 0] 108)
  replace bel := below_alloc (o := .cells #[.slice none 0 0, .slice none 0 0] 108) bel
  replace st := below_alloc (o := .cells #[.slice none 0 0, .slice none 0 0] 108) st
  obtain ⟨gt, hgt⟩ : ∃ g, g = w2.heap.size := ⟨_, rfl⟩
  have hgt1 : w1.heap.size ≤ gt := by rw [hgt]; exact HSt2.out
  rw [← hgt] at Bt
  clear e4 lk
  generalize w2.alloc (.cells #[.slice none 0 0, .slice none 0 0] 108) = V2 at *
  rw [← hgt]
  clear hgt HSt2
  have lk := KB.lt
  have e4 := KB.cell 4 _ HC4n.out
  have hTold : RdTo V2 gt ks 0 [.slice none 0 0, .slice none 0 0] := ⟨fun j hj => by match j, hj with | 0, _ => exact ⟨_, _, _, rfl⟩ | 1, _ => exact ⟨_, _, _, rfl⟩ | j + 2, hj => omega, fun j hj => absurd hj (by omega)⟩
  have HTo : Hid _ := hTold
  clear hTold
  go_wp2_with fail
  clear e4 lk
  go_loopw [34] (fun iv wx => ∃ (i : Nat) (X : List Value), i ≤ 2 ∧ iv = .int .i64 (i : Int) ∧ X.length = 2 ∧ Hid (RdTo wx gt ks i X) ∧ Blk wx gt X ∧ Blk wx w.heap.size [.int .u64 0, .int .u64 0, .int .u64 0, .int .u64 0, .int .u64 0, .int .u64 0, .int .u64 0, .int .u64 0, .int .u64 0, .int .u64 0, .int .u64 0, .int .u64 0] ∧ Below w.heap.size w wx ∧ Below w1.heap.size w1 wx) (fun iv _ => 2 - (intOf iv).toNat)
  case atStart => exact ⟨0, _, by omega, rfl, rfl, HTo, Bt, R0, bel, st⟩
  case round =>
    clear R0 KB Bt bel st HTo
    obtain ⟨i, X, hi, rfl, hX, HTo, Bt, R0, bel, st⟩ := hrel
    by_cases hil : i < 2
    · have g1 : (i : Int) < (kn : Int) := by rw [HKn.out]; omega
      have g2 : (0 : Int) ≤ (i : Int) := by omega
      have g3 : (i : Int) < 2 := by omega
      have gi : IntKind.i64.wrap ((i : Int) + 1) = (i : Int) + 1 := by rw [IntKind.wrap_i64]; omega
      obtain ⟨k, hkk⟩ := get_kid (show i < ks.length by rw [HK2.out]; exact hil)
      obtain ⟨cs5, hcs, hkt⟩ := HKs.out.get hkk
      replace hcs := hcs.later st
      replace hkt := hkt.later st
      have hld := tlv_load hcs hkt.five
      have hld2 := hld
      rw [Nat.mul_comm 5 i] at hld2
      have hz := zero_tlv.out
      have HS6 : Hid (cs5.toArray.size = 5) := by show _ = _; rw [List.size_toArray]; exact hkt.five
      have HO6 : Hid (OneC cs5) := hkt.ones
      have HL6 : Hid (cs5.length = 5) := hkt.five
      have KB := Blk.new wr cs5 61 wr.heap.size rfl
      replace R0 := R0.alloc (.cells cs5.toArray 61)
      replace Bt := Bt.alloc (.cells cs5.toArray 61)
      replace bel := below_alloc (o := .cells cs5.toArray 61) bel
      replace st := below_alloc (o := .cells cs5.toArray 61) st
      replace HTo : Hid (RdTo (wr.alloc (.cells cs5.toArray 61)) gt ks i X) := HTo.out.later ((Below.refl _ _).alloc (Nat.le_refl _) _)
      replace hkt := hkt.later ((Below.refl _ _).alloc (Nat.le_refl _) (.cells cs5.toArray 61))
      go_upto_region 10 with (first | (refine wpList_load_run (by rfl) (by rfl) (by rfl) hld ?_) | (refine wpList_load_run (by rfl) (by rfl) (by rfl) hld2 ?_) | (refine wpList_store_row rfl 61 _ _ rfl wr.heap.size cs5.toArray rfl rfl 61 _ (heap_alloc_last _ _) (by rw [size_tlv, HS6.out]) (by rw [HS6.out]; rfl) HO6.out ?_; rw [World.setRow_alloc_new]) | fail)
      clear hz hld hld2 hcs
      obtain ⟨g9, hg9⟩ : ∃ g9, g9 = wr.heap.size := ⟨_, rfl⟩
      rw [← hg9] at KB
      generalize wr.alloc (.cells cs5.toArray 61) = V5 at *
      rw [← hg9]
      clear hg9
      have lk := KB.lt
      have HKK : Hid (ks[i]? = some k) := hkk
      clear hkk
      obtain ⟨kc0, kt0, km0, kb0, kl0⟩ := k
      obtain ⟨hB0, hL0⟩ := kidC_small HPo.out.2.2.2.1 (by rw [HPo.out.1]; exact HPo.out.2.2.2.2) HK2.out HKK.out
      go_wp2_with (first | (refine wpList_load_run (by rfl) (by rfl) (by rfl) (KB.load Tryz.underlying61 rfl size_tlv HL6.out) ?_) | fail)
      refine (c14_numberOf hkt hB0 hL0).mono ?_
      rintro e w6 hN
      clear hkt hB0 hL0 lk
      rcases hN with ⟨nn, v1, hpn, rfl, hbn, hnw, hyn, hln, hgn, hb⟩ | ⟨hpn, rfl, hb⟩
      · have HBn : Hid (Bs w6 v1 nn) := hbn
        have HTo6 : Hid (RdTo w6 gt ks i X) := HTo.out.later hb
        have HNg : Hid (∀ b m' c', v1 = .slice (some b) m' c' → 0 < m' → b.block ≠ gt) := fun b m' c' e h0 => by have := hnw b m' c' e h0; have := Bt.lt; omega
        obtain ⟨na, nc, rfl, -, -, -⟩ := hbn
        have HTn : Hid (RdTo (w6.setCell ⟨gt, i, none⟩ (.slice na nn.length nc)) gt ks (i + 1) (X.set i (.slice na nn.length nc))) := HTo6.out.next hX hil HKK.out hpn HBn.out HNg.out hyn hln hgn
        obtain ⟨oa, on, oc, hox⟩ := HTo6.out.1 i hil
        replace Bt := Bt.later hb
        replace R0 := R0.later hb
        replace bel := below_step bel hb
        replace st := below_stepD st hb
        have rd := RdB.cell (k := i) Bt (.slice na nn.length nc)
        have x2 := Bt.cell i _ hox
        have fz := Bt.frozen i
        have lt := Bt.lt
        have q3 := ne_nilT
        have HRn : Hid (w.heap.size ≠ gt) := by show _ ≠ _; have := HRw.out; omega
        clear hb hox hpn hyn hln hgn hnw HTo HTo6 HNg KB
        have R1 := rd.2.1 _ _ HRn.out R0
        have bel1 := rd.2.2.1 _ _ (by have := HRw.out; omega) bel
        have st1 := rd.2.2.1 _ _ hgt1 st
        have Bt1 := rd.1
        have HLx : Hid ((X.set i (Value.slice na nn.length nc)).length = 2) := by show _ = _; rw [List.length_set]; exact hX
        clear rd
        go_wp2_with fail
        go_roundw
        case rel => exact ⟨i + 1, _, by omega, by go_num, HLx.out, HTn, Bt1, R1, bel1, st1⟩
        case measure => simp [intOf]; omega
      · have HN : Hid (sigP (.mk 0 16 true bb ks) = none) := sigC_no HKK.out hpn
        obtain ⟨oa, on, oc, hox⟩ := HTo.out.1 i hil
        replace Bt := Bt.later hb
        replace R0 := R0.later hb
        replace bel := below_step bel hb
        have rd := RdB.cell (k := i) Bt (.slice none 0 0)
        have x2 := Bt.cell i _ hox
        have fz := Bt.frozen i
        have lt := Bt.lt
        have HRn : Hid (w.heap.size ≠ gt) := by show _ ≠ _; have := HRw.out; omega
        have R1 := rd.2.1 _ _ HRn.out R0
        have bel1 := rd.2.2.1 _ _ (by have := HRw.out; omega) bel
        clear hb hox hpn HTo KB rd
        go_upto_region 11 with fail
        clear x2 fz lt R0 bel Bt st
        generalize World.setCell w6 _ _ = V6 at *
        have q3 := ne_codeT
        obtain ⟨tR, hR⟩ := R1
        have HR1 : Hid _ := hR
        clear hR
        have hz := zero_s.out
        go_wp2_with (first | (refine wpList_store_row rfl 28 _ _ rfl (w.heap.size) #[.int .u64 0, .int .u64 0, .int .u64 0, .int .u64 0, .int .u64 0, .int .u64 0, .int .u64 0, .int .u64 0, .int .u64 0, .int .u64 0, .int .u64 0, .int .u64 0] rfl rfl tR _ HR1.out (by rw [size_s]; rfl) rfl (by simp [Value.oneCell']) ?_) | fail)
        refine bodyPost_ret (results_row_tmp rfl _ _ (w.heap.size) tR #[.int .u64 0, .int .u64 0, .int .u64 0, .int .u64 0, .int .u64 0, .int .u64 0, .int .u64 0, .int .u64 0, .int .u64 0, .int .u64 0, .int .u64 0, .int .u64 0] (0, 0) _ rfl (setRow_heap _ _ _ _ _ _ HR1.out) Tryz.underlying28 rfl (by rw [size_s]; rfl)) rfl ?_
        exact DecR.form HP.out HN.out (below_setRow bel1 (by omega) _)
    · obtain rfl : i = 2 := by omega
      have g1 : ¬ ((2 : Nat) : Int) < (kn : Int) := by rw [HKn.out]; omega
      obtain ⟨k0, n0, v0, h01, h02, h03, h04, -, h05, h06, h07⟩ := HTo.out.2 0 (by omega)
      obtain ⟨k1, n1, v1, h11, h12, h13, h14, -, h15, h16, h17⟩ := HTo.out.2 1 (by omega)
      have hks2 := two_kidsC HK2.out h01 h11
      have HSg : Hid (sigP (.mk 0 16 true bb ks) = some (n0, n1)) := by rw [hks2]; exact sigC_some h02 h12
      have hx2 := two_cells hX h03 h13
      subst hx2
      have HB0 : Hid (Bs wr v0 n0) := h04
      have HB1 : Hid (Bs wr v1 n1) := h14
      have HG0 : Hid _ := And.intro h05 (And.intro h06 h07)
      have HG1 : Hid _ := And.intro h15 (And.intro h16 h17)
      obtain ⟨a0, c0, rfl, -, -, -⟩ := h04
      obtain ⟨a1, c1, rfl, -, -, -⟩ := h14
      clear h01 h02 h03 h05 h06 h07 h11 h12 h13 h15 h16 h17 hks2 hX HTo hil st
      have x0 := Bt.cell 0 _ rfl
      have lt := Bt.lt
      go_wp2_with fail
      refine (c14_belowN (HG.out.below bel) HB0.out HG0.out.1 HG0.out.2.1 HG0.out.2.2).mono ?_
      rintro e w7 hL
      clear x0 lt
      rcases hL with ⟨hn, rfl, hb⟩ | ⟨es, hsc, rfl, hu, hb⟩
      · have HN : Hid (¬ (isSc (beN n0) ∧ isSc (beN n1))) := fun h => hn h.1
        clear hn
        replace R0 := R0.later hb
        replace bel := below_step bel hb
        clear hb
        obtain ⟨zs, hzs⟩ : ∃ zs : List Value, [.int .u64 0, .int .u64 0, .int .u64 0, .int .u64 0, .int .u64 0, .int .u64 0] = zs := ⟨_, rfl⟩
        have HZs : Hid ([.int .u64 0, .int .u64 0, .int .u64 0, .int .u64 0, .int .u64 0, .int .u64 0] = zs) := hzs
        have hza : #[.int .u64 0, .int .u64 0, .int .u64 0, .int .u64 0, .int .u64 0, .int .u64 0] = zs.toArray := by rw [← hzs]
        rw [hza]
        clear hza hzs
        have HLh : Hid (zs.length = 6) := by rw [← HZs.out]; rfl
        have HSh : Hid (zs.toArray.size = 6) := by show _ = _; rw [List.size_toArray]; exact HLh.out
        have HOh : Hid (OneR zs) := by rw [← HZs.out]; exact U6.zero.ones
        replace R0 := R0.alloc (.cells zs.toArray 24)
        replace bel := below_alloc (o := .cells zs.toArray 24) bel
        have Bh := Blk.new w7 zs 24 w7.heap.size rfl
        have hz := zero_u.out
        go_upto_region 15 with (first | (refine wpList_store_row rfl 24 _ _ rfl w7.heap.size zs.toArray rfl rfl 24 _ (heap_alloc_last _ _) (by rw [size_u, HSh.out]) (by rw [HSh.out]; rfl) HOh.out ?_; rw [World.setRow_alloc_new]) | fail)
        clear hz
        obtain ⟨gh, hgh⟩ : ∃ g, g = w7.heap.size := ⟨_, rfl⟩
        rw [← hgh] at Bh
        generalize w7.alloc (.cells zs.toArray 24) = Vh at *
        rw [← hgh]
        clear hgh
        have q3 := ne_codeT
        obtain ⟨tR, hR⟩ := R0
        have HR1 : Hid _ := hR
        clear hR
        have hz := zero_s.out
        go_wp2_with (first | (refine wpList_store_row rfl 28 _ _ rfl (w.heap.size) #[.int .u64 0, .int .u64 0, .int .u64 0, .int .u64 0, .int .u64 0, .int .u64 0, .int .u64 0, .int .u64 0, .int .u64 0, .int .u64 0, .int .u64 0, .int .u64 0] rfl rfl tR _ HR1.out (by rw [size_s]; rfl) rfl (by simp [Value.oneCell']) ?_) | fail)
        refine bodyPost_ret (results_row_tmp rfl _ _ (w.heap.size) tR #[.int .u64 0, .int .u64 0, .int .u64 0, .int .u64 0, .int .u64 0, .int .u64 0, .int .u64 0, .int .u64 0, .int .u64 0, .int .u64 0, .int .u64 0, .int .u64 0] (0, 0) _ rfl (setRow_heap _ _ _ _ _ _ HR1.out) Tryz.underlying28 rfl (by rw [size_s]; rfl)) rfl ?_
        exact DecR.range HP.out HSg.out HN.out (below_setRow bel (by omega) _)
      have HU0 : Hid (U6 es (beN n0)) := hu
      have HSc0 : Hid (isSc (beN n0)) := hsc
      have HB1w : Hid (Bs w7 (.slice a1 n1.length c1) n1) := HB1.out.later hb
      replace R0 := R0.later hb
      replace Bt := Bt.later hb
      replace bel := below_step bel hb
      clear hb
      clear hu hsc HB1
      have HB1a : Hid (Bs (w7.alloc (.cells es.toArray 24)) (.slice a1 n1.length c1) n1) := HB1w.out.later ((Below.refl _ _).alloc (Nat.le_refl _) _)
      clear HB1w
      have HLr : Hid (es.length = 6) := HU0.out.len
      have HSr : Hid (es.toArray.size = 6) := by show _ = _; rw [List.size_toArray]; exact HLr.out
      have HOr : Hid (OneR es) := HU0.out.ones
      replace R0 := R0.alloc (.cells es.toArray 24)
      replace Bt := Bt.alloc (.cells es.toArray 24)
      replace bel := below_alloc (o := .cells es.toArray 24) bel
      have Br := Blk.new w7 es 24 w7.heap.size rfl
      have hz := zero_u.out
      go_upto_region 15 with (first | (refine wpList_store_row rfl 24 _ _ rfl w7.heap.size es.toArray rfl rfl 24 _ (heap_alloc_last _ _) (by rw [size_u, HSr.out]) (by rw [HSr.out]; rfl) HOr.out ?_; rw [World.setRow_alloc_new]) | fail)
      clear hz
      obtain ⟨gr, hgr⟩ : ∃ g, g = w7.heap.size := ⟨_, rfl⟩
      rw [← hgr] at Br
      generalize w7.alloc (.cells es.toArray 24) = Vr at *
      rw [← hgr]
      clear hgr
      have q3 := ne_nilT
      have x1 := Bt.cell 1 _ rfl
      have lt := Bt.lt
      go_wp2_with fail
      refine (c14_belowN (HG.out.below bel) HB1a.out HG1.out.1 HG1.out.2.1 HG1.out.2.2).mono ?_
      rintro e w8 hL
      clear x1 lt q3
      rcases hL with ⟨hn, rfl, hb⟩ | ⟨fs, hsc, rfl, hu, hb⟩
      · have HN : Hid (¬ (isSc (beN n0) ∧ isSc (beN n1))) := fun h => hn h.2
        clear hn
        replace R0 := R0.later hb
        replace bel := below_step bel hb
        clear hb
        obtain ⟨zs, hzs⟩ : ∃ zs : List Value, [.int .u64 0, .int .u64 0, .int .u64 0, .int .u64 0, .int .u64 0, .int .u64 0] = zs := ⟨_, rfl⟩
        have HZs : Hid ([.int .u64 0, .int .u64 0, .int .u64 0, .int .u64 0, .int .u64 0, .int .u64 0] = zs) := hzs
        have hza : #[.int .u64 0, .int .u64 0, .int .u64 0, .int .u64 0, .int .u64 0, .int .u64 0] = zs.toArray := by rw [← hzs]
        rw [hza]
        clear hza hzs
        have HLh : Hid (zs.length = 6) := by rw [← HZs.out]; rfl
        have HSh : Hid (zs.toArray.size = 6) := by show _ = _; rw [List.size_toArray]; exact HLh.out
        have HOh : Hid (OneR zs) := by rw [← HZs.out]; exact U6.zero.ones
        replace R0 := R0.alloc (.cells zs.toArray 24)
        replace bel := below_alloc (o := .cells zs.toArray 24) bel
        have Bh := Blk.new w8 zs 24 w8.heap.size rfl
        have hz := zero_u.out
        go_upto_region 18 with (first | (refine wpList_store_row rfl 24 _ _ rfl w8.heap.size zs.toArray rfl rfl 24 _ (heap_alloc_last _ _) (by rw [size_u, HSh.out]) (by rw [HSh.out]; rfl) HOh.out ?_; rw [World.setRow_alloc_new]) | fail)
        clear hz
        obtain ⟨gh, hgh⟩ : ∃ g, g = w8.heap.size := ⟨_, rfl⟩
        rw [← hgh] at Bh
        generalize w8.alloc (.cells zs.toArray 24) = Vh at *
        rw [← hgh]
        clear hgh
        have q3 := ne_codeT
        obtain ⟨tR, hR⟩ := R0
        have HR1 : Hid _ := hR
        clear hR
        have hz := zero_s.out
        go_wp2_with (first | (refine wpList_store_row rfl 28 _ _ rfl (w.heap.size) #[.int .u64 0, .int .u64 0, .int .u64 0, .int .u64 0, .int .u64 0, .int .u64 0, .int .u64 0, .int .u64 0, .int .u64 0, .int .u64 0, .int .u64 0, .int .u64 0] rfl rfl tR _ HR1.out (by rw [size_s]; rfl) rfl (by simp [Value.oneCell']) ?_) | fail)
        refine bodyPost_ret (results_row_tmp rfl _ _ (w.heap.size) tR #[.int .u64 0, .int .u64 0, .int .u64 0, .int .u64 0, .int .u64 0, .int .u64 0, .int .u64 0, .int .u64 0, .int .u64 0, .int .u64 0, .int .u64 0, .int .u64 0] (0, 0) _ rfl (setRow_heap _ _ _ _ _ _ HR1.out) Tryz.underlying28 rfl (by rw [size_s]; rfl)) rfl ?_
        exact DecR.range HP.out HSg.out HN.out (below_setRow bel (by omega) _)
      have HU1 : Hid (U6 fs (beN n1)) := hu
      have HSc1 : Hid (isSc (beN n1)) := hsc
      replace R0 := R0.later hb
      replace Br := Br.later hb
      replace bel := below_step bel hb
      clear hb
      clear hu hsc Bt HB1a
      have HLs : Hid (fs.length = 6) := HU1.out.len
      have HSs : Hid (fs.toArray.size = 6) := by show _ = _; rw [List.size_toArray]; exact HLs.out
      have HOs : Hid (OneR fs) := HU1.out.ones
      replace R0 := R0.alloc (.cells fs.toArray 24)
      replace Br := Br.alloc (.cells fs.toArray 24)
      replace bel := below_alloc (o := .cells fs.toArray 24) bel
      have BsB := Blk.new w8 fs 24 w8.heap.size rfl
      have hz := zero_u.out
      go_upto_region 18 with (first | (refine wpList_store_row rfl 24 _ _ rfl w8.heap.size fs.toArray rfl rfl 24 _ (heap_alloc_last _ _) (by rw [size_u, HSs.out]) (by rw [HSs.out]; rfl) HOs.out ?_; rw [World.setRow_alloc_new]) | fail)
      clear hz
      obtain ⟨gs, hgs⟩ : ∃ g, g = w8.heap.size := ⟨_, rfl⟩
      rw [← hgs] at BsB
      generalize w8.alloc (.cells fs.toArray 24) = Vs at *
      rw [← hgs]
      clear hgs
      have q3 := ne_nilT
      have l4 := Br.lt
      have l6 := BsB.lt
      have q7 := build_sig HU0.out HU1.out
      have hu2 : ∃ us, es ++ fs = us := ⟨_, rfl⟩
      obtain ⟨us2, hus⟩ := hu2
      have HUs : Hid (es ++ fs = us2) := hus
      have HSu : Hid (us2.toArray.size = 12) := by show _ = _; rw [List.size_toArray, ← hus, List.length_append, HU0.out.len, HU1.out.len]
      have HOu : Hid (OneR us2) := by rw [← hus]; exact HU0.out.ones.app HU1.out.ones
      rw [hus] at q7
      clear hus
      obtain ⟨tR, hR⟩ := R0
      have HR1 : Hid _ := hR
      clear hR
      go_wp2_with (first | (refine wpList_build_run (by rfl) (by rfl) (by rfl) (v := .agg us2.toArray) (q7 _) ?_) | (refine wpList_store_row rfl 28 _ _ rfl w.heap.size us2.toArray rfl rfl tR _ HR1.out (by rw [size_s, HSu.out]) (by rw [HSu.out]; rfl) HOu.out ?_) | (refine wpList_load_run (by rfl) (by rfl) (by rfl) (Br.load Tryz.underlying24 rfl size_u HLr.out) ?_) | (refine wpList_load_run (by rfl) (by rfl) (by rfl) (BsB.load Tryz.underlying24 rfl size_u HLs.out) ?_) | fail)
      refine bodyPost_ret (results_row_tmp rfl _ _ w.heap.size tR us2.toArray (0, 0) _ rfl (setRow_heap _ _ _ _ _ _ HR1.out) Tryz.underlying28 rfl (by rw [size_s, HSu.out])) rfl ?_
      exact DecR.ok HP.out HSg.out HU0.out HU1.out HSc0.out HSc1.out HUs.out (below_setRow bel (by omega) _)
theorem con_Decode {v : Value} {B : List Int} {w : World} (G : GlsO w) (hv : Bs w v B) (b : byt B) :
    Calls Tryz.prog 26 #[v] w fun e w' => (∀ c p, parseP B = .error (c, p) → ∃ er : Value, e = .returned (.tuple #[.agg #[.int .u64 0, .int .u64 0, .int .u64 0, .int .u64 0, .int .u64 0, .int .u64 0, .int .u64 0, .int .u64 0, .int .u64 0, .int .u64 0, .int .u64 0, .int .u64 0], er]) ∧ ErAt w' c p er ∧ Below w.heap.size w w') ∧ (∀ T, parseP B = .ok T → (sigP T = none → e = .returned (.tuple #[.agg #[.int .u64 0, .int .u64 0, .int .u64 0, .int .u64 0, .int .u64 0, .int .u64 0, .int .u64 0, .int .u64 0, .int .u64 0, .int .u64 0, .int .u64 0, .int .u64 0], codeV 7]) ∧ Below w.heap.size w w') ∧ (∀ x y, sigP T = some (x, y) → (¬ (isSc (beN x) ∧ isSc (beN y)) → e = .returned (.tuple #[.agg #[.int .u64 0, .int .u64 0, .int .u64 0, .int .u64 0, .int .u64 0, .int .u64 0, .int .u64 0, .int .u64 0, .int .u64 0, .int .u64 0, .int .u64 0, .int .u64 0], codeV 3]) ∧ Below w.heap.size w w') ∧ (isSc (beN x) → isSc (beN y) → ∃ rs ss, e = .returned (.tuple #[.agg (rs ++ ss).toArray, .nilIface]) ∧ U6 rs (beN x) ∧ U6 ss (beN y) ∧ Below w.heap.size w w'))) := (c14_Decode G hv b).mono (fun _ _ h => h)
end Go.Proofs.YtjpnbbhpgchbpaaGreatDoor
