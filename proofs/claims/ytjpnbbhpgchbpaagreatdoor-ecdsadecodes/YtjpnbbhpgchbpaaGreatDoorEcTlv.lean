/- ecdsa.isA, numberOf and belowN. -/
import Derived.Test.YtjpnbbhpgchbpaaGreatDoorRows
import Derived.Test.YtjpnbbhpgchbpaaGreatDoorEcFact
import Derived.Test.YtjpnbbhpgchbpaaGreatDoorEdLowG
import Derived.Test.YtjpnbbhpgchbpaaGreatDoorEdG
import Derived.Test.YtjpnbbhpgchbpaaGreatDoorWpRowG
import Derived.Test.YtjpnbbhpgchbpaaGreatDoorApBs
import Derived.Test.YtjpnbbhpgchbpaaGreatDoorDrOwn
import Derived.Test.YtjpnbbhpgchbpaaGreatDoorDrTG
import Derived.Test.YtjpnbbhpgchbpaaGreatDoorDrDG
import Derived.Test.YtjpnbbhpgchbpaaGreatDoorPrG
import Derived.Deep.OwnRows
import Derived.Deep.AppendLies
import Derived.Great.BuildSlice
import Derived.Laws.Rows
import Derived.Deep.WholeRow
import Derived.Deep.RegionHeld3
import Derived.Deep.DeepCutAuto
import Derived.Deep.DeepFit
namespace Go.Proofs.YtjpnbbhpgchbpaaGreatDoor
open Go.RowKit

set_option linter.unusedSimpArgs false in
set_option maxRecDepth 100000 in
set_option maxHeartbeats 1000000 in
theorem c14_isA {c t tag : Int} {m mk : Bool} {b : List Int} {ks : List Tl} {cs : List Value} {w : World} (h : TlAt w (.mk c t m b ks) cs) :
    Calls Tryz.prog 65 #[.agg cs.toArray, .int .i64 tag, .bool mk] w fun e w' => e = .returned (.bool (decide (c = 0 ∧ t = tag ∧ m = mk))) ∧ Below w.heap.size w w' := by
  rw [TlAt] at h
  obtain ⟨bv, ka, kc, rfl, hbv, -, -, -⟩ := h
  obtain ⟨ba, bc, rfl, -, -, -⟩ := hbv
  have B0 := Blk.new w [.int .i64 c, .int .i64 t, .bool m, .slice ba b.length bc, .slice ka ks.length kc] 61 w.heap.size rfl
  have bel : Below w.heap.size w (w.alloc (.cells #[.int .i64 c, .int .i64 t, .bool m, .slice ba b.length bc, .slice ka ks.length kc] 61)) := (Below.refl _ _).alloc (Nat.le_refl _) _
  go_enter Tryz.func65, Tryz.ntmps65
  go_upto_region 1 with fail
  generalize w.alloc (.cells #[.int .i64 c, .int .i64 t, .bool m, .slice ba b.length bc, .slice ka ks.length kc] 61) = W at *
  have e0 := B0.cell 0 _ rfl
  have e1 := B0.cell 1 _ rfl
  have e2 := B0.cell 2 _ rfl
  have lt0 := B0.lt
  by_cases c1 : c = 0
  rotate_left
  · have H : Hid (decide (c = 0 ∧ t = tag ∧ m = mk) = false) := decide_eq_false (fun h => c1 h.1)
    have d1 : (c == 0) = false := by rw [beq_eq_false_iff_ne]; exact c1
    clear c1
    go_wp2_with fail
    go_ret
    exact ⟨by rw [H.out]; rfl, bel⟩
  have d1 : (c == 0) = true := by rw [c1]; rfl
  by_cases c2 : t = tag
  rotate_left
  · have H : Hid (decide (c = 0 ∧ t = tag ∧ m = mk) = false) := decide_eq_false (fun h => c2 h.2.1)
    have d2 : (t == tag) = false := by rw [beq_eq_false_iff_ne]; exact c2
    clear c1 c2
    go_wp2_with fail
    go_ret
    exact ⟨by rw [H.out]; rfl, bel⟩
  have d2 : (t == tag) = true := by rw [c2]; exact beq_self_eq_true _
  have HC1 : Hid (c = 0) := c1
  have HC2 : Hid (t = tag) := c2
  clear c1 c2
  cases m <;> cases mk
  all_goals
    go_wp2_with fail
    go_ret
    exact ⟨by first | rfl | (simp only [HC1.out, HC2.out, decide_true, Bool.and_self]; rfl), bel⟩

/-- what numberOf tells of an element -/
def NumR (w : World) (T : Tl) (e : Ending) (w' : World) : Prop := (∃ n v', partP T = some n ∧ e = .returned (.tuple #[v', .nilIface]) ∧ Bs w' v' n ∧ NewV w v' ∧ byt n ∧ n.length ≤ 64 ∧ (48 < n.length → QQ ≤ beN n) ∧ Below w.heap.size w w') ∨ (partP T = none ∧ e = .returned (.tuple #[.slice none 0 0, .iface 34 (.int .i64 7)]) ∧ Below w.heap.size w w')
theorem ne_codeT (c : Int) : ∀ w : World, (binOp .neq 30 (.iface 34 (.int .i64 c)) .nilIface).run Tryz.prog w = .ok (.bool true) w := fun _ => by kernel_rfl
theorem ne_nilT : ∀ w : World, (binOp .neq 30 .nilIface .nilIface).run Tryz.prog w = .ok (.bool false) w := fun _ => by kernel_rfl
set_option linter.unusedSimpArgs false in
set_option maxRecDepth 100000 in
set_option maxHeartbeats 1000000 in
theorem c14_numberOf {c t : Int} {m : Bool} {b : List Int} {ks : List Tl} {cs : List Value} {w : World} (h : TlAt w (.mk c t m b ks) cs) (bb : byt b) (hl : b.length ≤ 1048576) :
    Calls Tryz.prog 66 #[.agg cs.toArray] w (NumR w (.mk c t m b ks)) := by
  have HT : Hid (TlAt w (.mk c t m b ks) cs) := h
  rw [TlAt] at h
  obtain ⟨bv, ka, kc, hcs, hbv, -, -, -⟩ := h
  have HBv : Hid (Bs w bv b) := hbv
  obtain ⟨ba, bc, rfl, -, -, -⟩ := hbv
  have HL5 : Hid (cs.length = 5) := HT.out.five
  have HC3 : Hid (cs[3]? = some (.slice ba b.length bc)) := by show _ = _; rw [hcs]; rfl
  clear hcs
  have B0 := Blk.new w cs 61 w.heap.size rfl
  have bel : Below w.heap.size w (w.alloc (.cells cs.toArray 61)) := (Below.refl _ _).alloc (Nat.le_refl _) _
  go_enter Tryz.func66, Tryz.ntmps66
  go_upto_region 1 with fail
  generalize w.alloc (.cells cs.toArray 61) = W at *
  have lt0 := B0.lt
  go_wp2_with (first | (refine wpList_load_run (by rfl) (by rfl) (by rfl) (B0.load Tryz.underlying61 rfl size_tlv HL5.out) ?_) | fail)
  refine (c14_isA (HT.out.later bel)).mono ?_
  rintro e w1 ⟨rfl, hb⟩
  replace B0 := B0.later hb
  replace bel := below_step bel hb
  clear hb lt0
  by_cases c1 : c = 0 ∧ t = 2 ∧ m = false
  rotate_left
  · have H : Hid (partP (.mk c t m b ks) = none) := partC_no c1
    rw [decide_eq_false c1]
    clear c1
    go_wp2_with fail
    refine bodyPost_ret (results_tmp2 rfl _ _ _) rfl ?_
    exact .inr ⟨H.out, rfl, bel⟩
  rw [decide_eq_true c1]
  obtain ⟨rfl, rfl, rfl⟩ := c1
  have lt0 := B0.lt
  have e3 := B0.cell 3 _ HC3.out
  go_wp2_with fail
  refine (con_Number (HBv.out.later bel) bb (by omega)).mono ?_
  rintro e w2 ⟨hok, hbad⟩
  cases hp : numP b with
  | ok nn =>
    obtain ⟨v1, rfl, bs1, hnw, hb⟩ := hok nn hp
    have HNw : Hid (NewV w v1) := hnw.up bel.size
    clear hnw
    have H : Hid (partP (.mk 0 2 false b ks) = some nn) := partC_ok hp
    have HGd : Hid _ := numC_good bb hp
    have HGr : Hid (48 < nn.length → QQ ≤ beN nn) := num_great bb hp
    have HBn : Hid (Bs w2 v1 nn) := bs1
    obtain ⟨na, nc, rfl, -, -, -⟩ := bs1
    replace bel := below_step bel hb
    clear hok hbad hp hb e3 lt0 B0
    have q3 := ne_nilT
    go_wp2_with fail
    refine bodyPost_ret (results_tmp2 rfl _ _ _) rfl ?_
    exact .inl ⟨nn, _, H.out, rfl, HBn.out, HNw.out, HGd.out.1, HGd.out.2, HGr.out, bel⟩
  | error cc =>
    obtain ⟨na, nc, rfl, hb⟩ := hbad cc hp
    have H : Hid (partP (.mk 0 2 false b ks) = none) := partC_bad hp
    replace bel := below_step bel hb
    clear hok hbad hp hb e3 lt0 B0
    have q3 := ne_codeT
    go_wp2_with fail
    refine bodyPost_ret (results_tmp2 rfl _ _ _) rfl ?_
    exact .inr ⟨H.out, rfl, bel⟩

/-- what belowN tells of bytes -/
def BelR (w : World) (n : List Int) (e : Ending) (w' : World) : Prop := (¬ isSc (beN n) ∧ e = .returned (.tuple #[.agg #[.int .u64 0, .int .u64 0, .int .u64 0, .int .u64 0, .int .u64 0, .int .u64 0], .iface 34 (.int .i64 3)]) ∧ Below w.heap.size w w') ∨ (∃ es, isSc (beN n) ∧ e = .returned (.tuple #[.agg es.toArray, .nilIface]) ∧ U6 es (beN n) ∧ Below w.heap.size w w')
theorem info_C : (Tryz.prog.info? 5).map (fun i => (i.zero, i.size, i.bytes)) = some (some (.int .u8 0), 1, 1) := by kernel_rfl
theorem mk_C (n : Nat) (hn : n ≤ 48) : ∀ w : World, (Instr.makeSlice 25 (.int .i64 (n : Int)) (.int .i64 (n : Int))).run Tryz.prog w = .ok (.slice (some ⟨w.heap.size, 0, none⟩) n n) (w.alloc (.cells (u8s (List.replicate n 0)).toArray 5)) := fun w => by
  have := run_make_row' 25 5 (.int .u8 0) 1 Tryz.underlying25 info_C rfl .i64 .i64 n (by omega) (by omega) w
  rw [made_zero] at this
  exact this
set_option linter.unusedSimpArgs false in
set_option maxRecDepth 100000 in
set_option maxHeartbeats 2000000 in
theorem c14_belowN {v : Value} {n : List Int} {w : World} (G : GlsO w) (hv : Bs w v n) (b : byt n) (hl : n.length ≤ 64) (hg : 48 < n.length → QQ ≤ beN n) :
    Calls Tryz.prog 67 #[v] w (BelR w n) := by
  have HG : Hid (GlsO w) := G
  have HB : Hid (byt n) := b
  have HGr : Hid (48 < n.length → QQ ≤ beN n) := hg
  have HV : Hid (Bs w v n) := hv
  obtain ⟨ao, cap, rfl, h1, h2, h3⟩ := hv
  clear G b hg h1 h2 h3
  have R0 := Blk.new w [.int .u64 0, .int .u64 0, .int .u64 0, .int .u64 0, .int .u64 0, .int .u64 0] 24 w.heap.size rfl
  have bel : Below w.heap.size w (w.alloc (.cells #[.int .u64 0, .int .u64 0, .int .u64 0, .int .u64 0, .int .u64 0, .int .u64 0] 24)) := (Below.refl _ _).alloc (Nat.le_refl _) _
  have hz := zero_u.out
  go_enter Tryz.func67, Tryz.ntmps67
  go_upto_region 1 with fail
  generalize w.alloc (.cells #[.int .u64 0, .int .u64 0, .int .u64 0, .int .u64 0, .int .u64 0, .int .u64 0] 24) = W at *
  clear hz
  by_cases c1 : 48 < n.length
  · have H : Hid (¬ isSc (beN n)) := fun h => by have := HGr.out c1; have := h.2; omega
    have g1 : (48 : Int) < (n.length : Int) := by omega
    obtain ⟨tR, hR⟩ := R0
    have HR1 : Hid _ := hR
    clear hR c1
    have hz := zero_u.out
    go_wp2_with (first | (refine wpList_store_row rfl 24 _ _ rfl w.heap.size #[.int .u64 0, .int .u64 0, .int .u64 0, .int .u64 0, .int .u64 0, .int .u64 0] rfl rfl tR _ HR1.out (by rw [size_u]; rfl) rfl (by simp [Value.oneCell']) ?_) | fail)
    exact bodyPost_ret (results_row_tmp rfl _ _ w.heap.size tR #[.int .u64 0, .int .u64 0, .int .u64 0, .int .u64 0, .int .u64 0, .int .u64 0] (0, 0) _ rfl (setRow_heap _ _ _ _ _ _ HR1.out) Tryz.underlying24 rfl (by rw [size_u]; rfl)) rfl (.inl ⟨H.out, rfl, below_setRow bel (by omega) _⟩)
  have g1 : ¬ (48 : Int) < (n.length : Int) := by omega
  obtain ⟨k, hk⟩ : ∃ k : Nat, k = 48 - n.length := ⟨_, rfl⟩
  have hk48 : k ≤ 48 := by omega
  have HKn : Hid (k + n.length = 48) := by show _ = _; omega
  have g2 : IntKind.i64.wrap (48 - (n.length : Int)) = (k : Int) := by rw [IntKind.wrap_i64]; omega
  have mk := mk_C k hk48
  clear hk
  obtain ⟨CZ, hCZ⟩ : ∃ c, (u8s (List.replicate k 0)).toArray = c := ⟨_, rfl⟩
  rw [hCZ] at mk
  have HCZ : Hid ((u8s (List.replicate k 0)).toArray = CZ) := hCZ
  clear hCZ
  have HV1 : Hid (Bs (W.alloc (.cells CZ 5)) (.slice ao n.length cap) n) := HV.out.later (bel.trans (((Below.refl _ _).alloc (Nat.le_refl _) _).mono bel.size))
  have own1 : (W.alloc (.cells CZ 5)).ownsRow W.heap.size 5 1 (.slice (some ⟨W.heap.size, 0, none⟩) k k) k (u8s (List.replicate k 0)) := by rw [← HCZ.out]; exact own_lits W _ k W.heap.size (by simp) (Nat.le_refl _) (by unfold maxLen; omega)
  have bel1 : Below W.heap.size W (W.alloc (.cells CZ 5)) := (Below.refl _ _).alloc (Nat.le_refl _) _
  have hs1 := bel1.size
  go_wp2_with (first | (at_builtin; refine wpList_append_bs (by rfl) _ _ (by rfl) W.heap.size _ k _ (by rfl) own1 _ n (by rfl) HV1.out (by omega) hs1 ?_; intro v8 w8 own8 hgrow hat) | fail)
  have bel8 := below_own (base := W.heap.size) bel1 hgrow hs1 (fun g hg => own_geD own1 hg) (Nat.le_refl _)
  have R1 := R0.below bel8 R0.lt
  have HL8 : Hid ((List.replicate k 0 ++ n).length = 48) := by show _ = _; rw [List.length_append, List.length_replicate]; exact HKn.out
  have HB8 : Hid (Bs w8 v8 (List.replicate k 0 ++ n)) := by have own9 := own8; rw [show k + n.length = (List.replicate k 0 ++ n).length by simp] at own9; exact Bs.of_own own9
  have HE8 : Hid (beN (List.replicate k 0 ++ n) = beN n) := beN_pad k n
  have HY8 : Hid (byt (List.replicate k 0 ++ n)) := byt_pad k HB.out
  have belw : Below w.heap.size w w8 := bel.trans (bel8.mono bel.size)
  obtain ⟨va, vc, hva⟩ : ∃ va vc, v8 = .slice va (k + n.length) vc := by obtain ⟨a, c, e, _⟩ := own_slice own8; exact ⟨a, c, e⟩
  subst hva
  clear hgrow hat own8 own1 bel1 hs1 bel8 R0 mk
  generalize List.replicate k 0 ++ n = P at *
  by_cases c2 : isSc (beN n)
  · refine (uODec (HG.out.below belw) HB8.out HY8.out HL8.out (by rw [HE8.out]; exact c2)).mono ?_
    rintro e w9 ⟨es, rfl, hu, hb⟩
    rw [HE8.out] at hu
    have HU : Hid (U6 es (beN n)) := hu
    have HC2 : Hid (isSc (beN n)) := c2
    have HSe : Hid (es.toArray.size = 6) := by show _ = _; rw [List.size_toArray]; exact hu.len
    have HOe : Hid (OneR es) := hu.ones
    replace R1 := R1.later hb
    replace belw := below_step belw hb
    clear hb hu c2
    obtain ⟨tR, hR⟩ := R1
    have HR1 : Hid _ := hR
    clear hR
    go_wp2_with (first | (refine wpList_store_row rfl 24 _ _ rfl w.heap.size es.toArray rfl rfl tR _ HR1.out (by rw [size_u, HSe.out]) (by rw [HSe.out]; rfl) HOe.out ?_) | fail)
    exact bodyPost_ret (results_row_tmp rfl _ _ w.heap.size tR es.toArray (0, 0) _ rfl (setRow_heap _ _ _ _ _ _ HR1.out) Tryz.underlying24 rfl (by rw [size_u, HSe.out])) rfl (.inr ⟨es, HC2.out, rfl, HU.out, below_setRow belw (by omega) _⟩)
  · refine (uODecNo (HG.out.below belw) HB8.out HY8.out HL8.out (beN_nonneg HY8.out) (by rw [HE8.out]; exact c2)).mono ?_
    rintro e w9 ⟨rfl, hb⟩
    have HC2 : Hid (¬ isSc (beN n)) := c2
    replace R1 := R1.later hb
    replace belw := below_step belw hb
    clear hb c2
    obtain ⟨tR, hR⟩ := R1
    have HR1 : Hid _ := hR
    clear hR
    go_wp2_with (first | (refine wpList_store_row rfl 24 _ _ rfl w.heap.size #[.int .u64 0, .int .u64 0, .int .u64 0, .int .u64 0, .int .u64 0, .int .u64 0] rfl rfl tR _ HR1.out (by rw [size_u]; rfl) rfl (by simp [Value.oneCell']) ?_) | fail)
    exact bodyPost_ret (results_row_tmp rfl _ _ w.heap.size tR #[.int .u64 0, .int .u64 0, .int .u64 0, .int .u64 0, .int .u64 0, .int .u64 0] (0, 0) _ rfl (setRow_heap _ _ _ _ _ _ HR1.out) Tryz.underlying24 rfl (by rw [size_u]; rfl)) rfl (.inl ⟨HC2.out, rfl, below_setRow belw (by omega) _⟩)
end Go.Proofs.YtjpnbbhpgchbpaaGreatDoor
