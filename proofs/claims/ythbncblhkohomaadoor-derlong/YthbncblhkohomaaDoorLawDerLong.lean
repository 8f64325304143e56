/- The law DerLong. -/
import Derived.Test.YthbncblhkohomaaDoorRows
import Derived.Test.YthbncblhkohomaaDoorDrUp
import Derived.Deep.WholeRow
import Derived.Deep.RegionHeld3
import Derived.Deep.DeepCutAuto
import Derived.Deep.DeepFit
namespace Go.Proofs.YthbncblhkohomaaDoor
open Go.RowKit

theorem mk_zero (n : Nat) (h : n ≤ 140737488355328) (w : World) : (Instr.makeSlice 22 (.int .i64 (n : Int)) (.int .i64 (n : Int))).run Tryd.prog w = .ok (.slice (some ⟨w.heap.size, 0, none⟩) n n) (w.alloc (.cells (u8s (List.replicate n 0)).toArray 5)) := by
  have := run_make_row' 22 5 (.int .u8 0) 1 Tryd.underlying22 info_bA rfl .i64 .i64 n (by omega) (by omega) w
  rw [made_zero] at this
  exact this
theorem parse_any {w w' : World} {B : List Int} {e : Ending} (h : (∀ T, parseP B = .ok T → ∃ cs, e = .returned (.tuple #[.agg cs.toArray, .nilIface]) ∧ Dep (fun b => w.heap.size ≤ b) w' T cs ∧ Below w.heap.size w w') ∧ (∀ c p, parseP B = .error (c, p) → ∃ (cs : List Value) (er : Value), e = .returned (.tuple #[.agg cs.toArray, er]) ∧ TlAt w' (.mk 0 0 false [] []) cs ∧ ErAt w' c p er ∧ ErFresh w.heap.size er ∧ Below w.heap.size w w')) : ∃ (cs : List Value) (er : Value), e = .returned (.tuple #[.agg cs.toArray, er]) ∧ OneC cs ∧ cs.length = 5 ∧ Below w.heap.size w w' ∧ (1048576 < B.length → er = .iface 36 (.int .i64 2)) := by
  cases hp : parseP B with
  | ok T =>
    obtain ⟨cs, h1, h2, h3⟩ := h.1 T hp
    refine ⟨cs, _, h1, h2.now.ones, h2.now.five, h3, fun hl => ?_⟩
    unfold parseP at hp
    rw [if_pos hl] at hp
    cases hp
  | error q =>
    obtain ⟨c, p⟩ := q
    obtain ⟨cs, er, h1, h2, h3, _, h4⟩ := h.2 c p hp
    refine ⟨cs, er, h1, h2.ones, h2.five, h4, fun hl => ?_⟩
    unfold parseP at hp
    rw [if_pos hl] at hp
    cases hp
    exact h3.long
theorem eq_nil_code (d : Int) (w : World) : (binOp .eql 28 .nilIface (.iface 36 (.int .i64 d))).run Tryd.prog w = .ok (.bool false) w := by kernel_rfl
set_option linter.unusedSimpArgs false in
set_option maxRecDepth 100000 in
set_option maxHeartbeats 2000000 in
theorem law_derLong (x : Int) (w : World) (G : GlsE w) (hx : -9223372036854775808 ≤ x ∧ x ≤ 9223372036854775807) :
    Calls Tryd.prog 5 #[.int .i64 x] w fun e w' => e = .returned (.bool true) ∧ Below w.heap.size w w' := by
  have hz := zero_tlv.out
  have HG : Hid (GlsE w) := G
  clear G
  have q := eq_nilcode 0
  have q1 := eq_code
  have q2 := eq_codenil
  have q3 := eq_spotcode
  have q4 := eq_nil_code
  go_enter Tryd.func5, Tryd.ntmps5
  go_wp2_with fail
  refine (con_up HG.out).mono ?_
  rintro e w1 ⟨rfl, bel⟩
  by_cases c1 : x < 0
  · go_wp2_with fail
    go_ret
    exact ⟨rfl, bel⟩
  by_cases c2 : 3145728 < x
  · go_wp2_with fail
    go_ret
    exact ⟨rfl, bel⟩
  obtain ⟨n, rfl⟩ := Int.eq_ofNat_of_zero_le (by omega : 0 ≤ x)
  have hn : n ≤ 3145728 := by omega
  have hmk := mk_zero n (by omega)
  obtain ⟨Zs, hZs⟩ : ∃ Z, u8s (List.replicate n 0) = Z := ⟨_, rfl⟩
  have HZs : Hid (u8s (List.replicate n 0) = Zs) := hZs
  rw [hZs] at hmk
  clear hZs
  have ZB := Blk.new w1 Zs 5 w1.heap.size rfl
  replace bel := below_alloc (o := .cells Zs.toArray 5) bel
  go_upto_region 5 with (first | (refine wpList_store_row rfl 26 _ _ rfl (w1.heap.size + 1) #[.int .i64 0, .int .i64 4, .bool false, .slice (some ⟨w1.heap.size, 0, none⟩) n n, .slice none 0 0] rfl rfl 26 _ (by simpa using heap_alloc_last _ _) (by rw [size_tlv]; rfl) rfl (by simp [Value.oneCell']) ?_; rw [show w1.heap.size + 1 = (w1.alloc (.cells Zs.toArray 5)).heap.size by simp, World.setRow_alloc_new]) | fail)
  have KB := Blk.new (w1.alloc (.cells Zs.toArray 5)) [.int .i64 0, .int .i64 4, .bool false, .slice (some ⟨w1.heap.size, 0, none⟩) n n, .slice none 0 0] 26 (w1.heap.size + 1) (by simp)
  replace bel := below_alloc (o := .cells #[.int .i64 0, .int .i64 4, .bool false, .slice (some ⟨w1.heap.size, 0, none⟩) n n, .slice none 0 0] 26) bel
  replace ZB := ZB.alloc (.cells #[.int .i64 0, .int .i64 4, .bool false, .slice (some ⟨w1.heap.size, 0, none⟩) n n, .slice none 0 0] 26)
  obtain ⟨g0, hg0⟩ : ∃ g, g = w1.heap.size := ⟨_, rfl⟩
  rw [← hg0] at ZB KB bel ⊢
  generalize (w1.alloc (.cells Zs.toArray 5)).alloc _ = w2 at *
  clear hg0 hz
  rw [← HZs.out] at ZB
  have bsz := ZB.bs List.length_replicate (by unfold maxLen; omega)
  have TA : TlAt w2 (.mk 0 4 false (List.replicate n 0) []) [.int .i64 0, .int .i64 4, .bool false, .slice (some ⟨g0, 0, none⟩) n n, .slice none 0 0] := by rw [TlAt]; exact ⟨_, none, 0, rfl, bsz, by simp, by decide, fun h => by simp at h⟩
  have HWf : Hid (WfT (.mk 0 4 false (List.replicate n 0) [])) := by show WfT _; rw [WfT, WfL]; exact ⟨by decide, by decide, byt_rep n, trivial⟩
  have HSz : Hid (szT (.mk 0 4 false (List.replicate n 0) []) = 1) := by show _ = _; rw [szT, szL]
  have HBl : Hid ((bytesT (.mk 0 4 false (List.replicate n 0) [])).length = 1 + (lenB n).length + n) := by show _ = _; rw [bytesT_len, bytesL, List.append_nil, List.length_replicate]
  have HWr : Hid (wrN (.mk 0 4 false (List.replicate n 0) []) = if 1048576 < 1 + (lenB n).length + n then 2 else 0) := by
    have f1 : fineT (.mk 0 4 false (List.replicate n 0) []) = true := by rw [fineT, fineL]; unfold fine1; simp
    have f2 : depT (.mk 0 4 false (List.replicate n 0) []) = 1 := by rw [depT, depL]
    show _ = _
    unfold wrN
    rw [if_pos f1, f2, if_neg (by decide), HBl.out]
  obtain ⟨T, hT⟩ : ∃ T, Tl.mk 0 4 false (List.replicate n 0) [] = T := ⟨_, rfl⟩
  rw [hT] at TA HWf HSz HBl HWr
  have l4 := lenB_len n
  clear hT bsz
  have lk := KB.lt
  go_wp2_with (first | (refine wpList_load_run (by rfl) (by rfl) (by rfl) (KB.load Tryd.underlying26 rfl size_tlv rfl) ?_) | fail)
  refine (con_Write TA HWf.out (by rw [HSz.out]; omega) (by rw [HBl.out]; omega)).mono ?_
  rintro e w3 ⟨v3, er3, rfl, hwr, hb⟩
  replace bel := below_stepD bel hb
  clear hb TA KB ZB lk
  have ZC := Blk.new w3 Zs 5 w3.heap.size rfl
  have ZB : Blk (w3.alloc (.cells Zs.toArray 5)) w3.heap.size (u8s (List.replicate n 0)) := by rw [HZs.out]; exact ZC
  have bsz := ZB.bs List.length_replicate (by unfold maxLen; omega)
  have hbz := (Below.refl _ _).alloc (Nat.le_refl _) (.cells Zs.toArray 5) (w := w3) (B := w3.heap.size)
  replace bel := below_stepD bel hbz
  have hz := zero_tlv.out
  clear ZC
  go_wp2_with fail
  refine (con_Parse bsz (byt_rep n)).mono ?_
  rintro e w4 hpost
  obtain ⟨ca, er, rfl, o5, l5, hb, hlong⟩ := parse_any hpost
  rw [List.length_replicate] at hlong
  replace bel := below_stepD bel hb
  have HOca : Hid (OneC ca) := o5
  have HSca : Hid (ca.toArray.size = 5) := by show _ = _; rw [List.size_toArray]; exact l5
  clear hpost hb bsz hbz ZB o5 l5 hmk
  go_upto_region 7 with (first | (refine wpList_store_row rfl 26 _ _ rfl w4.heap.size ca.toArray rfl rfl 26 _ (heap_alloc_last _ _) (by rw [size_tlv, HSca.out]) (by rw [HSca.out]; rfl) HOca.out ?_; rw [World.setRow_alloc_new]) | fail)
  replace bel := below_alloc (o := .cells ca.toArray 26) bel
  have KBca := Blk.new w4 ca 26 w4.heap.size rfl
  obtain ⟨ga, hgga⟩ : ∃ g, g = w4.heap.size := ⟨_, rfl⟩
  rw [← hgga] at KBca ⊢
  have hbx := (Below.refl _ _).alloc (Nat.le_refl _) (.cells ca.toArray 26) (w := w4) (B := w4.heap.size)
  generalize w4.alloc (.cells ca.toArray 26) = w5 at *
  clear hgga
  clear hbx hz KBca
  by_cases c3 : 1048576 < n
  · have g3 : (1048576 : Int) < (n : Int) := by omega
    obtain rfl := hlong c3
    have hw2 : wrN T = 2 := by rw [HWr.out, if_pos (by omega)]
    obtain ⟨bs3, rfl⟩ := hwr.2 (by rw [hw2]; decide)
    obtain ⟨a3, k3, rfl, _⟩ := bs3
    go_wp2_with fail
    go_ret
    exact ⟨rfl, bel⟩
  have g3 : ¬ (1048576 : Int) < (n : Int) := by omega
  by_cases d1 : n ≤ 127
  · have HLl : Hid ((lenB n).length = 1) := by show _ = _; unfold lenB; rw [if_pos (by omega)]; rfl
    have z1 : ¬ (127 : Int) < (n : Int) := by omega
    have z2 : ¬ (255 : Int) < (n : Int) := by omega
    have z3 : ¬ (65535 : Int) < (n : Int) := by omega
    have y2 : IntKind.i64.wrap ((n : Int) + 2) = (n : Int) + 2 := by rw [IntKind.wrap_i64]; omega
    have y3 : IntKind.i64.wrap ((n : Int) + 3) = (n : Int) + 3 := by rw [IntKind.wrap_i64]; omega
    have y4 : IntKind.i64.wrap ((n : Int) + 4) = (n : Int) + 4 := by rw [IntKind.wrap_i64]; omega
    have y5 : IntKind.i64.wrap ((n : Int) + 5) = (n : Int) + 5 := by rw [IntKind.wrap_i64]; omega
    by_cases c4 : 1048576 < n + 2
    · have g4 : (1048576 : Int) < (n : Int) + 2 := by omega
      have hw2 : wrN T = 2 := by rw [HWr.out, HLl.out, if_pos (by omega)]
      obtain ⟨bs3, rfl⟩ := hwr.2 (by rw [hw2]; decide)
      obtain ⟨a3, k3, rfl, _⟩ := bs3
      rw [hw2]
      go_wp2_with fail
      go_ret
      exact ⟨rfl, bel⟩
    · have g4 : ¬ (1048576 : Int) < (n : Int) + 2 := by omega
      have hw0 : wrN T = 0 := by rw [HWr.out, HLl.out, if_neg (by omega)]
      obtain ⟨fr3, rfl⟩ := hwr.1 hw0
      obtain ⟨g9, o9, k9, cu, rfl, _⟩ := fr3
      have e9 : (((bytesT T).length : Nat) : Int) = (n : Int) + 2 := by rw [HBl.out, HLl.out]; omega
      have hq : (((bytesT T).length : Nat) : Int) == (n : Int) + 2 := by rw [e9]; simp
      clear hwr
      go_wp2_with fail
      go_ret
      exact ⟨by simp, bel⟩
  by_cases d2 : n ≤ 255
  · have HLl : Hid ((lenB n).length = 2) := by show _ = _; unfold lenB; rw [if_neg (by omega), if_pos (by omega)]; rfl
    have z1 : (127 : Int) < (n : Int) := by omega
    have z2 : ¬ (255 : Int) < (n : Int) := by omega
    have z3 : ¬ (65535 : Int) < (n : Int) := by omega
    have y2 : IntKind.i64.wrap ((n : Int) + 2) = (n : Int) + 2 := by rw [IntKind.wrap_i64]; omega
    have y3 : IntKind.i64.wrap ((n : Int) + 3) = (n : Int) + 3 := by rw [IntKind.wrap_i64]; omega
    have y4 : IntKind.i64.wrap ((n : Int) + 4) = (n : Int) + 4 := by rw [IntKind.wrap_i64]; omega
    have y5 : IntKind.i64.wrap ((n : Int) + 5) = (n : Int) + 5 := by rw [IntKind.wrap_i64]; omega
    by_cases c4 : 1048576 < n + 3
    · have g4 : (1048576 : Int) < (n : Int) + 3 := by omega
      have hw2 : wrN T = 2 := by rw [HWr.out, HLl.out, if_pos (by omega)]
      obtain ⟨bs3, rfl⟩ := hwr.2 (by rw [hw2]; decide)
      obtain ⟨a3, k3, rfl, _⟩ := bs3
      rw [hw2]
      go_wp2_with fail
      go_ret
      exact ⟨rfl, bel⟩
    · have g4 : ¬ (1048576 : Int) < (n : Int) + 3 := by omega
      have hw0 : wrN T = 0 := by rw [HWr.out, HLl.out, if_neg (by omega)]
      obtain ⟨fr3, rfl⟩ := hwr.1 hw0
      obtain ⟨g9, o9, k9, cu, rfl, _⟩ := fr3
      have e9 : (((bytesT T).length : Nat) : Int) = (n : Int) + 3 := by rw [HBl.out, HLl.out]; omega
      have hq : (((bytesT T).length : Nat) : Int) == (n : Int) + 3 := by rw [e9]; simp
      clear hwr
      go_wp2_with fail
      go_ret
      exact ⟨by simp, bel⟩
  by_cases d3 : n ≤ 65535
  · have HLl : Hid ((lenB n).length = 3) := by show _ = _; unfold lenB; rw [if_neg (by omega), if_neg (by omega), if_pos (by omega)]; rfl
    have z1 : (127 : Int) < (n : Int) := by omega
    have z2 : (255 : Int) < (n : Int) := by omega
    have z3 : ¬ (65535 : Int) < (n : Int) := by omega
    have y2 : IntKind.i64.wrap ((n : Int) + 2) = (n : Int) + 2 := by rw [IntKind.wrap_i64]; omega
    have y3 : IntKind.i64.wrap ((n : Int) + 3) = (n : Int) + 3 := by rw [IntKind.wrap_i64]; omega
    have y4 : IntKind.i64.wrap ((n : Int) + 4) = (n : Int) + 4 := by rw [IntKind.wrap_i64]; omega
    have y5 : IntKind.i64.wrap ((n : Int) + 5) = (n : Int) + 5 := by rw [IntKind.wrap_i64]; omega
    by_cases c4 : 1048576 < n + 4
    · have g4 : (1048576 : Int) < (n : Int) + 4 := by omega
      have hw2 : wrN T = 2 := by rw [HWr.out, HLl.out, if_pos (by omega)]
      obtain ⟨bs3, rfl⟩ := hwr.2 (by rw [hw2]; decide)
      obtain ⟨a3, k3, rfl, _⟩ := bs3
      rw [hw2]
      go_wp2_with fail
      go_ret
      exact ⟨rfl, bel⟩
    · have g4 : ¬ (1048576 : Int) < (n : Int) + 4 := by omega
      have hw0 : wrN T = 0 := by rw [HWr.out, HLl.out, if_neg (by omega)]
      obtain ⟨fr3, rfl⟩ := hwr.1 hw0
      obtain ⟨g9, o9, k9, cu, rfl, _⟩ := fr3
      have e9 : (((bytesT T).length : Nat) : Int) = (n : Int) + 4 := by rw [HBl.out, HLl.out]; omega
      have hq : (((bytesT T).length : Nat) : Int) == (n : Int) + 4 := by rw [e9]; simp
      clear hwr
      go_wp2_with fail
      go_ret
      exact ⟨by simp, bel⟩
  · have HLl : Hid ((lenB n).length = 4) := by show _ = _; unfold lenB; rw [if_neg (by omega), if_neg (by omega), if_neg (by omega)]; rfl
    have z1 : (127 : Int) < (n : Int) := by omega
    have z2 : (255 : Int) < (n : Int) := by omega
    have z3 : (65535 : Int) < (n : Int) := by omega
    have y2 : IntKind.i64.wrap ((n : Int) + 2) = (n : Int) + 2 := by rw [IntKind.wrap_i64]; omega
    have y3 : IntKind.i64.wrap ((n : Int) + 3) = (n : Int) + 3 := by rw [IntKind.wrap_i64]; omega
    have y4 : IntKind.i64.wrap ((n : Int) + 4) = (n : Int) + 4 := by rw [IntKind.wrap_i64]; omega
    have y5 : IntKind.i64.wrap ((n : Int) + 5) = (n : Int) + 5 := by rw [IntKind.wrap_i64]; omega
    by_cases c4 : 1048576 < n + 5
    · have g4 : (1048576 : Int) < (n : Int) + 5 := by omega
      have hw2 : wrN T = 2 := by rw [HWr.out, HLl.out, if_pos (by omega)]
      obtain ⟨bs3, rfl⟩ := hwr.2 (by rw [hw2]; decide)
      obtain ⟨a3, k3, rfl, _⟩ := bs3
      rw [hw2]
      go_wp2_with fail
      go_ret
      exact ⟨rfl, bel⟩
    · have g4 : ¬ (1048576 : Int) < (n : Int) + 5 := by omega
      have hw0 : wrN T = 0 := by rw [HWr.out, HLl.out, if_neg (by omega)]
      obtain ⟨fr3, rfl⟩ := hwr.1 hw0
      obtain ⟨g9, o9, k9, cu, rfl, _⟩ := fr3
      have e9 : (((bytesT T).length : Nat) : Int) = (n : Int) + 5 := by rw [HBl.out, HLl.out]; omega
      have hq : (((bytesT T).length : Nat) : Int) == (n : Int) + 5 := by rw [e9]; simp
      clear hwr
      go_wp2_with fail
      go_ret
      exact ⟨by simp, bel⟩
end Go.Proofs.YthbncblhkohomaaDoor
