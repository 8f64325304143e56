/- The document's Hidden. -/
import Derived.Test.YtogbmekgmjmonaaRows
import Derived.Test.YtogbmekgmjmonaaGcCtr
import Derived.Test.YtogbmekgmjmonaaAeEnc
import Derived.Test.YtogbmekgmjmonaaBase
import Derived.Test.YtogbmekgmjmonaaShape
import Derived.Test.YtogbmekgmjmonaaGhNumG
import Derived.Deep.WholeRow
import Derived.Deep.RegionHeld3
import Derived.Deep.DeepCutAuto
import Derived.Deep.DeepFit
namespace Go.Proofs.Ytogbmekgmjmonaa
open Go.RowKit

/-- hidden bytes while they are made -/
def hidW (K N B : List Int) (i : Nat) : List Int := hidZ K N B i ++ List.replicate (B.length - i) 0
theorem hidW_len {K N B : List Int} {i : Nat} (h : i ≤ B.length) : (hidW K N B i).length = B.length := by rw [hidW, List.length_append, hidZ_len, List.length_replicate]; omega
theorem hidW_0 (K N B : List Int) : hidW K N B 0 = List.replicate B.length 0 := by simp [hidW, hidZ]
theorem hidW_all (K N B : List Int) : hidW K N B B.length = hidN K N B := by rw [hidW, Nat.sub_self]; exact List.append_nil _
theorem hidZ_next (K N B : List Int) (i : Nat) : hidZ K N B (i + 1) = hidZ K N B i ++ [bits .xor .u8 (B.getD i 0) (rwb K N i)] := by simp [hidZ, List.range_succ]
theorem hidW_set {K N B : List Int} {i : Nat} (h : i < B.length) : (hidW K N B i).set i (bits .xor .u8 (B.getD i 0) (rwb K N i)) = hidW K N B (i + 1) := by
  rw [hidW, hidW, List.set_append_right _ _ (by rw [hidZ_len]; exact Nat.le_refl _), hidZ_len, Nat.sub_self, show B.length - i = (B.length - (i + 1)) + 1 by omega, List.replicate_succ, List.set_cons_zero, hidZ_next, List.append_assoc]
  rfl

set_option linter.unusedSimpArgs false in
set_option maxRecDepth 100000 in
set_option maxHeartbeats 4000000 in
theorem r11_Hidden {boxv kv nv bv : Value} {K N B : List Int} {w : World} (hbox : Bs w boxv (boxN 256)) (hk : Bs w kv K) (hn : Bs w nv N) (hb : Bs w bv B) (bK : byt K) (lK : K.length = 32) (bN : byt N) (lN : N.length = 12) (l : B.length ≤ 1000000000) :
    Calls Try.prog 11 #[boxv, kv, nv, bv] w fun e w' => ∃ g : Nat, e = .returned (.slice (some ⟨g, 0, none⟩) B.length B.length) ∧ w'.ownsRow w.heap.size 5 1 (.slice (some ⟨g, 0, none⟩) B.length B.length) B.length (u8s (hidN K N B)) ∧ Below w.heap.size w w' := by
  have HBox : Hid (Bs w boxv (boxN 256)) := hbox
  have HK : Hid (Bs w kv K) := hk
  have HN : Hid (Bs w nv N) := hn
  have HKb : Hid (byt K) := bK
  have HKl : Hid (K.length = 32) := lK
  have HNb : Hid (byt N) := bN
  have HNl : Hid (N.length = 12) := lN
  clear hbox hk hn bK lK bN lN
  obtain ⟨ao, cap, rfl, h1, h2, h3⟩ := hb
  have hz := zero_16.out
  have hmk := run_make_row' 22 5 (.int .u8 0) 1 Try.underlying22 info_b16 rfl .i64 .i64 B.length (by omega) (by omega) w
  rw [made_zero] at hmk
  have TY := (TyB.new w (u8s (List.replicate B.length 0)).toArray 5 w.heap.size rfl).alloc (.cells (u8s (List.replicate 16 0)).toArray 42)
  have V0 := (Blk.new w (u8s (List.replicate B.length 0)) 5 w.heap.size rfl).alloc (.cells (u8s (List.replicate 16 0)).toArray 42)
  have R0 := Blk.new (w.alloc (.cells (u8s (List.replicate B.length 0)).toArray 5)) (u8s (List.replicate 16 0)) 42 (w.heap.size + 1) (by simp)
  have bel : Below w.heap.size w ((w.alloc (.cells (u8s (List.replicate B.length 0)).toArray 5)).alloc (.cells (u8s (List.replicate 16 0)).toArray 42)) := (((Below.refl _ _).alloc (Nat.le_refl _) _).alloc (by simp) _)
  obtain ⟨Z, hZ⟩ : ∃ Z, (u8s (List.replicate 16 0)) = Z := ⟨_, rfl⟩
  have HZ : Hid ((u8s (List.replicate 16 0)) = Z) := hZ
  rw [hZ] at hz V0 R0 bel TY
  clear hZ
  obtain ⟨M, hM⟩ : ∃ M, u8s (List.replicate B.length 0) = M := ⟨_, rfl⟩
  have HM : Hid (u8s (List.replicate B.length 0) = M) := hM
  rw [hM] at hmk V0 R0 bel TY
  clear hM
  obtain ⟨W1, hW1⟩ : ∃ W, W = w.alloc (.cells M.toArray 5) := ⟨_, rfl⟩
  rw [← hW1] at hmk R0 bel V0 TY
  replace hmk : (Instr.makeSlice 22 (.int .i64 (B.length : Int)) (.int .i64 (B.length : Int))).run Try.prog w = .ok (.slice (some ⟨w.heap.size, 0, none⟩) B.length B.length) W1 := hmk
  have s1 : W1.heap.size = w.heap.size + 1 := by rw [hW1]; simp
  clear hW1
  go_enter Try.func11, Try.ntmps11
  go_wp2_with fail
  clear hmk hz
  generalize W1.alloc (Obj.cells Z.toArray 42) = W at *
  clear s1
  rw [← HM.out, ← hidW_0 K N B] at V0
  rw [← HZ.out] at R0
  by_cases h0 : B.length = 0
  · go_loopw [11] (fun iv wx => iv = .int .i64 0 ∧ wx = W) (fun _ _ => 0)
    case atStart => exact ⟨rfl, rfl⟩
    case round =>
      obtain ⟨rfl, hw⟩ := hrel
      rw [hw]
      clear hw
      have g1 : ¬ (0 : Int) < (B.length : Int) := by omega
      go_wp2_with fail
      go_ret
      have e0 : hidW K N B 0 = hidN K N B := by rw [← hidW_all, h0]
      rw [e0] at V0
      have o9 := own_blk TY V0 (Nat.le_refl _) (hidN_len K N B) (by omega)
      rw [h0] at o9
      exact ⟨_, rfl, o9, bel⟩
  · obtain ⟨b, o, rfl, hb0, hc0⟩ := h3 (by omega)
    have HC : Hid _ := hc0
    clear hc0
    have hBl : B.length ≤ 1000000000 := l
    clear h3 l h0
    go_loopw [11] (fun iv wx => ∃ (i : Nat) (Q : List Int), i ≤ B.length ∧ iv = .int .i64 i ∧ Hid (Q.length = 16) ∧ Hid (i % 16 ≠ 0 → Q = rowN K N (2 + i / 16)) ∧ Blk wx w.heap.size (u8s (hidW K N B i)) ∧ Blk wx (w.heap.size + 1) (u8s Q) ∧ Below w.heap.size w wx ∧ TyB wx w.heap.size 5) (fun iv _ => B.length - (intOf iv).toNat)
    case atStart => exact ⟨0, _, by omega, rfl, List.length_replicate, fun h => absurd rfl h, V0, R0, bel, TY⟩
    case round =>
      clear V0 R0 bel TY
      obtain ⟨i, Q, hi, rfl, HQl, HQ, V0, R0, bel, TY⟩ := hrel
      by_cases hil : i < B.length
      · have g1 : (i : Int) < (B.length : Int) := by omega
        have g2 : (0 : Int) ≤ (i : Int) := by omega
        have m1 : (i : Int).tmod 16 = ((i % 16 : Nat) : Int) := by rw [Int.tmod_eq_emod_of_nonneg (by omega)]; omega
        have m2 : ((i % 16 : Nat) : Int) < 16 := by omega
        have m3 : (0 : Int) ≤ ((i % 16 : Nat) : Int) := by omega
        have yb : Hid _ := HC.out i hil
        by_cases h0 : i % 16 = 0
        · have m0 : ((i % 16 : Nat) : Int) = 0 := by omega
          have d1 : (i : Int).tdiv 16 = ((i / 16 : Nat) : Int) := by rw [Int.tdiv_eq_ediv_of_nonneg (by omega)]; omega
          have d2 : IntKind.i64.wrap ((i / 16 : Nat) : Int) = ((i / 16 : Nat) : Int) := by rw [IntKind.wrap_i64]; omega
          have d3 : IntKind.i64.wrap (2 + ((i / 16 : Nat) : Int)) = ((2 + i / 16 : Nat) : Int) := by rw [IntKind.wrap_i64]; omega
          have l7 : 2 + i / 16 ≤ 4294967295 := by omega
          have HM0 : Hid (i % 16 = 0) := h0
          obtain ⟨q, hq⟩ : ∃ q, i / 16 = q := ⟨_, rfl⟩
          have HQq : Hid (i / 16 = q) := hq
          rw [hq] at d1 d2 d3 l7
          obtain ⟨p, hp⟩ : ∃ p, 2 + q = p := ⟨_, rfl⟩
          rw [hp] at d3 l7
          have HPp : Hid (2 + i / 16 = p) := by show _ = _; rw [hq]; exact hp
          clear hq hp
          rw [m0] at m1
          clear m0
          go_wp2_with fail
          refine (r11_counter (HN.out.later bel) HNl.out l7).mono ?_
          rintro e w1 ⟨rfl, hb⟩
          replace V0 := V0.later hb
          replace R0 := R0.later hb
          replace TY := TY.later hb
          replace bel := below_step bel hb
          clear hb
          go_wp2_with fail
          refine (r9_Encrypt (HBox.out.later bel) (HK.out.later bel) HKb.out HKl.out (ctrN_byt HNb.out p) (ctrN_len N p)).mono ?_
          rintro e w2 ⟨rfl, hb⟩
          replace V0 := V0.later hb
          replace R0 := R0.later hb
          replace TY := TY.later hb
          replace bel := below_step bel hb
          clear hb
          obtain ⟨F, hF⟩ : ∃ F, u8s (encN K (ctrN N p) 15) = F := ⟨_, rfl⟩
          have HF : Hid (u8s (rowN K N p) = F) := hF
          have HFl : Hid (F.length = 16) := by show _ = _; rw [← hF, u8s, List.length_map]; exact rowN_len K N p
          have HFo : Hid (F.toArray.all (·.oneCell') = true) := by rw [← hF]; exact u8_ones _
          rw [hF]
          clear hF
          obtain ⟨tR, hR⟩ := R0
          have HR : Hid _ := hR
          clear hR
          have HQs : Hid ((u8s Q).toArray.size = F.toArray.size) := by show _ = _; rw [List.size_toArray, List.size_toArray, HFl.out, u8s, List.length_map]; exact HQl.out
          go_upto_region 8 with (first
            | (refine wpList_store_row rfl 42 _ _ rfl (w.heap.size + 1) F.toArray rfl rfl tR _ HR.out (by rw [size_16, List.size_toArray, HFl.out]) HQs.out HFo.out ?_)
            | fail)
          have R9 : Blk (w2.setRow (w.heap.size + 1) F.toArray) (w.heap.size + 1) (u8s (rowN K N (2 + i / 16))) := by rw [HPp.out, HF.out]; exact ⟨tR, setRow_heap _ _ _ _ _ _ HR.out⟩
          replace V0 := V0.row (cs := F.toArray) (c := w.heap.size + 1) (by omega)
          replace TY := TY.row (cs := F.toArray) (c := w.heap.size + 1) (by omega)
          replace bel := below_setRow bel (show w.heap.size ≤ w.heap.size + 1 by omega) F.toArray
          clear HR HQ HQl HQs
          generalize w2.setRow (w.heap.size + 1) F.toArray = w3 at *
          obtain ⟨R0, hR9⟩ : ∃ B, B = R9 := ⟨_, rfl⟩
          clear hR9 R9 HF HFl HFo
          have HS : Hid _ := hidW_set (K := K) (N := N) hil
          have cb := (bel.cell (p := ⟨b, o + i, none⟩) hb0).trans yb.out
          have cr := R0.cell (i % 16) _ (u8s_get _ _ (by rw [rowN_len]; omega))
          have cv := V0.cell i _ (u8s_get _ i (by rw [hidW_len hi]; exact hil))
          have fz := V0.frozen i
          have HR9 : Hid ((rowN K N (2 + i / 16)).getD (i % 16) 0 = rwb K N i) := rfl
          rw [HR9.out] at cr
          obtain ⟨y, hy⟩ : ∃ y, B.getD i 0 = y := ⟨_, rfl⟩
          obtain ⟨x, hx⟩ : ∃ x, rwb K N i = x := ⟨_, rfl⟩
          rw [hy] at cb HS
          rw [hx] at cr HS
          rw [HM0.out] at cr
          clear hy hx HR9 m2 m3
          have lv := V0.lt
          have lr := R0.lt
          have lb : b < w3.heap.size := Nat.lt_of_lt_of_le hb0 bel.size
          have HV : Hid (Blk (World.setCell w3 ⟨w.heap.size, i, none⟩ (.int .u8 (bits .xor .u8 y x))) w.heap.size (u8s (hidW K N B (i + 1)))) := by rw [← HS.out]; exact V0.setb i (bits .xor .u8 y x)
          go_upto_region 8 with fail
          go_region
          all_goals go_wp2_with fail
          all_goals go_roundw
          all_goals first
            | exact ⟨i + 1, _, by omega, by go_num, rowN_len _ _ _, fun h => by rw [show (i + 1) / 16 = i / 16 by omega], HV.out.drew, (R0.other _ _ (by show w.heap.size + 1 ≠ w.heap.size; omega)).drew, (bel.setCell (by show w.heap.size ≤ w.heap.size; omega) _).drew, (TY.set _ _).drew⟩
            | (simp [intOf]; omega)
        · have m0 : ¬ ((i % 16 : Nat) : Int) = 0 := by omega
          replace HQ := HQ.out h0
          subst HQ
          clear HQl h0
          have HS : Hid _ := hidW_set (K := K) (N := N) hil
          have cb := (bel.cell (p := ⟨b, o + i, none⟩) hb0).trans yb.out
          have cr := R0.cell (i % 16) _ (u8s_get _ _ (by rw [rowN_len]; omega))
          have cv := V0.cell i _ (u8s_get _ i (by rw [hidW_len hi]; exact hil))
          have fz := V0.frozen i
          have HR9 : Hid ((rowN K N (2 + i / 16)).getD (i % 16) 0 = rwb K N i) := rfl
          rw [HR9.out] at cr
          obtain ⟨y, hy⟩ : ∃ y, B.getD i 0 = y := ⟨_, rfl⟩
          obtain ⟨x, hx⟩ : ∃ x, rwb K N i = x := ⟨_, rfl⟩
          rw [hy] at cb HS
          rw [hx] at cr HS
          obtain ⟨m, hm⟩ : ∃ m, i % 16 = m := ⟨_, rfl⟩
          have HM9 : Hid (i % 16 = m) := hm
          rw [hm] at m0 m1 m2 m3 cr
          clear hy hx hm HR9
          have lv := V0.lt
          have lr := R0.lt
          have lb : b < wr.heap.size := Nat.lt_of_lt_of_le hb0 bel.size
          have HV : Hid (Blk (World.setCell wr ⟨w.heap.size, i, none⟩ (.int .u8 (bits .xor .u8 y x))) w.heap.size (u8s (hidW K N B (i + 1)))) := by rw [← HS.out]; exact V0.setb i (bits .xor .u8 y x)
          go_upto_region 8 with fail
          go_region
          all_goals go_wp2_with fail
          all_goals go_roundw
          all_goals first
            | exact ⟨i + 1, _, by omega, by go_num, rowN_len _ _ _, fun h => by rw [show (i + 1) / 16 = i / 16 by omega], HV.out.drew, (R0.other _ _ (by show w.heap.size + 1 ≠ w.heap.size; omega)).drew, (bel.setCell (by show w.heap.size ≤ w.heap.size; omega) _).drew, (TY.set _ _).drew⟩
            | (simp [intOf]; omega)
      · have HI : Hid (i = B.length) := by show i = B.length; omega
        have g1 : ¬ (i : Int) < (B.length : Int) := by omega
        rw [HI.out, hidW_all] at V0
        go_wp2_with fail
        go_ret
        exact ⟨_, rfl, own_blk TY V0 (Nat.le_refl _) (hidN_len K N B) (by omega), bel⟩
end Go.Proofs.Ytogbmekgmjmonaa
