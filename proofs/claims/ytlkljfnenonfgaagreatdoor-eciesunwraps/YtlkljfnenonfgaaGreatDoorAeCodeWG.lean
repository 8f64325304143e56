/- The program's words of the round keys. The program's round keys. -/
import Derived.Test.YtlkljfnenonfgaaGreatDoorAeCodeX
import Derived.Test.YtlkljfnenonfgaaGreatDoorAeLaneG
import Derived.Test.YtlkljfnenonfgaaGreatDoorRows
import Derived.Deep.WholeRow
import Derived.Deep.RegionHeld3
import Derived.Deep.DeepCutAuto
import Derived.Deep.DeepFit
namespace Go.Proofs.YtlkljfnenonfgaaGreatDoor
open Go.RowKit
theorem zero_60:Hid (∀ w:World,(zeroValue 152).run Tryz.prog w=.ok (.agg (w4s (List.replicate 60 0)).toArray) w):=fun w=>by kernel_rfl
theorem size_60:(Tryz.prog.info? 152).map (·.size)=some 60:=by kernel_rfl
theorem zero_240:Hid (∀ w:World,(zeroValue 120).run Tryz.prog w=.ok (.agg (u8s (List.replicate 240 0)).toArray) w):=fun w=>by kernel_rfl
theorem size_240:(Tryz.prog.info? 120).map (·.size)=some 240:=by kernel_rfl
set_option maxRecDepth 100000 in
theorem con_wordSub {a:Int} {xs:List Nat} {w:World} (h:L4 a xs) :
  Calls Tryz.prog 121 #[.int .u32 a] w fun e w'=>∃ c,e=.returned (.int .u32 c)∧L4 c (xs.map subN)∧Below w.heap.size w w':=by
 have HA:Hid (L4 a xs):=h
 have w1:IntKind.u64.wrap a=a:=h.wrap
 clear h
 go_enter Tryz.func121,Tryz.ntmps121
 go_wp2_with fail
 refine (con_substitutes HA.out.wide).mono ?_
 rintro e w0 ⟨c,rfl,hc,hb⟩
 rw [List.map_append] at hc
 have HC:Hid (L4 (IntKind.u32.wrap c) (xs.map subN)):=hc.narrow (by rw [List.length_map];exact HA.out.2.1)
 clear hc
 go_wp2_with fail
 go_ret
 exact ⟨_,rfl,HC.out,hb⟩
set_option maxRecDepth 100000 in
theorem con_rl8 {a:Int} {p q r s:Nat} {w:World} (h:L4 a [p,q,r,s]) :
  Calls Tryz.prog 122 #[.int .u32 a,.int .i64 8] w fun e w'=>∃ c,e=.returned (.int .u32 c)∧L4 c [s,p,q,r]∧w'=w:=by
 have HA:Hid _:=h.rot
 have g2:bits .and .u64 8 31=8:=by decide
 clear h
 go_enter Tryz.func122,Tryz.ntmps122
 go_wp2
 go_ret
 exact ⟨_,rfl,HA.out,rfl⟩
set_option linter.unusedSimpArgs false in
set_option maxRecDepth 100000 in
set_option maxHeartbeats 4000000 in
theorem con_expanded {kv : Value} {K : List Int} {w : World} (hk : Bs w kv K) (bK : byt K) (l : K.length = 32) :
    Calls Tryz.prog 108 #[kv] w fun e w' => e = .returned (.agg (w4s (z2 K 60)).toArray) ∧ Below w.heap.size w w' := by
  obtain ⟨ao, cap, rfl, h1, h2, h3⟩ := hk
  rw [l] at h3 h2 ⊢
  obtain ⟨b, o, rfl, hb0, hc0⟩ := h3 (by omega)
  have HC : Hid _ := hc0
  have HB : Hid (byt K) := bK
  clear hc0 h3 bK l
  unfold maxLen at h1
  have hz := zero_60.out
  have R0 := (Blk.new w (w4s (List.replicate 60 0)) 152 w.heap.size rfl).alloc (.cells (w4s (List.replicate 60 0)).toArray 152)
  have V0 := Blk.new (w.alloc (.cells (w4s (List.replicate 60 0)).toArray 152)) (w4s (List.replicate 60 0)) 152 (w.heap.size + 1) (by simp)
  have bel : Below w.heap.size w ((w.alloc (.cells (w4s (List.replicate 60 0)).toArray 152)).alloc (.cells (w4s (List.replicate 60 0)).toArray 152)) := (((Below.refl _ _).alloc (Nat.le_refl _) _).alloc (by simp) _)
  generalize (w4s (List.replicate 60 0)).toArray = cs at hz bel R0 V0
  go_enter Tryz.func108, Tryz.ntmps108
  go_wp2_with fail
  clear hz
  obtain ⟨W, hW⟩ : ∃ z, z = (w.alloc (Obj.cells cs 152)).alloc (Obj.cells cs 152) := ⟨_, rfl⟩
  rw [← hW] at R0 V0 bel ⊢
  clear hW
  rw [← z1_0 K] at V0
  go_loopw [8] (fun iv wx => ∃ i : Nat, i ≤ 32 ∧ iv = .int .i64 i ∧ Blk wx (w.heap.size + 1) (w4s (z1 K i)) ∧ Blk wx w.heap.size (w4s (List.replicate 60 0)) ∧ Below w.heap.size w wx) (fun iv _ => 32 - (intOf iv).toNat)
  case atStart => exact ⟨0, by omega, rfl, V0, R0, bel⟩
  case round =>
    clear V0 R0 bel
    obtain ⟨i, hi, rfl, V, R, bel⟩ := hrel
    by_cases hil : i < 32
    · have g1 : (i : Int) < 32 := by omega
      have g2 : (0 : Int) ≤ (i : Int) := by omega
      have q1 : (i : Int).tdiv 4 = ((i / 4 : Nat) : Int) := by rw [Int.tdiv_eq_ediv_of_nonneg (by omega)]; omega
      have q2 : (0 : Int) ≤ ((i / 4 : Nat) : Int) := by omega
      have q3 : ((i / 4 : Nat) : Int) < 60 := by omega
      have HS : Hid _ := z1_set (K := K) hil
      have cv := V.cell (i / 4) _ (w4s_get _ (i / 4) (by rw [z1_len]; omega))
      rw [z1_get hil] at cv
      have fz := V.frozen (i / 4)
      have ck := (bel.cell (p := ⟨b, o + i, none⟩) hb0).trans (HC.out i hil)
      have yb := HB.out i
      have HO := or_low4 (rvN_bd4 HB.out (4 * (i / 4)) (show i % 4 < 4 by omega)) yb
      rw [← HO] at HS
      obtain ⟨y, hy⟩ : ∃ y, K.getD i 0 = y := ⟨_, rfl⟩
      obtain ⟨x, hx⟩ : ∃ x, ((jn (rvN K (4 * (i / 4)) (i % 4)) : Nat) : Int) = x := ⟨_, rfl⟩
      obtain ⟨n, hn⟩ : ∃ n, i / 4 = n := ⟨_, rfl⟩
      rw [hy] at ck yb HS
      rw [hx] at cv HS
      rw [hn] at q1 q2 q3 cv fz HS
      have wy : IntKind.u32.wrap y = y := by rw [IntKind.wrap_u32]; omega
      clear hy hx hn HO
      have lv := V.lt
      have lb : b < wr.heap.size := Nat.lt_of_lt_of_le hb0 bel.size
      obtain ⟨z, hz⟩ : ∃ z, bits .or .u32 (x * 256 % 4294967296) y = z := ⟨_, rfl⟩
      rw [hz] at HS
      go_upto_region 5 with fail
      go_region
      all_goals go_wp2_with fail
      all_goals go_roundw
      case rel =>
        replace V := V.setw n z
        rw [HS.out] at V
        exact ⟨i + 1, by omega, by go_num, V.drew, (R.other _ _ (by show w.heap.size ≠ w.heap.size + 1; omega)).drew, (bel.setCell (by show w.heap.size ≤ w.heap.size + 1; omega) _).drew⟩
      case measure => simp [intOf]; omega
    · have HI : Hid (i = 32) := by show i = 32; omega
      have g1 : (32 : Int) ≤ (i : Int) := by omega
      rw [HI.out, z12] at V
      clear HC
      go_wp2_with fail
      clear HI
      obtain ⟨W1, hW1⟩ : ∃ z, z = wr := ⟨_, rfl⟩
      rw [← hW1] at V R bel ⊢
      clear hW1
      go_loopw [5] (fun iv wx => ∃ i : Nat, 8 ≤ i ∧ i ≤ 60 ∧ iv = .int .i64 i ∧ Blk wx (w.heap.size + 1) (w4s (z2 K i)) ∧ Blk wx w.heap.size (w4s (List.replicate 60 0)) ∧ Below w.heap.size w wx) (fun iv _ => 60 - (intOf iv).toNat)
      case atStart => exact ⟨8, by omega, by omega, rfl, V, R, bel⟩
      case round =>
        clear V R bel g1 hil hi
        obtain ⟨i, h8, hi, rfl, V, R, bel⟩ := hrel
        by_cases hil : i < 60
        · have g1 : (i : Int) < 60 := by omega
          have g2 : (0 : Int) ≤ (i : Int) := by omega
          have a1 : IntKind.i64.wrap ((i : Int) - 1) = ((i - 1 : Nat) : Int) := by rw [IntKind.wrap_i64]; omega
          have a8 : IntKind.i64.wrap ((i : Int) - 8) = ((i - 8 : Nat) : Int) := by rw [IntKind.wrap_i64]; omega
          have b1 : ((i - 1 : Nat) : Int) < 60 := by omega
          have b8 : ((i - 8 : Nat) : Int) < 60 := by omega
          have d1 : (0 : Int) ≤ ((i - 1 : Nat) : Int) := by omega
          have d8 : (0 : Int) ≤ ((i - 8 : Nat) : Int) := by omega
          have gi : IntKind.i64.wrap ((i : Int) + 1) = (i : Int) + 1 := by rw [IntKind.wrap_i64]; omega
          have m8 : (i : Int).tmod 8 = ((i % 8 : Nat) : Int) := by rw [Int.tmod_eq_emod_of_nonneg (by omega)]; omega
          have c1 := V.cell (i - 1) _ (w4s_get _ (i - 1) (by rw [z2_len]; omega))
          rw [z2_get (by omega) (by omega)] at c1
          have HP : Hid _ := wW_L4 HB.out (i - 1)
          have lv := V.lt
          obtain ⟨p, hp⟩ : ∃ p, wW K (i - 1) = p := ⟨_, rfl⟩
          rw [hp] at c1 HP
          clear hp
          by_cases h0 : i % 8 = 0
          · have m0 : ((i % 8 : Nat) : Int) = 0 := by omega
            obtain ⟨n, hn⟩ : ∃ n, (i - 1) / 8 = n := ⟨_, rfl⟩
            have q8 : (i : Int).tdiv 8 = (n : Int) + 1 := by rw [Int.tdiv_eq_ediv_of_nonneg (by omega)]; omega
            have q9 : IntKind.i64.wrap ((n : Int) + 1 - 1) = (n : Int) := by rw [IntKind.wrap_i64]; omega
            have q10 : ¬ (n : Int) < 0 := by omega
            have q11 : min n 64 = n := by omega
            have HW : Hid _ := L4.pow (n := n) (by omega)
            rw [m0] at m8
            clear m0
            go_wp2_with fail
            refine (con_rl8 HP.out).mono ?_
            rintro e w1 ⟨c, rfl, hc, hw1⟩
            rw [hw1]
            clear hw1
            have H1 : Hid _ := hc
            clear hc
            go_wp2_with fail
            refine (con_wordSub H1.out).mono ?_
            rintro e w2 ⟨d, rfl, hd, hb⟩
            have HD : Hid _ := hd
            clear hd
            replace V := V.later hb
            replace R := R.later hb
            replace bel := below_stepA bel hb
            clear hb lv c1
            obtain ⟨t, ht⟩ : ∃ t, bits .xor .u32 d (2 ^ n % 4294967296 * 16777216 % 4294967296) = t := ⟨_, rfl⟩
            have HT : Hid (L4 t (rv4 (tN (WN K (i - 1)) i))) := by
              rw [← t_eight h0, hn, ← ht]
              exact L4.xor HD.out HW.out
            clear HW HD H1 HP h0 hn
            have HX : Hid (bits .xor .u32 (wW K (i - 8)) t = wW K i) := word_next HB.out h8 HT.out
            have c8 := V.cell (i - 8) _ (w4s_get _ (i - 8) (by rw [z2_len]; omega))
            rw [z2_get (by omega) (by omega)] at c8
            have ci := V.cell i _ (w4s_get _ i (by rw [z2_len]; omega))
            have fz := V.frozen i
            have HS : Hid _ := z2_set (K := K) hil
            have lv := V.lt
            obtain ⟨q, hq⟩ : ∃ q, wW K (i - 8) = q := ⟨_, rfl⟩
            obtain ⟨z, hz⟩ : ∃ z, wW K i = z := ⟨_, rfl⟩
            rw [hq] at c8 HX
            rw [hz] at HX HS
            have hx := HX.out
            have HV := V.setw i z
            rw [HS.out] at HV
            clear hq hz HX HS HT V
            go_wp2_with fail
            go_roundw
            case rel => exact ⟨i + 1, by omega, by omega, by go_num, HV, R.other _ _ (by show w.heap.size ≠ w.heap.size + 1; omega), bel.setCell (by show w.heap.size ≤ w.heap.size + 1; omega) _⟩
            case measure => simp [intOf]; omega
          · by_cases h4 : i % 8 = 4
            · have m4 : ((i % 8 : Nat) : Int) = 4 := by omega
              rw [m4] at m8
              clear m4
              go_wp2_with fail
              refine (con_wordSub HP.out).mono ?_
              rintro e w2 ⟨t, rfl, hd, hb⟩
              have HT : Hid (L4 t (rv4 (tN (WN K (i - 1)) i))) := by rw [← t_four h4]; exact hd
              clear hd
              replace V := V.later hb
              replace R := R.later hb
              replace bel := below_stepA bel hb
              clear hb lv c1
              clear HP h4 h0
              have HX : Hid (bits .xor .u32 (wW K (i - 8)) t = wW K i) := word_next HB.out h8 HT.out
              have c8 := V.cell (i - 8) _ (w4s_get _ (i - 8) (by rw [z2_len]; omega))
              rw [z2_get (by omega) (by omega)] at c8
              have ci := V.cell i _ (w4s_get _ i (by rw [z2_len]; omega))
              have fz := V.frozen i
              have HS : Hid _ := z2_set (K := K) hil
              have lv := V.lt
              obtain ⟨q, hq⟩ : ∃ q, wW K (i - 8) = q := ⟨_, rfl⟩
              obtain ⟨z, hz⟩ : ∃ z, wW K i = z := ⟨_, rfl⟩
              rw [hq] at c8 HX
              rw [hz] at HX HS
              have hx := HX.out
              have HV := V.setw i z
              rw [HS.out] at HV
              clear hq hz HX HS HT V
              go_wp2_with fail
              go_roundw
              case rel => exact ⟨i + 1, by omega, by omega, by go_num, HV, R.other _ _ (by show w.heap.size ≠ w.heap.size + 1; omega), bel.setCell (by show w.heap.size ≤ w.heap.size + 1; omega) _⟩
              case measure => simp [intOf]; omega
            · have n0 : ¬ ((i % 8 : Nat) : Int) = 0 := by omega
              have n4 : ¬ ((i % 8 : Nat) : Int) = 4 := by omega
              have HT0 := HP.out
              rw [t_else h0 h4] at HT0
              obtain ⟨m, hm⟩ : ∃ m, i % 8 = m := ⟨_, rfl⟩
              rw [hm] at m8 n0 n4
              obtain ⟨t, ht⟩ : ∃ t, p = t := ⟨_, rfl⟩
              subst ht
              have HT : Hid (L4 p (rv4 (tN (WN K (i - 1)) i))) := HT0
              clear HT0 HP h0 h4 hm lv
              have HX : Hid (bits .xor .u32 (wW K (i - 8)) p = wW K i) := word_next HB.out h8 HT.out
              have c8 := V.cell (i - 8) _ (w4s_get _ (i - 8) (by rw [z2_len]; omega))
              rw [z2_get (by omega) (by omega)] at c8
              have ci := V.cell i _ (w4s_get _ i (by rw [z2_len]; omega))
              have fz := V.frozen i
              have HS : Hid _ := z2_set (K := K) hil
              have lv := V.lt
              obtain ⟨q, hq⟩ : ∃ q, wW K (i - 8) = q := ⟨_, rfl⟩
              obtain ⟨z, hz⟩ : ∃ z, wW K i = z := ⟨_, rfl⟩
              rw [hq] at c8 HX
              rw [hz] at HX HS
              have hx := HX.out
              have HV := V.setw i z
              rw [HS.out] at HV
              clear hq hz HX HS HT V
              go_wp2_with fail
              go_roundw
              case rel => exact ⟨i + 1, by omega, by omega, by go_num, HV, R.other _ _ (by show w.heap.size ≠ w.heap.size + 1; omega), bel.setCell (by show w.heap.size ≤ w.heap.size + 1; omega) _⟩
              case measure => simp [intOf]; omega
        · have HI : Hid (i = 60) := by show i = 60; omega
          have g1 : (60 : Int) ≤ (i : Int) := by omega
          rw [HI.out] at V
          obtain ⟨F, hF⟩ : ∃ F, w4s (z2 K 60) = F := ⟨_, rfl⟩
          have HF : Hid (w4s (z2 K 60) = F) := hF
          have HFl : Hid (F.length = 60) := by rw [← hF, w4s, List.length_map]; exact z2_len K 60
          have HFo : Hid (F.toArray.all (·.oneCell') = true) := by rw [← hF]; exact w4_ones _
          replace V : Blk wr (w.heap.size + 1) F := by rw [← hF]; exact V
          clear hF
          obtain ⟨Z, hZ⟩ : ∃ Z, (w4s (List.replicate 60 0)) = Z := ⟨_, rfl⟩
          have HZl : Hid (Z.length = 60) := by rw [← hZ]; rfl
          rw [hZ] at R
          clear hZ
          obtain ⟨tR, hR⟩ := R
          have HR : Hid _ := hR
          clear hR
          go_wp2_with (first
            | (refine wpList_load_run (by rfl) (by rfl) (by rfl) (V.load Tryz.underlying152 rfl size_60 HFl.out) ?_
               refine wpList_store_row rfl 152 _ _ rfl w.heap.size F.toArray rfl rfl tR Z.toArray HR.out (by rw [size_60, List.size_toArray, HFl.out]) (by rw [List.size_toArray, List.size_toArray, HFl.out, HZl.out]) HFo.out ?_)
            | fail)
          exact bodyPost_ret (results_cell_row Tryz.results108 _ _ w.heap.size tR F.toArray (0, 0) _ rfl (setRow_heap _ _ _ _ _ _ HR.out) Tryz.underlying152 rfl (by rw [size_60, List.size_toArray, HFl.out])) rfl ⟨by rw [HF.out], below_setRow bel (Nat.le_refl _) _⟩
set_option linter.unusedSimpArgs false in
set_option maxRecDepth 100000 in
set_option maxHeartbeats 4000000 in
theorem con_roundKeys {kv : Value} {K : List Int} {w : World} (hk : Bs w kv K) (bK : byt K) (l : K.length = 32) :
    Calls Tryz.prog 81 #[kv] w fun e w' => e = .returned (.agg (u8s (allN K 15)).toArray) ∧ Below w.heap.size w w' := by
  have HK : Hid (Bs w kv K) := hk
  have HB : Hid (byt K) := bK
  have HL : Hid (K.length = 32) := l
  clear hk bK l
  have hz := zero_240.out
  have hy := zero_60.out
  have R0 := Blk.new w (u8s (List.replicate 240 0)) 120 w.heap.size rfl
  have bel : Below w.heap.size w (w.alloc (.cells (u8s (List.replicate 240 0)).toArray 120)) := (Below.refl _ _).alloc (Nat.le_refl _) _
  obtain ⟨Z, hZ⟩ : ∃ Z, (u8s (List.replicate 240 0)) = Z := ⟨_, rfl⟩
  have HZ : Hid ((u8s (List.replicate 240 0)) = Z) := hZ
  have HZl : Hid (Z.length = 240) := by show _ = _; rw [← hZ, u8s, List.length_map, List.length_replicate]
  rw [hZ] at hz R0 bel
  clear hZ
  obtain ⟨Y, hY⟩ : ∃ Y, (w4s (List.replicate 60 0)) = Y := ⟨_, rfl⟩
  have HYl : Hid (Y.length = 60) := by rw [← hY]; rfl
  rw [hY] at hy
  clear hY
  go_enter Tryz.func81, Tryz.ntmps81
  go_upto_region 1 with fail
  generalize w.alloc (Obj.cells Z.toArray 120) = W at *
  go_wp2_with fail
  refine (con_expanded (HK.out.later bel) HB.out HL.out).mono ?_
  rintro e w1 ⟨rfl, hb⟩
  replace R0 := R0.later hb
  replace bel := below_stepA bel hb
  clear hb
  obtain ⟨F, hF⟩ : ∃ F, w4s (z2 K 60) = F := ⟨_, rfl⟩
  have HF : Hid (w4s (z2 K 60) = F) := hF
  have HFl : Hid (F.length = 60) := by rw [← hF, w4s, List.length_map]; exact z2_len K 60
  have HFo : Hid (F.toArray.all (·.oneCell') = true) := by rw [← hF]; exact w4_ones _
  rw [hF]
  clear hF
  have lr := R0.lt
  have U0 := (Blk.new w1 F 152 w1.heap.size rfl).alloc (.cells Z.toArray 120)
  have V0 := Blk.new (w1.alloc (.cells F.toArray 152)) Z 120 (w1.heap.size + 1) (by simp)
  replace R0 := (R0.alloc (.cells F.toArray 152)).alloc (.cells Z.toArray 120)
  replace bel := below_alloc (o := .cells Z.toArray 120) (below_alloc (o := .cells F.toArray 152) bel)
  go_upto_region 3 with (first
    | (refine wpList_store_row rfl 152 _ _ rfl w1.heap.size F.toArray rfl rfl 152 Y.toArray (heap_alloc_last _ _) (by rw [size_60, List.size_toArray, HFl.out]) (by rw [List.size_toArray, List.size_toArray, HFl.out, HYl.out]) HFo.out ?_; rw [World.setRow_alloc_new])
    | fail)
  obtain ⟨g, hg⟩ : ∃ g, g = w1.heap.size := ⟨_, rfl⟩
  generalize (w1.alloc (Obj.cells F.toArray 152)).alloc (Obj.cells Z.toArray 120) = W2 at *
  rw [← hg] at U0 V0 lr ⊢
  have bw := bel.size
  clear hg hz hy
  rw [← HZ.out, ← allZ_0 K] at V0
  go_wp2_with fail
  go_loopw [10] (fun iv wx => ∃ i : Nat, i ≤ 15 ∧ iv = .int .i64 i ∧ Blk wx (g + 1) (u8s (allZ K (16 * i))) ∧ Blk wx g F ∧ Blk wx w.heap.size Z ∧ Below w.heap.size w wx) (fun iv _ => 15 - (intOf iv).toNat)
  case atStart => exact ⟨0, by omega, rfl, V0, U0, R0, bel⟩
  case round =>
    clear V0 U0 R0 bel
    obtain ⟨i, hi, rfl, V0, U0, R0, bel⟩ := hrel
    by_cases hil : i < 15
    · have g1 : (i : Int) < 15 := by omega
      have g2 : (0 : Int) ≤ (i : Int) := by omega
      have i4 : IntKind.i64.wrap (4 * (i : Int)) = 4 * (i : Int) := by rw [IntKind.wrap_i64]; omega
      go_wp2_with fail
      obtain ⟨W3, hW3⟩ : ∃ z, z = wr := ⟨_, rfl⟩
      rw [← hW3] at V0 U0 R0 bel ⊢
      clear hW3
      go_loopw [13] (fun jv wx => ∃ j : Nat, j ≤ 16 ∧ jv = .int .i64 j ∧ Blk wx (g + 1) (u8s (allZ K (16 * i + j))) ∧ Blk wx g F ∧ Blk wx w.heap.size Z ∧ Below w.heap.size w wx) (fun jv _ => 16 - (intOf jv).toNat)
      case atStart => exact ⟨0, by omega, rfl, V0, U0, R0, bel⟩
      case round =>
        clear V0 U0 R0 bel
        obtain ⟨j, hj, rfl, V0, U0, R0, bel⟩ := hrel
        by_cases hjl : j < 16
        · have g3 : (j : Int) < 16 := by omega
          have g4 : (0 : Int) ≤ (j : Int) := by omega
          have q1 : (j : Int).tdiv 4 = ((j / 4 : Nat) : Int) := by rw [Int.tdiv_eq_ediv_of_nonneg (by omega)]; omega
          have q2 : IntKind.i64.wrap ((j / 4 : Nat) : Int) = ((j / 4 : Nat) : Int) := by rw [IntKind.wrap_i64]; omega
          have i5 : IntKind.i64.wrap (4 * (i : Int) + ((j / 4 : Nat) : Int)) = ((4 * i + j / 4 : Nat) : Int) := by rw [IntKind.wrap_i64]; omega
          have l5 : ((4 * i + j / 4 : Nat) : Int) < 60 := by omega
          have k5 : (0 : Int) ≤ ((4 * i + j / 4 : Nat) : Int) := by omega
          have m1 : (j : Int).tmod 4 = ((j % 4 : Nat) : Int) := by rw [Int.tmod_eq_emod_of_nonneg (by omega)]; omega
          have m2 : IntKind.i64.wrap (((j % 4 : Nat) : Int) * 8) = 8 * ((j % 4 : Nat) : Int) := by rw [IntKind.wrap_i64]; omega
          obtain ⟨m, hm⟩ : ∃ m, 24 - 8 * (j % 4) = m := ⟨_, rfl⟩
          have m3 : IntKind.i64.wrap (24 - 8 * ((j % 4 : Nat) : Int)) = (m : Int) := by rw [IntKind.wrap_i64]; omega
          have m4 : ¬ (m : Int) < 0 := by omega
          have m5 : min m 64 = m := by omega
          have m6 : min m 32 = m := by omega
          have z0 := word_out (j := 4 * i + j / 4) HB.out (show j % 4 < 4 by omega) hm.symm
          have HS : Hid _ := allZ_set (K := K) (t := 16 * i + j) rfl hjl hil
          have cu := U0.cell (4 * i + j / 4) _ (by rw [← HF.out]; exact w4s_get _ _ (by rw [z2_len]; omega))
          rw [z2_get (by omega) (by omega)] at cu
          have cv := V0.cell (16 * i + j) _ (u8s_get _ _ (by rw [allZ_len]; omega))
          have fz := V0.frozen (16 * i + j)
          obtain ⟨z, hz⟩ : ∃ z, (WN K (4 * i + j / 4)).getD (j % 4) 0 = z := ⟨_, rfl⟩
          obtain ⟨x, hx⟩ : ∃ x, wW K (4 * i + j / 4) = x := ⟨_, rfl⟩
          obtain ⟨n, hn⟩ : ∃ n, 4 * i + j / 4 = n := ⟨_, rfl⟩
          obtain ⟨d, hd⟩ : ∃ d, j % 4 = d := ⟨_, rfl⟩
          obtain ⟨e4, he4⟩ : ∃ d, j / 4 = d := ⟨_, rfl⟩
          rw [hz] at z0 HS
          rw [hx] at z0 cu
          rw [hn] at cu i5 l5 k5
          rw [hd] at m1 m2 m3
          rw [he4] at q1 q2 i5
          clear hz hx hn hd he4 hm
          have lv := V0.lt
          have lu := U0.lt
          have cv2 := cv
          have fz2 := fz
          rw [Nat.mul_comm 16 i] at cv2 fz2
          go_upto_region 10 with fail
          go_region
          all_goals go_wp2_with fail
          all_goals go_roundw
          case rel =>
            replace V0 := V0.setb (16 * i + j) z
            rw [HS.out] at V0
            replace R0 := R0.other ⟨g + 1, 16 * i + j, none⟩ (.int .u8 z) (by show w.heap.size ≠ g + 1; omega)
            replace U0 := U0.other ⟨g + 1, 16 * i + j, none⟩ (.int .u8 z) (by show g ≠ g + 1; omega)
            replace bel := bel.setCell (p := ⟨g + 1, 16 * i + j, none⟩) (by show w.heap.size ≤ g + 1; omega) (.int .u8 z)
            rw [Nat.mul_comm 16 i] at V0 R0 U0 bel
            exact ⟨j + 1, by omega, by go_num, by rw [Nat.mul_comm 16 i]; exact V0.drew, U0.drew, R0.drew, bel.drew⟩
          case measure => simp [intOf]; omega
        · have HJ : Hid (j = 16) := by show j = 16; omega
          have g3 : (16 : Int) ≤ (j : Int) := by omega
          go_wp2_with fail
          go_roundw
          case rel => exact ⟨i + 1, by omega, by go_num, by rw [HJ.out, show 16 * i + 16 = 16 * (i + 1) by omega] at V0; exact V0, U0, R0, bel⟩
          case measure => simp [intOf]; omega
    · have HI : Hid (i = 15) := by show i = 15; omega
      have g1 : (15 : Int) ≤ (i : Int) := by omega
      rw [HI.out, show 16 * 15 = 240 from rfl, allZ_240] at V0
      obtain ⟨G, hG⟩ : ∃ G, u8s (allN K 15) = G := ⟨_, rfl⟩
      have HG : Hid (u8s (allN K 15) = G) := hG
      have HGl : Hid (G.length = 240) := by show _ = _; rw [← hG, u8s, List.length_map]; exact allN_len K 15
      have HGo : Hid (G.toArray.all (·.oneCell') = true) := by rw [← hG]; exact u8_ones _
      replace V0 : Blk wr (g + 1) G := by rw [← hG]; exact V0
      clear hG
      obtain ⟨tR, hR⟩ := R0
      have HR : Hid _ := hR
      clear hR
      go_wp2_with (first
        | (refine wpList_load_run (by rfl) (by rfl) (by rfl) (V0.load Tryz.underlying120 rfl size_240 HGl.out) ?_
           refine wpList_store_row rfl 120 _ _ rfl w.heap.size G.toArray rfl rfl tR Z.toArray HR.out (by rw [size_240, List.size_toArray, HGl.out]) (by rw [List.size_toArray, List.size_toArray, HGl.out, HZl.out]) HGo.out ?_)
        | fail)
      exact bodyPost_ret (results_cell_row Tryz.results81 _ _ w.heap.size tR G.toArray (0, 0) _ rfl (setRow_heap _ _ _ _ _ _ HR.out) Tryz.underlying120 rfl (by rw [size_240, List.size_toArray, HGl.out])) rfl ⟨by rw [HG.out], below_setRow bel (Nat.le_refl _) _⟩
end Go.Proofs.YtlkljfnenonfgaaGreatDoor
