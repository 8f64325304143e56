/- The law EcdsaEncodes. -/
import Derived.Test.YtjpnbbhpgchbpaaGreatDoorRows
import Derived.Test.YtjpnbbhpgchbpaaGreatDoorEdUp
import Derived.Test.YtjpnbbhpgchbpaaGreatDoorEdG
import Derived.Test.YtjpnbbhpgchbpaaGreatDoorEdFactG
import Derived.Test.YtjpnbbhpgchbpaaGreatDoorEdEncode
import Derived.Test.YtjpnbbhpgchbpaaGreatDoorEdDecG
import Derived.Test.YtjpnbbhpgchbpaaGreatDoorRBytes
import Derived.Test.YtjpnbbhpgchbpaaGreatDoorPmNumO
import Derived.Test.YtjpnbbhpgchbpaaGreatDoorDrWrite
import Derived.Test.YtjpnbbhpgchbpaaGreatDoorSConv
import Derived.Deep.OwnRows
import Derived.Deep.AppendLies
import Derived.Great.BuildSlice
import Derived.Laws.Rows
import Derived.Deep.WholeRow
import Derived.Deep.RegionHeld3
import Derived.Deep.DeepCutAuto
import Derived.Deep.DeepFit
namespace Go.Proofs.YtjpnbbhpgchbpaaGreatDoor
open Go.RowKit

theorem pow_12_6 : (4294967296 : Int) ^ 12 = 18446744073709551616 ^ 6 := by decide +kernel
theorem below_stepF {a w w' : World} (h : Below a.heap.size a w) (hb : Below w.heap.size w w') : Below a.heap.size a w' := h.trans (hb.mono h.size)
theorem eq_nilE14e : ∀ w : World, (binOp .eql 30 .nilIface .nilIface).run Tryz.prog w = .ok (.bool true) w := fun _ => by kernel_rfl
set_option linter.unusedSimpArgs false in
set_option maxRecDepth 100000 in
set_option maxHeartbeats 4000000 in
theorem law_ecdsaEncodes {rs ss : List Value} {r s : Int} {w : World} (G : GA w) (hr : U6 rs r) (hs : U6 ss s) :
    Calls Tryz.prog 5 #[.agg (rs ++ ss).toArray] w fun e w' => e = .returned (.bool true) ∧ Below w.heap.size w w' := by
  have hts : ∃ ts, rs ++ ss = ts := ⟨_, rfl⟩
  obtain ⟨ts, hts⟩ := hts
  have HT : Hid (rs ++ ss = ts) := hts
  have HLt : Hid (ts.length = 12) := by show _ = _; rw [← hts, List.length_append, hr.len, hs.len]
  have HOt0 : Hid (OneR ts) := by rw [← hts]; exact hr.ones.app hs.ones
  have cv := fun w (G : GlsO w) => con_Encode G hr hs
  rw [hts] at cv ⊢
  have HCv : Hid _ := cv
  clear hts cv
  have HG : Hid (GA w) := G
  have HR : Hid (U6 rs r) := hr
  have HS : Hid (U6 ss s) := hs
  clear G hr hs
  have S0 := Blk.new w ts 28 w.heap.size rfl
  have bel : Below w.heap.size w (w.alloc (.cells ts.toArray 28)) := (Below.refl _ _).alloc (Nat.le_refl _) _
  go_enter Tryz.func5, Tryz.ntmps5
  go_upto_region 1 with fail
  generalize w.alloc (.cells ts.toArray 28) = W at *
  go_wp2_with fail
  refine (con_up14 (HG.out.below bel)).mono ?_
  rintro e w1 ⟨rfl, hb⟩
  replace S0 := S0.later hb
  replace bel := below_step bel hb
  clear hb
  have l1 := S0.lt
  go_wp2_with (first | (refine wpList_load_run (by rfl) (by rfl) (by rfl) (S0.load Tryz.underlying28 rfl size_s HLt.out) ?_) | fail)
  refine (HCv.out _ (HG.out.below bel).2).mono ?_
  rintro e w2 ⟨h1, h2⟩
  clear l1
  by_cases c1 : isSc r
  rotate_left
  · obtain ⟨ao, cap, rfl, hb⟩ := h1 (fun h => c1 h.1)
    replace S0 := S0.later hb
    replace bel := below_step bel hb
    clear hb
    clear h1 h2
    have l1 := S0.lt
    have q1 := iface_eqE 3
    have hcv : codeV 3 = .iface 34 (.int .i64 3) := rfl
    rw [hcv]
    clear hcv
    go_wp2_with (first | (refine wpList_load_run (by rfl) (by rfl) (by rfl) (load_u S0 HR.out (by rw [← HT.out]; exact app_at0)) ?_) | fail)
    refine (con_scalar14 HR.out).mono ?_
    rintro e w3 ⟨rfl, hb⟩
    replace S0 := S0.later hb
    replace bel := below_step bel hb
    clear hb
    rw [decide_eq_false c1]
    clear l1
    have l1 := S0.lt
    clear c1
    go_wp2_with fail
    go_ret
    exact ⟨rfl, bel⟩
  by_cases c2 : isSc s
  rotate_left
  · obtain ⟨ao, cap, rfl, hb⟩ := h1 (fun h => c2 h.2)
    replace S0 := S0.later hb
    replace bel := below_step bel hb
    clear hb
    clear h1 h2
    have l1 := S0.lt
    have q1 := iface_eqE 3
    have hcv : codeV 3 = .iface 34 (.int .i64 3) := rfl
    rw [hcv]
    clear hcv
    go_wp2_with (first | (refine wpList_load_run (by rfl) (by rfl) (by rfl) (load_u S0 HR.out (by rw [← HT.out]; exact app_at0)) ?_) | fail)
    refine (con_scalar14 HR.out).mono ?_
    rintro e w3 ⟨rfl, hb⟩
    replace S0 := S0.later hb
    replace bel := below_step bel hb
    clear hb
    rw [decide_eq_true c1]
    clear l1
    have l1 := S0.lt
    go_wp2_with (first | (refine wpList_load_run (by rfl) (by rfl) (by rfl) (load_u (o := 6) S0 HS.out (by rw [← HT.out]; exact app_at2 HR.out.len)) ?_) | fail)
    refine (con_scalar14 HS.out).mono ?_
    rintro e w4 ⟨rfl, hb⟩
    replace S0 := S0.later hb
    replace bel := below_step bel hb
    clear hb
    rw [decide_eq_false c2]
    clear l1
    have l1 := S0.lt
    clear c1 c2
    go_wp2_with fail
    go_ret
    exact ⟨rfl, bel⟩
  obtain ⟨bv, rfl, hB, hb⟩ := h2 c1 c2
  have HBv : Hid _ := hB
  replace S0 := S0.later hb
  replace bel := below_step bel hb
  clear hb
  clear h1 h2 hB
  have st : Below w2.heap.size w2 w2 := Below.refl _ _
  have l1 := S0.lt
  go_wp2_with (first | (refine wpList_load_run (by rfl) (by rfl) (by rfl) (load_u S0 HR.out (by rw [← HT.out]; exact app_at0)) ?_) | fail)
  refine (con_scalar14 HR.out).mono ?_
  rintro e w3 ⟨rfl, hb⟩
  replace st := below_stepF st hb
  replace S0 := S0.later hb
  replace bel := below_step bel hb
  clear hb
  rw [decide_eq_true c1]
  clear l1
  have l1 := S0.lt
  go_wp2_with (first | (refine wpList_load_run (by rfl) (by rfl) (by rfl) (load_u (o := 6) S0 HS.out (by rw [← HT.out]; exact app_at2 HR.out.len)) ?_) | fail)
  refine (con_scalar14 HS.out).mono ?_
  rintro e w4 ⟨rfl, hb⟩
  replace st := below_stepF st hb
  replace S0 := S0.later hb
  replace bel := below_step bel hb
  clear hb
  rw [decide_eq_true c2]
  clear l1
  have l1 := S0.lt
  have HC1 : Hid (isSc r) := c1
  have HC2 : Hid (isSc s) := c2
  clear c1 c2
  have hbr := HR.out.bd
  have hbs := HS.out.bd
  have HR12 : Hid (r < 4294967296 ^ 12) := by show _ < _; rw [pow_12_6]; exact hbr.2
  have HS12 : Hid (s < 4294967296 ^ 12) := by show _ < _; rw [pow_12_6]; exact hbs.2
  clear hbr hbs
  go_wp2_with (first | (refine wpList_load_run (by rfl) (by rfl) (by rfl) (load_u S0 HR.out (by rw [← HT.out]; exact app_at0)) ?_) | fail)
  refine (uOf6 HR.out).mono ?_
  rintro e a1 ⟨nv, rfl, N1, hb⟩
  replace st := below_stepF st hb
  replace S0 := S0.later hb
  replace bel := below_step bel hb
  clear hb
  go_wp2_with fail
  refine (rbytes_any _ _ _ N1 HR12.out).mono ?_
  rintro e a2 ⟨gx, X, rfl, BX, lX, bX, eX, hb⟩
  replace st := below_stepF st hb
  replace S0 := S0.later hb
  replace bel := below_step bel hb
  clear hb
  clear N1
  have bsX : Bs a2 (.slice (some ⟨gx, 0, none⟩) 48 48) X := BX.bs lX (by decide)
  have HXx : Hid (Is48 X r) := ⟨lX, bX, eX⟩
  obtain ⟨x, hx, hlx⟩ := num48 lX
  have HNx : Hid (numOf X = .ok x) := hx
  have HLnx : Hid (x.length ≤ 49) := hlx
  have HBbx : Hid (byt x) := numOf_byt bX hx
  clear lX eX hx hlx BX
  go_wp2_with fail
  refine (r13_NumberOf bsX bX (by rw [HXx.out.1]; decide)).mono ?_
  rintro e a3 ⟨hok, _⟩
  obtain ⟨vx, rfl, bsx, hb⟩ := hok _ HNx.out
  replace st := below_stepF st hb
  replace S0 := S0.later hb
  replace bel := below_step bel hb
  clear hb
  clear hok bX bsX l1
  have l1 := S0.lt
  go_wp2_with (first | (refine wpList_load_run (by rfl) (by rfl) (by rfl) (load_u (o := 6) S0 HS.out (by rw [← HT.out]; exact app_at2 HR.out.len)) ?_) | fail)
  refine (uOf6 HS.out).mono ?_
  rintro e b1 ⟨nv, rfl, N1, hb⟩
  replace st := below_stepF st hb
  replace bsx := bsx.later hb
  replace S0 := S0.later hb
  replace bel := below_step bel hb
  clear hb
  go_wp2_with fail
  refine (rbytes_any _ _ _ N1 HS12.out).mono ?_
  rintro e b2 ⟨gy, Y, rfl, BX, lX, bX, eX, hb⟩
  replace st := below_stepF st hb
  replace bsx := bsx.later hb
  replace S0 := S0.later hb
  replace bel := below_step bel hb
  clear hb
  clear N1
  have bsX : Bs b2 (.slice (some ⟨gy, 0, none⟩) 48 48) Y := BX.bs lX (by decide)
  have HXy : Hid (Is48 Y s) := ⟨lX, bX, eX⟩
  obtain ⟨y, hy, hly⟩ := num48 lX
  have HNy : Hid (numOf Y = .ok y) := hy
  have HLny : Hid (y.length ≤ 49) := hly
  have HBby : Hid (byt y) := numOf_byt bX hy
  clear lX eX hy hly BX
  go_wp2_with fail
  refine (r13_NumberOf bsX bX (by rw [HXy.out.1]; decide)).mono ?_
  rintro e b3 ⟨hok, _⟩
  obtain ⟨vy, rfl, bsy, hb⟩ := hok _ HNy.out
  replace st := below_stepF st hb
  replace bsx := bsx.later hb
  replace S0 := S0.later hb
  replace bel := below_step bel hb
  clear hb
  clear hok bX bsX l1
  have l1 := S0.lt
  have HBx : Hid (Bs b3 _ x) := bsx
  have HBy : Hid (Bs b3 _ y) := bsy
  obtain ⟨xa, xc, rfl, -, -, -⟩ := bsx
  obtain ⟨ya, yc, rfl, -, -, -⟩ := bsy
  have K0 := Blk.new b3 [.int .i64 0, .int .i64 2, .bool false, .slice xa x.length xc, .slice none 0 0, .int .i64 0, .int .i64 2, .bool false, .slice ya y.length yc, .slice none 0 0] 61 b3.heap.size rfl
  have stK : Below b3.heap.size b3 (b3.alloc (.cells #[.int .i64 0, .int .i64 2, .bool false, .slice xa x.length xc, .slice none 0 0, .int .i64 0, .int .i64 2, .bool false, .slice ya y.length yc, .slice none 0 0] 61)) := (Below.refl _ _).alloc (Nat.le_refl _) _
  have hT := sig_at (HBx.out.later stK) (HBy.out.later stK) K0
  have HTl : Hid (TlAt (b3.alloc (.cells #[.int .i64 0, .int .i64 2, .bool false, .slice xa x.length xc, .slice none 0 0, .int .i64 0, .int .i64 2, .bool false, .slice ya y.length yc, .slice none 0 0] 61)) (sigT x y) [.int .i64 0, .int .i64 16, .bool true, .slice none 0 0, .slice (some ⟨b3.heap.size, 0, none⟩) 2 2]) := hT
  clear hT K0
  have hb := stK
  clear stK
  replace st := below_stepF st hb
  replace S0 := S0.later hb
  replace bel := below_step bel hb
  clear hb
  clear l1
  have hz := zero_tlv.out
  go_wp2_with fail
  refine (r12_Write (by rw [sig_sz]; omega) (fun _ => by have := sig_len HLnx.out HLny.out; omega) HTl.out).mono ?_
  rintro e w7 ⟨wv, rfl, hw1, -, hb⟩
  clear hz
  have hw0 := sig_wr HLnx.out HLny.out
  have own7 := hw1 hw0
  rw [hw0]
  clear hw1 hw0
  replace st := below_stepF st hb
  replace S0 := S0.later hb
  replace bel := below_step bel hb
  clear hb
  have hT2 := HBv.out X Y x y HXx.out HXy.out HNx.out HNy.out
  have HBT : Hid (Bs w7 bv (bytesT (sigT x y))) := hT2.later st
  have HWT : Hid (Bs w7 wv (bytesT (sigT x y))) := Bs.of_own own7
  clear hT2 own7 HBv st
  have hbv := HBT.out
  obtain ⟨ba, bc, rfl, -, -, -⟩ := hbv
  have hwv := HWT.out
  obtain ⟨wa, wc, rfl, -, -, -⟩ := hwv
  go_wp2_with fail
  refine (con_Decode (HG.out.below bel).2 HBT.out (sig_byt HBbx.out HBby.out)).mono ?_
  rintro e w8 ⟨-, hd⟩
  obtain ⟨ps, qs, rfl, up_, uq_, hb⟩ := ((hd _ (sig_parse HLnx.out HLny.out)).2 _ _ (sigP_back HXx.out.2.1 HXy.out.2.1 HNx.out HNy.out)).2 (by rw [beN_less, HXx.out.2.2]; exact HC1.out) (by rw [beN_less, HXy.out.2.2]; exact HC2.out)
  rw [beN_less, HXx.out.2.2] at up_
  rw [beN_less, HXy.out.2.2] at uq_
  have HPs : Hid (U6 ps r) := up_
  have HQs : Hid (U6 qs s) := uq_
  replace HBT : Hid (Bs w8 _ (bytesT (sigT x y))) := HBT.out.later hb
  replace HWT : Hid (Bs w8 _ (bytesT (sigT x y))) := HWT.out.later hb
  replace S0 := S0.later hb
  replace bel := below_step bel hb
  clear hb
  clear hd up_ uq_
  have htt : ∃ us, ps ++ qs = us := ⟨_, rfl⟩
  obtain ⟨us9, htt⟩ := htt
  have HU9 : Hid (ps ++ qs = us9) := htt
  rw [htt]
  clear htt
  replace HBT : Hid (Bs (w8.alloc (.cells us9.toArray 28)) _ (bytesT (sigT x y))) := HBT.out.later ((Below.refl _ _).alloc (Nat.le_refl _) _)
  replace HWT : Hid (Bs (w8.alloc (.cells us9.toArray 28)) _ (bytesT (sigT x y))) := HWT.out.later ((Below.refl _ _).alloc (Nat.le_refl _) _)
  have HLt9 : Hid (us9.length = 12) := by show _ = _; rw [← HU9.out, List.length_append, HPs.out.len, HQs.out.len]
  have HSt : Hid (us9.toArray.size = 12) := by show _ = _; rw [List.size_toArray]; exact HLt9.out
  have HOt : Hid (OneR us9) := by rw [← HU9.out]; exact HPs.out.ones.app HQs.out.ones
  replace S0 := S0.alloc (.cells us9.toArray 28)
  replace bel := below_alloc (o := .cells us9.toArray 28) bel
  have Bt := Blk.new w8 us9 28 w8.heap.size rfl
  have hz := zero_s.out
  go_upto_region 9 with (first | (refine wpList_store_row rfl 28 _ _ rfl w8.heap.size us9.toArray rfl rfl 28 _ (heap_alloc_last _ _) (by rw [size_s, HSt.out]) (by rw [HSt.out]; rfl) HOt.out ?_; rw [World.setRow_alloc_new]) | fail)
  clear hz
  obtain ⟨gt, hgt⟩ : ∃ g, g = w8.heap.size := ⟨_, rfl⟩
  rw [← hgt] at Bt
  generalize w8.alloc (.cells us9.toArray 28) = Vt at *
  rw [← hgt]
  clear hgt
  have l1 := S0.lt
  have l2 := Bt.lt
  have cb := conv_any HBT.out
  have cw := conv_any HWT.out
  have q5 := eq_nilE14e
  have q8 : ∀ w : World, (Op.equalIn 10000 28 (.agg us9.toArray) (.agg ts.toArray)).run Tryz.prog w = .ok true w := fun w => by rw [← HU9.out, ← HT.out]; exact (eqS HPs.out HQs.out HR.out HS.out w).trans (by rw [decide_eq_true ⟨rfl, rfl⟩])
  obtain ⟨st9, hst9⟩ : ∃ z, strOfNums (bytesT (sigT x y)) = z := ⟨_, rfl⟩
  rw [hst9] at cb cw
  clear hst9
  go_wp2_with (first | (refine wpList_load_run (by rfl) (by rfl) (by rfl) (Bt.load Tryz.underlying28 rfl size_s HLt9.out) ?_) | (refine wpList_load_run (by rfl) (by rfl) (by rfl) (S0.load Tryz.underlying28 rfl size_s HLt.out) ?_) | fail)
  go_ret
  exact ⟨rfl, bel⟩
end Go.Proofs.YtjpnbbhpgchbpaaGreatDoor
