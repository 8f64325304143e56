/- The law EcdsaSigns. -/
import Derived.Test.YtjpnbbhpgchbpaaGreatDoorRows
import Derived.Test.YtjpnbbhpgchbpaaGreatDoorEdUp
import Derived.Test.YtjpnbbhpgchbpaaGreatDoorEdSign
import Derived.Test.YtjpnbbhpgchbpaaGreatDoorEdU
import Derived.Test.YtjpnbbhpgchbpaaGreatDoorEdDig
import Derived.Test.YtjpnbbhpgchbpaaGreatDoorEdG
import Derived.Test.YtjpnbbhpgchbpaaGreatDoorDrDG
import Derived.Test.YtjpnbbhpgchbpaaGreatDoorWpOne
import Derived.Deep.OwnRows
import Derived.Deep.AppendLies
import Derived.Great.BuildSlice
import Derived.Laws.Rows
import Derived.Deep.WholeRow
import Derived.Deep.RegionHeld3
import Derived.Deep.DeepCutAuto
import Derived.Deep.DeepFit
namespace Go.Proofs.YtjpnbbhpgchbpaaGreatDoor
open Go.RowKit

set_option linter.unusedSimpArgs false in
set_option maxRecDepth 100000 in
set_option maxHeartbeats 8000000 in
theorem law_ecdsaSigns {cs ds : List Value} {x y : Int} {v : Value} {D : List Int} {w : World} (G : GA w) (GE : GlsE w) (ha : U6 cs x) (hk : U6 ds y) (hv : Bs w v D) (b : byt D) :
    Calls Tryz.prog 3 #[.agg cs.toArray, .agg ds.toArray, v] w fun e w' => e = .returned (.bool true) ∧ Below w.heap.size w w' := by
  have HG : Hid (GA w) := G
  have HGE : Hid (GlsE w) := GE
  have HA : Hid (U6 cs x) := ha
  have HK : Hid (U6 ds y) := hk
  have HLa : Hid (cs.length = 6) := ha.len
  have HLk : Hid (ds.length = 6) := hk.len
  have HB : Hid (byt D) := b
  have HV : Hid (Bs w v D) := hv
  obtain ⟨ao, cap, rfl, h1, h2, h3⟩ := hv
  clear G GE ha hk b h1 h2 h3
  have D0 := (Blk.new w cs 24 w.heap.size rfl).alloc (.cells ds.toArray 24)
  have K0 := Blk.new (w.alloc (.cells cs.toArray 24)) ds 24 (w.heap.size + 1) (by simp)
  have bel : Below w.heap.size w ((w.alloc (.cells cs.toArray 24)).alloc (.cells ds.toArray 24)) := ((Below.refl _ _).alloc (Nat.le_refl _) _).alloc (by simp) _
  go_enter Tryz.func3, Tryz.ntmps3
  go_upto_region 1 with fail
  generalize (w.alloc (.cells cs.toArray 24)).alloc (.cells ds.toArray 24) = W at *
  go_wp2_with fail
  refine (con_up14 (HG.out.below bel)).mono ?_
  rintro e w1 ⟨rfl, hb⟩
  replace D0 := D0.later hb
  replace K0 := K0.later hb
  replace bel := below_step bel hb
  clear hb
  have l0 := D0.lt
  have l1 := K0.lt
  go_wp2_with (first | (refine wpList_load_run (by rfl) (by rfl) (by rfl) (D0.load Tryz.underlying24 rfl size_u HLa.out) ?_) | (refine wpList_load_run (by rfl) (by rfl) (by rfl) (K0.load Tryz.underlying24 rfl size_u HLk.out) ?_) | fail)
  refine (con_Sign (HG.out.below bel) HA.out HK.out (HV.out.later bel) HB.out).mono ?_
  rintro e w2 ⟨rs, ss, r, s, er, rfl, hr, hs, hsg, hb⟩
  clear l0 l1
  replace D0 := D0.later hb
  replace K0 := K0.later hb
  replace bel := below_step bel hb
  clear hb
  have HR : Hid (U6 rs r) := hr
  have HS : Hid (U6 ss s) := hs
  have HSg : Hid (SignIs x y D r s er) := hsg
  clear hr hs hsg
  have hts : ∃ ts, rs ++ ss = ts := ⟨_, rfl⟩
  obtain ⟨ts, hts⟩ := hts
  have HT : Hid (rs ++ ss = ts) := hts
  rw [hts]
  clear hts
  have HLt : Hid (ts.length = 12) := by show _ = _; rw [← HT.out, List.length_append, HR.out.len, HS.out.len]
  have HSt : Hid (ts.toArray.size = 12) := by show _ = _; rw [List.size_toArray]; exact HLt.out
  have HOt : Hid (OneR ts) := by rw [← HT.out]; exact HR.out.ones.app HS.out.ones
  replace D0 := D0.alloc (.cells ts.toArray 28)
  replace K0 := K0.alloc (.cells ts.toArray 28)
  replace bel := below_alloc (o := .cells ts.toArray 28) bel
  have Bt := Blk.new w2 ts 28 w2.heap.size rfl
  have hz := zero_s.out
  go_upto_region 3 with (first | (refine wpList_store_row rfl 28 _ _ rfl w2.heap.size ts.toArray rfl rfl 28 _ (heap_alloc_last _ _) (by rw [size_s, HSt.out]) (by rw [HSt.out]; rfl) HOt.out ?_; rw [World.setRow_alloc_new]) | fail)
  clear hz
  obtain ⟨gt, hgt⟩ : ∃ g, g = w2.heap.size := ⟨_, rfl⟩
  rw [← hgt] at Bt
  generalize w2.alloc (.cells ts.toArray 28) = Vt at *
  rw [← hgt]
  clear hgt
  have l0 := D0.lt
  have l1 := K0.lt
  have l2 := Bt.lt
  go_wp2_with (first | (refine wpList_load_run (by rfl) (by rfl) (by rfl) (D0.load Tryz.underlying24 rfl size_u HLa.out) ?_) | fail)
  refine (con_scalar14 HA.out).mono ?_
  rintro e w3 ⟨rfl, hb⟩
  replace D0 := D0.later hb
  replace K0 := K0.later hb
  replace Bt := Bt.later hb
  replace bel := below_step bel hb
  clear hb
  clear l0 l1 l2
  have l0 := D0.lt
  have l1 := K0.lt
  have l2 := Bt.lt
  by_cases c1 : isSc x
  rotate_left
  · rw [decide_eq_false c1]
    obtain ⟨her, rfl, rfl⟩ := HSg.out.1 (fun h => c1 h.1)
    replace her : er = .iface 34 (.int .i64 3) := her
    subst her
    have q1 := iface_eqE 3
    have q2 : ∀ w : World, (Op.equalIn 10000 28 (.agg ts.toArray) (.agg #[.int .u64 0, .int .u64 0, .int .u64 0, .int .u64 0, .int .u64 0, .int .u64 0, .int .u64 0, .int .u64 0, .int .u64 0, .int .u64 0, .int .u64 0, .int .u64 0])).run Tryz.prog w = .ok true w := fun w => by rw [← HT.out]; exact (eqS HR.out HS.out U6.zero U6.zero w).trans (by simp)
    go_wp2_with (first | (refine wpList_load_run (by rfl) (by rfl) (by rfl) (Bt.load Tryz.underlying28 rfl size_s HLt.out) ?_) | fail)
    go_ret
    exact ⟨rfl, bel⟩
  rw [decide_eq_true c1]
  have HC1 : Hid (isSc x) := c1
  clear c1
  go_wp2_with (first | (refine wpList_load_run (by rfl) (by rfl) (by rfl) (K0.load Tryz.underlying24 rfl size_u HLk.out) ?_) | fail)
  refine (con_scalar14 HK.out).mono ?_
  rintro e w4 ⟨rfl, hb⟩
  replace D0 := D0.later hb
  replace K0 := K0.later hb
  replace Bt := Bt.later hb
  replace bel := below_step bel hb
  clear hb
  clear l0 l1 l2
  have l0 := D0.lt
  have l1 := K0.lt
  have l2 := Bt.lt
  by_cases c2 : isSc y
  rotate_left
  · rw [decide_eq_false c2]
    obtain ⟨her, rfl, rfl⟩ := HSg.out.1 (fun h => c2 h.2)
    replace her : er = .iface 34 (.int .i64 3) := her
    subst her
    have q1 := iface_eqE 3
    have q2 : ∀ w : World, (Op.equalIn 10000 28 (.agg ts.toArray) (.agg #[.int .u64 0, .int .u64 0, .int .u64 0, .int .u64 0, .int .u64 0, .int .u64 0, .int .u64 0, .int .u64 0, .int .u64 0, .int .u64 0, .int .u64 0, .int .u64 0])).run Tryz.prog w = .ok true w := fun w => by rw [← HT.out]; exact (eqS HR.out HS.out U6.zero U6.zero w).trans (by simp)
    go_wp2_with (first | (refine wpList_load_run (by rfl) (by rfl) (by rfl) (Bt.load Tryz.underlying28 rfl size_s HLt.out) ?_) | fail)
    go_ret
    exact ⟨rfl, bel⟩
  rw [decide_eq_true c2]
  have HC2 : Hid (isSc y) := c2
  clear c2
  by_cases c3 : D.length = 48
  rotate_left
  · obtain ⟨c, hc1, hc2, hdb⟩ : ∃ c : Nat, 1 ≤ c ∧ c ≤ 21 ∧ decBad D (c : Int) := by
      rcases (show D.length < 48 ∨ 48 < D.length by omega) with h | h
      · exact ⟨6, by omega, by omega, .inl ⟨h, rfl⟩⟩
      · exact ⟨8, by omega, by omega, .inr ⟨h, rfl⟩⟩
    obtain ⟨her, rfl, rfl⟩ := (HSg.out.2 HC1.out HC2.out).1 _ hdb
    replace her : er = .iface 34 (.int .i64 (c : Int)) := her
    subst her
    have HDb : Hid _ := hdb
    clear hdb c3
    go_wp2_with fail
    refine (digest_bad (HV.out.later bel) HDb.out).mono ?_
    rintro e w5 ⟨rfl, hb⟩
    replace D0 := D0.later hb
    replace K0 := K0.later hb
    replace Bt := Bt.later hb
    replace bel := below_step bel hb
    clear hb
    clear l0 l1 l2
    obtain ⟨zs, hzs⟩ : ∃ zs : List Value, [.int .u64 0, .int .u64 0, .int .u64 0, .int .u64 0, .int .u64 0, .int .u64 0] = zs := ⟨_, rfl⟩
    have HZs : Hid ([.int .u64 0, .int .u64 0, .int .u64 0, .int .u64 0, .int .u64 0, .int .u64 0] = zs) := hzs
    have hza : #[.int .u64 0, .int .u64 0, .int .u64 0, .int .u64 0, .int .u64 0, .int .u64 0] = zs.toArray := by rw [← hzs]
    rw [hza]
    clear hza hzs
    have HLh : Hid (zs.length = 6) := by rw [← HZs.out]; rfl
    have HSh : Hid (zs.toArray.size = 6) := by show _ = _; rw [List.size_toArray]; exact HLh.out
    have HOh : Hid (OneR zs) := by rw [← HZs.out]; exact U6.zero.ones
    replace D0 := D0.alloc (.cells zs.toArray 24)
    replace K0 := K0.alloc (.cells zs.toArray 24)
    replace Bt := Bt.alloc (.cells zs.toArray 24)
    replace bel := below_alloc (o := .cells zs.toArray 24) bel
    have Bh := Blk.new w5 zs 24 w5.heap.size rfl
    have hz := zero_u.out
    go_upto_region 6 with (first | (refine wpList_store_row rfl 24 _ _ rfl w5.heap.size zs.toArray rfl rfl 24 _ (heap_alloc_last _ _) (by rw [size_u, HSh.out]) (by rw [HSh.out]; rfl) HOh.out ?_; rw [World.setRow_alloc_new]) | fail)
    clear hz
    obtain ⟨gh, hgh⟩ : ∃ g, g = w5.heap.size := ⟨_, rfl⟩
    rw [← hgh] at Bh
    generalize w5.alloc (.cells zs.toArray 24) = Vh at *
    rw [← hgh]
    clear hgh
    have l2 := Bt.lt
    have q3 := ne_codeE
    have q2 : ∀ w : World, (Op.equalIn 10000 28 (.agg ts.toArray) (.agg #[.int .u64 0, .int .u64 0, .int .u64 0, .int .u64 0, .int .u64 0, .int .u64 0, .int .u64 0, .int .u64 0, .int .u64 0, .int .u64 0, .int .u64 0, .int .u64 0])).run Tryz.prog w = .ok true w := fun w => by rw [← HT.out]; exact (eqS HR.out HS.out U6.zero U6.zero w).trans (by simp)
    go_wp2_with fail
    refine (con_SameCode (HGE.out.below bel) hc1 hc2).mono ?_
    rintro e w6 ⟨rfl, hb⟩
    replace Bt := Bt.later hb
    replace bel := below_step bel hb
    clear hb
    clear l2
    have l2 := Bt.lt
    go_wp2_with (first | (refine wpList_load_run (by rfl) (by rfl) (by rfl) (Bt.load Tryz.underlying28 rfl size_s HLt.out) ?_) | fail)
    go_ret
    exact ⟨rfl, bel⟩
  obtain ⟨i, hi⟩ : ∃ i, InvO y i := ⟨_, rfl⟩
  have HI : Hid (InvO y i) := hi
  have HRes : Hid _ := (HSg.out.2 HC1.out HC2.out).2 c3 i hi
  have HC3 : Hid (D.length = 48) := c3
  clear hi c3
  go_wp2_with fail
  refine (uDigest (HG.out.below bel).2 (HV.out.later bel) HB.out HC3.out).mono ?_
  rintro e w5 ⟨hs5, rfl, hu, hb⟩
  replace D0 := D0.later hb
  replace K0 := K0.later hb
  replace Bt := Bt.later hb
  replace bel := below_step bel hb
  clear hb
  clear l0 l1 l2
  have HH : Hid (U6 hs5 (beN D % QQ)) := hu
  clear hu
  have HLh : Hid (hs5.length = 6) := HH.out.len
  have HSh : Hid (hs5.toArray.size = 6) := by show _ = _; rw [List.size_toArray]; exact HLh.out
  have HOh : Hid (OneR hs5) := HH.out.ones
  replace D0 := D0.alloc (.cells hs5.toArray 24)
  replace K0 := K0.alloc (.cells hs5.toArray 24)
  replace Bt := Bt.alloc (.cells hs5.toArray 24)
  replace bel := below_alloc (o := .cells hs5.toArray 24) bel
  have Bh := Blk.new w5 hs5 24 w5.heap.size rfl
  have hz := zero_u.out
  go_upto_region 6 with (first | (refine wpList_store_row rfl 24 _ _ rfl w5.heap.size hs5.toArray rfl rfl 24 _ (heap_alloc_last _ _) (by rw [size_u, HSh.out]) (by rw [HSh.out]; rfl) HOh.out ?_; rw [World.setRow_alloc_new]) | fail)
  clear hz
  obtain ⟨gh, hgh⟩ : ∃ g, g = w5.heap.size := ⟨_, rfl⟩
  rw [← hgh] at Bh
  generalize w5.alloc (.cells hs5.toArray 24) = Vh at *
  rw [← hgh]
  clear hgh
  have q3 := ne_nilE
  have l1 := K0.lt
  go_wp2_with (first | (refine wpList_load_run (by rfl) (by rfl) (by rfl) (K0.load Tryz.underlying24 rfl size_u HLk.out) ?_) | fail)
  refine (uBase (HG.out.below bel).1 HK.out).mono ?_
  rintro e w6 ⟨ps, rfl, hp, hb⟩
  replace D0 := D0.later hb
  replace K0 := K0.later hb
  replace Bt := Bt.later hb
  replace Bh := Bh.later hb
  replace bel := below_step bel hb
  clear hb
  clear l1 q3
  obtain ⟨X6, Y6, hraw, hX6⟩ := hp.raw
  have HP : Hid (P13R ps X6 Y6 _) := hraw
  have HX6 : Hid (X6 = xOf (cmul y.toNat GG)) := hX6
  clear hp hraw hX6
  have HLp : Hid (ps.length = 13) := HP.out.len
  have HSp : Hid (ps.toArray.size = 13) := by show _ = _; rw [List.size_toArray]; exact HLp.out
  have HOp : Hid (OneR ps) := HP.out.ones
  replace D0 := D0.alloc (.cells ps.toArray 39)
  replace K0 := K0.alloc (.cells ps.toArray 39)
  replace Bt := Bt.alloc (.cells ps.toArray 39)
  replace Bh := Bh.alloc (.cells ps.toArray 39)
  replace bel := below_alloc (o := .cells ps.toArray 39) bel
  have Bp := Blk.new w6 ps 39 w6.heap.size rfl
  have hz := zero_p.out
  go_upto_region 9 with (first | (refine wpList_store_row rfl 39 _ _ rfl w6.heap.size ps.toArray rfl rfl 39 _ (heap_alloc_last _ _) (by rw [size_p, HSp.out]) (by rw [HSp.out]; rfl) HOp.out ?_; rw [World.setRow_alloc_new]) | fail)
  clear hz
  obtain ⟨gp, hgp⟩ : ∃ g, g = w6.heap.size := ⟨_, rfl⟩
  rw [← hgp] at Bp
  generalize w6.alloc (.cells ps.toArray 39) = Vp at *
  rw [← hgp]
  clear hgp
  have hld : ∃ xs, (loadVar 24 ⟨gp, 0, none⟩).run Tryz.prog Vp = .ok (.agg xs.toArray) Vp ∧ U6 xs X6 := by
    obtain ⟨xs, ys, e, u1, u2⟩ := HP.out
    exact ⟨xs, load_u Bp u1 (fun j v hv => by rw [e, List.append_assoc]; exact app_at0 j v hv), u1⟩
  obtain ⟨xs, hld, hux⟩ := hld
  have lp := Bp.lt
  go_wp2_with (first | (refine wpList_load_run (by rfl) (by rfl) (by rfl) hld ?_) | fail)
  refine (uRest (HG.out.below bel).2 hux).mono ?_
  rintro e w7 ⟨es, rfl, hu, hb⟩
  replace D0 := D0.later hb
  replace K0 := K0.later hb
  replace Bt := Bt.later hb
  replace Bh := Bh.later hb
  replace bel := below_step bel hb
  clear hb
  clear lp hld hux Bp
  have HE : Hid (U6 es (sigR y)) := by unfold sigR; rw [← HX6.out]; exact hu
  clear hu
  have HLr : Hid (es.length = 6) := HE.out.len
  have HSr : Hid (es.toArray.size = 6) := by show _ = _; rw [List.size_toArray]; exact HLr.out
  have HOr : Hid (OneR es) := HE.out.ones
  replace D0 := D0.alloc (.cells es.toArray 24)
  replace K0 := K0.alloc (.cells es.toArray 24)
  replace Bt := Bt.alloc (.cells es.toArray 24)
  replace Bh := Bh.alloc (.cells es.toArray 24)
  replace bel := below_alloc (o := .cells es.toArray 24) bel
  have Br := Blk.new w7 es 24 w7.heap.size rfl
  have hz := zero_u.out
  go_upto_region 10 with (first | (refine wpList_store_row rfl 24 _ _ rfl w7.heap.size es.toArray rfl rfl 24 _ (heap_alloc_last _ _) (by rw [size_u, HSr.out]) (by rw [HSr.out]; rfl) HOr.out ?_; rw [World.setRow_alloc_new]) | fail)
  clear hz
  obtain ⟨gr, hgr⟩ : ∃ g, g = w7.heap.size := ⟨_, rfl⟩
  rw [← hgr] at Br
  generalize w7.alloc (.cells es.toArray 24) = Vr at *
  rw [← hgr]
  clear hgr
  obtain ⟨S1, hS1, KB1, KI1, KD1, KL1, KA1⟩ : ∃ S : World → Prop, Hd S Vr ∧ Hid (∀ wx, Hd S wx → Below Vr.heap.size Vr wx) ∧ Hid (∀ wx, Below Vr.heap.size Vr wx → Hd S wx) ∧ Hid (∀ wx, Hd S wx → Hd S wx.drew) ∧ Hid (∀ w1 w2, Hd S w1 → Below w1.heap.size w1 w2 → Hd S w2) ∧ Hid (∀ w1 o, Hd S w1 → Hd S (w1.alloc o)) := ⟨fun wx => Below Vr.heap.size Vr wx, Below.refl _ _, fun _ h => h, fun _ h => h, fun wx h => Below.drew h, fun w1 w2 h hb => below_step h hb, fun w1 o h => Below.alloc h h.size o⟩
  have HD0 : Hid (Blk Vr w.heap.size cs) := D0
  have rd : Hid (∀ wx, Hd S1 wx → (loadVar 24 ⟨w.heap.size, 0, none⟩).run Tryz.prog wx = .ok (.agg cs.toArray) wx) := fun wx h => (HD0.out.later (KB1.out wx h)).load Tryz.underlying24 rfl size_u HLa.out
  have HK0 : Hid (Blk Vr (w.heap.size + 1) ds) := K0
  have rk : Hid (∀ wx, Hd S1 wx → (loadVar 24 ⟨w.heap.size + 1, 0, none⟩).run Tryz.prog wx = .ok (.agg ds.toArray) wx) := fun wx h => (HK0.out.later (KB1.out wx h)).load Tryz.underlying24 rfl size_u HLk.out
  have HBh : Hid (Blk Vr gh hs5) := Bh
  have rh : Hid (∀ wx, Hd S1 wx → (loadVar 24 ⟨gh, 0, none⟩).run Tryz.prog wx = .ok (.agg hs5.toArray) wx) := fun wx h => (HBh.out.later (KB1.out wx h)).load Tryz.underlying24 rfl size_u HLh.out
  have HBr : Hid (Blk Vr gr es) := Br
  have rr : Hid (∀ wx, Hd S1 wx → (loadVar 24 ⟨gr, 0, none⟩).run Tryz.prog wx = .ok (.agg es.toArray) wx) := fun wx h => (HBr.out.later (KB1.out wx h)).load Tryz.underlying24 rfl size_u HLr.out
  have HBt : Hid (Blk Vr gt ts) := Bt
  clear D0 K0 Bt Bh Br
  refine wp_region_noPanic ?_
  refine wp_region_held_drew (S := Hd S1) (by kernel_rfl) (KD1.out _ hS1) (fun hHeld => ?_)
  clear hS1
  generalize World.drew _ = wd1 at *
  refine wpAnyH_take (i := 0) (v := .agg hs5.toArray) rfl (by kernel_rfl) (by kernel_rfl) (by kernel_rfl) (fun _ _ _ h => h) (Or.inl ⟨by rfl, fun wx h => exec_load rfl rfl (rh.out wx h)⟩) (by assumption) ?_
  try simp only [Act.put, List.getElem_toArray, List.getElem_cons_zero, List.getElem_cons_succ, List.setIfInBounds_toArray, List.set_cons_zero, List.set_cons_succ]
  refine wpAnyH_take (i := 1) (v := .agg es.toArray) rfl (by kernel_rfl) (by kernel_rfl) (by kernel_rfl) (fun _ _ _ h => h) (Or.inl ⟨by rfl, fun wx h => exec_load rfl rfl (rr.out wx h)⟩) (by assumption) ?_
  try simp only [Act.put, List.getElem_toArray, List.getElem_cons_zero, List.getElem_cons_succ, List.setIfInBounds_toArray, List.set_cons_zero, List.set_cons_succ]
  refine wpAnyH_take (i := 2) (v := .agg cs.toArray) rfl (by kernel_rfl) (by kernel_rfl) (by kernel_rfl) (fun _ _ _ h => h) (Or.inl ⟨by rfl, fun wx h => exec_load rfl rfl (rd.out wx h)⟩) (by assumption) ?_
  try simp only [Act.put, List.getElem_toArray, List.getElem_cons_zero, List.getElem_cons_succ, List.setIfInBounds_toArray, List.set_cons_zero, List.set_cons_succ]
  refine wpAnyH_take (i := 5) (v := .agg ds.toArray) rfl (by kernel_rfl) (by kernel_rfl) (by kernel_rfl) (fun _ _ _ h => h) (Or.inl ⟨by rfl, fun wx h => exec_load rfl rfl (rk.out wx h)⟩) (by assumption) ?_
  try simp only [Act.put, List.getElem_toArray, List.getElem_cons_zero, List.getElem_cons_succ, List.setIfInBounds_toArray, List.set_cons_zero, List.set_cons_succ]
  apply with_keyE (T := ∀ (wz : World) (m3 m4 m6 m7 : List Value) (gs : Nat), Hd S1 wz → Hid (U6 m7 (sigS x (sigR y) (beN D % QQ) i)) → Blk wz gs [.int .u64 0, .int .u64 0, .int .u64 0, .int .u64 0, .int .u64 0, .int .u64 0] → Vr.heap.size ≤ gs → wpAnyH _ _ _ _ _ _ _ _ wz)
  case main =>
    intro k10
    refine wpAnyH_ready (rs := [3, 8]) (by kernel_rfl) (by simp) ?_
    refine AllReadyH.cons rfl (fun K hK => ?_) ?_
    · go_simp
      refine (uMul (HG.out.below (below_step bel (KB1.out _ hHeld))).2 HE.out HA.out).mono ?_
      rintro e z3 ⟨m3, rfl, hu, hb⟩
      refine hK.out _ _ ?_ (fun hHeld2 => ?_)
      · exact KL1.out _ _ hHeld hb
      · clear hK K
        try clear hHeld
        have hHeld := hHeld2
        clear hHeld2
        try simp only [Act.put, List.getElem_toArray, List.getElem_cons_zero, List.getElem_cons_succ, List.setIfInBounds_toArray, List.set_cons_zero, List.set_cons_succ]
        have HU3 : Hid (U6 m3 (sigR y * x % QQ)) := hu
        clear hu hb
        refine wpAnyH_ready (rs := [4, 8]) (by kernel_rfl) (by simp) ?_
        refine AllReadyH.cons rfl (fun K hK => ?_) ?_
        · go_simp
          refine (uAdd (HG.out.below (below_step bel (KB1.out _ hHeld))).2 HH.out HU3.out).mono ?_
          rintro e z4 ⟨m4, rfl, hu, hb⟩
          refine hK.out _ _ ?_ (fun hHeld2 => ?_)
          · exact KL1.out _ _ hHeld hb
          · clear hK K
            try clear hHeld
            have hHeld := hHeld2
            clear hHeld2
            try simp only [Act.put, List.getElem_toArray, List.getElem_cons_zero, List.getElem_cons_succ, List.setIfInBounds_toArray, List.set_cons_zero, List.set_cons_succ]
            have HU4 : Hid (U6 m4 ((beN D % QQ + sigR y * x % QQ) % QQ)) := hu
            clear hu hb
            refine wpAnyH_ready (rs := [6, 8]) (by kernel_rfl) (by simp) ?_
            refine AllReadyH.cons rfl (fun K hK => ?_) ?_
            · go_simp
              refine (uInv (HG.out.below (below_step bel (KB1.out _ hHeld))).2 HK.out).mono ?_
              rintro e z6 ⟨m6, i6, rfl, hu, hi6, hb⟩
              refine hK.out _ _ ?_ (fun hHeld2 => ?_)
              · exact KL1.out _ _ hHeld hb
              · clear hK K
                try clear hHeld
                have hHeld := hHeld2
                clear hHeld2
                try simp only [Act.put, List.getElem_toArray, List.getElem_cons_zero, List.getElem_cons_succ, List.setIfInBounds_toArray, List.set_cons_zero, List.set_cons_succ]
                rw [hi6.one HI.out] at hu
                have HU6 : Hid (U6 m6 i) := hu
                clear hu hb hi6
                refine wpAnyH_ready (rs := [7, 8]) (by kernel_rfl) (by simp) ?_
                refine AllReadyH.cons rfl (fun K hK => ?_) ?_
                · go_simp
                  refine (uMul (HG.out.below (below_step bel (KB1.out _ hHeld))).2 HU4.out HU6.out).mono ?_
                  rintro e z7 ⟨m7, rfl, hu, hb⟩
                  refine hK.out _ _ ?_ (fun hHeld2 => ?_)
                  · exact KL1.out _ _ hHeld hb
                  · clear hK K
                    try clear hHeld
                    have hHeld := hHeld2
                    clear hHeld2
                    try simp only [Act.put, List.getElem_toArray, List.getElem_cons_zero, List.getElem_cons_succ, List.setIfInBounds_toArray, List.set_cons_zero, List.set_cons_succ]
                    have HU7 : Hid (U6 m7 (sigS x (sigR y) (beN D % QQ) i)) := hu
                    clear hu hb
                    refine wpAnyH_ready (rs := [8]) (by kernel_rfl) (by simp) ?_
                    refine AllReadyH.cons rfl (fun K hK => ?_) ?_
                    · have HH0 : Hid (Hd S1 z7) := hHeld
                      have hz := zero_u.out
                      go_simp
                      refine hK.out _ _ ?_ (fun hHeld2 => ?_)
                      · exact KA1.out _ _ hHeld
                      · clear hK K
                        try clear hHeld
                        have hHeld := hHeld2
                        clear hHeld2
                        try simp only [Act.put, List.getElem_toArray, List.getElem_cons_zero, List.getElem_cons_succ, List.setIfInBounds_toArray, List.set_cons_zero, List.set_cons_succ]
                        clear hz
                        have Z0 := Blk.new z7 [.int .u64 0, .int .u64 0, .int .u64 0, .int .u64 0, .int .u64 0, .int .u64 0] 24 z7.heap.size rfl
                        obtain ⟨gs, hgs⟩ : ∃ g, g = z7.heap.size := ⟨_, rfl⟩
                        have lgs : Vr.heap.size ≤ gs := by rw [hgs]; exact (KB1.out _ HH0.out).size
                        rw [← hgs] at Z0 ⊢
                        clear hgs HH0
                        generalize (z7.alloc (.cells #[.int .u64 0, .int .u64 0, .int .u64 0, .int .u64 0, .int .u64 0, .int .u64 0] 24)) = w99 at *
                        exact k10 w99 m3 m4 m6 m7 gs hHeld HU7 Z0 lgs
                    exact AllReadyH.nil
                refine AllReadyH.cons rfl (fun K hK => ?_) ?_
                · have HH0 : Hid (Hd S1 z6) := hHeld
                  have hz := zero_u.out
                  go_simp
                  refine hK.out _ _ ?_ (fun hHeld2 => ?_)
                  · exact KA1.out _ _ hHeld
                  · clear hK K
                    try clear hHeld
                    have hHeld := hHeld2
                    clear hHeld2
                    try simp only [Act.put, List.getElem_toArray, List.getElem_cons_zero, List.getElem_cons_succ, List.setIfInBounds_toArray, List.set_cons_zero, List.set_cons_succ]
                    clear hz
                    have Z0 := Blk.new z6 [.int .u64 0, .int .u64 0, .int .u64 0, .int .u64 0, .int .u64 0, .int .u64 0] 24 z6.heap.size rfl
                    obtain ⟨gs, hgs⟩ : ∃ g, g = z6.heap.size := ⟨_, rfl⟩
                    have lgs : Vr.heap.size ≤ gs := by rw [hgs]; exact (KB1.out _ HH0.out).size
                    rw [← hgs] at Z0 ⊢
                    clear hgs HH0
                    refine wpAnyH_ready (rs := [7]) (by kernel_rfl) (by simp) ?_
                    refine AllReadyH.cons rfl (fun K hK => ?_) ?_
                    · go_simp
                      refine (uMul (HG.out.below (below_step bel (KB1.out _ hHeld))).2 HU4.out HU6.out).mono ?_
                      rintro e z7 ⟨m7, rfl, hu, hb⟩
                      refine hK.out _ _ ?_ (fun hHeld2 => ?_)
                      · exact KL1.out _ _ hHeld hb
                      · clear hK K
                        try clear hHeld
                        have hHeld := hHeld2
                        clear hHeld2
                        try simp only [Act.put, List.getElem_toArray, List.getElem_cons_zero, List.getElem_cons_succ, List.setIfInBounds_toArray, List.set_cons_zero, List.set_cons_succ]
                        replace Z0 := Z0.later hb
                        have HU7 : Hid (U6 m7 (sigS x (sigR y) (beN D % QQ) i)) := hu
                        clear hu hb
                        exact k10 z7 m3 m4 m6 m7 gs hHeld HU7 Z0 lgs
                    exact AllReadyH.nil
                exact AllReadyH.nil
            refine AllReadyH.cons rfl (fun K hK => ?_) ?_
            · have HH0 : Hid (Hd S1 z4) := hHeld
              have hz := zero_u.out
              go_simp
              refine hK.out _ _ ?_ (fun hHeld2 => ?_)
              · exact KA1.out _ _ hHeld
              · clear hK K
                try clear hHeld
                have hHeld := hHeld2
                clear hHeld2
                try simp only [Act.put, List.getElem_toArray, List.getElem_cons_zero, List.getElem_cons_succ, List.setIfInBounds_toArray, List.set_cons_zero, List.set_cons_succ]
                clear hz
                have Z0 := Blk.new z4 [.int .u64 0, .int .u64 0, .int .u64 0, .int .u64 0, .int .u64 0, .int .u64 0] 24 z4.heap.size rfl
                obtain ⟨gs, hgs⟩ : ∃ g, g = z4.heap.size := ⟨_, rfl⟩
                have lgs : Vr.heap.size ≤ gs := by rw [hgs]; exact (KB1.out _ HH0.out).size
                rw [← hgs] at Z0 ⊢
                clear hgs HH0
                refine wpAnyH_ready (rs := [6]) (by kernel_rfl) (by simp) ?_
                refine AllReadyH.cons rfl (fun K hK => ?_) ?_
                · go_simp
                  refine (uInv (HG.out.below (below_step bel (KB1.out _ hHeld))).2 HK.out).mono ?_
                  rintro e z6 ⟨m6, i6, rfl, hu, hi6, hb⟩
                  refine hK.out _ _ ?_ (fun hHeld2 => ?_)
                  · exact KL1.out _ _ hHeld hb
                  · clear hK K
                    try clear hHeld
                    have hHeld := hHeld2
                    clear hHeld2
                    try simp only [Act.put, List.getElem_toArray, List.getElem_cons_zero, List.getElem_cons_succ, List.setIfInBounds_toArray, List.set_cons_zero, List.set_cons_succ]
                    replace Z0 := Z0.later hb
                    rw [hi6.one HI.out] at hu
                    have HU6 : Hid (U6 m6 i) := hu
                    clear hu hb hi6
                    refine wpAnyH_ready (rs := [7]) (by kernel_rfl) (by simp) ?_
                    refine AllReadyH.cons rfl (fun K hK => ?_) ?_
                    · go_simp
                      refine (uMul (HG.out.below (below_step bel (KB1.out _ hHeld))).2 HU4.out HU6.out).mono ?_
                      rintro e z7 ⟨m7, rfl, hu, hb⟩
                      refine hK.out _ _ ?_ (fun hHeld2 => ?_)
                      · exact KL1.out _ _ hHeld hb
                      · clear hK K
                        try clear hHeld
                        have hHeld := hHeld2
                        clear hHeld2
                        try simp only [Act.put, List.getElem_toArray, List.getElem_cons_zero, List.getElem_cons_succ, List.setIfInBounds_toArray, List.set_cons_zero, List.set_cons_succ]
                        replace Z0 := Z0.later hb
                        have HU7 : Hid (U6 m7 (sigS x (sigR y) (beN D % QQ) i)) := hu
                        clear hu hb
                        exact k10 z7 m3 m4 m6 m7 gs hHeld HU7 Z0 lgs
                    exact AllReadyH.nil
                exact AllReadyH.nil
            exact AllReadyH.nil
        refine AllReadyH.cons rfl (fun K hK => ?_) ?_
        · have HH0 : Hid (Hd S1 z3) := hHeld
          have hz := zero_u.out
          go_simp
          refine hK.out _ _ ?_ (fun hHeld2 => ?_)
          · exact KA1.out _ _ hHeld
          · clear hK K
            try clear hHeld
            have hHeld := hHeld2
            clear hHeld2
            try simp only [Act.put, List.getElem_toArray, List.getElem_cons_zero, List.getElem_cons_succ, List.setIfInBounds_toArray, List.set_cons_zero, List.set_cons_succ]
            clear hz
            have Z0 := Blk.new z3 [.int .u64 0, .int .u64 0, .int .u64 0, .int .u64 0, .int .u64 0, .int .u64 0] 24 z3.heap.size rfl
            obtain ⟨gs, hgs⟩ : ∃ g, g = z3.heap.size := ⟨_, rfl⟩
            have lgs : Vr.heap.size ≤ gs := by rw [hgs]; exact (KB1.out _ HH0.out).size
            rw [← hgs] at Z0 ⊢
            clear hgs HH0
            refine wpAnyH_ready (rs := [4]) (by kernel_rfl) (by simp) ?_
            refine AllReadyH.cons rfl (fun K hK => ?_) ?_
            · go_simp
              refine (uAdd (HG.out.below (below_step bel (KB1.out _ hHeld))).2 HH.out HU3.out).mono ?_
              rintro e z4 ⟨m4, rfl, hu, hb⟩
              refine hK.out _ _ ?_ (fun hHeld2 => ?_)
              · exact KL1.out _ _ hHeld hb
              · clear hK K
                try clear hHeld
                have hHeld := hHeld2
                clear hHeld2
                try simp only [Act.put, List.getElem_toArray, List.getElem_cons_zero, List.getElem_cons_succ, List.setIfInBounds_toArray, List.set_cons_zero, List.set_cons_succ]
                replace Z0 := Z0.later hb
                have HU4 : Hid (U6 m4 ((beN D % QQ + sigR y * x % QQ) % QQ)) := hu
                clear hu hb
                refine wpAnyH_ready (rs := [6]) (by kernel_rfl) (by simp) ?_
                refine AllReadyH.cons rfl (fun K hK => ?_) ?_
                · go_simp
                  refine (uInv (HG.out.below (below_step bel (KB1.out _ hHeld))).2 HK.out).mono ?_
                  rintro e z6 ⟨m6, i6, rfl, hu, hi6, hb⟩
                  refine hK.out _ _ ?_ (fun hHeld2 => ?_)
                  · exact KL1.out _ _ hHeld hb
                  · clear hK K
                    try clear hHeld
                    have hHeld := hHeld2
                    clear hHeld2
                    try simp only [Act.put, List.getElem_toArray, List.getElem_cons_zero, List.getElem_cons_succ, List.setIfInBounds_toArray, List.set_cons_zero, List.set_cons_succ]
                    replace Z0 := Z0.later hb
                    rw [hi6.one HI.out] at hu
                    have HU6 : Hid (U6 m6 i) := hu
                    clear hu hb hi6
                    refine wpAnyH_ready (rs := [7]) (by kernel_rfl) (by simp) ?_
                    refine AllReadyH.cons rfl (fun K hK => ?_) ?_
                    · go_simp
                      refine (uMul (HG.out.below (below_step bel (KB1.out _ hHeld))).2 HU4.out HU6.out).mono ?_
                      rintro e z7 ⟨m7, rfl, hu, hb⟩
                      refine hK.out _ _ ?_ (fun hHeld2 => ?_)
                      · exact KL1.out _ _ hHeld hb
                      · clear hK K
                        try clear hHeld
                        have hHeld := hHeld2
                        clear hHeld2
                        try simp only [Act.put, List.getElem_toArray, List.getElem_cons_zero, List.getElem_cons_succ, List.setIfInBounds_toArray, List.set_cons_zero, List.set_cons_succ]
                        replace Z0 := Z0.later hb
                        have HU7 : Hid (U6 m7 (sigS x (sigR y) (beN D % QQ) i)) := hu
                        clear hu hb
                        exact k10 z7 m3 m4 m6 m7 gs hHeld HU7 Z0 lgs
                    exact AllReadyH.nil
                exact AllReadyH.nil
            exact AllReadyH.nil
        exact AllReadyH.nil
    refine AllReadyH.cons rfl (fun K hK => ?_) ?_
    · have HH0 : Hid (Hd S1 wd1) := hHeld
      have hz := zero_u.out
      go_simp
      refine hK.out _ _ ?_ (fun hHeld2 => ?_)
      · exact KA1.out _ _ hHeld
      · clear hK K
        try clear hHeld
        have hHeld := hHeld2
        clear hHeld2
        try simp only [Act.put, List.getElem_toArray, List.getElem_cons_zero, List.getElem_cons_succ, List.setIfInBounds_toArray, List.set_cons_zero, List.set_cons_succ]
        clear hz
        have Z0 := Blk.new wd1 [.int .u64 0, .int .u64 0, .int .u64 0, .int .u64 0, .int .u64 0, .int .u64 0] 24 wd1.heap.size rfl
        obtain ⟨gs, hgs⟩ : ∃ g, g = wd1.heap.size := ⟨_, rfl⟩
        have lgs : Vr.heap.size ≤ gs := by rw [hgs]; exact (KB1.out _ HH0.out).size
        rw [← hgs] at Z0 ⊢
        clear hgs HH0
        refine wpAnyH_ready (rs := [3]) (by kernel_rfl) (by simp) ?_
        refine AllReadyH.cons rfl (fun K hK => ?_) ?_
        · go_simp
          refine (uMul (HG.out.below (below_step bel (KB1.out _ hHeld))).2 HE.out HA.out).mono ?_
          rintro e z3 ⟨m3, rfl, hu, hb⟩
          refine hK.out _ _ ?_ (fun hHeld2 => ?_)
          · exact KL1.out _ _ hHeld hb
          · clear hK K
            try clear hHeld
            have hHeld := hHeld2
            clear hHeld2
            try simp only [Act.put, List.getElem_toArray, List.getElem_cons_zero, List.getElem_cons_succ, List.setIfInBounds_toArray, List.set_cons_zero, List.set_cons_succ]
            replace Z0 := Z0.later hb
            have HU3 : Hid (U6 m3 (sigR y * x % QQ)) := hu
            clear hu hb
            refine wpAnyH_ready (rs := [4]) (by kernel_rfl) (by simp) ?_
            refine AllReadyH.cons rfl (fun K hK => ?_) ?_
            · go_simp
              refine (uAdd (HG.out.below (below_step bel (KB1.out _ hHeld))).2 HH.out HU3.out).mono ?_
              rintro e z4 ⟨m4, rfl, hu, hb⟩
              refine hK.out _ _ ?_ (fun hHeld2 => ?_)
              · exact KL1.out _ _ hHeld hb
              · clear hK K
                try clear hHeld
                have hHeld := hHeld2
                clear hHeld2
                try simp only [Act.put, List.getElem_toArray, List.getElem_cons_zero, List.getElem_cons_succ, List.setIfInBounds_toArray, List.set_cons_zero, List.set_cons_succ]
                replace Z0 := Z0.later hb
                have HU4 : Hid (U6 m4 ((beN D % QQ + sigR y * x % QQ) % QQ)) := hu
                clear hu hb
                refine wpAnyH_ready (rs := [6]) (by kernel_rfl) (by simp) ?_
                refine AllReadyH.cons rfl (fun K hK => ?_) ?_
                · go_simp
                  refine (uInv (HG.out.below (below_step bel (KB1.out _ hHeld))).2 HK.out).mono ?_
                  rintro e z6 ⟨m6, i6, rfl, hu, hi6, hb⟩
                  refine hK.out _ _ ?_ (fun hHeld2 => ?_)
                  · exact KL1.out _ _ hHeld hb
                  · clear hK K
                    try clear hHeld
                    have hHeld := hHeld2
                    clear hHeld2
                    try simp only [Act.put, List.getElem_toArray, List.getElem_cons_zero, List.getElem_cons_succ, List.setIfInBounds_toArray, List.set_cons_zero, List.set_cons_succ]
                    replace Z0 := Z0.later hb
                    rw [hi6.one HI.out] at hu
                    have HU6 : Hid (U6 m6 i) := hu
                    clear hu hb hi6
                    refine wpAnyH_ready (rs := [7]) (by kernel_rfl) (by simp) ?_
                    refine AllReadyH.cons rfl (fun K hK => ?_) ?_
                    · go_simp
                      refine (uMul (HG.out.below (below_step bel (KB1.out _ hHeld))).2 HU4.out HU6.out).mono ?_
                      rintro e z7 ⟨m7, rfl, hu, hb⟩
                      refine hK.out _ _ ?_ (fun hHeld2 => ?_)
                      · exact KL1.out _ _ hHeld hb
                      · clear hK K
                        try clear hHeld
                        have hHeld := hHeld2
                        clear hHeld2
                        try simp only [Act.put, List.getElem_toArray, List.getElem_cons_zero, List.getElem_cons_succ, List.setIfInBounds_toArray, List.set_cons_zero, List.set_cons_succ]
                        replace Z0 := Z0.later hb
                        have HU7 : Hid (U6 m7 (sigS x (sigR y) (beN D % QQ) i)) := hu
                        clear hu hb
                        exact k10 z7 m3 m4 m6 m7 gs hHeld HU7 Z0 lgs
                    exact AllReadyH.nil
                exact AllReadyH.nil
            exact AllReadyH.nil
        exact AllReadyH.nil
    exact AllReadyH.nil
  case kp =>
    intro wz m3 m4 m6 m7 gs hHeld HU7 Z0 lgs
    refine wpAnyH_ready (rs := [9]) (by kernel_rfl) (by simp) ?_
    refine AllReadyH.cons rfl (fun K hK => ?_) ?_
    · have HH9 : Hid (Hd S1 _) := hHeld
      have HLs : Hid (m7.length = 6) := HU7.out.len
      have HSs : Hid (m7.toArray.size = 6) := by show _ = _; rw [List.size_toArray]; exact HLs.out
      have HOs : Hid (OneR m7) := HU7.out.ones
      have Z1 : Blk (wz.setRow gs m7.toArray) gs m7 := Z0.put
      obtain ⟨tZ, hZ⟩ := Z0
      rw [if_pos (by rfl)]
      refine wp_store_row 24 _ _ rfl gs m7.toArray rfl rfl tZ _ hZ (by rw [size_u, HSs.out]) (by rw [HSs.out]; rfl) HOs.out ?_
      have bel9 := below_setRow (KB1.out _ HH9.out) lgs m7.toArray
      refine hK.out _ _ ?_ (fun hHeld2 => ?_)
      · exact KI1.out _ bel9
      · clear hK K hHeld
        have hHeld := hHeld2
        clear hHeld2
        try simp only [Act.put, List.getElem_toArray, List.getElem_cons_zero, List.getElem_cons_succ, List.setIfInBounds_toArray, List.set_cons_zero, List.set_cons_succ]
        clear hZ
        refine wpAnyH_done (by kernel_rfl) ?_ _
        refine NoPanic.normal ?_
        have Br := HBr.out.later bel9
        have Bt := HBt.out.later bel9
        replace bel := bel.trans (bel9.mono bel.size)
        clear bel9 rd rk rh rr hHeld
        generalize (World.setRow wz gs m7.toArray) = X at *
        have l4 := Br.lt
        have l5 := Bt.lt
        have l6 := Z1.lt
        have q4 := eqU HE.out U6.zero
        have q5 := eqU HU7.out U6.zero
        by_cases c5 : sigR y = 0 ∨ sigS x (sigR y) (beN D % QQ) i = 0
        · obtain ⟨her, rfl, rfl⟩ := HRes.out.1 c5
          replace her : er = .iface 34 (.int .i64 10) := her
          subst her
          have q1 := iface_eqE 10
          have q2 : ∀ w : World, (Op.equalIn 10000 28 (.agg ts.toArray) (.agg #[.int .u64 0, .int .u64 0, .int .u64 0, .int .u64 0, .int .u64 0, .int .u64 0, .int .u64 0, .int .u64 0, .int .u64 0, .int .u64 0, .int .u64 0, .int .u64 0])).run Tryz.prog w = .ok true w := fun w => by rw [← HT.out]; exact (eqS HR.out HS.out U6.zero U6.zero w).trans (by simp)
          by_cases c6 : sigR y = 0
          · rw [decide_eq_true c6] at q4
            go_wp2_with (first | (refine wpList_load_run (by rfl) (by rfl) (by rfl) (Br.load Tryz.underlying24 rfl size_u HLr.out) ?_) | (refine wpList_load_run (by rfl) (by rfl) (by rfl) (Z1.load Tryz.underlying24 rfl size_u HLs.out) ?_) | (refine wpList_load_run (by rfl) (by rfl) (by rfl) (Bt.load Tryz.underlying28 rfl size_s HLt.out) ?_) | fail)
            go_ret
            exact ⟨rfl, bel⟩
          · rw [decide_eq_false c6] at q4
            rw [decide_eq_true (by rcases c5 with h | h; exact absurd h c6; exact h)] at q5
            go_wp2_with (first | (refine wpList_load_run (by rfl) (by rfl) (by rfl) (Br.load Tryz.underlying24 rfl size_u HLr.out) ?_) | (refine wpList_load_run (by rfl) (by rfl) (by rfl) (Z1.load Tryz.underlying24 rfl size_u HLs.out) ?_) | (refine wpList_load_run (by rfl) (by rfl) (by rfl) (Bt.load Tryz.underlying28 rfl size_s HLt.out) ?_) | fail)
            go_ret
            exact ⟨rfl, bel⟩
        · obtain ⟨rfl, rfl, rfl⟩ := HRes.out.2 c5
          rw [decide_eq_false (fun h => c5 (.inl h))] at q4
          rw [decide_eq_false (fun h => c5 (.inr h))] at q5
          have q7 := build_sig HE.out HU7.out
          have q3 := eq_nilcode 0
          have q8 : ∀ w : World, (Op.equalIn 10000 28 (.agg ts.toArray) (.agg (es ++ m7).toArray)).run Tryz.prog w = .ok true w := fun w => by rw [← HT.out]; exact (eqS HR.out HS.out HE.out HU7.out w).trans (by rw [decide_eq_true ⟨rfl, rfl⟩])
          have hu2 : ∃ us, es ++ m7 = us := ⟨_, rfl⟩
          obtain ⟨us2, hus⟩ := hu2
          rw [hus] at q7 q8
          clear hus c5
          go_wp2_with (first | (refine wpList_load_run (by rfl) (by rfl) (by rfl) (Br.load Tryz.underlying24 rfl size_u HLr.out) ?_) | (refine wpList_load_run (by rfl) (by rfl) (by rfl) (Z1.load Tryz.underlying24 rfl size_u HLs.out) ?_) | (refine wpList_load_run (by rfl) (by rfl) (by rfl) (Bt.load Tryz.underlying28 rfl size_s HLt.out) ?_) | (refine wpList_build_run (by rfl) (by rfl) (by rfl) (v := .agg us2.toArray) (q7 _) ?_) | fail)
          go_ret
          exact ⟨rfl, bel⟩
    exact AllReadyH.nil
end Go.Proofs.YtjpnbbhpgchbpaaGreatDoor
