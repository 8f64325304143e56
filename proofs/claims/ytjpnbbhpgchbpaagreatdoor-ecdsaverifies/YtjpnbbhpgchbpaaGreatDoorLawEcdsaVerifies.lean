/- The law EcdsaVerifies. -/
import Derived.Test.YtjpnbbhpgchbpaaGreatDoorRows
import Derived.Test.YtjpnbbhpgchbpaaGreatDoorEdUp
import Derived.Test.YtjpnbbhpgchbpaaGreatDoorEdVerify
import Derived.Test.YtjpnbbhpgchbpaaGreatDoorEdU
import Derived.Test.YtjpnbbhpgchbpaaGreatDoorEdLowG
import Derived.Test.YtjpnbbhpgchbpaaGreatDoorEdG
import Derived.Test.YtjpnbbhpgchbpaaGreatDoorEdPts
import Derived.Test.YtjpnbbhpgchbpaaGreatDoorDrDG
import Derived.Test.YtjpnbbhpgchbpaaGreatDoorWpOne
import Derived.Deep.OwnRows
import Derived.Deep.AppendLies
import Derived.Great.BuildSlice
import Derived.Laws.Rows
import Derived.BigQuiet
import Derived.Deep.WholeRow
import Derived.Deep.RegionHeld3
import Derived.Deep.DeepCutAuto
import Derived.Deep.DeepFit
namespace Go.Proofs.YtjpnbbhpgchbpaaGreatDoor
open Go.RowKit

theorem eq_codenilE (c : Int) : ∀ w : World, (binOp .eql 30 (.iface 34 (.int .i64 c)) .nilIface).run Tryz.prog w = .ok (.bool false) w := fun _ => by kernel_rfl
theorem eq_nilE14 : ∀ w : World, (binOp .eql 30 .nilIface .nilIface).run Tryz.prog w = .ok (.bool true) w := fun _ => by kernel_rfl
theorem below_stepE {a w w' : World} (h : Below a.heap.size a w) (hb : Below w.heap.size w w') : Below a.heap.size a w' := h.trans (hb.mono h.size)
set_option linter.unusedSimpArgs false in
set_option maxRecDepth 100000 in
set_option maxHeartbeats 8000000 in
theorem law_ecdsaVerifies {qs rs ss : List Value} {X Y : Int} {n : Bool} {r s : Int} {v : Value} {D : List Int} {w : World} (G : GA w) (GE : GlsE w) (hq : P13R qs X Y n) (hv : Bs w v D) (b : byt D) (hr : U6 rs r) (hs : U6 ss s) :
    Calls Tryz.prog 4 #[.agg qs.toArray, v, .agg (rs ++ ss).toArray] w fun e w' => e = .returned (.bool true) ∧ Below w.heap.size w w' := by
  have hts : ∃ ts, rs ++ ss = ts := ⟨_, rfl⟩
  obtain ⟨ts, hts⟩ := hts
  have HT : Hid (rs ++ ss = ts) := hts
  have HLt : Hid (ts.length = 12) := by show _ = _; rw [← hts, List.length_append, hr.len, hs.len]
  have cv := fun w (G : GA w) (hb : Bs w v D) => con_Verify G hq hr hs hb b
  rw [hts] at cv ⊢
  have HCv : Hid _ := cv
  clear hts cv
  have HG : Hid (GA w) := G
  have HGE : Hid (GlsE w) := GE
  have HQ : Hid (P13R qs X Y n) := hq
  have HR : Hid (U6 rs r) := hr
  have HS : Hid (U6 ss s) := hs
  have HLq : Hid (qs.length = 13) := hq.len
  have HB : Hid (byt D) := b
  have HV : Hid (Bs w v D) := hv
  obtain ⟨ao, cap, rfl, h1, h2, h3⟩ := hv
  clear G GE hq hr hs b h1 h2 h3
  have HNn : Hid (qs[12]? = some (.bool n)) := by
    obtain ⟨xs, ys, e, u1, u2⟩ := HQ.out
    show _ = _
    rw [e, List.getElem?_append_right (by simp [u1.len, u2.len])]
    simp [u1.len, u2.len]
  have Q0 := (Blk.new w qs 39 w.heap.size rfl).alloc (.cells ts.toArray 28)
  have S0 := Blk.new (w.alloc (.cells qs.toArray 39)) ts 28 (w.heap.size + 1) (by simp)
  have bel : Below w.heap.size w ((w.alloc (.cells qs.toArray 39)).alloc (.cells ts.toArray 28)) := ((Below.refl _ _).alloc (Nat.le_refl _) _).alloc (by simp) _
  go_enter Tryz.func4, Tryz.ntmps4
  go_upto_region 1 with fail
  generalize (w.alloc (.cells qs.toArray 39)).alloc (.cells ts.toArray 28) = W at *
  go_wp2_with fail
  refine (con_up14 (HG.out.below bel)).mono ?_
  rintro e w1 ⟨rfl, hb⟩
  replace Q0 := Q0.later hb
  replace S0 := S0.later hb
  replace bel := below_step bel hb
  clear hb
  have l0 := Q0.lt
  have l1 := S0.lt
  go_wp2_with (first | (refine wpList_load_run (by rfl) (by rfl) (by rfl) (Q0.load Tryz.underlying39 rfl size_p HLq.out) ?_) | (refine wpList_load_run (by rfl) (by rfl) (by rfl) (S0.load Tryz.underlying28 rfl size_s HLt.out) ?_) | fail)
  refine (HCv.out _ (HG.out.below bel) (HV.out.later bel)).mono ?_
  rintro e w2 ⟨er, rfl, hver, hb⟩
  clear l0 l1
  replace Q0 := Q0.later hb
  replace S0 := S0.later hb
  replace bel := below_step bel hb
  clear hb
  have HVer : Hid (VerIs X Y n D r s er) := hver
  clear hver
  have l0 := Q0.lt
  go_wp2_with (first | (refine wpList_load_run (by rfl) (by rfl) (by rfl) (Q0.load Tryz.underlying39 rfl size_p HLq.out) ?_) | fail)
  refine (uOn (HG.out.below bel).1 HQ.out).mono ?_
  rintro e w3 ⟨ob, rfl, hob, hb⟩
  clear l0
  replace Q0 := Q0.later hb
  replace S0 := S0.later hb
  replace bel := below_step bel hb
  clear hb
  have HOb : Hid (ob = true ↔ IsOn n X Y) := hob
  clear hob
  have l0 := Q0.lt
  have cn := Q0.cell 12 _ HNn.out
  cases n with
  | true =>
    have her : er = .iface 34 (.int .i64 4) := HVer.out.1 (fun h => by cases h.1)
    subst her
    have q1 := iface_eqE 4
    go_wp2_with fail
    go_ret
    exact ⟨rfl, bel⟩
  | false =>
  cases ob with
  | false =>
    have her : er = .iface 34 (.int .i64 4) := HVer.out.1 (fun h => by have := HOb.out.2 (.inr ⟨rfl, h.2⟩); cases this)
    subst her
    have q1 := iface_eqE 4
    go_wp2_with fail
    go_ret
    exact ⟨rfl, bel⟩
  | true =>
  have HAf : Hid (Aff X Y) := by
    rcases HOb.out.1 rfl with h | h
    · cases h.1
    · exact h.2
  have HVr : Hid _ := HVer.out.2 rfl HAf.out
  clear HVer HOb
  by_cases c3 : D.length = 48
  rotate_left
  · obtain ⟨c, hc1, hc2, hdb⟩ : ∃ c : Nat, 1 ≤ c ∧ c ≤ 21 ∧ decBad D (c : Int) := by
      rcases (show D.length < 48 ∨ 48 < D.length by omega) with h | h
      · exact ⟨6, by omega, by omega, .inl ⟨h, rfl⟩⟩
      · exact ⟨8, by omega, by omega, .inr ⟨h, rfl⟩⟩
    have her : er = .iface 34 (.int .i64 (c : Int)) := HVr.out.1 _ hdb
    subst her
    have HDb : Hid _ := hdb
    clear hdb c3
    go_wp2_with fail
    refine (digest_bad (HV.out.later bel) HDb.out).mono ?_
    rintro e w5 ⟨rfl, hb⟩
    replace Q0 := Q0.later hb
    replace S0 := S0.later hb
    replace bel := below_step bel hb
    clear hb
    clear l0 cn
    obtain ⟨zs, hzs⟩ : ∃ zs : List Value, [.int .u64 0, .int .u64 0, .int .u64 0, .int .u64 0, .int .u64 0, .int .u64 0] = zs := ⟨_, rfl⟩
    have HZs : Hid ([.int .u64 0, .int .u64 0, .int .u64 0, .int .u64 0, .int .u64 0, .int .u64 0] = zs) := hzs
    have hza : #[.int .u64 0, .int .u64 0, .int .u64 0, .int .u64 0, .int .u64 0, .int .u64 0] = zs.toArray := by rw [← hzs]
    rw [hza]
    clear hza hzs
    have HLh : Hid (zs.length = 6) := by rw [← HZs.out]; rfl
    have HSh : Hid (zs.toArray.size = 6) := by show _ = _; rw [List.size_toArray]; exact HLh.out
    have HOh : Hid (OneR zs) := by rw [← HZs.out]; exact U6.zero.ones
    replace Q0 := Q0.alloc (.cells zs.toArray 24)
    replace S0 := S0.alloc (.cells zs.toArray 24)
    replace bel := below_alloc (o := .cells zs.toArray 24) bel
    have Bh := Blk.new w5 zs 24 w5.heap.size rfl
    have hz := zero_u.out
    go_upto_region 7 with (first | (refine wpList_store_row rfl 24 _ _ rfl w5.heap.size zs.toArray rfl rfl 24 _ (heap_alloc_last _ _) (by rw [size_u, HSh.out]) (by rw [HSh.out]; rfl) HOh.out ?_; rw [World.setRow_alloc_new]) | fail)
    clear hz
    obtain ⟨gh, hgh⟩ : ∃ g, g = w5.heap.size := ⟨_, rfl⟩
    rw [← hgh] at Bh
    generalize w5.alloc (.cells zs.toArray 24) = Vh at *
    rw [← hgh]
    clear hgh
    have q3 := ne_codeE
    go_wp2_with fail
    refine (con_SameCode (HGE.out.below bel) hc1 hc2).mono ?_
    rintro e w6 ⟨rfl, hb⟩
    replace bel := below_step bel hb
    go_wp2_with fail
    go_ret
    exact ⟨rfl, bel⟩
  have HC3 : Hid (D.length = 48) := c3
  have HVs : Hid _ := HVr.out.2 c3
  clear c3 HVr
  go_wp2_with fail
  refine (uDigest (HG.out.below bel).2 (HV.out.later bel) HB.out HC3.out).mono ?_
  rintro e w5 ⟨hs5, rfl, hu, hb⟩
  replace Q0 := Q0.later hb
  replace S0 := S0.later hb
  replace bel := below_step bel hb
  clear hb
  clear l0 cn
  have HH : Hid (U6 hs5 (beN D % QQ)) := hu
  clear hu
  have HLh : Hid (hs5.length = 6) := HH.out.len
  have HSh : Hid (hs5.toArray.size = 6) := by show _ = _; rw [List.size_toArray]; exact HLh.out
  have HOh : Hid (OneR hs5) := HH.out.ones
  replace Q0 := Q0.alloc (.cells hs5.toArray 24)
  replace S0 := S0.alloc (.cells hs5.toArray 24)
  replace bel := below_alloc (o := .cells hs5.toArray 24) bel
  have Bh := Blk.new w5 hs5 24 w5.heap.size rfl
  have hz := zero_u.out
  go_upto_region 7 with (first | (refine wpList_store_row rfl 24 _ _ rfl w5.heap.size hs5.toArray rfl rfl 24 _ (heap_alloc_last _ _) (by rw [size_u, HSh.out]) (by rw [HSh.out]; rfl) HOh.out ?_; rw [World.setRow_alloc_new]) | fail)
  clear hz
  obtain ⟨gh, hgh⟩ : ∃ g, g = w5.heap.size := ⟨_, rfl⟩
  rw [← hgh] at Bh
  generalize w5.alloc (.cells hs5.toArray 24) = Vh at *
  rw [← hgh]
  clear hgh
  have q3 := ne_nilE
  have l1 := S0.lt
  go_wp2_with (first | (refine wpList_load_run (by rfl) (by rfl) (by rfl) (load_u S0 HR.out (by rw [← HT.out]; exact app_at0)) ?_) | fail)
  refine (con_scalar14 HR.out).mono ?_
  rintro e w6 ⟨rfl, hb⟩
  replace Q0 := Q0.later hb
  replace S0 := S0.later hb
  replace Bh := Bh.later hb
  replace bel := below_step bel hb
  clear hb
  clear l1
  by_cases c1 : isSc r
  rotate_left
  · rw [decide_eq_false c1]
    have hno : ¬ (isSc r ∧ isSc s) := fun h => c1 h.1
    clear c1
    have her : er = .iface 34 (.int .i64 3) := HVs.out.1 hno
    subst her
    have q1 := iface_eqE 3
    go_wp2_with fail
    go_ret
    exact ⟨rfl, bel⟩
  rw [decide_eq_true c1]
  have HC1 : Hid (isSc r) := c1
  clear c1
  have l1 := S0.lt
  go_wp2_with (first | (refine wpList_load_run (by rfl) (by rfl) (by rfl) (load_u (o := 6) S0 HS.out (by rw [← HT.out]; exact app_at2 HR.out.len)) ?_) | fail)
  refine (con_scalar14 HS.out).mono ?_
  rintro e w7 ⟨rfl, hb⟩
  replace Q0 := Q0.later hb
  replace S0 := S0.later hb
  replace Bh := Bh.later hb
  replace bel := below_step bel hb
  clear hb
  clear l1
  by_cases c2 : isSc s
  rotate_left
  · rw [decide_eq_false c2]
    have hno : ¬ (isSc r ∧ isSc s) := fun h => c2 h.2
    clear c2
    have her : er = .iface 34 (.int .i64 3) := HVs.out.1 hno
    subst her
    have q1 := iface_eqE 3
    go_wp2_with fail
    go_ret
    exact ⟨rfl, bel⟩
  rw [decide_eq_true c2]
  have HC2 : Hid (isSc s) := c2
  clear c2
  have l1 := S0.lt
  go_wp2_with (first | (refine wpList_load_run (by rfl) (by rfl) (by rfl) (load_u (o := 6) S0 HS.out (by rw [← HT.out]; exact app_at2 HR.out.len)) ?_) | fail)
  refine (uInv (HG.out.below bel).2 HS.out).mono ?_
  rintro e w8 ⟨is5, i, rfl, hu, hi, hb⟩
  replace Q0 := Q0.later hb
  replace S0 := S0.later hb
  replace Bh := Bh.later hb
  replace bel := below_step bel hb
  clear hb
  clear l1
  have HI : Hid (U6 is5 i) := hu
  have HHo : Hid _ := HVs.out.2 HC1.out HC2.out i hi
  clear hu hi HVs
  have HLi : Hid (is5.length = 6) := HI.out.len
  have HSi : Hid (is5.toArray.size = 6) := by show _ = _; rw [List.size_toArray]; exact HLi.out
  have HOi : Hid (OneR is5) := HI.out.ones
  replace Q0 := Q0.alloc (.cells is5.toArray 24)
  replace S0 := S0.alloc (.cells is5.toArray 24)
  replace Bh := Bh.alloc (.cells is5.toArray 24)
  replace bel := below_alloc (o := .cells is5.toArray 24) bel
  have Bi := Blk.new w8 is5 24 w8.heap.size rfl
  have hz := zero_u.out
  go_upto_region 12 with (first | (refine wpList_store_row rfl 24 _ _ rfl w8.heap.size is5.toArray rfl rfl 24 _ (heap_alloc_last _ _) (by rw [size_u, HSi.out]) (by rw [HSi.out]; rfl) HOi.out ?_; rw [World.setRow_alloc_new]) | fail)
  clear hz
  obtain ⟨gi, hgi⟩ : ∃ g, g = w8.heap.size := ⟨_, rfl⟩
  rw [← hgi] at Bi
  generalize w8.alloc (.cells is5.toArray 24) = Vi at *
  rw [← hgi]
  clear hgi
  clear q3
  obtain ⟨S1, hS1, KB1, KI1, KD1, KL1, KA1⟩ : ∃ S : World → Prop, Hd S Vi ∧ Hid (∀ wx, Hd S wx → Below Vi.heap.size Vi wx) ∧ Hid (∀ wx, Below Vi.heap.size Vi wx → Hd S wx) ∧ Hid (∀ wx, Hd S wx → Hd S wx.drew) ∧ Hid (∀ w1 w2, Hd S w1 → Below w1.heap.size w1 w2 → Hd S w2) ∧ Hid (∀ w1 o, Hd S w1 → Hd S (w1.alloc o)) := ⟨fun wx => Below Vi.heap.size Vi wx, Below.refl _ _, fun _ h => h, fun _ h => h, fun wx h => Below.drew h, fun w1 w2 h hb => below_step h hb, fun w1 o h => Below.alloc h h.size o⟩
  have HQ0 : Hid (Blk Vi w.heap.size qs) := Q0
  have HS0 : Hid (Blk Vi (w.heap.size + 1) ts) := S0
  have HBh : Hid (Blk Vi gh hs5) := Bh
  have HBi : Hid (Blk Vi gi is5) := Bi
  have rr : Hid (∀ wx, Hd S1 wx → (loadVar 24 ⟨w.heap.size + 1, 0, none⟩).run Tryz.prog wx = .ok (.agg rs.toArray) wx) := fun wx h => load_u (HS0.out.later (KB1.out wx h)) HR.out (by rw [← HT.out]; exact app_at0)
  have ri : Hid (∀ wx, Hd S1 wx → (loadVar 24 ⟨gi, 0, none⟩).run Tryz.prog wx = .ok (.agg is5.toArray) wx) := fun wx h => (HBi.out.later (KB1.out wx h)).load Tryz.underlying24 rfl size_u HLi.out
  have rq : Hid (∀ wx, Hd S1 wx → (loadVar 39 ⟨w.heap.size, 0, none⟩).run Tryz.prog wx = .ok (.agg qs.toArray) wx) := fun wx h => (HQ0.out.later (KB1.out wx h)).load Tryz.underlying39 rfl size_p HLq.out
  clear Q0 S0 Bh Bi
  refine wp_region_noPanic ?_
  refine wp_region_held_drew (S := Hd S1) (by kernel_rfl) (KD1.out _ hS1) (fun hHeld => ?_)
  clear hS1
  generalize World.drew _ = wd1 at *
  refine wpAnyH_take (i := 0) (v := ?_) rfl (by kernel_rfl) (by kernel_rfl) (by kernel_rfl) (fun _ _ _ h => h) (Or.inl ⟨by rfl, ?_⟩) (by assumption) ?_
  rotate_left
  · intro w hSw
    go_simp
    with_reducible rfl
  try simp only [Act.put, List.getElem_toArray, List.getElem_cons_zero, List.getElem_cons_succ, List.setIfInBounds_toArray, List.set_cons_zero, List.set_cons_succ]
  refine wpAnyH_take (i := 1) (v := .agg rs.toArray) rfl (by kernel_rfl) (by kernel_rfl) (by kernel_rfl) (fun _ _ _ h => h) (Or.inl ⟨by rfl, fun wx h => exec_load rfl rfl (rr.out wx h)⟩) (by assumption) ?_
  try simp only [Act.put, List.getElem_toArray, List.getElem_cons_zero, List.getElem_cons_succ, List.setIfInBounds_toArray, List.set_cons_zero, List.set_cons_succ]
  refine wpAnyH_take (i := 2) (v := .agg is5.toArray) rfl (by kernel_rfl) (by kernel_rfl) (by kernel_rfl) (fun _ _ _ h => h) (Or.inl ⟨by rfl, fun wx h => exec_load rfl rfl (ri.out wx h)⟩) (by assumption) ?_
  try simp only [Act.put, List.getElem_toArray, List.getElem_cons_zero, List.getElem_cons_succ, List.setIfInBounds_toArray, List.set_cons_zero, List.set_cons_succ]
  refine wpAnyH_take (i := 4) (v := .agg qs.toArray) rfl (by kernel_rfl) (by kernel_rfl) (by kernel_rfl) (fun _ _ _ h => h) (Or.inl ⟨by rfl, fun wx h => exec_load rfl rfl (rq.out wx h)⟩) (by assumption) ?_
  try simp only [Act.put, List.getElem_toArray, List.getElem_cons_zero, List.getElem_cons_succ, List.setIfInBounds_toArray, List.set_cons_zero, List.set_cons_succ]
  apply with_keyE (T := ∀ (wz : World) (m3 m5 : List Value) (gm : Nat), Hd S1 wz → Hid (P13 m5 (cmul (r * i % QQ).toNat (some (X, Y)))) → Blk wz gm [.int .u64 0, .int .u64 0, .int .u64 0, .int .u64 0, .int .u64 0, .int .u64 0, .int .u64 0, .int .u64 0, .int .u64 0, .int .u64 0, .int .u64 0, .int .u64 0, .bool false] → Vi.heap.size ≤ gm → wpAnyH _ _ _ _ _ _ _ _ wz)
  case main =>
    intro k12
    refine wpAnyH_ready (rs := [3, 9]) (by kernel_rfl) (by simp) ?_
    refine AllReadyH.cons rfl (fun K hK => ?_) ?_
    · go_simp
      refine (uMul (HG.out.below (below_step bel (KB1.out _ hHeld))).2 HR.out HI.out).mono ?_
      rintro e z3 ⟨m3, rfl, hu, hb⟩
      refine hK.out _ _ ?_ (fun hHeld2 => ?_)
      · exact KL1.out _ _ hHeld hb
      · clear hK K
        try clear hHeld
        have hHeld := hHeld2
        clear hHeld2
        try simp only [Act.put, List.getElem_toArray, List.getElem_cons_zero, List.getElem_cons_succ, List.setIfInBounds_toArray, List.set_cons_zero, List.set_cons_succ]
        have HU3 : Hid (U6 m3 (r * i % QQ)) := hu
        clear hu hb
        refine wpAnyH_ready (rs := [5, 9]) (by kernel_rfl) (by simp) ?_
        refine AllReadyH.cons rfl (fun K hK => ?_) ?_
        · go_simp
          refine (uMulP (HG.out.below (below_step bel (KB1.out _ hHeld))).1 HU3.out HQ.out.told HAf.out).mono ?_
          rintro e z5 ⟨m5, rfl, hu, hb⟩
          refine hK.out _ _ ?_ (fun hHeld2 => ?_)
          · exact KL1.out _ _ hHeld hb
          · clear hK K
            try clear hHeld
            have hHeld := hHeld2
            clear hHeld2
            try simp only [Act.put, List.getElem_toArray, List.getElem_cons_zero, List.getElem_cons_succ, List.setIfInBounds_toArray, List.set_cons_zero, List.set_cons_succ]
            have HU5 : Hid (P13 m5 (cmul (r * i % QQ).toNat (some (X, Y)))) := hu
            clear hu hb
            refine wpAnyH_take (i := 6) (v := ?_) rfl (by kernel_rfl) (by kernel_rfl) (by kernel_rfl) (fun _ _ _ h => h) (Or.inl ⟨by rfl, ?_⟩) (by assumption) ?_
            rotate_left
            · intro w hSw
              go_simp
              with_reducible rfl
            try simp only [Act.put, List.getElem_toArray, List.getElem_cons_zero, List.getElem_cons_succ, List.setIfInBounds_toArray, List.set_cons_zero, List.set_cons_succ]
            refine wpAnyH_take (i := 7) (v := ?_) rfl (by kernel_rfl) (by kernel_rfl) (by kernel_rfl) (fun _ _ _ h => h) (Or.inl ⟨by rfl, ?_⟩) (by assumption) ?_
            rotate_left
            · intro w hSw
              go_simp
              with_reducible rfl
            try simp only [Act.put, List.getElem_toArray, List.getElem_cons_zero, List.getElem_cons_succ, List.setIfInBounds_toArray, List.set_cons_zero, List.set_cons_succ]
            refine wpAnyH_take (i := 8) (v := ?_) rfl (by kernel_rfl) (by kernel_rfl) (by kernel_rfl) (fun _ _ _ h => h) (Or.inl ⟨by rfl, ?_⟩) (by assumption) ?_
            rotate_left
            · intro w hSw
              go_simp
              with_reducible rfl
            try simp only [Act.put, List.getElem_toArray, List.getElem_cons_zero, List.getElem_cons_succ, List.setIfInBounds_toArray, List.set_cons_zero, List.set_cons_succ]
            refine wpAnyH_ready (rs := [9]) (by kernel_rfl) (by simp) ?_
            refine AllReadyH.cons rfl (fun K hK => ?_) ?_
            · have HH0 : Hid (Hd S1 z5) := hHeld
              have hz := zero_p.out
              go_simp
              refine hK.out _ _ ?_ (fun hHeld2 => ?_)
              · exact KA1.out _ _ hHeld
              · clear hK K
                try clear hHeld
                have hHeld := hHeld2
                clear hHeld2
                try simp only [Act.put, List.getElem_toArray, List.getElem_cons_zero, List.getElem_cons_succ, List.setIfInBounds_toArray, List.set_cons_zero, List.set_cons_succ]
                clear hz
                have Z0 := Blk.new z5 [.int .u64 0, .int .u64 0, .int .u64 0, .int .u64 0, .int .u64 0, .int .u64 0, .int .u64 0, .int .u64 0, .int .u64 0, .int .u64 0, .int .u64 0, .int .u64 0, .bool false] 39 z5.heap.size rfl
                obtain ⟨gm, hgm⟩ : ∃ g, g = z5.heap.size := ⟨_, rfl⟩
                have lgm : Vi.heap.size ≤ gm := by rw [hgm]; exact (KB1.out _ HH0.out).size
                rw [← hgm] at Z0 ⊢
                clear hgm HH0
                generalize (z5.alloc (.cells #[.int .u64 0, .int .u64 0, .int .u64 0, .int .u64 0, .int .u64 0, .int .u64 0, .int .u64 0, .int .u64 0, .int .u64 0, .int .u64 0, .int .u64 0, .int .u64 0, .bool false] 39)) = w99 at *
                exact k12 w99 m3 m5 gm hHeld HU5 Z0 lgm
            exact AllReadyH.nil
        refine AllReadyH.cons rfl (fun K hK => ?_) ?_
        · have HH0 : Hid (Hd S1 z3) := hHeld
          have hz := zero_p.out
          go_simp
          refine hK.out _ _ ?_ (fun hHeld2 => ?_)
          · exact KA1.out _ _ hHeld
          · clear hK K
            try clear hHeld
            have hHeld := hHeld2
            clear hHeld2
            try simp only [Act.put, List.getElem_toArray, List.getElem_cons_zero, List.getElem_cons_succ, List.setIfInBounds_toArray, List.set_cons_zero, List.set_cons_succ]
            clear hz
            have Z0 := Blk.new z3 [.int .u64 0, .int .u64 0, .int .u64 0, .int .u64 0, .int .u64 0, .int .u64 0, .int .u64 0, .int .u64 0, .int .u64 0, .int .u64 0, .int .u64 0, .int .u64 0, .bool false] 39 z3.heap.size rfl
            obtain ⟨gm, hgm⟩ : ∃ g, g = z3.heap.size := ⟨_, rfl⟩
            have lgm : Vi.heap.size ≤ gm := by rw [hgm]; exact (KB1.out _ HH0.out).size
            rw [← hgm] at Z0 ⊢
            clear hgm HH0
            refine wpAnyH_ready (rs := [5]) (by kernel_rfl) (by simp) ?_
            refine AllReadyH.cons rfl (fun K hK => ?_) ?_
            · go_simp
              refine (uMulP (HG.out.below (below_step bel (KB1.out _ hHeld))).1 HU3.out HQ.out.told HAf.out).mono ?_
              rintro e z5 ⟨m5, rfl, hu, hb⟩
              refine hK.out _ _ ?_ (fun hHeld2 => ?_)
              · exact KL1.out _ _ hHeld hb
              · clear hK K
                try clear hHeld
                have hHeld := hHeld2
                clear hHeld2
                try simp only [Act.put, List.getElem_toArray, List.getElem_cons_zero, List.getElem_cons_succ, List.setIfInBounds_toArray, List.set_cons_zero, List.set_cons_succ]
                replace Z0 := Z0.later hb
                have HU5 : Hid (P13 m5 (cmul (r * i % QQ).toNat (some (X, Y)))) := hu
                clear hu hb
                refine wpAnyH_take (i := 6) (v := ?_) rfl (by kernel_rfl) (by kernel_rfl) (by kernel_rfl) (fun _ _ _ h => h) (Or.inl ⟨by rfl, ?_⟩) (by assumption) ?_
                rotate_left
                · intro w hSw
                  go_simp
                  with_reducible rfl
                try simp only [Act.put, List.getElem_toArray, List.getElem_cons_zero, List.getElem_cons_succ, List.setIfInBounds_toArray, List.set_cons_zero, List.set_cons_succ]
                refine wpAnyH_take (i := 7) (v := ?_) rfl (by kernel_rfl) (by kernel_rfl) (by kernel_rfl) (fun _ _ _ h => h) (Or.inl ⟨by rfl, ?_⟩) (by assumption) ?_
                rotate_left
                · intro w hSw
                  go_simp
                  with_reducible rfl
                try simp only [Act.put, List.getElem_toArray, List.getElem_cons_zero, List.getElem_cons_succ, List.setIfInBounds_toArray, List.set_cons_zero, List.set_cons_succ]
                refine wpAnyH_take (i := 8) (v := ?_) rfl (by kernel_rfl) (by kernel_rfl) (by kernel_rfl) (fun _ _ _ h => h) (Or.inl ⟨by rfl, ?_⟩) (by assumption) ?_
                rotate_left
                · intro w hSw
                  go_simp
                  with_reducible rfl
                try simp only [Act.put, List.getElem_toArray, List.getElem_cons_zero, List.getElem_cons_succ, List.setIfInBounds_toArray, List.set_cons_zero, List.set_cons_succ]
                exact k12 z5 m3 m5 gm hHeld HU5 Z0 lgm
            exact AllReadyH.nil
        exact AllReadyH.nil
    refine AllReadyH.cons rfl (fun K hK => ?_) ?_
    · have HH0 : Hid (Hd S1 wd1) := hHeld
      have hz := zero_p.out
      go_simp
      refine hK.out _ _ ?_ (fun hHeld2 => ?_)
      · exact KA1.out _ _ hHeld
      · clear hK K
        try clear hHeld
        have hHeld := hHeld2
        clear hHeld2
        try simp only [Act.put, List.getElem_toArray, List.getElem_cons_zero, List.getElem_cons_succ, List.setIfInBounds_toArray, List.set_cons_zero, List.set_cons_succ]
        clear hz
        have Z0 := Blk.new wd1 [.int .u64 0, .int .u64 0, .int .u64 0, .int .u64 0, .int .u64 0, .int .u64 0, .int .u64 0, .int .u64 0, .int .u64 0, .int .u64 0, .int .u64 0, .int .u64 0, .bool false] 39 wd1.heap.size rfl
        obtain ⟨gm, hgm⟩ : ∃ g, g = wd1.heap.size := ⟨_, rfl⟩
        have lgm : Vi.heap.size ≤ gm := by rw [hgm]; exact (KB1.out _ HH0.out).size
        rw [← hgm] at Z0 ⊢
        clear hgm HH0
        refine wpAnyH_ready (rs := [3]) (by kernel_rfl) (by simp) ?_
        refine AllReadyH.cons rfl (fun K hK => ?_) ?_
        · go_simp
          refine (uMul (HG.out.below (below_step bel (KB1.out _ hHeld))).2 HR.out HI.out).mono ?_
          rintro e z3 ⟨m3, rfl, hu, hb⟩
          refine hK.out _ _ ?_ (fun hHeld2 => ?_)
          · exact KL1.out _ _ hHeld hb
          · clear hK K
            try clear hHeld
            have hHeld := hHeld2
            clear hHeld2
            try simp only [Act.put, List.getElem_toArray, List.getElem_cons_zero, List.getElem_cons_succ, List.setIfInBounds_toArray, List.set_cons_zero, List.set_cons_succ]
            replace Z0 := Z0.later hb
            have HU3 : Hid (U6 m3 (r * i % QQ)) := hu
            clear hu hb
            refine wpAnyH_ready (rs := [5]) (by kernel_rfl) (by simp) ?_
            refine AllReadyH.cons rfl (fun K hK => ?_) ?_
            · go_simp
              refine (uMulP (HG.out.below (below_step bel (KB1.out _ hHeld))).1 HU3.out HQ.out.told HAf.out).mono ?_
              rintro e z5 ⟨m5, rfl, hu, hb⟩
              refine hK.out _ _ ?_ (fun hHeld2 => ?_)
              · exact KL1.out _ _ hHeld hb
              · clear hK K
                try clear hHeld
                have hHeld := hHeld2
                clear hHeld2
                try simp only [Act.put, List.getElem_toArray, List.getElem_cons_zero, List.getElem_cons_succ, List.setIfInBounds_toArray, List.set_cons_zero, List.set_cons_succ]
                replace Z0 := Z0.later hb
                have HU5 : Hid (P13 m5 (cmul (r * i % QQ).toNat (some (X, Y)))) := hu
                clear hu hb
                refine wpAnyH_take (i := 6) (v := ?_) rfl (by kernel_rfl) (by kernel_rfl) (by kernel_rfl) (fun _ _ _ h => h) (Or.inl ⟨by rfl, ?_⟩) (by assumption) ?_
                rotate_left
                · intro w hSw
                  go_simp
                  with_reducible rfl
                try simp only [Act.put, List.getElem_toArray, List.getElem_cons_zero, List.getElem_cons_succ, List.setIfInBounds_toArray, List.set_cons_zero, List.set_cons_succ]
                refine wpAnyH_take (i := 7) (v := ?_) rfl (by kernel_rfl) (by kernel_rfl) (by kernel_rfl) (fun _ _ _ h => h) (Or.inl ⟨by rfl, ?_⟩) (by assumption) ?_
                rotate_left
                · intro w hSw
                  go_simp
                  with_reducible rfl
                try simp only [Act.put, List.getElem_toArray, List.getElem_cons_zero, List.getElem_cons_succ, List.setIfInBounds_toArray, List.set_cons_zero, List.set_cons_succ]
                refine wpAnyH_take (i := 8) (v := ?_) rfl (by kernel_rfl) (by kernel_rfl) (by kernel_rfl) (fun _ _ _ h => h) (Or.inl ⟨by rfl, ?_⟩) (by assumption) ?_
                rotate_left
                · intro w hSw
                  go_simp
                  with_reducible rfl
                try simp only [Act.put, List.getElem_toArray, List.getElem_cons_zero, List.getElem_cons_succ, List.setIfInBounds_toArray, List.set_cons_zero, List.set_cons_succ]
                exact k12 z5 m3 m5 gm hHeld HU5 Z0 lgm
            exact AllReadyH.nil
        exact AllReadyH.nil
    exact AllReadyH.nil
  case kp =>
    intro wz m3 m5 gm hHeld HU5 Z0 lgm
    refine wpAnyH_ready (rs := [10]) (by kernel_rfl) (by simp) ?_
    refine AllReadyH.cons rfl (fun K hK => ?_) ?_
    · have HH9 : Hid (Hd S1 _) := hHeld
      have HLm1 : Hid (m5.length = 13) := HU5.out.len
      have HSm1 : Hid (m5.toArray.size = 13) := by show _ = _; rw [List.size_toArray]; exact HLm1.out
      have HOm1 : Hid (OneR m5) := by obtain ⟨_, _, h9, _⟩ := HU5.out.raw; exact h9.ones
      have Z1 : Blk (wz.setRow gm m5.toArray) gm m5 := Z0.put
      obtain ⟨tZ, hZ⟩ := Z0
      rw [if_pos (by rfl)]
      refine wp_store_row 39 _ _ rfl gm m5.toArray rfl rfl tZ _ hZ (by rw [size_p, HSm1.out]) (by rw [HSm1.out]; rfl) HOm1.out ?_
      have bel9 := below_setRow (KB1.out _ HH9.out) lgm m5.toArray
      refine hK.out _ _ ?_ (fun hHeld2 => ?_)
      · exact KI1.out _ bel9
      · clear hK K hHeld HH9 hZ
        have hHeld := hHeld2
        clear hHeld2
        try simp only [Act.put, List.getElem_toArray, List.getElem_cons_zero, List.getElem_cons_succ, List.setIfInBounds_toArray, List.set_cons_zero, List.set_cons_succ]
        refine wpAnyH_take (i := 11) (v := ?_) rfl (by kernel_rfl) (by kernel_rfl) (by kernel_rfl) (fun _ _ _ h => h) (Or.inl ⟨by rfl, ?_⟩) (by assumption) ?_
        rotate_left
        · intro w hSw
          go_simp
          with_reducible rfl
        try simp only [Act.put, List.getElem_toArray, List.getElem_cons_zero, List.getElem_cons_succ, List.setIfInBounds_toArray, List.set_cons_zero, List.set_cons_succ]
        refine wpAnyH_done (by kernel_rfl) ?_ _
        refine NoPanic.normal ?_
        clear hHeld
        generalize World.setRow wz gm m5.toArray = U1 at *
        have HS0x : Hid (Blk U1 (w.heap.size + 1) ts) := HS0.out.later bel9
        have HBhx : Hid (Blk U1 gh hs5) := HBh.out.later bel9
        have HBix : Hid (Blk U1 gi is5) := HBi.out.later bel9
        have HMx : Hid (Blk U1 gm m5) := Z1
        replace bel := bel.trans (bel9.mono bel.size)
        clear bel9 Z1 rr ri rq HS0 HBh HBi HQ0
        go_upto_region 13 with fail
        obtain ⟨S2, hS2, KB2, KI2, KD2, KL2, KA2⟩ : ∃ S : World → Prop, Hd S U1 ∧ Hid (∀ wx, Hd S wx → Below U1.heap.size U1 wx) ∧ Hid (∀ wx, Below U1.heap.size U1 wx → Hd S wx) ∧ Hid (∀ wx, Hd S wx → Hd S wx.drew) ∧ Hid (∀ w1 w2, Hd S w1 → Below w1.heap.size w1 w2 → Hd S w2) ∧ Hid (∀ w1 o, Hd S w1 → Hd S (w1.alloc o)) := ⟨fun wx => Below U1.heap.size U1 wx, Below.refl _ _, fun _ h => h, fun _ h => h, fun wx h => Below.drew h, fun w1 w2 h hb => below_step h hb, fun w1 o h => Below.alloc h h.size o⟩
        have rh2 : Hid (∀ wx, Hd S2 wx → (loadVar 24 ⟨gh, 0, none⟩).run Tryz.prog wx = .ok (.agg hs5.toArray) wx) := fun wx h => (HBhx.out.later (KB2.out wx h)).load Tryz.underlying24 rfl size_u HLh.out
        have ri2 : Hid (∀ wx, Hd S2 wx → (loadVar 24 ⟨gi, 0, none⟩).run Tryz.prog wx = .ok (.agg is5.toArray) wx) := fun wx h => (HBix.out.later (KB2.out wx h)).load Tryz.underlying24 rfl size_u HLi.out
        have rm2 : Hid (∀ wx, Hd S2 wx → (loadVar 39 ⟨gm, 0, none⟩).run Tryz.prog wx = .ok (.agg m5.toArray) wx) := fun wx h => (HMx.out.later (KB2.out wx h)).load Tryz.underlying39 rfl size_p HLm1.out
        refine wp_region_noPanic ?_
        refine wp_region_held_drew (S := Hd S2) (by kernel_rfl) (KD2.out _ hS2) (fun hHeld => ?_)
        clear hS2
        generalize World.drew _ = wd2 at *
        refine wpAnyH_take (i := 0) (v := .agg hs5.toArray) rfl (by kernel_rfl) (by kernel_rfl) (by kernel_rfl) (fun _ _ _ h => h) (Or.inl ⟨by rfl, fun wx h => exec_load rfl rfl (rh2.out wx h)⟩) (by assumption) ?_
        try simp only [Act.put, List.getElem_toArray, List.getElem_cons_zero, List.getElem_cons_succ, List.setIfInBounds_toArray, List.set_cons_zero, List.set_cons_succ]
        refine wpAnyH_take (i := 1) (v := .agg is5.toArray) rfl (by kernel_rfl) (by kernel_rfl) (by kernel_rfl) (fun _ _ _ h => h) (Or.inl ⟨by rfl, fun wx h => exec_load rfl rfl (ri2.out wx h)⟩) (by assumption) ?_
        try simp only [Act.put, List.getElem_toArray, List.getElem_cons_zero, List.getElem_cons_succ, List.setIfInBounds_toArray, List.set_cons_zero, List.set_cons_succ]
        refine wpAnyH_take (i := 4) (v := .agg m5.toArray) rfl (by kernel_rfl) (by kernel_rfl) (by kernel_rfl) (fun _ _ _ h => h) (Or.inl ⟨by rfl, fun wx h => exec_load rfl rfl (rm2.out wx h)⟩) (by assumption) ?_
        try simp only [Act.put, List.getElem_toArray, List.getElem_cons_zero, List.getElem_cons_succ, List.setIfInBounds_toArray, List.set_cons_zero, List.set_cons_succ]
        apply with_keyE (T := ∀ (wz : World) (n2 n3 n5 : List Value) (gp : Nat), Hd S2 wz → Hid (P13 n5 (verP (some (X, Y)) (beN D % QQ) r i)) → Blk wz gp [.int .u64 0, .int .u64 0, .int .u64 0, .int .u64 0, .int .u64 0, .int .u64 0, .int .u64 0, .int .u64 0, .int .u64 0, .int .u64 0, .int .u64 0, .int .u64 0, .bool false] → U1.heap.size ≤ gp → wpAnyH _ _ _ _ _ _ _ _ wz)
        case main =>
          intro k13
          refine wpAnyH_ready (rs := [2, 9]) (by kernel_rfl) (by simp) ?_
          refine AllReadyH.cons rfl (fun K hK => ?_) ?_
          · go_simp
            refine (uMul (HG.out.below (below_step bel (KB2.out _ hHeld))).2 HH.out HI.out).mono ?_
            rintro e y2 ⟨n2, rfl, hu, hb⟩
            refine hK.out _ _ ?_ (fun hHeld2 => ?_)
            · exact KL2.out _ _ hHeld hb
            · clear hK K
              try clear hHeld
              have hHeld := hHeld2
              clear hHeld2
              try simp only [Act.put, List.getElem_toArray, List.getElem_cons_zero, List.getElem_cons_succ, List.setIfInBounds_toArray, List.set_cons_zero, List.set_cons_succ]
              have HN2 : Hid (U6 n2 (beN D % QQ * i % QQ)) := hu
              clear hu hb
              refine wpAnyH_ready (rs := [3, 9]) (by kernel_rfl) (by simp) ?_
              refine AllReadyH.cons rfl (fun K hK => ?_) ?_
              · go_simp
                refine (uBase (HG.out.below (below_step bel (KB2.out _ hHeld))).1 HN2.out).mono ?_
                rintro e y3 ⟨n3, rfl, hu, hb⟩
                refine hK.out _ _ ?_ (fun hHeld2 => ?_)
                · exact KL2.out _ _ hHeld hb
                · clear hK K
                  try clear hHeld
                  have hHeld := hHeld2
                  clear hHeld2
                  try simp only [Act.put, List.getElem_toArray, List.getElem_cons_zero, List.getElem_cons_succ, List.setIfInBounds_toArray, List.set_cons_zero, List.set_cons_succ]
                  have HN3 : Hid (P13 n3 (cmul (beN D % QQ * i % QQ).toNat GG)) := hu
                  clear hu hb
                  refine wpAnyH_ready (rs := [5, 9]) (by kernel_rfl) (by simp) ?_
                  refine AllReadyH.cons rfl (fun K hK => ?_) ?_
                  · go_simp
                    refine (uAddP (HG.out.below (below_step bel (KB2.out _ hHeld))).1 HN3.out HU5.out (on_cmul on_G _) (on_cmul (P := some (X, Y)) HAf.out _)).mono ?_
                    rintro e y5 ⟨n5, rfl, hu, hb⟩
                    refine hK.out _ _ ?_ (fun hHeld2 => ?_)
                    · exact KL2.out _ _ hHeld hb
                    · clear hK K
                      try clear hHeld
                      have hHeld := hHeld2
                      clear hHeld2
                      try simp only [Act.put, List.getElem_toArray, List.getElem_cons_zero, List.getElem_cons_succ, List.setIfInBounds_toArray, List.set_cons_zero, List.set_cons_succ]
                      have HN5 : Hid (P13 n5 (verP (some (X, Y)) (beN D % QQ) r i)) := hu
                      clear hu hb
                      refine wpAnyH_take (i := 6) (v := ?_) rfl (by kernel_rfl) (by kernel_rfl) (by kernel_rfl) (fun _ _ _ h => h) (Or.inl ⟨by rfl, ?_⟩) (by assumption) ?_
                      rotate_left
                      · intro w hSw
                        go_simp
                        with_reducible rfl
                      try simp only [Act.put, List.getElem_toArray, List.getElem_cons_zero, List.getElem_cons_succ, List.setIfInBounds_toArray, List.set_cons_zero, List.set_cons_succ]
                      refine wpAnyH_take (i := 7) (v := ?_) rfl (by kernel_rfl) (by kernel_rfl) (by kernel_rfl) (fun _ _ _ h => h) (Or.inl ⟨by rfl, ?_⟩) (by assumption) ?_
                      rotate_left
                      · intro w hSw
                        go_simp
                        with_reducible rfl
                      try simp only [Act.put, List.getElem_toArray, List.getElem_cons_zero, List.getElem_cons_succ, List.setIfInBounds_toArray, List.set_cons_zero, List.set_cons_succ]
                      refine wpAnyH_take (i := 8) (v := ?_) rfl (by kernel_rfl) (by kernel_rfl) (by kernel_rfl) (fun _ _ _ h => h) (Or.inl ⟨by rfl, ?_⟩) (by assumption) ?_
                      rotate_left
                      · intro w hSw
                        go_simp
                        with_reducible rfl
                      try simp only [Act.put, List.getElem_toArray, List.getElem_cons_zero, List.getElem_cons_succ, List.setIfInBounds_toArray, List.set_cons_zero, List.set_cons_succ]
                      refine wpAnyH_ready (rs := [9]) (by kernel_rfl) (by simp) ?_
                      refine AllReadyH.cons rfl (fun K hK => ?_) ?_
                      · have HH0 : Hid (Hd S2 y5) := hHeld
                        have hz := zero_p.out
                        go_simp
                        refine hK.out _ _ ?_ (fun hHeld2 => ?_)
                        · exact KA2.out _ _ hHeld
                        · clear hK K
                          try clear hHeld
                          have hHeld := hHeld2
                          clear hHeld2
                          try simp only [Act.put, List.getElem_toArray, List.getElem_cons_zero, List.getElem_cons_succ, List.setIfInBounds_toArray, List.set_cons_zero, List.set_cons_succ]
                          clear hz
                          have Z0 := Blk.new y5 [.int .u64 0, .int .u64 0, .int .u64 0, .int .u64 0, .int .u64 0, .int .u64 0, .int .u64 0, .int .u64 0, .int .u64 0, .int .u64 0, .int .u64 0, .int .u64 0, .bool false] 39 y5.heap.size rfl
                          obtain ⟨gp, hgp⟩ : ∃ g, g = y5.heap.size := ⟨_, rfl⟩
                          have lgp : U1.heap.size ≤ gp := by rw [hgp]; exact (KB2.out _ HH0.out).size
                          rw [← hgp] at Z0 ⊢
                          clear hgp HH0
                          generalize (y5.alloc (.cells #[.int .u64 0, .int .u64 0, .int .u64 0, .int .u64 0, .int .u64 0, .int .u64 0, .int .u64 0, .int .u64 0, .int .u64 0, .int .u64 0, .int .u64 0, .int .u64 0, .bool false] 39)) = w99 at *
                          exact k13 w99 n2 n3 n5 gp hHeld HN5 Z0 lgp
                      exact AllReadyH.nil
                  refine AllReadyH.cons rfl (fun K hK => ?_) ?_
                  · have HH0 : Hid (Hd S2 y3) := hHeld
                    have hz := zero_p.out
                    go_simp
                    refine hK.out _ _ ?_ (fun hHeld2 => ?_)
                    · exact KA2.out _ _ hHeld
                    · clear hK K
                      try clear hHeld
                      have hHeld := hHeld2
                      clear hHeld2
                      try simp only [Act.put, List.getElem_toArray, List.getElem_cons_zero, List.getElem_cons_succ, List.setIfInBounds_toArray, List.set_cons_zero, List.set_cons_succ]
                      clear hz
                      have Z0 := Blk.new y3 [.int .u64 0, .int .u64 0, .int .u64 0, .int .u64 0, .int .u64 0, .int .u64 0, .int .u64 0, .int .u64 0, .int .u64 0, .int .u64 0, .int .u64 0, .int .u64 0, .bool false] 39 y3.heap.size rfl
                      obtain ⟨gp, hgp⟩ : ∃ g, g = y3.heap.size := ⟨_, rfl⟩
                      have lgp : U1.heap.size ≤ gp := by rw [hgp]; exact (KB2.out _ HH0.out).size
                      rw [← hgp] at Z0 ⊢
                      clear hgp HH0
                      refine wpAnyH_ready (rs := [5]) (by kernel_rfl) (by simp) ?_
                      refine AllReadyH.cons rfl (fun K hK => ?_) ?_
                      · go_simp
                        refine (uAddP (HG.out.below (below_step bel (KB2.out _ hHeld))).1 HN3.out HU5.out (on_cmul on_G _) (on_cmul (P := some (X, Y)) HAf.out _)).mono ?_
                        rintro e y5 ⟨n5, rfl, hu, hb⟩
                        refine hK.out _ _ ?_ (fun hHeld2 => ?_)
                        · exact KL2.out _ _ hHeld hb
                        · clear hK K
                          try clear hHeld
                          have hHeld := hHeld2
                          clear hHeld2
                          try simp only [Act.put, List.getElem_toArray, List.getElem_cons_zero, List.getElem_cons_succ, List.setIfInBounds_toArray, List.set_cons_zero, List.set_cons_succ]
                          replace Z0 := Z0.later hb
                          have HN5 : Hid (P13 n5 (verP (some (X, Y)) (beN D % QQ) r i)) := hu
                          clear hu hb
                          refine wpAnyH_take (i := 6) (v := ?_) rfl (by kernel_rfl) (by kernel_rfl) (by kernel_rfl) (fun _ _ _ h => h) (Or.inl ⟨by rfl, ?_⟩) (by assumption) ?_
                          rotate_left
                          · intro w hSw
                            go_simp
                            with_reducible rfl
                          try simp only [Act.put, List.getElem_toArray, List.getElem_cons_zero, List.getElem_cons_succ, List.setIfInBounds_toArray, List.set_cons_zero, List.set_cons_succ]
                          refine wpAnyH_take (i := 7) (v := ?_) rfl (by kernel_rfl) (by kernel_rfl) (by kernel_rfl) (fun _ _ _ h => h) (Or.inl ⟨by rfl, ?_⟩) (by assumption) ?_
                          rotate_left
                          · intro w hSw
                            go_simp
                            with_reducible rfl
                          try simp only [Act.put, List.getElem_toArray, List.getElem_cons_zero, List.getElem_cons_succ, List.setIfInBounds_toArray, List.set_cons_zero, List.set_cons_succ]
                          refine wpAnyH_take (i := 8) (v := ?_) rfl (by kernel_rfl) (by kernel_rfl) (by kernel_rfl) (fun _ _ _ h => h) (Or.inl ⟨by rfl, ?_⟩) (by assumption) ?_
                          rotate_left
                          · intro w hSw
                            go_simp
                            with_reducible rfl
                          try simp only [Act.put, List.getElem_toArray, List.getElem_cons_zero, List.getElem_cons_succ, List.setIfInBounds_toArray, List.set_cons_zero, List.set_cons_succ]
                          exact k13 y5 n2 n3 n5 gp hHeld HN5 Z0 lgp
                      exact AllReadyH.nil
                  exact AllReadyH.nil
              refine AllReadyH.cons rfl (fun K hK => ?_) ?_
              · have HH0 : Hid (Hd S2 y2) := hHeld
                have hz := zero_p.out
                go_simp
                refine hK.out _ _ ?_ (fun hHeld2 => ?_)
                · exact KA2.out _ _ hHeld
                · clear hK K
                  try clear hHeld
                  have hHeld := hHeld2
                  clear hHeld2
                  try simp only [Act.put, List.getElem_toArray, List.getElem_cons_zero, List.getElem_cons_succ, List.setIfInBounds_toArray, List.set_cons_zero, List.set_cons_succ]
                  clear hz
                  have Z0 := Blk.new y2 [.int .u64 0, .int .u64 0, .int .u64 0, .int .u64 0, .int .u64 0, .int .u64 0, .int .u64 0, .int .u64 0, .int .u64 0, .int .u64 0, .int .u64 0, .int .u64 0, .bool false] 39 y2.heap.size rfl
                  obtain ⟨gp, hgp⟩ : ∃ g, g = y2.heap.size := ⟨_, rfl⟩
                  have lgp : U1.heap.size ≤ gp := by rw [hgp]; exact (KB2.out _ HH0.out).size
                  rw [← hgp] at Z0 ⊢
                  clear hgp HH0
                  refine wpAnyH_ready (rs := [3]) (by kernel_rfl) (by simp) ?_
                  refine AllReadyH.cons rfl (fun K hK => ?_) ?_
                  · go_simp
                    refine (uBase (HG.out.below (below_step bel (KB2.out _ hHeld))).1 HN2.out).mono ?_
                    rintro e y3 ⟨n3, rfl, hu, hb⟩
                    refine hK.out _ _ ?_ (fun hHeld2 => ?_)
                    · exact KL2.out _ _ hHeld hb
                    · clear hK K
                      try clear hHeld
                      have hHeld := hHeld2
                      clear hHeld2
                      try simp only [Act.put, List.getElem_toArray, List.getElem_cons_zero, List.getElem_cons_succ, List.setIfInBounds_toArray, List.set_cons_zero, List.set_cons_succ]
                      replace Z0 := Z0.later hb
                      have HN3 : Hid (P13 n3 (cmul (beN D % QQ * i % QQ).toNat GG)) := hu
                      clear hu hb
                      refine wpAnyH_ready (rs := [5]) (by kernel_rfl) (by simp) ?_
                      refine AllReadyH.cons rfl (fun K hK => ?_) ?_
                      · go_simp
                        refine (uAddP (HG.out.below (below_step bel (KB2.out _ hHeld))).1 HN3.out HU5.out (on_cmul on_G _) (on_cmul (P := some (X, Y)) HAf.out _)).mono ?_
                        rintro e y5 ⟨n5, rfl, hu, hb⟩
                        refine hK.out _ _ ?_ (fun hHeld2 => ?_)
                        · exact KL2.out _ _ hHeld hb
                        · clear hK K
                          try clear hHeld
                          have hHeld := hHeld2
                          clear hHeld2
                          try simp only [Act.put, List.getElem_toArray, List.getElem_cons_zero, List.getElem_cons_succ, List.setIfInBounds_toArray, List.set_cons_zero, List.set_cons_succ]
                          replace Z0 := Z0.later hb
                          have HN5 : Hid (P13 n5 (verP (some (X, Y)) (beN D % QQ) r i)) := hu
                          clear hu hb
                          refine wpAnyH_take (i := 6) (v := ?_) rfl (by kernel_rfl) (by kernel_rfl) (by kernel_rfl) (fun _ _ _ h => h) (Or.inl ⟨by rfl, ?_⟩) (by assumption) ?_
                          rotate_left
                          · intro w hSw
                            go_simp
                            with_reducible rfl
                          try simp only [Act.put, List.getElem_toArray, List.getElem_cons_zero, List.getElem_cons_succ, List.setIfInBounds_toArray, List.set_cons_zero, List.set_cons_succ]
                          refine wpAnyH_take (i := 7) (v := ?_) rfl (by kernel_rfl) (by kernel_rfl) (by kernel_rfl) (fun _ _ _ h => h) (Or.inl ⟨by rfl, ?_⟩) (by assumption) ?_
                          rotate_left
                          · intro w hSw
                            go_simp
                            with_reducible rfl
                          try simp only [Act.put, List.getElem_toArray, List.getElem_cons_zero, List.getElem_cons_succ, List.setIfInBounds_toArray, List.set_cons_zero, List.set_cons_succ]
                          refine wpAnyH_take (i := 8) (v := ?_) rfl (by kernel_rfl) (by kernel_rfl) (by kernel_rfl) (fun _ _ _ h => h) (Or.inl ⟨by rfl, ?_⟩) (by assumption) ?_
                          rotate_left
                          · intro w hSw
                            go_simp
                            with_reducible rfl
                          try simp only [Act.put, List.getElem_toArray, List.getElem_cons_zero, List.getElem_cons_succ, List.setIfInBounds_toArray, List.set_cons_zero, List.set_cons_succ]
                          exact k13 y5 n2 n3 n5 gp hHeld HN5 Z0 lgp
                      exact AllReadyH.nil
                  exact AllReadyH.nil
              exact AllReadyH.nil
          refine AllReadyH.cons rfl (fun K hK => ?_) ?_
          · have HH0 : Hid (Hd S2 wd2) := hHeld
            have hz := zero_p.out
            go_simp
            refine hK.out _ _ ?_ (fun hHeld2 => ?_)
            · exact KA2.out _ _ hHeld
            · clear hK K
              try clear hHeld
              have hHeld := hHeld2
              clear hHeld2
              try simp only [Act.put, List.getElem_toArray, List.getElem_cons_zero, List.getElem_cons_succ, List.setIfInBounds_toArray, List.set_cons_zero, List.set_cons_succ]
              clear hz
              have Z0 := Blk.new wd2 [.int .u64 0, .int .u64 0, .int .u64 0, .int .u64 0, .int .u64 0, .int .u64 0, .int .u64 0, .int .u64 0, .int .u64 0, .int .u64 0, .int .u64 0, .int .u64 0, .bool false] 39 wd2.heap.size rfl
              obtain ⟨gp, hgp⟩ : ∃ g, g = wd2.heap.size := ⟨_, rfl⟩
              have lgp : U1.heap.size ≤ gp := by rw [hgp]; exact (KB2.out _ HH0.out).size
              rw [← hgp] at Z0 ⊢
              clear hgp HH0
              refine wpAnyH_ready (rs := [2]) (by kernel_rfl) (by simp) ?_
              refine AllReadyH.cons rfl (fun K hK => ?_) ?_
              · go_simp
                refine (uMul (HG.out.below (below_step bel (KB2.out _ hHeld))).2 HH.out HI.out).mono ?_
                rintro e y2 ⟨n2, rfl, hu, hb⟩
                refine hK.out _ _ ?_ (fun hHeld2 => ?_)
                · exact KL2.out _ _ hHeld hb
                · clear hK K
                  try clear hHeld
                  have hHeld := hHeld2
                  clear hHeld2
                  try simp only [Act.put, List.getElem_toArray, List.getElem_cons_zero, List.getElem_cons_succ, List.setIfInBounds_toArray, List.set_cons_zero, List.set_cons_succ]
                  replace Z0 := Z0.later hb
                  have HN2 : Hid (U6 n2 (beN D % QQ * i % QQ)) := hu
                  clear hu hb
                  refine wpAnyH_ready (rs := [3]) (by kernel_rfl) (by simp) ?_
                  refine AllReadyH.cons rfl (fun K hK => ?_) ?_
                  · go_simp
                    refine (uBase (HG.out.below (below_step bel (KB2.out _ hHeld))).1 HN2.out).mono ?_
                    rintro e y3 ⟨n3, rfl, hu, hb⟩
                    refine hK.out _ _ ?_ (fun hHeld2 => ?_)
                    · exact KL2.out _ _ hHeld hb
                    · clear hK K
                      try clear hHeld
                      have hHeld := hHeld2
                      clear hHeld2
                      try simp only [Act.put, List.getElem_toArray, List.getElem_cons_zero, List.getElem_cons_succ, List.setIfInBounds_toArray, List.set_cons_zero, List.set_cons_succ]
                      replace Z0 := Z0.later hb
                      have HN3 : Hid (P13 n3 (cmul (beN D % QQ * i % QQ).toNat GG)) := hu
                      clear hu hb
                      refine wpAnyH_ready (rs := [5]) (by kernel_rfl) (by simp) ?_
                      refine AllReadyH.cons rfl (fun K hK => ?_) ?_
                      · go_simp
                        refine (uAddP (HG.out.below (below_step bel (KB2.out _ hHeld))).1 HN3.out HU5.out (on_cmul on_G _) (on_cmul (P := some (X, Y)) HAf.out _)).mono ?_
                        rintro e y5 ⟨n5, rfl, hu, hb⟩
                        refine hK.out _ _ ?_ (fun hHeld2 => ?_)
                        · exact KL2.out _ _ hHeld hb
                        · clear hK K
                          try clear hHeld
                          have hHeld := hHeld2
                          clear hHeld2
                          try simp only [Act.put, List.getElem_toArray, List.getElem_cons_zero, List.getElem_cons_succ, List.setIfInBounds_toArray, List.set_cons_zero, List.set_cons_succ]
                          replace Z0 := Z0.later hb
                          have HN5 : Hid (P13 n5 (verP (some (X, Y)) (beN D % QQ) r i)) := hu
                          clear hu hb
                          refine wpAnyH_take (i := 6) (v := ?_) rfl (by kernel_rfl) (by kernel_rfl) (by kernel_rfl) (fun _ _ _ h => h) (Or.inl ⟨by rfl, ?_⟩) (by assumption) ?_
                          rotate_left
                          · intro w hSw
                            go_simp
                            with_reducible rfl
                          try simp only [Act.put, List.getElem_toArray, List.getElem_cons_zero, List.getElem_cons_succ, List.setIfInBounds_toArray, List.set_cons_zero, List.set_cons_succ]
                          refine wpAnyH_take (i := 7) (v := ?_) rfl (by kernel_rfl) (by kernel_rfl) (by kernel_rfl) (fun _ _ _ h => h) (Or.inl ⟨by rfl, ?_⟩) (by assumption) ?_
                          rotate_left
                          · intro w hSw
                            go_simp
                            with_reducible rfl
                          try simp only [Act.put, List.getElem_toArray, List.getElem_cons_zero, List.getElem_cons_succ, List.setIfInBounds_toArray, List.set_cons_zero, List.set_cons_succ]
                          refine wpAnyH_take (i := 8) (v := ?_) rfl (by kernel_rfl) (by kernel_rfl) (by kernel_rfl) (fun _ _ _ h => h) (Or.inl ⟨by rfl, ?_⟩) (by assumption) ?_
                          rotate_left
                          · intro w hSw
                            go_simp
                            with_reducible rfl
                          try simp only [Act.put, List.getElem_toArray, List.getElem_cons_zero, List.getElem_cons_succ, List.setIfInBounds_toArray, List.set_cons_zero, List.set_cons_succ]
                          exact k13 y5 n2 n3 n5 gp hHeld HN5 Z0 lgp
                      exact AllReadyH.nil
                  exact AllReadyH.nil
              exact AllReadyH.nil
          exact AllReadyH.nil
        case kp =>
          intro wz n2 n3 n5 gp hHeld HN5 Z0 lgp
          refine wpAnyH_ready (rs := [10]) (by kernel_rfl) (by simp) ?_
          refine AllReadyH.cons rfl (fun K hK => ?_) ?_
          · have HH9 : Hid (Hd S2 _) := hHeld
            have HLm2 : Hid (n5.length = 13) := HN5.out.len
            have HSm2 : Hid (n5.toArray.size = 13) := by show _ = _; rw [List.size_toArray]; exact HLm2.out
            have HOm2 : Hid (OneR n5) := by obtain ⟨_, _, h9, _⟩ := HN5.out.raw; exact h9.ones
            have Z1 : Blk (wz.setRow gp n5.toArray) gp n5 := Z0.put
            obtain ⟨tZ, hZ⟩ := Z0
            rw [if_pos (by rfl)]
            refine wp_store_row 39 _ _ rfl gp n5.toArray rfl rfl tZ _ hZ (by rw [size_p, HSm2.out]) (by rw [HSm2.out]; rfl) HOm2.out ?_
            have bel9 := below_setRow (KB2.out _ HH9.out) lgp n5.toArray
            refine hK.out _ _ ?_ (fun hHeld2 => ?_)
            · exact KI2.out _ bel9
            · clear hK K hHeld HH9 hZ
              have hHeld := hHeld2
              clear hHeld2
              try simp only [Act.put, List.getElem_toArray, List.getElem_cons_zero, List.getElem_cons_succ, List.setIfInBounds_toArray, List.set_cons_zero, List.set_cons_succ]
              refine wpAnyH_take (i := 11) (v := ?_) rfl (by kernel_rfl) (by kernel_rfl) (by kernel_rfl) (fun _ _ _ h => h) (Or.inl ⟨by rfl, ?_⟩) (by assumption) ?_
              rotate_left
              · intro w hSw
                go_simp
                with_reducible rfl
              try simp only [Act.put, List.getElem_toArray, List.getElem_cons_zero, List.getElem_cons_succ, List.setIfInBounds_toArray, List.set_cons_zero, List.set_cons_succ]
              refine wpAnyH_done (by kernel_rfl) ?_ _
              refine NoPanic.normal ?_
              clear hHeld
              generalize World.setRow wz gp n5.toArray = U2 at *
              have S0 := HS0x.out.later bel9
              replace bel := bel.trans (bel9.mono bel.size)
              clear bel9 rh2 ri2 rm2
              have q3 := ne_nilE
              go_upto_region 16 with fail
              have l5 := Z1.lt
              obtain ⟨P, hP⟩ : ∃ P, verP (some (X, Y)) (beN D % QQ) r i = P := ⟨_, rfl⟩
              rw [hP] at HN5 HHo
              clear hP
              obtain ⟨PX, PY, hraw, hPX⟩ := HN5.out.raw
              have HRw : Hid (P13R n5 PX PY (decide (P = none))) := hraw
              have HPX : Hid (PX = xOf P) := hPX
              have hn12 : n5[12]? = some (.bool (decide (P = none))) := by
                obtain ⟨xs, ys, e, u1, u2⟩ := hraw
                rw [e, List.getElem?_append_right (by simp [u1.len, u2.len])]
                simp [u1.len, u2.len]
              have c12 := Z1.cell 12 _ hn12
              clear hraw hPX hn12 HN5
              by_cases cP : P = none
              · rw [decide_eq_true cP] at c12
                have her : er = .iface 34 (.int .i64 10) := HHo.out.2 (fun h => h.1 cP)
                subst her
                have q1 := iface_eqE 10
                have q4 := eq_codenilE
                go_quiet (fail)
                go_wp2_with fail
                go_ret
                exact ⟨rfl, below_dN bel _⟩
              rw [decide_eq_false cP] at c12
              have HcP : Hid (P ≠ none) := cP
              clear cP
              obtain ⟨xs, ys, exs, ux, uy⟩ := HRw.out
              have HUx : Hid (U6 xs PX) := ux
              have HZ1 : Hid (Blk U2 gp n5) := Z1
              have HEx : Hid (n5 = xs ++ ys ++ [.bool (decide (P = none))]) := exs
              clear exs ux uy
              obtain ⟨S3, hS3, KB3, KI3, KD3, KL3, KA3⟩ : ∃ S : World → Prop, Hd S U2 ∧ Hid (∀ wx, Hd S wx → Below U2.heap.size U2 wx) ∧ Hid (∀ wx, Below U2.heap.size U2 wx → Hd S wx) ∧ Hid (∀ wx, Hd S wx → Hd S wx.drew) ∧ Hid (∀ w1 w2, Hd S w1 → Below w1.heap.size w1 w2 → Hd S w2) ∧ Hid (∀ w1 o, Hd S w1 → Hd S (w1.alloc o)) := ⟨fun wx => Below U2.heap.size U2 wx, Below.refl _ _, fun _ h => h, fun _ h => h, fun wx h => Below.drew h, fun w1 w2 h hb => below_step h hb, fun w1 o h => Below.alloc h h.size o⟩
              have HS0y : Hid (Blk U2 (w.heap.size + 1) ts) := S0
              have rx : Hid (∀ wx, Hd S3 wx → (loadVar 24 ⟨gp, 0, none⟩).run Tryz.prog wx = .ok (.agg xs.toArray) wx) := fun wx h => load_u (HZ1.out.later (KB3.out wx h)) HUx.out (fun j v hv => by rw [HEx.out, List.append_assoc]; exact app_at0 j v hv)
              have rs3 : Hid (∀ wx, Hd S3 wx → (loadVar 24 ⟨w.heap.size + 1, 0, none⟩).run Tryz.prog wx = .ok (.agg rs.toArray) wx) := fun wx h => load_u (HS0y.out.later (KB3.out wx h)) HR.out (by rw [← HT.out]; exact app_at0)
              have cb12 : ∀ wx, Hd S3 wx → wx.cell? ⟨gp, 12, none⟩ = some (.bool false) := fun wx h => cell_later c12 (KB3.out wx h)
              have lb3 : ∀ wx, Hd S3 wx → gp < wx.heap.size := fun wx h => Nat.lt_of_lt_of_le l5 (KB3.out wx h).size
              clear c12 l5 Z1 S0
              refine wp_region_noPanic ?_
              refine wp_region_held_drew (S := Hd S3) (by kernel_rfl) (KD3.out _ hS3) (fun hHeld => ?_)
              clear hS3
              generalize World.drew _ = wd at *
              refine wpAnyH_take (i := 0) (v := ?_) rfl (by kernel_rfl) (by kernel_rfl) (by kernel_rfl) (fun _ _ _ h => h) (Or.inl ⟨by rfl, ?_⟩) (by assumption) ?_
              rotate_left
              · intro w hSw
                go_simp
                with_reducible rfl
              try simp only [Act.put, List.getElem_toArray, List.getElem_cons_zero, List.getElem_cons_succ, List.setIfInBounds_toArray, List.set_cons_zero, List.set_cons_succ]
              refine wpAnyH_take (i := 1) (v := ?_) rfl (by kernel_rfl) (by kernel_rfl) (by kernel_rfl) (fun _ _ _ h => h) (Or.inl ⟨by rfl, ?_⟩) (by assumption) ?_
              rotate_left
              · intro w hSw
                go_simp
                with_reducible rfl
              try simp only [Act.put, List.getElem_toArray, List.getElem_cons_zero, List.getElem_cons_succ, List.setIfInBounds_toArray, List.set_cons_zero, List.set_cons_succ]
              refine wpAnyH_take (i := 2) (v := ?_) rfl (by kernel_rfl) (by kernel_rfl) (by kernel_rfl) (fun _ _ _ h => h) (Or.inl ⟨by rfl, ?_⟩) (by assumption) ?_
              rotate_left
              · intro w hSw
                go_simp
                with_reducible rfl
              try simp only [Act.put, List.getElem_toArray, List.getElem_cons_zero, List.getElem_cons_succ, List.setIfInBounds_toArray, List.set_cons_zero, List.set_cons_succ]
              refine wpAnyH_take (i := 3) (v := ?_) rfl (by kernel_rfl) (by kernel_rfl) (by kernel_rfl) (fun _ _ _ h => h) (Or.inl ⟨by rfl, ?_⟩) (by assumption) ?_
              rotate_left
              · intro w hSw
                go_simp
                with_reducible rfl
              try simp only [Act.put, List.getElem_toArray, List.getElem_cons_zero, List.getElem_cons_succ, List.setIfInBounds_toArray, List.set_cons_zero, List.set_cons_succ]
              refine wpAnyH_take (i := 4) (v := ?_) rfl (by kernel_rfl) (by kernel_rfl) (by kernel_rfl) (fun _ _ _ h => h) (Or.inl ⟨by rfl, ?_⟩) (by assumption) ?_
              rotate_left
              · intro w hSw
                go_simp
                with_reducible rfl
              try simp only [Act.put, List.getElem_toArray, List.getElem_cons_zero, List.getElem_cons_succ, List.setIfInBounds_toArray, List.set_cons_zero, List.set_cons_succ]
              refine wpAnyH_take (i := 5) (v := .agg xs.toArray) rfl (by kernel_rfl) (by kernel_rfl) (by kernel_rfl) (fun _ _ _ h => h) (Or.inl ⟨by rfl, fun wx h => exec_load rfl rfl (rx.out wx h)⟩) (by assumption) ?_
              try simp only [Act.put, List.getElem_toArray, List.getElem_cons_zero, List.getElem_cons_succ, List.setIfInBounds_toArray, List.set_cons_zero, List.set_cons_succ]
              refine wpAnyH_take (i := 7) (v := ?_) rfl (by kernel_rfl) (by kernel_rfl) (by kernel_rfl) (fun _ _ _ h => h) (Or.inl ⟨by rfl, ?_⟩) (by assumption) ?_
              rotate_left
              · intro w hSw
                go_simp
                with_reducible rfl
              try simp only [Act.put, List.getElem_toArray, List.getElem_cons_zero, List.getElem_cons_succ, List.setIfInBounds_toArray, List.set_cons_zero, List.set_cons_succ]
              refine wpAnyH_take (i := 8) (v := .agg rs.toArray) rfl (by kernel_rfl) (by kernel_rfl) (by kernel_rfl) (fun _ _ _ h => h) (Or.inl ⟨by rfl, fun wx h => exec_load rfl rfl (rs3.out wx h)⟩) (by assumption) ?_
              try simp only [Act.put, List.getElem_toArray, List.getElem_cons_zero, List.getElem_cons_succ, List.setIfInBounds_toArray, List.set_cons_zero, List.set_cons_succ]
              have HH6 : Hid (Hd S3 wd) := hHeld
              refine wpAnyH_ready (rs := [6]) (by kernel_rfl) (by simp) ?_
              refine AllReadyH.cons rfl (fun K hK => ?_) ?_
              · go_simp
                refine (uRest (HG.out.below (below_step bel (KB3.out _ hHeld))).2 HUx.out).mono ?_
                rintro e x6 ⟨es, rfl, hu, hb⟩
                refine hK.out _ _ ?_ (fun hHeld2 => ?_)
                · exact KL3.out _ _ hHeld hb
                · clear hK K hHeld
                  have hHeld := hHeld2
                  clear hHeld2
                  try simp only [Act.put, List.getElem_toArray, List.getElem_cons_zero, List.getElem_cons_succ, List.setIfInBounds_toArray, List.set_cons_zero, List.set_cons_succ]
                  have q9 := eqU hu HR.out
                  clear hu
                  replace bel := below_step bel (below_stepE (KB3.out _ HH6.out) hb)
                  clear hb
                  by_cases c9 : PX % QQ = r
                  · have her : er = .nilIface := HHo.out.1 ⟨HcP.out, by rw [← HPX.out]; exact c9⟩
                    subst her
                    rw [decide_eq_true c9] at q9
                    refine wpAnyH_take (i := 9) (v := ?_) rfl (by kernel_rfl) (by kernel_rfl) (by kernel_rfl) (fun _ _ _ h => h) (Or.inl ⟨by rfl, ?_⟩) (by assumption) ?_
                    rotate_left
                    · intro w hSw
                      go_simp
                      with_reducible rfl
                    try simp only [Act.put, List.getElem_toArray, List.getElem_cons_zero, List.getElem_cons_succ, List.setIfInBounds_toArray, List.set_cons_zero, List.set_cons_succ]
                    refine wpAnyH_take (i := 10) (v := ?_) rfl (by kernel_rfl) (by kernel_rfl) (by kernel_rfl) (fun _ _ _ h => h) (Or.inl ⟨by rfl, ?_⟩) (by assumption) ?_
                    rotate_left
                    · intro w hSw
                      go_simp
                      with_reducible rfl
                    try simp only [Act.put, List.getElem_toArray, List.getElem_cons_zero, List.getElem_cons_succ, List.setIfInBounds_toArray, List.set_cons_zero, List.set_cons_succ]
                    refine wpAnyH_take (i := 11) (v := ?_) rfl (by kernel_rfl) (by kernel_rfl) (by kernel_rfl) (fun _ _ _ h => h) (Or.inl ⟨by rfl, ?_⟩) (by assumption) ?_
                    rotate_left
                    · intro w hSw
                      go_simp
                      with_reducible rfl
                    try simp only [Act.put, List.getElem_toArray, List.getElem_cons_zero, List.getElem_cons_succ, List.setIfInBounds_toArray, List.set_cons_zero, List.set_cons_succ]
                    refine wpAnyH_done (by kernel_rfl) ?_ _
                    refine NoPanic.normal ?_
                    have q1 := iface_eqE 10
                    have q4 := eq_codenilE
                    have q5 := eq_nilE14
                    clear cb12 lb3 rx rs3 hHeld
                    go_wp2_with fail
                    go_ret
                    exact ⟨rfl, bel⟩
                  · have her : er = .iface 34 (.int .i64 10) := HHo.out.2 (fun h => c9 (by rw [HPX.out]; exact h.2))
                    subst her
                    rw [decide_eq_false c9] at q9
                    refine wpAnyH_take (i := 9) (v := ?_) rfl (by kernel_rfl) (by kernel_rfl) (by kernel_rfl) (fun _ _ _ h => h) (Or.inl ⟨by rfl, ?_⟩) (by assumption) ?_
                    rotate_left
                    · intro w hSw
                      go_simp
                      with_reducible rfl
                    try simp only [Act.put, List.getElem_toArray, List.getElem_cons_zero, List.getElem_cons_succ, List.setIfInBounds_toArray, List.set_cons_zero, List.set_cons_succ]
                    refine wpAnyH_take (i := 10) (v := ?_) rfl (by kernel_rfl) (by kernel_rfl) (by kernel_rfl) (fun _ _ _ h => h) (Or.inl ⟨by rfl, ?_⟩) (by assumption) ?_
                    rotate_left
                    · intro w hSw
                      go_simp
                      with_reducible rfl
                    try simp only [Act.put, List.getElem_toArray, List.getElem_cons_zero, List.getElem_cons_succ, List.setIfInBounds_toArray, List.set_cons_zero, List.set_cons_succ]
                    refine wpAnyH_take (i := 11) (v := ?_) rfl (by kernel_rfl) (by kernel_rfl) (by kernel_rfl) (fun _ _ _ h => h) (Or.inl ⟨by rfl, ?_⟩) (by assumption) ?_
                    rotate_left
                    · intro w hSw
                      go_simp
                      with_reducible rfl
                    try simp only [Act.put, List.getElem_toArray, List.getElem_cons_zero, List.getElem_cons_succ, List.setIfInBounds_toArray, List.set_cons_zero, List.set_cons_succ]
                    refine wpAnyH_done (by kernel_rfl) ?_ _
                    refine NoPanic.normal ?_
                    have q1 := iface_eqE 10
                    have q4 := eq_codenilE
                    have q5 := eq_nilE14
                    clear cb12 lb3 rx rs3 hHeld
                    go_wp2_with fail
                    go_ret
                    exact ⟨rfl, bel⟩
              exact AllReadyH.nil
          exact AllReadyH.nil
    exact AllReadyH.nil
end Go.Proofs.YtjpnbbhpgchbpaaGreatDoor
