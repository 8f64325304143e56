/- What ecdsa.Sign answers. -/
import Derived.Test.YtjpnbbhpgchbpaaDoorRows
import Derived.Test.YtjpnbbhpgchbpaaDoorEcRange
import Derived.Test.YtjpnbbhpgchbpaaDoorEdU
import Derived.Test.YtjpnbbhpgchbpaaDoorEdDig
import Derived.Test.YtjpnbbhpgchbpaaDoorEdG
import Derived.Test.YtjpnbbhpgchbpaaDoorDrOwn
import Derived.Test.YtjpnbbhpgchbpaaDoorWpRowG
import Derived.Deep.OwnRows
import Derived.Deep.AppendLies
import Derived.Great.BuildSlice
import Derived.Laws.Rows
import Derived.Laws.CopyOwn
import Derived.Deep.WholeRow
import Derived.Deep.RegionHeld3
import Derived.Deep.DeepCutAuto
import Derived.Deep.DeepFit
namespace Go.Proofs.YtjpnbbhpgchbpaaDoor
open Go.RowKit

theorem field_x {ps : List Value} {X Y : Int} {n : Bool} (h : P13R ps X Y n) : ∃ xs, (∀ w : World, (Instr.field 37 (.agg ps.toArray) 0).run Tryd.prog w = .ok (.agg xs.toArray) w) ∧ U6 xs X := by
  obtain ⟨xs, ys, rfl, h1, ⟨y0, y1, y2, y3, y4, y5, rfl, _⟩⟩ := h
  have h1' := h1
  obtain ⟨z0, z1, z2, z3, z4, z5, rfl, _⟩ := h1
  exact ⟨_, fun w => by kernel_rfl, h1'⟩
theorem sc_both (y x e i : Int) : (sigR y = 0 ∨ sigS x (sigR y) e i = 0) ↔ ¬ (isSc (sigR y) ∧ isSc (sigS x (sigR y) e i)) := by
  have a1 := Int.emod_nonneg (xOf (cmul y.toNat GG)) (show QQ ≠ 0 by decide)
  have a2 := Int.emod_lt_of_pos (xOf (cmul y.toNat GG)) (show 0 < QQ by decide)
  have b1 := Int.emod_nonneg ((e + sigR y * x % QQ) % QQ * i) (show QQ ≠ 0 by decide)
  have b2 := Int.emod_lt_of_pos ((e + sigR y * x % QQ) % QQ * i) (show 0 < QQ by decide)
  have e1 : sigR y = xOf (cmul y.toNat GG) % QQ := rfl
  have e2 : sigS x (sigR y) e i = (e + sigR y * x % QQ) % QQ * i % QQ := rfl
  rw [← e1] at a1 a2
  rw [← e2] at b1 b2
  clear e1 e2
  unfold isSc
  generalize sigS x (sigR y) e i = s at *
  generalize sigR y = r at *
  omega
set_option linter.unusedSimpArgs false in
set_option maxRecDepth 100000 in
set_option maxHeartbeats 8000000 in
theorem con_Sign {cs ds : List Value} {x y : Int} {v : Value} {D : List Int} {w : World} (G : GA w) (ha : U6 cs x) (hk : U6 ds y) (hv : Bs w v D) (b : byt D) :
    Calls Tryd.prog 6 #[.agg cs.toArray, .agg ds.toArray, v] w fun e w' => ∃ (rs ss : List Value) (r s : Int) (er : Value), e = .returned (.tuple #[.agg (rs ++ ss).toArray, er]) ∧ U6 rs r ∧ U6 ss s ∧ SignIs x y D r s er ∧ Below w.heap.size w w' := by
  have HG : Hid (GA w) := G
  have HA : Hid (U6 cs x) := ha
  have HK : Hid (U6 ds y) := hk
  have HLa : Hid (cs.length = 6) := ha.len
  have HLk : Hid (ds.length = 6) := hk.len
  have HB : Hid (byt D) := b
  have HV : Hid (Bs w v D) := hv
  obtain ⟨ao, cap, rfl, h1, h2, h3⟩ := hv
  clear G ha hk b h1 h2 h3
  have D0 := ((Blk.new w cs 24 w.heap.size rfl).alloc (.cells ds.toArray 24)).alloc (.cells #[.int .u64 0, .int .u64 0, .int .u64 0, .int .u64 0, .int .u64 0, .int .u64 0, .int .u64 0, .int .u64 0, .int .u64 0, .int .u64 0, .int .u64 0, .int .u64 0] 30)
  have K0 := (Blk.new (w.alloc (.cells cs.toArray 24)) ds 24 (w.heap.size + 1) (by simp)).alloc (.cells #[.int .u64 0, .int .u64 0, .int .u64 0, .int .u64 0, .int .u64 0, .int .u64 0, .int .u64 0, .int .u64 0, .int .u64 0, .int .u64 0, .int .u64 0, .int .u64 0] 30)
  have R0 := Blk.new ((w.alloc (.cells cs.toArray 24)).alloc (.cells ds.toArray 24)) [.int .u64 0, .int .u64 0, .int .u64 0, .int .u64 0, .int .u64 0, .int .u64 0, .int .u64 0, .int .u64 0, .int .u64 0, .int .u64 0, .int .u64 0, .int .u64 0] 30 (w.heap.size + 1 + 1) (by simp)
  have bel : Below w.heap.size w (((w.alloc (.cells cs.toArray 24)).alloc (.cells ds.toArray 24)).alloc (.cells #[.int .u64 0, .int .u64 0, .int .u64 0, .int .u64 0, .int .u64 0, .int .u64 0, .int .u64 0, .int .u64 0, .int .u64 0, .int .u64 0, .int .u64 0, .int .u64 0] 30)) := (((Below.refl _ _).alloc (Nat.le_refl _) _).alloc (by simp) _).alloc (by simp; omega) _
  have hz := zero_s.out
  go_enter Tryd.func6, Tryd.ntmps6
  go_upto_region 1 with fail
  generalize ((w.alloc (.cells cs.toArray 24)).alloc (.cells ds.toArray 24)).alloc (.cells #[.int .u64 0, .int .u64 0, .int .u64 0, .int .u64 0, .int .u64 0, .int .u64 0, .int .u64 0, .int .u64 0, .int .u64 0, .int .u64 0, .int .u64 0, .int .u64 0] 30) = W at *
  clear hz
  have l0 := D0.lt
  have l1 := K0.lt
  go_wp2_with (first | (refine wpList_load_run (by rfl) (by rfl) (by rfl) (D0.load Tryd.underlying24 rfl size_u HLa.out) ?_) | fail)
  refine (c14_inRange (HG.out.below bel).2 HA.out).mono ?_
  rintro e w3 ⟨rfl, hb⟩
  replace D0 := D0.later hb
  replace K0 := K0.later hb
  replace R0 := R0.later hb
  replace bel := below_step bel hb
  clear hb
  clear l0 l1
  have l1 := K0.lt
  by_cases c1 : isSc x
  rotate_left
  · rw [decide_eq_false c1]
    have HSg : Hid (SignIs x y D 0 0 (codeV 3)) := ⟨fun _ => ⟨rfl, rfl, rfl⟩, fun h => absurd h c1⟩
    clear c1
    obtain ⟨tR, hR⟩ := R0
    have HR1 : Hid _ := hR
    clear hR
    have hz := zero_s.out
    go_wp2_with (first | (refine wpList_store_row rfl 30 _ _ rfl (w.heap.size + 1 + 1) #[.int .u64 0, .int .u64 0, .int .u64 0, .int .u64 0, .int .u64 0, .int .u64 0, .int .u64 0, .int .u64 0, .int .u64 0, .int .u64 0, .int .u64 0, .int .u64 0] rfl rfl tR _ HR1.out (by rw [size_s]; rfl) rfl (by simp [Value.oneCell']) ?_) | fail)
    refine bodyPost_ret (results_row_tmp rfl _ _ (w.heap.size + 1 + 1) tR #[.int .u64 0, .int .u64 0, .int .u64 0, .int .u64 0, .int .u64 0, .int .u64 0, .int .u64 0, .int .u64 0, .int .u64 0, .int .u64 0, .int .u64 0, .int .u64 0] (0, 0) _ rfl (setRow_heap _ _ _ _ _ _ HR1.out) Tryd.underlying30 rfl (by rw [size_s]; rfl)) rfl ?_
    exact ⟨[.int .u64 0, .int .u64 0, .int .u64 0, .int .u64 0, .int .u64 0, .int .u64 0], [.int .u64 0, .int .u64 0, .int .u64 0, .int .u64 0, .int .u64 0, .int .u64 0], 0, 0, (.iface 35 (.int .i64 3)), rfl, U6.zero, U6.zero, HSg.out, below_setRow bel (by omega) _⟩
  rw [decide_eq_true c1]
  have HC1 : Hid (isSc x) := c1
  clear c1
  go_wp2_with (first | (refine wpList_load_run (by rfl) (by rfl) (by rfl) (K0.load Tryd.underlying24 rfl size_u HLk.out) ?_) | fail)
  refine (c14_inRange (HG.out.below bel).2 HK.out).mono ?_
  rintro e w4 ⟨rfl, hb⟩
  replace D0 := D0.later hb
  replace K0 := K0.later hb
  replace R0 := R0.later hb
  replace bel := below_step bel hb
  clear hb
  clear l1
  by_cases c2 : isSc y
  rotate_left
  · rw [decide_eq_false c2]
    have HSg : Hid (SignIs x y D 0 0 (codeV 3)) := ⟨fun _ => ⟨rfl, rfl, rfl⟩, fun _ h => absurd h c2⟩
    clear c2
    obtain ⟨tR, hR⟩ := R0
    have HR1 : Hid _ := hR
    clear hR
    have hz := zero_s.out
    go_wp2_with (first | (refine wpList_store_row rfl 30 _ _ rfl (w.heap.size + 1 + 1) #[.int .u64 0, .int .u64 0, .int .u64 0, .int .u64 0, .int .u64 0, .int .u64 0, .int .u64 0, .int .u64 0, .int .u64 0, .int .u64 0, .int .u64 0, .int .u64 0] rfl rfl tR _ HR1.out (by rw [size_s]; rfl) rfl (by simp [Value.oneCell']) ?_) | fail)
    refine bodyPost_ret (results_row_tmp rfl _ _ (w.heap.size + 1 + 1) tR #[.int .u64 0, .int .u64 0, .int .u64 0, .int .u64 0, .int .u64 0, .int .u64 0, .int .u64 0, .int .u64 0, .int .u64 0, .int .u64 0, .int .u64 0, .int .u64 0] (0, 0) _ rfl (setRow_heap _ _ _ _ _ _ HR1.out) Tryd.underlying30 rfl (by rw [size_s]; rfl)) rfl ?_
    exact ⟨[.int .u64 0, .int .u64 0, .int .u64 0, .int .u64 0, .int .u64 0, .int .u64 0], [.int .u64 0, .int .u64 0, .int .u64 0, .int .u64 0, .int .u64 0, .int .u64 0], 0, 0, (.iface 35 (.int .i64 3)), rfl, U6.zero, U6.zero, HSg.out, below_setRow bel (by omega) _⟩
  rw [decide_eq_true c2]
  have HC2 : Hid (isSc y) := c2
  clear c2
  by_cases c3 : D.length = 48
  rotate_left
  · obtain ⟨c, hdb⟩ : ∃ c : Int, decBad D c := by
      rcases (show D.length < 48 ∨ 48 < D.length by omega) with h | h
      · exact ⟨6, .inl ⟨h, rfl⟩⟩
      · exact ⟨8, .inr ⟨h, rfl⟩⟩
    have HSg : Hid (SignIs x y D 0 0 (codeV c)) := ⟨fun h => absurd ⟨HC1.out, HC2.out⟩ h, fun _ _ => ⟨fun c' h' => ⟨by rw [decBad_one hdb h'], rfl, rfl⟩, fun h => absurd h c3⟩⟩
    have HDb : Hid _ := hdb
    clear hdb c3
    go_wp2_with fail
    refine (digest_bad (HV.out.later bel) HDb.out).mono ?_
    rintro e w5 ⟨rfl, hb⟩
    replace D0 := D0.later hb
    replace K0 := K0.later hb
    replace R0 := R0.later hb
    replace bel := below_step bel hb
    clear hb
    obtain ⟨zs, hzs⟩ : ∃ zs : List Value, [.int .u64 0, .int .u64 0, .int .u64 0, .int .u64 0, .int .u64 0, .int .u64 0] = zs := ⟨_, rfl⟩
    have HZs : Hid ([.int .u64 0, .int .u64 0, .int .u64 0, .int .u64 0, .int .u64 0, .int .u64 0] = zs) := hzs
    have hza : #[.int .u64 0, .int .u64 0, .int .u64 0, .int .u64 0, .int .u64 0, .int .u64 0] = zs.toArray := by rw [← hzs]
    rw [hza]
    clear hza hzs
    have HLh : Hid (zs.length = 6) := by rw [← HZs.out]; rfl
    have HSh : Hid (zs.toArray.size = 6) := by show _ = _; rw [List.size_toArray]; exact HLh.out
    have HOh : Hid (OneR zs) := by rw [← HZs.out]; exact U6.zero.ones
    replace D0 := D0.alloc (.cells zs.toArray 24)
    replace K0 := K0.alloc (.cells zs.toArray 24)
    replace R0 := R0.alloc (.cells zs.toArray 24)
    replace bel := below_alloc (o := .cells zs.toArray 24) bel
    have Bh := Blk.new w5 zs 24 w5.heap.size rfl
    have hz := zero_u.out
    go_upto_region 4 with (first | (refine wpList_store_row rfl 24 _ _ rfl w5.heap.size zs.toArray rfl rfl 24 _ (heap_alloc_last _ _) (by rw [size_u, HSh.out]) (by rw [HSh.out]; rfl) HOh.out ?_; rw [World.setRow_alloc_new]) | fail)
    clear hz
    obtain ⟨gh, hgh⟩ : ∃ g, g = w5.heap.size := ⟨_, rfl⟩
    rw [← hgh] at Bh
    generalize w5.alloc (.cells zs.toArray 24) = Vh at *
    rw [← hgh]
    clear hgh
    obtain ⟨tR, hR⟩ := R0
    have HR1 : Hid _ := hR
    clear hR
    have hz := zero_s.out
    have q3 := ne_codeC
    go_wp2_with (first | (refine wpList_store_row rfl 30 _ _ rfl (w.heap.size + 1 + 1) #[.int .u64 0, .int .u64 0, .int .u64 0, .int .u64 0, .int .u64 0, .int .u64 0, .int .u64 0, .int .u64 0, .int .u64 0, .int .u64 0, .int .u64 0, .int .u64 0] rfl rfl tR _ HR1.out (by rw [size_s]; rfl) rfl (by simp [Value.oneCell']) ?_) | fail)
    refine bodyPost_ret (results_row_tmp rfl _ _ (w.heap.size + 1 + 1) tR #[.int .u64 0, .int .u64 0, .int .u64 0, .int .u64 0, .int .u64 0, .int .u64 0, .int .u64 0, .int .u64 0, .int .u64 0, .int .u64 0, .int .u64 0, .int .u64 0] (0, 0) _ rfl (setRow_heap _ _ _ _ _ _ HR1.out) Tryd.underlying30 rfl (by rw [size_s]; rfl)) rfl ?_
    exact ⟨[.int .u64 0, .int .u64 0, .int .u64 0, .int .u64 0, .int .u64 0, .int .u64 0], [.int .u64 0, .int .u64 0, .int .u64 0, .int .u64 0, .int .u64 0, .int .u64 0], 0, 0, (.iface 35 (.int .i64 c)), rfl, U6.zero, U6.zero, HSg.out, below_setRow bel (by omega) _⟩
  have HC3 : Hid (D.length = 48) := c3
  clear c3
  go_wp2_with fail
  refine (uDigest (HG.out.below bel).2 (HV.out.later bel) HB.out HC3.out).mono ?_
  rintro e w5 ⟨hs5, rfl, hu, hb⟩
  replace D0 := D0.later hb
  replace K0 := K0.later hb
  replace R0 := R0.later hb
  replace bel := below_step bel hb
  clear hb
  have HH : Hid (U6 hs5 (beN D % QQ)) := hu
  clear hu
  have HLh : Hid (hs5.length = 6) := HH.out.len
  have HSh : Hid (hs5.toArray.size = 6) := by show _ = _; rw [List.size_toArray]; exact HLh.out
  have HOh : Hid (OneR hs5) := HH.out.ones
  replace D0 := D0.alloc (.cells hs5.toArray 24)
  replace K0 := K0.alloc (.cells hs5.toArray 24)
  replace R0 := R0.alloc (.cells hs5.toArray 24)
  replace bel := below_alloc (o := .cells hs5.toArray 24) bel
  have Bh := Blk.new w5 hs5 24 w5.heap.size rfl
  have hz := zero_u.out
  go_upto_region 4 with (first | (refine wpList_store_row rfl 24 _ _ rfl w5.heap.size hs5.toArray rfl rfl 24 _ (heap_alloc_last _ _) (by rw [size_u, HSh.out]) (by rw [HSh.out]; rfl) HOh.out ?_; rw [World.setRow_alloc_new]) | fail)
  clear hz
  obtain ⟨gh, hgh⟩ : ∃ g, g = w5.heap.size := ⟨_, rfl⟩
  rw [← hgh] at Bh
  generalize w5.alloc (.cells hs5.toArray 24) = Vh at *
  rw [← hgh]
  clear hgh
  have q3 := ne_nilC
  have l1 := K0.lt
  go_wp2_with (first | (refine wpList_load_run (by rfl) (by rfl) (by rfl) (K0.load Tryd.underlying24 rfl size_u HLk.out) ?_) | fail)
  refine (uBase (HG.out.below bel).1 HK.out).mono ?_
  rintro e w6 ⟨ps, rfl, hp, hb⟩
  replace D0 := D0.later hb
  replace K0 := K0.later hb
  replace R0 := R0.later hb
  replace Bh := Bh.later hb
  replace bel := below_step bel hb
  clear hb
  clear l1 q3
  obtain ⟨X6, Y6, hraw, hX6⟩ := hp.raw
  have HX6 : Hid (X6 = xOf (cmul y.toNat GG)) := hX6
  obtain ⟨xs, hfx, hux⟩ := field_x hraw
  clear hp hraw hX6
  go_wp2_with fail
  refine (uRest (HG.out.below bel).2 hux).mono ?_
  rintro e w7 ⟨es, rfl, hu, hb⟩
  replace D0 := D0.later hb
  replace K0 := K0.later hb
  replace R0 := R0.later hb
  replace Bh := Bh.later hb
  replace bel := below_step bel hb
  clear hb
  clear hfx hux
  have HE : Hid (U6 es (sigR y)) := by unfold sigR; rw [← HX6.out]; exact hu
  clear hu
  have HLr : Hid (es.length = 6) := HE.out.len
  have HSr : Hid (es.toArray.size = 6) := by show _ = _; rw [List.size_toArray]; exact HLr.out
  have HOr : Hid (OneR es) := HE.out.ones
  replace D0 := D0.alloc (.cells es.toArray 24)
  replace K0 := K0.alloc (.cells es.toArray 24)
  replace R0 := R0.alloc (.cells es.toArray 24)
  replace Bh := Bh.alloc (.cells es.toArray 24)
  replace bel := below_alloc (o := .cells es.toArray 24) bel
  have Br := Blk.new w7 es 24 w7.heap.size rfl
  have hz := zero_u.out
  go_upto_region 7 with (first | (refine wpList_store_row rfl 24 _ _ rfl w7.heap.size es.toArray rfl rfl 24 _ (heap_alloc_last _ _) (by rw [size_u, HSr.out]) (by rw [HSr.out]; rfl) HOr.out ?_; rw [World.setRow_alloc_new]) | fail)
  clear hz
  obtain ⟨gr, hgr⟩ : ∃ g, g = w7.heap.size := ⟨_, rfl⟩
  rw [← hgr] at Br
  generalize w7.alloc (.cells es.toArray 24) = Vr at *
  rw [← hgr]
  clear hgr
  obtain ⟨S1, hS1, KB1, KI1, KD1, KL1, KA1⟩ : ∃ S : World → Prop, Hd S Vr ∧ Hid (∀ wx, Hd S wx → Below Vr.heap.size Vr wx) ∧ Hid (∀ wx, Below Vr.heap.size Vr wx → Hd S wx) ∧ Hid (∀ wx, Hd S wx → Hd S wx.drew) ∧ Hid (∀ w1 w2, Hd S w1 → Below w1.heap.size w1 w2 → Hd S w2) ∧ Hid (∀ w1 o, Hd S w1 → Hd S (w1.alloc o)) := ⟨fun wx => Below Vr.heap.size Vr wx, Below.refl _ _, fun _ h => h, fun _ h => h, fun wx h => Below.drew h, fun w1 w2 h hb => below_step h hb, fun w1 o h => Below.alloc h h.size o⟩
  have HD0 : Hid (Blk Vr w.heap.size cs) := D0
  have rd : Hid (∀ wx, Hd S1 wx → (loadVar 24 ⟨w.heap.size, 0, none⟩).run Tryd.prog wx = .ok (.agg cs.toArray) wx) := fun wx h => (HD0.out.later (KB1.out wx h)).load Tryd.underlying24 rfl size_u HLa.out
  have HK0 : Hid (Blk Vr (w.heap.size + 1) ds) := K0
  have rk : Hid (∀ wx, Hd S1 wx → (loadVar 24 ⟨w.heap.size + 1, 0, none⟩).run Tryd.prog wx = .ok (.agg ds.toArray) wx) := fun wx h => (HK0.out.later (KB1.out wx h)).load Tryd.underlying24 rfl size_u HLk.out
  have HBh : Hid (Blk Vr gh hs5) := Bh
  have rh : Hid (∀ wx, Hd S1 wx → (loadVar 24 ⟨gh, 0, none⟩).run Tryd.prog wx = .ok (.agg hs5.toArray) wx) := fun wx h => (HBh.out.later (KB1.out wx h)).load Tryd.underlying24 rfl size_u HLh.out
  have HBr : Hid (Blk Vr gr es) := Br
  have rr : Hid (∀ wx, Hd S1 wx → (loadVar 24 ⟨gr, 0, none⟩).run Tryd.prog wx = .ok (.agg es.toArray) wx) := fun wx h => (HBr.out.later (KB1.out wx h)).load Tryd.underlying24 rfl size_u HLr.out
  have HR0 : Hid (Blk Vr (w.heap.size + 1 + 1) [.int .u64 0, .int .u64 0, .int .u64 0, .int .u64 0, .int .u64 0, .int .u64 0, .int .u64 0, .int .u64 0, .int .u64 0, .int .u64 0, .int .u64 0, .int .u64 0]) := R0
  clear D0 K0 R0 Bh Br
  refine wp_region_noPanic ?_
  refine wp_region_held_drew (S := Hd S1) (by kernel_rfl) (KD1.out _ hS1) (fun hHeld => ?_)
  clear hS1
  generalize World.drew _ = wd1 at *
  refine wpAnyH_take (i := 0) (v := .agg hs5.toArray) rfl (by kernel_rfl) (by kernel_rfl) (by kernel_rfl) (fun _ _ _ h => h) (Or.inl ⟨by rfl, fun wx h => exec_load rfl rfl (rh.out wx h)⟩) (by assumption) ?_
  try simp only [Act.put, List.getElem_toArray, List.getElem_cons_zero, List.getElem_cons_succ, List.setIfInBounds_toArray, List.set_cons_zero, List.set_cons_succ]
  refine wpAnyH_take (i := 1) (v := .agg es.toArray) rfl (by kernel_rfl) (by kernel_rfl) (by kernel_rfl) (fun _ _ _ h => h) (Or.inl ⟨by rfl, fun wx h => exec_load rfl rfl (rr.out wx h)⟩) (by assumption) ?_
  try simp only [Act.put, List.getElem_toArray, List.getElem_cons_zero, List.getElem_cons_succ, List.setIfInBounds_toArray, List.set_cons_zero, List.set_cons_succ]
  refine wpAnyH_take (i := 2) (v := .agg cs.toArray) rfl (by kernel_rfl) (by kernel_rfl) (by kernel_rfl) (fun _ _ _ h => h) (Or.inl ⟨by rfl, fun wx h => exec_load rfl rfl (rd.out wx h)⟩) (by assumption) ?_
  try simp only [Act.put, List.getElem_toArray, List.getElem_cons_zero, List.getElem_cons_succ, List.setIfInBounds_toArray, List.set_cons_zero, List.set_cons_succ]
  refine wpAnyH_take (i := 5) (v := .agg ds.toArray) rfl (by kernel_rfl) (by kernel_rfl) (by kernel_rfl) (fun _ _ _ h => h) (Or.inl ⟨by rfl, fun wx h => exec_load rfl rfl (rk.out wx h)⟩) (by assumption) ?_
  try simp only [Act.put, List.getElem_toArray, List.getElem_cons_zero, List.getElem_cons_succ, List.setIfInBounds_toArray, List.set_cons_zero, List.set_cons_succ]
  apply with_keyE (T := ∀ (wz : World) (m3 m4 m6 m7 : List Value) (i6 : Int) (gs : Nat), Hd S1 wz → Hid (InvO y i6) → Hid (U6 m7 (sigS x (sigR y) (beN D % QQ) i6)) → Blk wz gs [.int .u64 0, .int .u64 0, .int .u64 0, .int .u64 0, .int .u64 0, .int .u64 0] → Vr.heap.size ≤ gs → wpAnyH _ _ _ _ _ _ _ _ wz)
  case main =>
    intro k8
    refine wpAnyH_ready (rs := [3, 8]) (by kernel_rfl) (by simp) ?_
    refine AllReadyH.cons rfl (fun K hK => ?_) ?_
    · go_simp
      refine (uMul (HG.out.below (below_step bel (KB1.out _ hHeld))).2 HE.out HA.out).mono ?_
      rintro e z3 ⟨m3, rfl, hu, hb⟩
      refine hK.out _ _ ?_ (fun hHeld2 => ?_)
      · exact KL1.out _ _ hHeld hb
      · clear hK K
        try clear hHeld
        have hHeld := hHeld2
        clear hHeld2
        try simp only [Act.put, List.getElem_toArray, List.getElem_cons_zero, List.getElem_cons_succ, List.setIfInBounds_toArray, List.set_cons_zero, List.set_cons_succ]
        have HU3 : Hid (U6 m3 (sigR y * x % QQ)) := hu
        clear hu hb
        refine wpAnyH_ready (rs := [4, 8]) (by kernel_rfl) (by simp) ?_
        refine AllReadyH.cons rfl (fun K hK => ?_) ?_
        · go_simp
          refine (uAdd (HG.out.below (below_step bel (KB1.out _ hHeld))).2 HH.out HU3.out).mono ?_
          rintro e z4 ⟨m4, rfl, hu, hb⟩
          refine hK.out _ _ ?_ (fun hHeld2 => ?_)
          · exact KL1.out _ _ hHeld hb
          · clear hK K
            try clear hHeld
            have hHeld := hHeld2
            clear hHeld2
            try simp only [Act.put, List.getElem_toArray, List.getElem_cons_zero, List.getElem_cons_succ, List.setIfInBounds_toArray, List.set_cons_zero, List.set_cons_succ]
            have HU4 : Hid (U6 m4 ((beN D % QQ + sigR y * x % QQ) % QQ)) := hu
            clear hu hb
            refine wpAnyH_ready (rs := [6, 8]) (by kernel_rfl) (by simp) ?_
            refine AllReadyH.cons rfl (fun K hK => ?_) ?_
            · go_simp
              refine (uInv (HG.out.below (below_step bel (KB1.out _ hHeld))).2 HK.out).mono ?_
              rintro e z6 ⟨m6, i6, rfl, hu, hi6, hb⟩
              refine hK.out _ _ ?_ (fun hHeld2 => ?_)
              · exact KL1.out _ _ hHeld hb
              · clear hK K
                try clear hHeld
                have hHeld := hHeld2
                clear hHeld2
                try simp only [Act.put, List.getElem_toArray, List.getElem_cons_zero, List.getElem_cons_succ, List.setIfInBounds_toArray, List.set_cons_zero, List.set_cons_succ]
                have HU6 : Hid (U6 m6 i6) := hu
                have HI6 : Hid (InvO y i6) := hi6
                clear hu hb hi6
                refine wpAnyH_ready (rs := [7, 8]) (by kernel_rfl) (by simp) ?_
                refine AllReadyH.cons rfl (fun K hK => ?_) ?_
                · go_simp
                  refine (uMul (HG.out.below (below_step bel (KB1.out _ hHeld))).2 HU4.out HU6.out).mono ?_
                  rintro e z7 ⟨m7, rfl, hu, hb⟩
                  refine hK.out _ _ ?_ (fun hHeld2 => ?_)
                  · exact KL1.out _ _ hHeld hb
                  · clear hK K
                    try clear hHeld
                    have hHeld := hHeld2
                    clear hHeld2
                    try simp only [Act.put, List.getElem_toArray, List.getElem_cons_zero, List.getElem_cons_succ, List.setIfInBounds_toArray, List.set_cons_zero, List.set_cons_succ]
                    have HU7 : Hid (U6 m7 (sigS x (sigR y) (beN D % QQ) i6)) := hu
                    clear hu hb
                    refine wpAnyH_ready (rs := [8]) (by kernel_rfl) (by simp) ?_
                    refine AllReadyH.cons rfl (fun K hK => ?_) ?_
                    · have HH0 : Hid (Hd S1 z7) := hHeld
                      have hz := zero_u.out
                      go_simp
                      refine hK.out _ _ ?_ (fun hHeld2 => ?_)
                      · exact KA1.out _ _ hHeld
                      · clear hK K
                        try clear hHeld
                        have hHeld := hHeld2
                        clear hHeld2
                        try simp only [Act.put, List.getElem_toArray, List.getElem_cons_zero, List.getElem_cons_succ, List.setIfInBounds_toArray, List.set_cons_zero, List.set_cons_succ]
                        clear hz
                        have Z0 := Blk.new z7 [.int .u64 0, .int .u64 0, .int .u64 0, .int .u64 0, .int .u64 0, .int .u64 0] 24 z7.heap.size rfl
                        obtain ⟨gs, hgs⟩ : ∃ g, g = z7.heap.size := ⟨_, rfl⟩
                        have lgs : Vr.heap.size ≤ gs := by rw [hgs]; exact (KB1.out _ HH0.out).size
                        rw [← hgs] at Z0 ⊢
                        clear hgs HH0
                        generalize (z7.alloc (.cells #[.int .u64 0, .int .u64 0, .int .u64 0, .int .u64 0, .int .u64 0, .int .u64 0] 24)) = w99 at *
                        exact k8 w99 m3 m4 m6 m7 i6 gs hHeld HI6 HU7 Z0 lgs
                    exact AllReadyH.nil
                refine AllReadyH.cons rfl (fun K hK => ?_) ?_
                · have HH0 : Hid (Hd S1 z6) := hHeld
                  have hz := zero_u.out
                  go_simp
                  refine hK.out _ _ ?_ (fun hHeld2 => ?_)
                  · exact KA1.out _ _ hHeld
                  · clear hK K
                    try clear hHeld
                    have hHeld := hHeld2
                    clear hHeld2
                    try simp only [Act.put, List.getElem_toArray, List.getElem_cons_zero, List.getElem_cons_succ, List.setIfInBounds_toArray, List.set_cons_zero, List.set_cons_succ]
                    clear hz
                    have Z0 := Blk.new z6 [.int .u64 0, .int .u64 0, .int .u64 0, .int .u64 0, .int .u64 0, .int .u64 0] 24 z6.heap.size rfl
                    obtain ⟨gs, hgs⟩ : ∃ g, g = z6.heap.size := ⟨_, rfl⟩
                    have lgs : Vr.heap.size ≤ gs := by rw [hgs]; exact (KB1.out _ HH0.out).size
                    rw [← hgs] at Z0 ⊢
                    clear hgs HH0
                    refine wpAnyH_ready (rs := [7]) (by kernel_rfl) (by simp) ?_
                    refine AllReadyH.cons rfl (fun K hK => ?_) ?_
                    · go_simp
                      refine (uMul (HG.out.below (below_step bel (KB1.out _ hHeld))).2 HU4.out HU6.out).mono ?_
                      rintro e z7 ⟨m7, rfl, hu, hb⟩
                      refine hK.out _ _ ?_ (fun hHeld2 => ?_)
                      · exact KL1.out _ _ hHeld hb
                      · clear hK K
                        try clear hHeld
                        have hHeld := hHeld2
                        clear hHeld2
                        try simp only [Act.put, List.getElem_toArray, List.getElem_cons_zero, List.getElem_cons_succ, List.setIfInBounds_toArray, List.set_cons_zero, List.set_cons_succ]
                        replace Z0 := Z0.later hb
                        have HU7 : Hid (U6 m7 (sigS x (sigR y) (beN D % QQ) i6)) := hu
                        clear hu hb
                        exact k8 z7 m3 m4 m6 m7 i6 gs hHeld HI6 HU7 Z0 lgs
                    exact AllReadyH.nil
                exact AllReadyH.nil
            refine AllReadyH.cons rfl (fun K hK => ?_) ?_
            · have HH0 : Hid (Hd S1 z4) := hHeld
              have hz := zero_u.out
              go_simp
              refine hK.out _ _ ?_ (fun hHeld2 => ?_)
              · exact KA1.out _ _ hHeld
              · clear hK K
                try clear hHeld
                have hHeld := hHeld2
                clear hHeld2
                try simp only [Act.put, List.getElem_toArray, List.getElem_cons_zero, List.getElem_cons_succ, List.setIfInBounds_toArray, List.set_cons_zero, List.set_cons_succ]
                clear hz
                have Z0 := Blk.new z4 [.int .u64 0, .int .u64 0, .int .u64 0, .int .u64 0, .int .u64 0, .int .u64 0] 24 z4.heap.size rfl
                obtain ⟨gs, hgs⟩ : ∃ g, g = z4.heap.size := ⟨_, rfl⟩
                have lgs : Vr.heap.size ≤ gs := by rw [hgs]; exact (KB1.out _ HH0.out).size
                rw [← hgs] at Z0 ⊢
                clear hgs HH0
                refine wpAnyH_ready (rs := [6]) (by kernel_rfl) (by simp) ?_
                refine AllReadyH.cons rfl (fun K hK => ?_) ?_
                · go_simp
                  refine (uInv (HG.out.below (below_step bel (KB1.out _ hHeld))).2 HK.out).mono ?_
                  rintro e z6 ⟨m6, i6, rfl, hu, hi6, hb⟩
                  refine hK.out _ _ ?_ (fun hHeld2 => ?_)
                  · exact KL1.out _ _ hHeld hb
                  · clear hK K
                    try clear hHeld
                    have hHeld := hHeld2
                    clear hHeld2
                    try simp only [Act.put, List.getElem_toArray, List.getElem_cons_zero, List.getElem_cons_succ, List.setIfInBounds_toArray, List.set_cons_zero, List.set_cons_succ]
                    replace Z0 := Z0.later hb
                    have HU6 : Hid (U6 m6 i6) := hu
                    have HI6 : Hid (InvO y i6) := hi6
                    clear hu hb hi6
                    refine wpAnyH_ready (rs := [7]) (by kernel_rfl) (by simp) ?_
                    refine AllReadyH.cons rfl (fun K hK => ?_) ?_
                    · go_simp
                      refine (uMul (HG.out.below (below_step bel (KB1.out _ hHeld))).2 HU4.out HU6.out).mono ?_
                      rintro e z7 ⟨m7, rfl, hu, hb⟩
                      refine hK.out _ _ ?_ (fun hHeld2 => ?_)
                      · exact KL1.out _ _ hHeld hb
                      · clear hK K
                        try clear hHeld
                        have hHeld := hHeld2
                        clear hHeld2
                        try simp only [Act.put, List.getElem_toArray, List.getElem_cons_zero, List.getElem_cons_succ, List.setIfInBounds_toArray, List.set_cons_zero, List.set_cons_succ]
                        replace Z0 := Z0.later hb
                        have HU7 : Hid (U6 m7 (sigS x (sigR y) (beN D % QQ) i6)) := hu
                        clear hu hb
                        exact k8 z7 m3 m4 m6 m7 i6 gs hHeld HI6 HU7 Z0 lgs
                    exact AllReadyH.nil
                exact AllReadyH.nil
            exact AllReadyH.nil
        refine AllReadyH.cons rfl (fun K hK => ?_) ?_
        · have HH0 : Hid (Hd S1 z3) := hHeld
          have hz := zero_u.out
          go_simp
          refine hK.out _ _ ?_ (fun hHeld2 => ?_)
          · exact KA1.out _ _ hHeld
          · clear hK K
            try clear hHeld
            have hHeld := hHeld2
            clear hHeld2
            try simp only [Act.put, List.getElem_toArray, List.getElem_cons_zero, List.getElem_cons_succ, List.setIfInBounds_toArray, List.set_cons_zero, List.set_cons_succ]
            clear hz
            have Z0 := Blk.new z3 [.int .u64 0, .int .u64 0, .int .u64 0, .int .u64 0, .int .u64 0, .int .u64 0] 24 z3.heap.size rfl
            obtain ⟨gs, hgs⟩ : ∃ g, g = z3.heap.size := ⟨_, rfl⟩
            have lgs : Vr.heap.size ≤ gs := by rw [hgs]; exact (KB1.out _ HH0.out).size
            rw [← hgs] at Z0 ⊢
            clear hgs HH0
            refine wpAnyH_ready (rs := [4]) (by kernel_rfl) (by simp) ?_
            refine AllReadyH.cons rfl (fun K hK => ?_) ?_
            · go_simp
              refine (uAdd (HG.out.below (below_step bel (KB1.out _ hHeld))).2 HH.out HU3.out).mono ?_
              rintro e z4 ⟨m4, rfl, hu, hb⟩
              refine hK.out _ _ ?_ (fun hHeld2 => ?_)
              · exact KL1.out _ _ hHeld hb
              · clear hK K
                try clear hHeld
                have hHeld := hHeld2
                clear hHeld2
                try simp only [Act.put, List.getElem_toArray, List.getElem_cons_zero, List.getElem_cons_succ, List.setIfInBounds_toArray, List.set_cons_zero, List.set_cons_succ]
                replace Z0 := Z0.later hb
                have HU4 : Hid (U6 m4 ((beN D % QQ + sigR y * x % QQ) % QQ)) := hu
                clear hu hb
                refine wpAnyH_ready (rs := [6]) (by kernel_rfl) (by simp) ?_
                refine AllReadyH.cons rfl (fun K hK => ?_) ?_
                · go_simp
                  refine (uInv (HG.out.below (below_step bel (KB1.out _ hHeld))).2 HK.out).mono ?_
                  rintro e z6 ⟨m6, i6, rfl, hu, hi6, hb⟩
                  refine hK.out _ _ ?_ (fun hHeld2 => ?_)
                  · exact KL1.out _ _ hHeld hb
                  · clear hK K
                    try clear hHeld
                    have hHeld := hHeld2
                    clear hHeld2
                    try simp only [Act.put, List.getElem_toArray, List.getElem_cons_zero, List.getElem_cons_succ, List.setIfInBounds_toArray, List.set_cons_zero, List.set_cons_succ]
                    replace Z0 := Z0.later hb
                    have HU6 : Hid (U6 m6 i6) := hu
                    have HI6 : Hid (InvO y i6) := hi6
                    clear hu hb hi6
                    refine wpAnyH_ready (rs := [7]) (by kernel_rfl) (by simp) ?_
                    refine AllReadyH.cons rfl (fun K hK => ?_) ?_
                    · go_simp
                      refine (uMul (HG.out.below (below_step bel (KB1.out _ hHeld))).2 HU4.out HU6.out).mono ?_
                      rintro e z7 ⟨m7, rfl, hu, hb⟩
                      refine hK.out _ _ ?_ (fun hHeld2 => ?_)
                      · exact KL1.out _ _ hHeld hb
                      · clear hK K
                        try clear hHeld
                        have hHeld := hHeld2
                        clear hHeld2
                        try simp only [Act.put, List.getElem_toArray, List.getElem_cons_zero, List.getElem_cons_succ, List.setIfInBounds_toArray, List.set_cons_zero, List.set_cons_succ]
                        replace Z0 := Z0.later hb
                        have HU7 : Hid (U6 m7 (sigS x (sigR y) (beN D % QQ) i6)) := hu
                        clear hu hb
                        exact k8 z7 m3 m4 m6 m7 i6 gs hHeld HI6 HU7 Z0 lgs
                    exact AllReadyH.nil
                exact AllReadyH.nil
            exact AllReadyH.nil
        exact AllReadyH.nil
    refine AllReadyH.cons rfl (fun K hK => ?_) ?_
    · have HH0 : Hid (Hd S1 wd1) := hHeld
      have hz := zero_u.out
      go_simp
      refine hK.out _ _ ?_ (fun hHeld2 => ?_)
      · exact KA1.out _ _ hHeld
      · clear hK K
        try clear hHeld
        have hHeld := hHeld2
        clear hHeld2
        try simp only [Act.put, List.getElem_toArray, List.getElem_cons_zero, List.getElem_cons_succ, List.setIfInBounds_toArray, List.set_cons_zero, List.set_cons_succ]
        clear hz
        have Z0 := Blk.new wd1 [.int .u64 0, .int .u64 0, .int .u64 0, .int .u64 0, .int .u64 0, .int .u64 0] 24 wd1.heap.size rfl
        obtain ⟨gs, hgs⟩ : ∃ g, g = wd1.heap.size := ⟨_, rfl⟩
        have lgs : Vr.heap.size ≤ gs := by rw [hgs]; exact (KB1.out _ HH0.out).size
        rw [← hgs] at Z0 ⊢
        clear hgs HH0
        refine wpAnyH_ready (rs := [3]) (by kernel_rfl) (by simp) ?_
        refine AllReadyH.cons rfl (fun K hK => ?_) ?_
        · go_simp
          refine (uMul (HG.out.below (below_step bel (KB1.out _ hHeld))).2 HE.out HA.out).mono ?_
          rintro e z3 ⟨m3, rfl, hu, hb⟩
          refine hK.out _ _ ?_ (fun hHeld2 => ?_)
          · exact KL1.out _ _ hHeld hb
          · clear hK K
            try clear hHeld
            have hHeld := hHeld2
            clear hHeld2
            try simp only [Act.put, List.getElem_toArray, List.getElem_cons_zero, List.getElem_cons_succ, List.setIfInBounds_toArray, List.set_cons_zero, List.set_cons_succ]
            replace Z0 := Z0.later hb
            have HU3 : Hid (U6 m3 (sigR y * x % QQ)) := hu
            clear hu hb
            refine wpAnyH_ready (rs := [4]) (by kernel_rfl) (by simp) ?_
            refine AllReadyH.cons rfl (fun K hK => ?_) ?_
            · go_simp
              refine (uAdd (HG.out.below (below_step bel (KB1.out _ hHeld))).2 HH.out HU3.out).mono ?_
              rintro e z4 ⟨m4, rfl, hu, hb⟩
              refine hK.out _ _ ?_ (fun hHeld2 => ?_)
              · exact KL1.out _ _ hHeld hb
              · clear hK K
                try clear hHeld
                have hHeld := hHeld2
                clear hHeld2
                try simp only [Act.put, List.getElem_toArray, List.getElem_cons_zero, List.getElem_cons_succ, List.setIfInBounds_toArray, List.set_cons_zero, List.set_cons_succ]
                replace Z0 := Z0.later hb
                have HU4 : Hid (U6 m4 ((beN D % QQ + sigR y * x % QQ) % QQ)) := hu
                clear hu hb
                refine wpAnyH_ready (rs := [6]) (by kernel_rfl) (by simp) ?_
                refine AllReadyH.cons rfl (fun K hK => ?_) ?_
                · go_simp
                  refine (uInv (HG.out.below (below_step bel (KB1.out _ hHeld))).2 HK.out).mono ?_
                  rintro e z6 ⟨m6, i6, rfl, hu, hi6, hb⟩
                  refine hK.out _ _ ?_ (fun hHeld2 => ?_)
                  · exact KL1.out _ _ hHeld hb
                  · clear hK K
                    try clear hHeld
                    have hHeld := hHeld2
                    clear hHeld2
                    try simp only [Act.put, List.getElem_toArray, List.getElem_cons_zero, List.getElem_cons_succ, List.setIfInBounds_toArray, List.set_cons_zero, List.set_cons_succ]
                    replace Z0 := Z0.later hb
                    have HU6 : Hid (U6 m6 i6) := hu
                    have HI6 : Hid (InvO y i6) := hi6
                    clear hu hb hi6
                    refine wpAnyH_ready (rs := [7]) (by kernel_rfl) (by simp) ?_
                    refine AllReadyH.cons rfl (fun K hK => ?_) ?_
                    · go_simp
                      refine (uMul (HG.out.below (below_step bel (KB1.out _ hHeld))).2 HU4.out HU6.out).mono ?_
                      rintro e z7 ⟨m7, rfl, hu, hb⟩
                      refine hK.out _ _ ?_ (fun hHeld2 => ?_)
                      · exact KL1.out _ _ hHeld hb
                      · clear hK K
                        try clear hHeld
                        have hHeld := hHeld2
                        clear hHeld2
                        try simp only [Act.put, List.getElem_toArray, List.getElem_cons_zero, List.getElem_cons_succ, List.setIfInBounds_toArray, List.set_cons_zero, List.set_cons_succ]
                        replace Z0 := Z0.later hb
                        have HU7 : Hid (U6 m7 (sigS x (sigR y) (beN D % QQ) i6)) := hu
                        clear hu hb
                        exact k8 z7 m3 m4 m6 m7 i6 gs hHeld HI6 HU7 Z0 lgs
                    exact AllReadyH.nil
                exact AllReadyH.nil
            exact AllReadyH.nil
        exact AllReadyH.nil
    exact AllReadyH.nil
  case kp =>
    intro wz m3 m4 m6 m7 i6 gs hHeld HI6 HU7 Z0 lgs
    refine wpAnyH_ready (rs := [9]) (by kernel_rfl) (by simp) ?_
    refine AllReadyH.cons rfl (fun K hK => ?_) ?_
    · have HH9 : Hid (Hd S1 _) := hHeld
      have HLs : Hid (m7.length = 6) := HU7.out.len
      have HSs : Hid (m7.toArray.size = 6) := by show _ = _; rw [List.size_toArray]; exact HLs.out
      have HOs : Hid (OneR m7) := HU7.out.ones
      have Z1 : Blk (wz.setRow gs m7.toArray) gs m7 := Z0.put
      obtain ⟨tZ, hZ⟩ := Z0
      rw [if_pos (by rfl)]
      refine wp_store_row 24 _ _ rfl gs m7.toArray rfl rfl tZ _ hZ (by rw [size_u, HSs.out]) (by rw [HSs.out]; rfl) HOs.out ?_
      have bel9 := below_setRow (KB1.out _ HH9.out) lgs m7.toArray
      refine hK.out _ _ ?_ (fun hHeld2 => ?_)
      · exact KI1.out _ bel9
      · clear hK K hHeld hZ
        have hHeld := hHeld2
        clear hHeld2
        try simp only [Act.put, List.getElem_toArray, List.getElem_cons_zero, List.getElem_cons_succ, List.setIfInBounds_toArray, List.set_cons_zero, List.set_cons_succ]
        refine wpAnyH_done (by kernel_rfl) ?_ _
        refine NoPanic.normal ?_
        have Br := HBr.out.later bel9
        have R0 := HR0.out.later bel9
        replace bel := bel.trans (bel9.mono bel.size)
        clear bel9 rd rk rh rr hHeld
        generalize World.setRow wz gs m7.toArray = X at *
        have l4 := Br.lt
        have l6 := Z1.lt
        have q7 := build_sig HE.out HU7.out
        have hu2 : ∃ us, es ++ m7 = us := ⟨_, rfl⟩
        obtain ⟨us2, hus⟩ := hu2
        have HUs : Hid (es ++ m7 = us2) := hus
        have HLu : Hid (us2.length = 12) := by show _ = _; rw [← hus, List.length_append, HE.out.len, HU7.out.len]
        have HSu : Hid (us2.toArray.size = 12) := by show _ = _; rw [List.size_toArray]; exact HLu.out
        have HOu : Hid (OneR us2) := by rw [← hus]; exact HE.out.ones.app HU7.out.ones
        rw [hus] at q7
        clear hus
        replace R0 := R0.alloc (.cells us2.toArray 30)
        replace bel := below_alloc (o := .cells us2.toArray 30) bel
        have Bu := Blk.new X us2 30 X.heap.size rfl
        have hz := zero_s.out
        go_upto_region 9 with (first | (refine wpList_build_run (by rfl) (by rfl) (by rfl) (v := .agg us2.toArray) (q7 _) ?_) | (refine wpList_store_row rfl 30 _ _ rfl X.heap.size us2.toArray rfl rfl 30 _ (heap_alloc_last _ _) (by rw [size_s, HSu.out]) (by rw [HSu.out]; rfl) HOu.out ?_; rw [World.setRow_alloc_new]) | (refine wpList_load_run (by rfl) (by rfl) (by rfl) (Br.load Tryd.underlying24 rfl size_u HLr.out) ?_) | (refine wpList_load_run (by rfl) (by rfl) (by rfl) (Z1.load Tryd.underlying24 rfl size_u HLs.out) ?_) | fail)
        clear hz q7 l4 l6 Br Z1
        obtain ⟨gu, hgu⟩ : ∃ g, g = X.heap.size := ⟨_, rfl⟩
        rw [← hgu] at Bu
        generalize X.alloc (.cells us2.toArray 30) = Vu at *
        rw [← hgu]
        clear hgu
        have lu := Bu.lt
        go_wp2_with (first | (refine wpList_load_run (by rfl) (by rfl) (by rfl) (Bu.load Tryd.underlying30 rfl size_s HLu.out) ?_) | fail)
        refine (show Calls Tryd.prog 20 #[.agg us2.toArray] _ (fun e w' => e = .returned (.bool (decide (isSc (sigR y) ∧ isSc (sigS x (sigR y) (beN D % QQ) i6)))) ∧ Below _ _ w') by rw [← HUs.out]; exact c14_both (HG.out.below bel).2 HE.out HU7.out).mono ?_
        rintro e w9 ⟨rfl, hb⟩
        replace R0 := R0.later hb
        replace Bu := Bu.later hb
        replace bel := below_step bel hb
        clear hb
        clear lu
        have lu := Bu.lt
        have HN5 : Hid ((sigR y = 0 ∨ sigS x (sigR y) (beN D % QQ) i6 = 0) ↔ ¬ (isSc (sigR y) ∧ isSc (sigS x (sigR y) (beN D % QQ) i6))) := sc_both y x (beN D % QQ) i6
        by_cases c5 : isSc (sigR y) ∧ isSc (sigS x (sigR y) (beN D % QQ) i6)
        rotate_left
        · rw [decide_eq_false c5]
          have c5 := HN5.out.2 c5
          have HSg : Hid (SignIs x y D 0 0 (codeV 10)) := ⟨fun h => absurd ⟨HC1.out, HC2.out⟩ h, fun _ _ => ⟨fun c' h' => absurd HC3.out (by rcases h' with ⟨h, _⟩ | ⟨h, _⟩ <;> omega), fun _ i' hi' => by rw [hi'.one HI6.out]; exact ⟨fun _ => ⟨rfl, rfl, rfl⟩, fun h => absurd c5 h⟩⟩⟩
          clear c5
          obtain ⟨tR, hR⟩ := R0
          have HR1 : Hid _ := hR
          clear hR
          have hz := zero_s.out
          go_wp2_with (first | (refine wpList_store_row rfl 30 _ _ rfl (w.heap.size + 1 + 1) #[.int .u64 0, .int .u64 0, .int .u64 0, .int .u64 0, .int .u64 0, .int .u64 0, .int .u64 0, .int .u64 0, .int .u64 0, .int .u64 0, .int .u64 0, .int .u64 0] rfl rfl tR _ HR1.out (by rw [size_s]; rfl) rfl (by simp [Value.oneCell']) ?_) | (refine wpList_load_run (by rfl) (by rfl) (by rfl) (Bu.load Tryd.underlying30 rfl size_s HLu.out) ?_) | fail)
          refine bodyPost_ret (results_row_tmp rfl _ _ (w.heap.size + 1 + 1) tR #[.int .u64 0, .int .u64 0, .int .u64 0, .int .u64 0, .int .u64 0, .int .u64 0, .int .u64 0, .int .u64 0, .int .u64 0, .int .u64 0, .int .u64 0, .int .u64 0] (0, 0) _ rfl (setRow_heap _ _ _ _ _ _ HR1.out) Tryd.underlying30 rfl (by rw [size_s]; rfl)) rfl ?_
          exact ⟨[.int .u64 0, .int .u64 0, .int .u64 0, .int .u64 0, .int .u64 0, .int .u64 0], [.int .u64 0, .int .u64 0, .int .u64 0, .int .u64 0, .int .u64 0, .int .u64 0], 0, 0, (.iface 35 (.int .i64 10)), rfl, U6.zero, U6.zero, HSg.out, below_setRow bel (by omega) _⟩
        · rw [decide_eq_true c5]
          have c6 : ¬ (sigR y = 0 ∨ sigS x (sigR y) (beN D % QQ) i6 = 0) := fun h => HN5.out.1 h c5
          have HSg : Hid (SignIs x y D (sigR y) (sigS x (sigR y) (beN D % QQ) i6) .nilIface) := ⟨fun h => absurd ⟨HC1.out, HC2.out⟩ h, fun _ _ => ⟨fun c' h' => absurd HC3.out (by rcases h' with ⟨h, _⟩ | ⟨h, _⟩ <;> omega), fun _ i' hi' => by rw [hi'.one HI6.out]; exact ⟨fun h => absurd h c6, fun _ => ⟨rfl, rfl, rfl⟩⟩⟩⟩
          clear c5 c6
          obtain ⟨tR, hR⟩ := R0
          have HR1 : Hid _ := hR
          clear hR
          go_wp2_with (first | (refine wpList_store_row rfl 30 _ _ rfl (w.heap.size + 1 + 1) us2.toArray rfl rfl tR _ HR1.out (by rw [size_s, HSu.out]) (by rw [HSu.out]; rfl) HOu.out ?_) | (refine wpList_load_run (by rfl) (by rfl) (by rfl) (Bu.load Tryd.underlying30 rfl size_s HLu.out) ?_) | fail)
          exact bodyPost_ret (results_row_tmp rfl _ _ (w.heap.size + 1 + 1) tR us2.toArray (0, 0) _ rfl (setRow_heap _ _ _ _ _ _ HR1.out) Tryd.underlying30 rfl (by rw [size_s, HSu.out])) rfl ⟨es, m7, _, _, .nilIface, by rw [HUs.out]; rfl, HE.out, HU7.out, HSg.out, below_setRow bel (by omega) _⟩
    exact AllReadyH.nil
end Go.Proofs.YtjpnbbhpgchbpaaDoor
