/- The law EcdsaHolds. -/
import Derived.Test.YtjpnbbhpgchbpaaDoorRows
import Derived.Test.YtjpnbbhpgchbpaaDoorEdUp
import Derived.Test.YtjpnbbhpgchbpaaDoorEdSign
import Derived.Test.YtjpnbbhpgchbpaaDoorEdVerify
import Derived.Test.YtjpnbbhpgchbpaaDoorEdKnown
import Derived.Test.YtjpnbbhpgchbpaaDoorEdHold
import Derived.Test.YtjpnbbhpgchbpaaDoorEdTo
import Derived.Test.YtjpnbbhpgchbpaaDoorEdG
import Derived.Test.YtjpnbbhpgchbpaaDoorRefA
import Derived.Test.YtjpnbbhpgchbpaaDoorDrOwn
import Derived.Test.YtjpnbbhpgchbpaaDoorWpOne
import Derived.Deep.OwnRows
import Derived.Deep.AppendLies
import Derived.Great.BuildSlice
import Derived.Laws.Rows
import Derived.Deep.WholeRow
import Derived.Deep.RegionHeld3
import Derived.Deep.DeepCutAuto
import Derived.Deep.DeepFit
namespace Go.Proofs.YtjpnbbhpgchbpaaDoor
open Go.RowKit

theorem eq_nilE : ∀ w : World, (binOp .eql 32 .nilIface .nilIface).run Tryd.prog w = .ok (.bool true) w := fun _ => by kernel_rfl
/-- bytes in another block stay -/
theorem bs_row {w : World} {hao : Option Addr} {n cap g : Nat} {S : List Int} {cs : Array Value} (h : Bs w (.slice hao n cap) S) (hg : ∀ a, hao = some a → a.block ≠ g) : Bs (w.setRow g cs) (.slice hao n cap) S := by
  obtain ⟨ao, cp, e, h1, h2, h3⟩ := h
  refine ⟨ao, cp, e, h1, h2, fun h0 => ?_⟩
  obtain ⟨b, o, e2, hb, hc⟩ := h3 h0
  have hao2 : hao = ao := by simpa using congrArg (fun v => match v with | .slice a _ _ => a | _ => none) e
  have hne : b ≠ g := hg ⟨b, o, none⟩ (by rw [hao2, e2])
  refine ⟨b, o, e2, by simpa [World.setRow] using hb, fun j hj => ?_⟩
  rw [← hc j hj]
  unfold World.cell?
  rw [setRow_other w g b cs hne]
set_option linter.unusedSimpArgs false in
set_option maxRecDepth 100000 in
set_option maxHeartbeats 4000000 in
theorem law_ecdsaHolds {cs ds : List Value} {x y : Int} {S : List Int} {w : World} (G : GA w) (ha : U6 cs x) (hk : U6 ds y) (l : S.length = 48) (bS : byt S) :
    Calls Tryd.prog 3 #[.agg cs.toArray, .agg ds.toArray, .agg (u8s S).toArray] w fun e w' => e = .returned (.bool true) ∧ Below w.heap.size w w' := by
  have HG : Hid (GA w) := G
  have HA : Hid (U6 cs x) := ha
  have HK : Hid (U6 ds y) := hk
  have HLa : Hid (cs.length = 6) := ha.len
  have HLk : Hid (ds.length = 6) := hk.len
  have HSb : Hid (byt S) := bS
  have HSl : Hid (S.length = 48) := l
  clear G ha hk bS
  have D0 := ((Blk.new w cs 24 w.heap.size rfl).alloc (.cells ds.toArray 24)).alloc (.cells (u8s S).toArray 25)
  have K0 := (Blk.new (w.alloc (.cells cs.toArray 24)) ds 24 (w.heap.size + 1) (by simp)).alloc (.cells (u8s S).toArray 25)
  have G0 := Blk.new ((w.alloc (.cells cs.toArray 24)).alloc (.cells ds.toArray 24)) (u8s S) 25 (w.heap.size + 1 + 1) (by simp)
  have bel : Below w.heap.size w (((w.alloc (.cells cs.toArray 24)).alloc (.cells ds.toArray 24)).alloc (.cells (u8s S).toArray 25)) := (((Below.refl _ _).alloc (Nat.le_refl _) _).alloc (by simp) _).alloc (by simp; omega) _
  go_enter Tryd.func3, Tryd.ntmps3
  go_upto_region 1 with fail
  generalize ((w.alloc (.cells cs.toArray 24)).alloc (.cells ds.toArray 24)).alloc (.cells (u8s S).toArray 25) = W at *
  go_wp2_with fail
  refine (con_up14 (HG.out.below bel)).mono ?_
  rintro e w1 ⟨rfl, hb⟩
  replace D0 := D0.later hb
  replace K0 := K0.later hb
  replace G0 := G0.later hb
  replace bel := below_step bel hb
  clear hb
  have l0 := D0.lt
  go_wp2_with (first | (refine wpList_load_run (by rfl) (by rfl) (by rfl) (D0.load Tryd.underlying24 rfl size_u HLa.out) ?_) | fail)
  refine (con_known (HG.out.below bel).2 HA.out).mono ?_
  rintro e w2 ⟨es, yd, rfl, hu, hsd, hb⟩
  clear l0
  replace D0 := D0.later hb
  replace K0 := K0.later hb
  replace G0 := G0.later hb
  replace bel := below_step bel hb
  clear hb
  have HE : Hid (U6 es yd) := hu
  have HScd : Hid (isSc yd) := hsd
  have HLd : Hid (es.length = 6) := hu.len
  have HSd : Hid (es.toArray.size = 6) := by show _ = _; rw [List.size_toArray]; exact HLd.out
  have HOd : Hid (OneR es) := hu.ones
  clear hu hsd
  have lD := D0.lt
  have D1 : Blk (w2.setRow w.heap.size es.toArray) w.heap.size es := D0.put
  have K1 := K0.row (cs := es.toArray) (c := w.heap.size) (by omega)
  have G1 := G0.row (cs := es.toArray) (c := w.heap.size) (by omega)
  have bel1 := below_setRow bel (Nat.le_refl _) es.toArray
  obtain ⟨tR, hR⟩ := D0
  have HR1 : Hid _ := hR
  clear hR
  go_upto_region 3 with (first | (refine wpList_store_row rfl 24 _ _ rfl w.heap.size es.toArray rfl rfl tR _ HR1.out (by rw [size_u, HSd.out]) (by rw [HSd.out, List.size_toArray, HLa.out]) HOd.out ?_) | fail)
  clear HR1 K0 G0 bel lD
  generalize World.setRow w2 _ _ = V at *
  obtain ⟨W0, hW0⟩ : ∃ z, z = V.heap.size := ⟨_, rfl⟩
  have hg3 : w.heap.size + 1 + 1 < W0 := by rw [hW0]; exact G1.lt
  have hsV : W0 ≤ V.heap.size := by omega
  clear hW0
  go_wp2_with fail
  go_loopw [8, 9] (fun bv iv wx => ∃ i : Nat, i ≤ 48 ∧ iv = .int .i64 (i : Int) ∧ wx.ownsRow W0 5 1 bv i (u8s (S.take i)) ∧ Blk wx w.heap.size es ∧ Blk wx (w.heap.size + 1) ds ∧ Blk wx (w.heap.size + 1 + 1) (u8s S) ∧ Below w.heap.size w wx ∧ W0 ≤ wx.heap.size) (fun _ iv _ => 48 - (intOf iv).toNat)
  case atStart => exact ⟨0, by omega, rfl, ⟨rfl, .inl ⟨rfl, rfl⟩⟩, D1, K1, G1, bel1, hsV⟩
  case round =>
    clear D1 K1 G1 bel1 hsV
    obtain ⟨i, hi, rfl, own, D1, K1, G1, bel1, hsV⟩ := hrel
    by_cases hil : i < 48
    · have g1 : (i : Int) < 48 := by omega
      have g2 : (0 : Int) ≤ (i : Int) := by omega
      have gi : IntKind.i64.wrap ((i : Int) + 1) = (i : Int) + 1 := by rw [IntKind.wrap_i64]; omega
      obtain ⟨z, hz⟩ : ∃ z, S.getD i 0 = z := ⟨_, rfl⟩
      have HZ : Hid (S.take i ++ [z] = S.take (i + 1)) := by
        show _ = _
        have hg : S[i]? = some z := by rw [← hz, List.getD_eq_getElem?_getD, List.getElem?_eq_getElem (by rw [HSl.out]; exact hil)]; rfl
        rw [List.take_add_one, hg]
        rfl
      have cz := G1.cell i (.int .u8 z) (by rw [u8s_get S i (by rw [HSl.out]; exact hil), hz])
      clear hz
      have lg := G1.lt
      have own1 := own_later6 own (o := .cells #[.int .u8 z] 5)
      have bl := bs_one wr z
      have hsz : W0 ≤ (wr.alloc (.cells #[.int .u8 z] 5)).heap.size := by simp; omega
      go_wp2_with (first | (at_builtin; refine wpList_append_bs (by rfl) _ _ (by rfl) W0 _ i _ (by rfl) own1 _ [z] (by rfl) bl (by simp; omega) hsz ?_; intro v8 w8 own8 hgrow hat) | fail)
      have bel8 := below_own (base := W0) ((Below.refl W0 wr).alloc hsV (.cells #[.int .u8 z] 5)) hgrow hsz (fun g hg => own_geD own1 hg) (Nat.le_refl _)
      rw [HZ.out] at own8
      replace D1 := D1.below bel8 (by omega)
      replace K1 := K1.below bel8 (by omega)
      replace G1 := G1.below bel8 (by omega)
      replace bel1 := bel1.trans (bel8.mono (by omega))
      have hs8 := bel8.size
      clear hgrow hat own1 bl bel8 cz lg
      go_roundw
      case rel => exact ⟨i + 1, by omega, by go_num, own8, D1, K1, G1, bel1, by omega⟩
      case measure => simp [intOf]; omega
    · obtain rfl : i = 48 := by omega
      have g1 : ¬ ((48 : Nat) : Int) < 48 := by omega
      rw [List.take_of_length_le (by rw [HSl.out]; omega)] at own
      have hlS := HSl.out
      obtain ⟨hao, hcap, hhv, hc1, hc2⟩ := own_slice own
      subst hhv
      have own9 := own
      rw [← hlS] at own9
      have HBs : Hid (Bs wr (.slice hao S.length hcap) S) := Bs.of_own own9
      have HOlt : Hid (∀ a, hao = some a → a.block < wr.heap.size) := fun a ha => by
        obtain ⟨_, _, e, _, _, h3⟩ := HBs.out
        obtain ⟨b, o, e2, hb, _⟩ := h3 (by rw [hlS]; omega)
        have e3 : some a = some (⟨b, o, none⟩ : Addr) := by rw [← ha, ← e2]; simpa using congrArg (fun v => match v with | .slice a _ _ => a | _ => none) e
        rw [Option.some.inj e3]
        exact hb
      rw [hlS] at HBs
      clear own own9 hlS
      go_upto_region 8 with fail
      obtain ⟨S1, hS1, KB1, KI1, KD1, KL1, KA1⟩ : ∃ S : World → Prop, Hd S wr ∧ Hid (∀ wx, Hd S wx → Below wr.heap.size wr wx) ∧ Hid (∀ wx, Below wr.heap.size wr wx → Hd S wx) ∧ Hid (∀ wx, Hd S wx → Hd S wx.drew) ∧ Hid (∀ w1 w2, Hd S w1 → Below w1.heap.size w1 w2 → Hd S w2) ∧ Hid (∀ w1 o, Hd S w1 → Hd S (w1.alloc o)) := ⟨fun wx => Below wr.heap.size wr wx, Below.refl _ _, fun _ h => h, fun _ h => h, fun wx h => Below.drew h, fun w1 w2 h hb => below_step h hb, fun w1 o h => Below.alloc h h.size o⟩
      have HD1 : Hid (Blk wr w.heap.size es) := D1
      have HK1 : Hid (Blk wr (w.heap.size + 1) ds) := K1
      have rd : Hid (∀ wx, Hd S1 wx → (loadVar 24 ⟨w.heap.size, 0, none⟩).run Tryd.prog wx = .ok (.agg es.toArray) wx) := fun wx h => (HD1.out.later (KB1.out wx h)).load Tryd.underlying24 rfl size_u HLd.out
      have rk : Hid (∀ wx, Hd S1 wx → (loadVar 24 ⟨w.heap.size + 1, 0, none⟩).run Tryd.prog wx = .ok (.agg ds.toArray) wx) := fun wx h => (HK1.out.later (KB1.out wx h)).load Tryd.underlying24 rfl size_u HLk.out
      clear D1 K1 G1
      refine wp_region_noPanic ?_
      refine wp_region_held_drew (S := Hd S1) (by kernel_rfl) (KD1.out _ hS1) (fun hHeld => ?_)
      clear hS1
      generalize World.drew _ = wd1 at *
      refine wpAnyH_take (i := 0) (v := .agg es.toArray) rfl (by kernel_rfl) (by kernel_rfl) (by kernel_rfl) (fun _ _ _ h => h) (Or.inl ⟨by rfl, fun wx h => exec_load rfl rfl (rd.out wx h)⟩) (by assumption) ?_
      try simp only [Act.put, List.getElem_toArray, List.getElem_cons_zero, List.getElem_cons_succ, List.setIfInBounds_toArray, List.set_cons_zero, List.set_cons_succ]
      refine wpAnyH_take (i := 1) (v := .agg ds.toArray) rfl (by kernel_rfl) (by kernel_rfl) (by kernel_rfl) (fun _ _ _ h => h) (Or.inl ⟨by rfl, fun wx h => exec_load rfl rfl (rk.out wx h)⟩) (by assumption) ?_
      try simp only [Act.put, List.getElem_toArray, List.getElem_cons_zero, List.getElem_cons_succ, List.setIfInBounds_toArray, List.set_cons_zero, List.set_cons_succ]
      refine wpAnyH_take (i := 3) (v := ?_) rfl (by kernel_rfl) (by kernel_rfl) (by kernel_rfl) (fun _ _ _ h => h) (Or.inl ⟨by rfl, ?_⟩) (by assumption) ?_
      rotate_left
      · intro w hSw
        go_simp
        with_reducible rfl
      try simp only [Act.put, List.getElem_toArray, List.getElem_cons_zero, List.getElem_cons_succ, List.setIfInBounds_toArray, List.set_cons_zero, List.set_cons_succ]
      refine wpAnyH_ready (rs := [2, 8]) (by kernel_rfl) (by simp) ?_
      refine AllReadyH.cons rfl (fun K hK => ?_) ?_
      · go_simp
        refine (con_known (HG.out.below (below_step bel1 (KB1.out _ hHeld))).2 HK.out).mono ?_
        rintro e w3 ⟨fs, yk, rfl, hu, hsk, hb⟩
        refine hK.out _ _ ?_ (fun hHeld2 => ?_)
        · exact KL1.out _ _ hHeld hb
        · clear hK K
          try clear hHeld
          have hHeld := hHeld2
          clear hHeld2
          try simp only [Act.put, List.getElem_toArray, List.getElem_cons_zero, List.getElem_cons_succ, List.setIfInBounds_toArray, List.set_cons_zero, List.set_cons_succ]
          have HFk : Hid (U6 fs yk) := hu
          have HSk : Hid (isSc yk) := hsk
          clear hu hsk hb
          refine wpAnyH_ready (rs := [4, 8]) (by kernel_rfl) (by simp) ?_
          refine AllReadyH.cons rfl (fun K hK => ?_) ?_
          · go_simp
            refine (con_Sign (HG.out.below (below_step bel1 (KB1.out _ hHeld))) HE.out HFk.out (HBs.out.later (KB1.out _ hHeld)) HSb.out).mono ?_
            rintro e w4 ⟨rs, ss, sr, sv, er, rfl, hr, hs, hsg, hb⟩
            refine hK.out _ _ ?_ (fun hHeld2 => ?_)
            · exact KL1.out _ _ hHeld hb
            · clear hK K
              try clear hHeld
              have hHeld := hHeld2
              clear hHeld2
              try simp only [Act.put, List.getElem_toArray, List.getElem_cons_zero, List.getElem_cons_succ, List.setIfInBounds_toArray, List.set_cons_zero, List.set_cons_succ]
              have HR : Hid (U6 rs sr) := hr
              have HS : Hid (U6 ss sv) := hs
              have HSg : Hid (SignIs yd yk S sr sv er) := hsg
              clear hr hs hsg hb
              refine wpAnyH_take (i := 5) (v := ?_) rfl (by kernel_rfl) (by kernel_rfl) (by kernel_rfl) (fun _ _ _ h => h) (Or.inl ⟨by rfl, ?_⟩) (by assumption) ?_
              rotate_left
              · intro w hSw
                go_simp
                with_reducible rfl
              try simp only [Act.put, List.getElem_toArray, List.getElem_cons_zero, List.getElem_cons_succ, List.setIfInBounds_toArray, List.set_cons_zero, List.set_cons_succ]
              refine wpAnyH_take (i := 6) (v := ?_) rfl (by kernel_rfl) (by kernel_rfl) (by kernel_rfl) (fun _ _ _ h => h) (Or.inl ⟨by rfl, ?_⟩) (by assumption) ?_
              rotate_left
              · intro w hSw
                go_simp
                with_reducible rfl
              try simp only [Act.put, List.getElem_toArray, List.getElem_cons_zero, List.getElem_cons_succ, List.setIfInBounds_toArray, List.set_cons_zero, List.set_cons_succ]
              refine wpAnyH_take (i := 7) (v := ?_) rfl (by kernel_rfl) (by kernel_rfl) (by kernel_rfl) (fun _ _ _ h => h) (Or.inl ⟨by rfl, ?_⟩) (by assumption) ?_
              rotate_left
              · intro w hSw
                go_simp
                with_reducible rfl
              try simp only [Act.put, List.getElem_toArray, List.getElem_cons_zero, List.getElem_cons_succ, List.setIfInBounds_toArray, List.set_cons_zero, List.set_cons_succ]
              refine wpAnyH_ready (rs := [8]) (by kernel_rfl) (by simp) ?_
              refine AllReadyH.cons rfl (fun K hK => ?_) ?_
              · have HH0 : Hid (Hd S1 w4) := hHeld
                have hz := zero_s.out
                go_simp
                refine hK.out _ _ ?_ (fun hHeld2 => ?_)
                · exact KA1.out _ _ hHeld
                · clear hK K
                  try clear hHeld
                  have hHeld := hHeld2
                  clear hHeld2
                  try simp only [Act.put, List.getElem_toArray, List.getElem_cons_zero, List.getElem_cons_succ, List.setIfInBounds_toArray, List.set_cons_zero, List.set_cons_succ]
                  clear hz
                  have Z0 := Blk.new w4 [.int .u64 0, .int .u64 0, .int .u64 0, .int .u64 0, .int .u64 0, .int .u64 0, .int .u64 0, .int .u64 0, .int .u64 0, .int .u64 0, .int .u64 0, .int .u64 0] 30 w4.heap.size rfl
                  obtain ⟨gs, hgs⟩ : ∃ g, g = w4.heap.size := ⟨_, rfl⟩
                  have lgs : wr.heap.size ≤ gs := by rw [hgs]; exact (KB1.out _ HH0.out).size
                  rw [← hgs] at Z0 ⊢
                  clear hgs HH0
                  refine wpAnyH_ready (rs := [9]) (by kernel_rfl) (by simp) ?_
                  refine AllReadyH.cons rfl (fun K hK => ?_) ?_
                  · have HH9 : Hid (Hd S1 _) := hHeld
                    have HLs : Hid ((rs ++ ss).length = 12) := by show _ = _; rw [List.length_append, HR.out.len, HS.out.len]
                    have HSs : Hid ((rs ++ ss).toArray.size = 12) := by show _ = _; rw [List.size_toArray]; exact HLs.out
                    have HOs : Hid (OneR (rs ++ ss)) := HR.out.ones.app HS.out.ones
                    have Z1 : Blk _ gs (rs ++ ss) := Z0.put
                    obtain ⟨tZ, hZ⟩ := Z0
                    rw [if_pos (by rfl)]
                    refine wp_store_row 30 _ _ rfl gs (rs ++ ss).toArray rfl rfl tZ _ hZ (by rw [size_s, HSs.out]) (by rw [HSs.out]; rfl) HOs.out ?_
                    have bel9 := below_setRow (KB1.out _ HH9.out) lgs (rs ++ ss).toArray
                    refine hK.out _ _ ?_ (fun hHeld2 => ?_)
                    · exact KI1.out _ bel9
                    · clear hK K
                      try clear hHeld
                      have hHeld := hHeld2
                      clear hHeld2
                      try simp only [Act.put, List.getElem_toArray, List.getElem_cons_zero, List.getElem_cons_succ, List.setIfInBounds_toArray, List.set_cons_zero, List.set_cons_succ]
                      clear hZ
                      refine wpAnyH_ready (rs := [10]) (by kernel_rfl) (by simp) ?_
                      refine AllReadyH.cons rfl (fun K hK => ?_) ?_
                      · go_simp
                        refine hK.out _ _ ?_ (fun hHeld2 => ?_)
                        · exact hHeld
                        · clear hK K
                          try clear hHeld
                          have hHeld := hHeld2
                          clear hHeld2
                          try simp only [Act.put, List.getElem_toArray, List.getElem_cons_zero, List.getElem_cons_succ, List.setIfInBounds_toArray, List.set_cons_zero, List.set_cons_succ]
                          refine wpAnyH_done (by kernel_rfl) ?_ _
                          refine NoPanic.normal ?_
                          generalize World.setRow (World.alloc _ _) _ _ = X at *
                          have D1 := HD1.out.later bel9
                          have belX := bel1.trans (bel9.mono bel1.size)
                          have HBX : Hid (Bs X (.slice hao 48 hcap) S) := HBs.out.later bel9
                          clear rd rk hHeld bel9
                          obtain ⟨i, hi⟩ : ∃ i, InvO yk i := ⟨_, rfl⟩
                          have HI : Hid (InvO yk i) := hi
                          have HRes : Hid _ := (HSg.out.2 HScd.out HSk.out).2 HSl.out i hi
                          clear hi
                          by_cases c5 : sigR yk = 0 ∨ sigS yd (sigR yk) (beN S % QQ) i = 0
                          · obtain ⟨her, _, _⟩ := HRes.out.1 c5
                            replace her : er = .iface 35 (.int .i64 10) := her
                            subst her
                            have q1 := iface_eqE 10
                            have q3 := ne_codeE
                            clear c5
                            go_wp2_with fail
                            go_ret
                            exact ⟨rfl, belX⟩
                          obtain ⟨rfl, rfl, rfl⟩ := HRes.out.2 c5
                          have HN5 : Hid (isSc (sigR yk) ∧ isSc (sigS yd (sigR yk) (beN S % QQ) i)) := by
                            have b1 := sigR_bd yk
                            have b2 := sigS_bd yd (sigR yk) (beN S % QQ) i
                            exact ⟨⟨by omega, b1.2⟩, ⟨by omega, b2.2⟩⟩
                          clear c5
                          have q3 := ne_nilE
                          have l1 := D1.lt
                          go_wp2_with (first | (refine wpList_load_run (by rfl) (by rfl) (by rfl) (D1.load Tryd.underlying24 rfl size_u HLd.out) ?_) | fail)
                          refine (uBase (HG.out.below belX).1 HE.out).mono ?_
                          rintro e w5 ⟨ps, rfl, hp, hb⟩
                          replace D1 := D1.later hb
                          replace Z1 := Z1.later hb
                          replace HBX : Hid (Bs w5 (.slice hao 48 hcap) S) := HBX.out.later hb
                          have bel := below_step belX hb
                          clear hb belX l1 q3
                          obtain ⟨PX, PY, hPP⟩ : ∃ a b, cmul yd.toNat GG = some (a, b) := by
                            cases hq : cmul yd.toNat GG with
                            | none => exact absurd hq (base_some HScd.out)
                            | some p => exact ⟨p.1, p.2, rfl⟩
                          have HPP : Hid (cmul yd.toNat GG = some (PX, PY)) := hPP
                          have HAff : Hid (Aff PX PY) := by have h := on_cmul on_G yd.toNat; rw [hPP] at h; exact h
                          rw [hPP] at hp
                          have HP : Hid (P13R ps PX PY false) := hp.rawS
                          clear hp hPP
                          have lzq := Z1.lt
                          have HLq : Hid (ps.length = 13) := HP.out.len
                          have HSq : Hid (ps.toArray.size = 13) := by show _ = _; rw [List.size_toArray]; exact HLq.out
                          have HOq : Hid (OneR ps) := HP.out.ones
                          replace D1 := D1.alloc (.cells ps.toArray 37)
                          replace Z1 := Z1.alloc (.cells ps.toArray 37)
                          replace bel := below_alloc (o := .cells ps.toArray 37) bel
                          have Bq := Blk.new w5 ps 37 w5.heap.size rfl
                          replace HBX : Hid (Bs (w5.alloc (.cells ps.toArray 37)) (.slice hao 48 hcap) S) := HBX.out.later ((Below.refl _ _).alloc (Nat.le_refl _) _)
                          have hz := zero_p.out
                          go_upto_region 12 with (first | (refine wpList_store_row rfl 37 _ _ rfl w5.heap.size ps.toArray rfl rfl 37 _ (heap_alloc_last _ _) (by rw [size_p, HSq.out]) (by rw [HSq.out]; rfl) HOq.out ?_; rw [World.setRow_alloc_new]) | fail)
                          clear hz
                          obtain ⟨gq, hgq⟩ : ∃ g, g = w5.heap.size := ⟨_, rfl⟩
                          rw [← hgq] at Bq lzq
                          generalize w5.alloc (.cells ps.toArray 37) = Vq at *
                          rw [← hgq]
                          clear hgq
                          have l1 := Bq.lt
                          have l2 := Z1.lt
                          go_wp2_with (first | (refine wpList_load_run (by rfl) (by rfl) (by rfl) (Bq.load Tryd.underlying37 rfl size_p HLq.out) ?_) | (refine wpList_load_run (by rfl) (by rfl) (by rfl) (Z1.load Tryd.underlying30 rfl size_s HLs.out) ?_) | fail)
                          refine (con_Verify (HG.out.below bel) HP.out HR.out HS.out HBX.out HSb.out).mono ?_
                          rintro e w6 ⟨er1, rfl, hv, hb⟩
                          obtain ⟨j, hj⟩ : ∃ j, InvO (sigS yd (sigR yk) (beN S % QQ) i) j := ⟨_, rfl⟩
                          have her1 : er1 = .nilIface := (((hv.2 rfl HAff.out).2 HSl.out).2 HN5.out.1 HN5.out.2 j hj).1 (by rw [← HPP.out]; exact holds_ok HScd.out HSk.out (rest_bd _).1 HI.out HN5.out.2 hj)
                          subst her1
                          clear hv hj
                          replace Bq := Bq.later hb
                          replace Z1 := Z1.later hb
                          replace HBX : Hid (Bs w6 (.slice hao 48 hcap) S) := HBX.out.later hb
                          replace bel := below_step bel hb
                          clear hb l1 l2 D1
                          go_upto_region 13 with fail
                          have hlz : w.heap.size ≤ gs := by have := bel1.size; omega
                          have HOb : Hid (∀ a, hao = some a → a.block ≠ gs) := fun a ha => by have := HOlt.out a ha; omega
                          have HSq : Hid (isSc (QQ - sigS yd (sigR yk) (beN S % QQ) i)) := by
                            have h1 := HN5.out.2.1
                            have h2 := HN5.out.2.2
                            exact ⟨by omega, by omega⟩
                          obtain ⟨sv, hsv⟩ : ∃ sv, sigS yd (sigR yk) (beN S % QQ) i = sv := ⟨_, rfl⟩
                          have HSV : Hid (sigS yd (sigR yk) (beN S % QQ) i = sv) := hsv
                          rw [hsv] at HS HSq
                          have HN6 : Hid (isSc sv) := by have := HN5.out.2; rw [hsv] at this; exact this
                          clear hsv
                          obtain ⟨S2, hS2, KB2, KI2, KD2, KL2, KA2⟩ : ∃ S : World → Prop, Hd S w6 ∧ Hid (∀ wx, Hd S wx → Below w.heap.size w wx) ∧ Hid (∀ wx, Below w.heap.size w wx → Hd S wx) ∧ Hid (∀ wx, Hd S wx → Hd S wx.drew) ∧ Hid (∀ w1 w2, Hd S w1 → Below w1.heap.size w1 w2 → Hd S w2) ∧ Hid (∀ w1 o, Hd S w1 → Hd S (w1.alloc o)) := ⟨fun wx => Below w.heap.size w wx, bel, fun _ h => h, fun _ h => h, fun wx h => Below.drew h, fun w1 w2 h hb => below_step h hb, fun w1 o h => Below.alloc h h.size o⟩
                          refine wp_region_noPanic ?_
                          refine wp_region_held_drew (S := Hd S2) (by kernel_rfl) (KD2.out _ hS2) (fun hHeld => ?_)
                          clear hS2
                          have hdw : Below w6.heap.size w6 w6.drew := (Below.refl _ _).drew
                          replace Z1 := Z1.later hdw
                          replace Bq := Bq.later hdw
                          replace HBX : Hid (Bs w6.drew (.slice hao 48 hcap) S) := HBX.out.later hdw
                          clear hdw
                          generalize World.drew _ = wd2 at *
                          refine wpAnyH_take (i := 1) (v := ?_) rfl (by kernel_rfl) (by kernel_rfl) (by kernel_rfl) (fun _ _ _ h => h) (Or.inl ⟨by rfl, ?_⟩) (by assumption) ?_
                          rotate_left
                          · intro w hSw
                            go_simp
                            with_reducible rfl
                          try simp only [Act.put, List.getElem_toArray, List.getElem_cons_zero, List.getElem_cons_succ, List.setIfInBounds_toArray, List.set_cons_zero, List.set_cons_succ]
                          refine wpAnyH_ready (rs := [0, 2]) (by kernel_rfl) (by simp) ?_
                          refine AllReadyH.cons rfl (fun K hK => ?_) ?_
                          · go_simp
                            refine n_any.mono ?_
                            rintro e y0 ⟨v1, rfl, N1, hb⟩
                            refine hK.out _ _ ?_ (fun hHeld2 => ?_)
                            · exact KL2.out _ _ hHeld hb
                            · clear hK K
                              try clear hHeld
                              have hHeld := hHeld2
                              clear hHeld2
                              try simp only [Act.put, List.getElem_toArray, List.getElem_cons_zero, List.getElem_cons_succ, List.setIfInBounds_toArray, List.set_cons_zero, List.set_cons_succ]
                              replace Z1 := Z1.later hb
                              replace Bq := Bq.later hb
                              replace HBX : Hid (Bs y0 (.slice hao 48 hcap) S) := HBX.out.later hb
                              clear hb
                              refine wpAnyH_ready (rs := [2]) (by kernel_rfl) (by simp) ?_
                              refine AllReadyH.cons rfl (fun K hK => ?_) ?_
                              · rw [if_pos (by rfl)]
                                refine wp_load_run (by rfl) (by rfl) (load_u Z1 HS.out (app_at2 HR.out.len)) ?_
                                refine hK.out _ _ ?_ (fun hHeld2 => ?_)
                                · exact hHeld
                                · clear hK K
                                  try clear hHeld
                                  have hHeld := hHeld2
                                  clear hHeld2
                                  try simp only [Act.put, List.getElem_toArray, List.getElem_cons_zero, List.getElem_cons_succ, List.setIfInBounds_toArray, List.set_cons_zero, List.set_cons_succ]
                                  refine wpAnyH_ready (rs := [3]) (by kernel_rfl) (by simp) ?_
                                  refine AllReadyH.cons rfl (fun K hK => ?_) ?_
                                  · go_simp
                                    refine (uOf6 HS.out).mono ?_
                                    rintro e y3 ⟨v3, rfl, N3, hb⟩
                                    refine hK.out _ _ ?_ (fun hHeld2 => ?_)
                                    · exact KL2.out _ _ hHeld hb
                                    · clear hK K
                                      try clear hHeld
                                      have hHeld := hHeld2
                                      clear hHeld2
                                      try simp only [Act.put, List.getElem_toArray, List.getElem_cons_zero, List.getElem_cons_succ, List.setIfInBounds_toArray, List.set_cons_zero, List.set_cons_succ]
                                      replace Z1 := Z1.later hb
                                      replace Bq := Bq.later hb
                                      replace HBX : Hid (Bs y3 (.slice hao 48 hcap) S) := HBX.out.later hb
                                      replace N1 := N1.later hb
                                      clear hb
                                      refine wpAnyH_ready (rs := [4]) (by kernel_rfl) (by simp) ?_
                                      refine AllReadyH.cons rfl (fun K hK => ?_) ?_
                                      · go_simp
                                        refine (rsub_any _ _ _ _ _ N1 N3 (by decide) (by have := HN6.out.2; omega)).mono ?_
                                        rintro e y4 ⟨v4, rfl, N4, hb⟩
                                        refine hK.out _ _ ?_ (fun hHeld2 => ?_)
                                        · exact KL2.out _ _ hHeld hb
                                        · clear hK K
                                          try clear hHeld
                                          have hHeld := hHeld2
                                          clear hHeld2
                                          try simp only [Act.put, List.getElem_toArray, List.getElem_cons_zero, List.getElem_cons_succ, List.setIfInBounds_toArray, List.set_cons_zero, List.set_cons_succ]
                                          replace Z1 := Z1.later hb
                                          replace Bq := Bq.later hb
                                          replace HBX : Hid (Bs y4 (.slice hao 48 hcap) S) := HBX.out.later hb
                                          clear hb N1 N3
                                          refine wpAnyH_ready (rs := [5]) (by kernel_rfl) (by simp) ?_
                                          refine AllReadyH.cons rfl (fun K hK => ?_) ?_
                                          · go_simp
                                            refine (uTo6 N4 (by have := HN6.out.2; omega) (by have h1 := QQ_lt; have h2 := HN6.out.1; omega)).mono ?_
                                            rintro e y5 ⟨ms, rfl, hm, hb⟩
                                            refine hK.out _ _ ?_ (fun hHeld2 => ?_)
                                            · exact KL2.out _ _ hHeld hb
                                            · clear hK K
                                              try clear hHeld
                                              have hHeld := hHeld2
                                              clear hHeld2
                                              try simp only [Act.put, List.getElem_toArray, List.getElem_cons_zero, List.getElem_cons_succ, List.setIfInBounds_toArray, List.set_cons_zero, List.set_cons_succ]
                                              replace Z1 := Z1.later hb
                                              replace Bq := Bq.later hb
                                              replace HBX : Hid (Bs y5 (.slice hao 48 hcap) S) := HBX.out.later hb
                                              have HM : Hid (U6 ms (QQ - sv)) := hm
                                              clear hb N4 hm
                                              refine wpAnyH_take (i := 6) (v := ?_) rfl (by kernel_rfl) (by kernel_rfl) (by kernel_rfl) (fun _ _ _ h => h) (Or.inl ⟨by rfl, ?_⟩) (by assumption) ?_
                                              rotate_left
                                              · intro w hSw
                                                go_simp
                                                with_reducible rfl
                                              try simp only [Act.put, List.getElem_toArray, List.getElem_cons_zero, List.getElem_cons_succ, List.setIfInBounds_toArray, List.set_cons_zero, List.set_cons_succ]
                                              refine wpAnyH_ready (rs := [7]) (by kernel_rfl) (by simp) ?_
                                              refine AllReadyH.cons rfl (fun K hK => ?_) ?_
                                              · have HH7 : Hid (Hd S2 y5) := hHeld
                                                have lzz := Z1.lt
                                                have Z2 : Blk (y5.setRow gs (rs ++ ms).toArray) gs (rs ++ ms) := Z1.put
                                                have Bq2 := Bq.row (cs := (rs ++ ms).toArray) (c := gs) (by omega)
                                                have HB2 : Hid (Bs (y5.setRow gs (rs ++ ms).toArray) (.slice hao 48 hcap) S) := bs_row HBX.out HOb.out
                                                obtain ⟨tZ, hZ⟩ := Z1
                                                have hst := run_storeCells_at Tryd.prog gs 6 tZ ms 0 (rs ++ ss).toArray y5 hZ (by rw [List.size_toArray, List.length_append, HR.out.len, HS.out.len, HM.out.len]; omega) (fun u hu => by have := HM.out.ones; unfold OneR at this; rw [Array.all_eq_true_iff_forall_mem] at this; exact this u (by simpa using hu))
                                                have hrow : ((rs ++ ss).toArray.toList.take (6 + 0) ++ ms ++ (rs ++ ss).toArray.toList.drop (6 + 0 + ms.length)) = rs ++ ms := by
                                                  have h1 := HR.out.len
                                                  have h2 := HS.out.len
                                                  have h3 := HM.out.len
                                                  simp only [Nat.add_zero]
                                                  rw [List.take_append_of_le_length (by omega), List.take_of_length_le (by omega), List.drop_of_length_le (by rw [List.length_append]; omega), List.append_nil]
                                                rw [hrow] at hst
                                                have hl6 : ms.length = 6 := HM.out.len
                                                clear hrow hZ
                                                go_simp
                                                refine hK.out _ _ ?_ (fun hHeld2 => ?_)
                                                · exact KI2.out _ (below_setRow (KB2.out _ HH7.out) hlz _)
                                                · clear hK K
                                                  try clear hHeld
                                                  have hHeld := hHeld2
                                                  clear hHeld2
                                                  try simp only [Act.put, List.getElem_toArray, List.getElem_cons_zero, List.getElem_cons_succ, List.setIfInBounds_toArray, List.set_cons_zero, List.set_cons_succ]
                                                  clear hst hl6
                                                  refine wpAnyH_done (by kernel_rfl) ?_ _
                                                  refine NoPanic.normal ?_
                                                  have belY := KB2.out _ hHeld
                                                  clear hHeld Bq
                                                  generalize World.setRow y5 gs (rs ++ ms).toArray = Y at *
                                                  have l1 := Bq2.lt
                                                  have l2 := Z2.lt
                                                  have HLm : Hid ((rs ++ ms).length = 12) := by show _ = _; rw [List.length_append, HR.out.len, HM.out.len]
                                                  go_wp2_with (first | (refine wpList_load_run (by rfl) (by rfl) (by rfl) (Bq2.load Tryd.underlying37 rfl size_p HLq.out) ?_) | (refine wpList_load_run (by rfl) (by rfl) (by rfl) (Z2.load Tryd.underlying30 rfl size_s HLm.out) ?_) | fail)
                                                  refine (con_Verify (HG.out.below belY) HP.out HR.out HM.out HB2.out HSb.out).mono ?_
                                                  rintro e w9 ⟨er2, rfl, hv, hb⟩
                                                  obtain ⟨j2, hj2⟩ : ∃ j, InvO (QQ - sv) j := ⟨_, rfl⟩
                                                  have her2 : er2 = .nilIface := (((hv.2 rfl HAff.out).2 HSl.out).2 HN5.out.1 HSq.out j2 hj2).1 (by rw [← HPP.out]; exact holds_other HScd.out HSk.out (rest_bd _).1 HI.out HN5.out.2 (by rw [HSV.out]; exact hj2))
                                                  subst her2
                                                  clear hv hj2
                                                  replace belY := below_step belY hb
                                                  clear hb l1 l2
                                                  have q1 := eq_nilE
                                                  go_wp2_with fail
                                                  go_ret
                                                  exact ⟨rfl, belY⟩
                                              exact AllReadyH.nil
                                          exact AllReadyH.nil
                                      exact AllReadyH.nil
                                  exact AllReadyH.nil
                              exact AllReadyH.nil
                          refine AllReadyH.cons rfl (fun K hK => ?_) ?_
                          · rw [if_pos (by rfl)]
                            refine wp_load_run (by rfl) (by rfl) (load_u Z1 HS.out (app_at2 HR.out.len)) ?_
                            refine hK.out _ _ ?_ (fun hHeld2 => ?_)
                            · exact hHeld
                            · clear hK K
                              try clear hHeld
                              have hHeld := hHeld2
                              clear hHeld2
                              try simp only [Act.put, List.getElem_toArray, List.getElem_cons_zero, List.getElem_cons_succ, List.setIfInBounds_toArray, List.set_cons_zero, List.set_cons_succ]
                              refine wpAnyH_ready (rs := [0]) (by kernel_rfl) (by simp) ?_
                              refine AllReadyH.cons rfl (fun K hK => ?_) ?_
                              · go_simp
                                refine n_any.mono ?_
                                rintro e y0 ⟨v1, rfl, N1, hb⟩
                                refine hK.out _ _ ?_ (fun hHeld2 => ?_)
                                · exact KL2.out _ _ hHeld hb
                                · clear hK K
                                  try clear hHeld
                                  have hHeld := hHeld2
                                  clear hHeld2
                                  try simp only [Act.put, List.getElem_toArray, List.getElem_cons_zero, List.getElem_cons_succ, List.setIfInBounds_toArray, List.set_cons_zero, List.set_cons_succ]
                                  replace Z1 := Z1.later hb
                                  replace Bq := Bq.later hb
                                  replace HBX : Hid (Bs y0 (.slice hao 48 hcap) S) := HBX.out.later hb
                                  clear hb
                                  refine wpAnyH_ready (rs := [3]) (by kernel_rfl) (by simp) ?_
                                  refine AllReadyH.cons rfl (fun K hK => ?_) ?_
                                  · go_simp
                                    refine (uOf6 HS.out).mono ?_
                                    rintro e y3 ⟨v3, rfl, N3, hb⟩
                                    refine hK.out _ _ ?_ (fun hHeld2 => ?_)
                                    · exact KL2.out _ _ hHeld hb
                                    · clear hK K
                                      try clear hHeld
                                      have hHeld := hHeld2
                                      clear hHeld2
                                      try simp only [Act.put, List.getElem_toArray, List.getElem_cons_zero, List.getElem_cons_succ, List.setIfInBounds_toArray, List.set_cons_zero, List.set_cons_succ]
                                      replace Z1 := Z1.later hb
                                      replace Bq := Bq.later hb
                                      replace HBX : Hid (Bs y3 (.slice hao 48 hcap) S) := HBX.out.later hb
                                      replace N1 := N1.later hb
                                      clear hb
                                      refine wpAnyH_ready (rs := [4]) (by kernel_rfl) (by simp) ?_
                                      refine AllReadyH.cons rfl (fun K hK => ?_) ?_
                                      · go_simp
                                        refine (rsub_any _ _ _ _ _ N1 N3 (by decide) (by have := HN6.out.2; omega)).mono ?_
                                        rintro e y4 ⟨v4, rfl, N4, hb⟩
                                        refine hK.out _ _ ?_ (fun hHeld2 => ?_)
                                        · exact KL2.out _ _ hHeld hb
                                        · clear hK K
                                          try clear hHeld
                                          have hHeld := hHeld2
                                          clear hHeld2
                                          try simp only [Act.put, List.getElem_toArray, List.getElem_cons_zero, List.getElem_cons_succ, List.setIfInBounds_toArray, List.set_cons_zero, List.set_cons_succ]
                                          replace Z1 := Z1.later hb
                                          replace Bq := Bq.later hb
                                          replace HBX : Hid (Bs y4 (.slice hao 48 hcap) S) := HBX.out.later hb
                                          clear hb N1 N3
                                          refine wpAnyH_ready (rs := [5]) (by kernel_rfl) (by simp) ?_
                                          refine AllReadyH.cons rfl (fun K hK => ?_) ?_
                                          · go_simp
                                            refine (uTo6 N4 (by have := HN6.out.2; omega) (by have h1 := QQ_lt; have h2 := HN6.out.1; omega)).mono ?_
                                            rintro e y5 ⟨ms, rfl, hm, hb⟩
                                            refine hK.out _ _ ?_ (fun hHeld2 => ?_)
                                            · exact KL2.out _ _ hHeld hb
                                            · clear hK K
                                              try clear hHeld
                                              have hHeld := hHeld2
                                              clear hHeld2
                                              try simp only [Act.put, List.getElem_toArray, List.getElem_cons_zero, List.getElem_cons_succ, List.setIfInBounds_toArray, List.set_cons_zero, List.set_cons_succ]
                                              replace Z1 := Z1.later hb
                                              replace Bq := Bq.later hb
                                              replace HBX : Hid (Bs y5 (.slice hao 48 hcap) S) := HBX.out.later hb
                                              have HM : Hid (U6 ms (QQ - sv)) := hm
                                              clear hb N4 hm
                                              refine wpAnyH_take (i := 6) (v := ?_) rfl (by kernel_rfl) (by kernel_rfl) (by kernel_rfl) (fun _ _ _ h => h) (Or.inl ⟨by rfl, ?_⟩) (by assumption) ?_
                                              rotate_left
                                              · intro w hSw
                                                go_simp
                                                with_reducible rfl
                                              try simp only [Act.put, List.getElem_toArray, List.getElem_cons_zero, List.getElem_cons_succ, List.setIfInBounds_toArray, List.set_cons_zero, List.set_cons_succ]
                                              refine wpAnyH_ready (rs := [7]) (by kernel_rfl) (by simp) ?_
                                              refine AllReadyH.cons rfl (fun K hK => ?_) ?_
                                              · have HH7 : Hid (Hd S2 y5) := hHeld
                                                have lzz := Z1.lt
                                                have Z2 : Blk (y5.setRow gs (rs ++ ms).toArray) gs (rs ++ ms) := Z1.put
                                                have Bq2 := Bq.row (cs := (rs ++ ms).toArray) (c := gs) (by omega)
                                                have HB2 : Hid (Bs (y5.setRow gs (rs ++ ms).toArray) (.slice hao 48 hcap) S) := bs_row HBX.out HOb.out
                                                obtain ⟨tZ, hZ⟩ := Z1
                                                have hst := run_storeCells_at Tryd.prog gs 6 tZ ms 0 (rs ++ ss).toArray y5 hZ (by rw [List.size_toArray, List.length_append, HR.out.len, HS.out.len, HM.out.len]; omega) (fun u hu => by have := HM.out.ones; unfold OneR at this; rw [Array.all_eq_true_iff_forall_mem] at this; exact this u (by simpa using hu))
                                                have hrow : ((rs ++ ss).toArray.toList.take (6 + 0) ++ ms ++ (rs ++ ss).toArray.toList.drop (6 + 0 + ms.length)) = rs ++ ms := by
                                                  have h1 := HR.out.len
                                                  have h2 := HS.out.len
                                                  have h3 := HM.out.len
                                                  simp only [Nat.add_zero]
                                                  rw [List.take_append_of_le_length (by omega), List.take_of_length_le (by omega), List.drop_of_length_le (by rw [List.length_append]; omega), List.append_nil]
                                                rw [hrow] at hst
                                                have hl6 : ms.length = 6 := HM.out.len
                                                clear hrow hZ
                                                go_simp
                                                refine hK.out _ _ ?_ (fun hHeld2 => ?_)
                                                · exact KI2.out _ (below_setRow (KB2.out _ HH7.out) hlz _)
                                                · clear hK K
                                                  try clear hHeld
                                                  have hHeld := hHeld2
                                                  clear hHeld2
                                                  try simp only [Act.put, List.getElem_toArray, List.getElem_cons_zero, List.getElem_cons_succ, List.setIfInBounds_toArray, List.set_cons_zero, List.set_cons_succ]
                                                  clear hst hl6
                                                  refine wpAnyH_done (by kernel_rfl) ?_ _
                                                  refine NoPanic.normal ?_
                                                  have belY := KB2.out _ hHeld
                                                  clear hHeld Bq
                                                  generalize World.setRow y5 gs (rs ++ ms).toArray = Y at *
                                                  have l1 := Bq2.lt
                                                  have l2 := Z2.lt
                                                  have HLm : Hid ((rs ++ ms).length = 12) := by show _ = _; rw [List.length_append, HR.out.len, HM.out.len]
                                                  go_wp2_with (first | (refine wpList_load_run (by rfl) (by rfl) (by rfl) (Bq2.load Tryd.underlying37 rfl size_p HLq.out) ?_) | (refine wpList_load_run (by rfl) (by rfl) (by rfl) (Z2.load Tryd.underlying30 rfl size_s HLm.out) ?_) | fail)
                                                  refine (con_Verify (HG.out.below belY) HP.out HR.out HM.out HB2.out HSb.out).mono ?_
                                                  rintro e w9 ⟨er2, rfl, hv, hb⟩
                                                  obtain ⟨j2, hj2⟩ : ∃ j, InvO (QQ - sv) j := ⟨_, rfl⟩
                                                  have her2 : er2 = .nilIface := (((hv.2 rfl HAff.out).2 HSl.out).2 HN5.out.1 HSq.out j2 hj2).1 (by rw [← HPP.out]; exact holds_other HScd.out HSk.out (rest_bd _).1 HI.out HN5.out.2 (by rw [HSV.out]; exact hj2))
                                                  subst her2
                                                  clear hv hj2
                                                  replace belY := below_step belY hb
                                                  clear hb l1 l2
                                                  have q1 := eq_nilE
                                                  go_wp2_with fail
                                                  go_ret
                                                  exact ⟨rfl, belY⟩
                                              exact AllReadyH.nil
                                          exact AllReadyH.nil
                                      exact AllReadyH.nil
                                  exact AllReadyH.nil
                              exact AllReadyH.nil
                          exact AllReadyH.nil
                      exact AllReadyH.nil
                  exact AllReadyH.nil
              exact AllReadyH.nil
          refine AllReadyH.cons rfl (fun K hK => ?_) ?_
          · have HH0 : Hid (Hd S1 w3) := hHeld
            have hz := zero_s.out
            go_simp
            refine hK.out _ _ ?_ (fun hHeld2 => ?_)
            · exact KA1.out _ _ hHeld
            · clear hK K
              try clear hHeld
              have hHeld := hHeld2
              clear hHeld2
              try simp only [Act.put, List.getElem_toArray, List.getElem_cons_zero, List.getElem_cons_succ, List.setIfInBounds_toArray, List.set_cons_zero, List.set_cons_succ]
              clear hz
              have Z0 := Blk.new w3 [.int .u64 0, .int .u64 0, .int .u64 0, .int .u64 0, .int .u64 0, .int .u64 0, .int .u64 0, .int .u64 0, .int .u64 0, .int .u64 0, .int .u64 0, .int .u64 0] 30 w3.heap.size rfl
              obtain ⟨gs, hgs⟩ : ∃ g, g = w3.heap.size := ⟨_, rfl⟩
              have lgs : wr.heap.size ≤ gs := by rw [hgs]; exact (KB1.out _ HH0.out).size
              rw [← hgs] at Z0 ⊢
              clear hgs HH0
              refine wpAnyH_ready (rs := [4]) (by kernel_rfl) (by simp) ?_
              refine AllReadyH.cons rfl (fun K hK => ?_) ?_
              · go_simp
                refine (con_Sign (HG.out.below (below_step bel1 (KB1.out _ hHeld))) HE.out HFk.out (HBs.out.later (KB1.out _ hHeld)) HSb.out).mono ?_
                rintro e w4 ⟨rs, ss, sr, sv, er, rfl, hr, hs, hsg, hb⟩
                refine hK.out _ _ ?_ (fun hHeld2 => ?_)
                · exact KL1.out _ _ hHeld hb
                · clear hK K
                  try clear hHeld
                  have hHeld := hHeld2
                  clear hHeld2
                  try simp only [Act.put, List.getElem_toArray, List.getElem_cons_zero, List.getElem_cons_succ, List.setIfInBounds_toArray, List.set_cons_zero, List.set_cons_succ]
                  replace Z0 := Z0.later hb
                  have HR : Hid (U6 rs sr) := hr
                  have HS : Hid (U6 ss sv) := hs
                  have HSg : Hid (SignIs yd yk S sr sv er) := hsg
                  clear hr hs hsg hb
                  refine wpAnyH_take (i := 5) (v := ?_) rfl (by kernel_rfl) (by kernel_rfl) (by kernel_rfl) (fun _ _ _ h => h) (Or.inl ⟨by rfl, ?_⟩) (by assumption) ?_
                  rotate_left
                  · intro w hSw
                    go_simp
                    with_reducible rfl
                  try simp only [Act.put, List.getElem_toArray, List.getElem_cons_zero, List.getElem_cons_succ, List.setIfInBounds_toArray, List.set_cons_zero, List.set_cons_succ]
                  refine wpAnyH_take (i := 6) (v := ?_) rfl (by kernel_rfl) (by kernel_rfl) (by kernel_rfl) (fun _ _ _ h => h) (Or.inl ⟨by rfl, ?_⟩) (by assumption) ?_
                  rotate_left
                  · intro w hSw
                    go_simp
                    with_reducible rfl
                  try simp only [Act.put, List.getElem_toArray, List.getElem_cons_zero, List.getElem_cons_succ, List.setIfInBounds_toArray, List.set_cons_zero, List.set_cons_succ]
                  refine wpAnyH_take (i := 7) (v := ?_) rfl (by kernel_rfl) (by kernel_rfl) (by kernel_rfl) (fun _ _ _ h => h) (Or.inl ⟨by rfl, ?_⟩) (by assumption) ?_
                  rotate_left
                  · intro w hSw
                    go_simp
                    with_reducible rfl
                  try simp only [Act.put, List.getElem_toArray, List.getElem_cons_zero, List.getElem_cons_succ, List.setIfInBounds_toArray, List.set_cons_zero, List.set_cons_succ]
                  refine wpAnyH_ready (rs := [9]) (by kernel_rfl) (by simp) ?_
                  refine AllReadyH.cons rfl (fun K hK => ?_) ?_
                  · have HH9 : Hid (Hd S1 _) := hHeld
                    have HLs : Hid ((rs ++ ss).length = 12) := by show _ = _; rw [List.length_append, HR.out.len, HS.out.len]
                    have HSs : Hid ((rs ++ ss).toArray.size = 12) := by show _ = _; rw [List.size_toArray]; exact HLs.out
                    have HOs : Hid (OneR (rs ++ ss)) := HR.out.ones.app HS.out.ones
                    have Z1 : Blk _ gs (rs ++ ss) := Z0.put
                    obtain ⟨tZ, hZ⟩ := Z0
                    rw [if_pos (by rfl)]
                    refine wp_store_row 30 _ _ rfl gs (rs ++ ss).toArray rfl rfl tZ _ hZ (by rw [size_s, HSs.out]) (by rw [HSs.out]; rfl) HOs.out ?_
                    have bel9 := below_setRow (KB1.out _ HH9.out) lgs (rs ++ ss).toArray
                    refine hK.out _ _ ?_ (fun hHeld2 => ?_)
                    · exact KI1.out _ bel9
                    · clear hK K
                      try clear hHeld
                      have hHeld := hHeld2
                      clear hHeld2
                      try simp only [Act.put, List.getElem_toArray, List.getElem_cons_zero, List.getElem_cons_succ, List.setIfInBounds_toArray, List.set_cons_zero, List.set_cons_succ]
                      clear hZ
                      refine wpAnyH_ready (rs := [10]) (by kernel_rfl) (by simp) ?_
                      refine AllReadyH.cons rfl (fun K hK => ?_) ?_
                      · go_simp
                        refine hK.out _ _ ?_ (fun hHeld2 => ?_)
                        · exact hHeld
                        · clear hK K
                          try clear hHeld
                          have hHeld := hHeld2
                          clear hHeld2
                          try simp only [Act.put, List.getElem_toArray, List.getElem_cons_zero, List.getElem_cons_succ, List.setIfInBounds_toArray, List.set_cons_zero, List.set_cons_succ]
                          refine wpAnyH_done (by kernel_rfl) ?_ _
                          refine NoPanic.normal ?_
                          generalize World.setRow w4 _ _ = X at *
                          have D1 := HD1.out.later bel9
                          have belX := bel1.trans (bel9.mono bel1.size)
                          have HBX : Hid (Bs X (.slice hao 48 hcap) S) := HBs.out.later bel9
                          clear rd rk hHeld bel9
                          obtain ⟨i, hi⟩ : ∃ i, InvO yk i := ⟨_, rfl⟩
                          have HI : Hid (InvO yk i) := hi
                          have HRes : Hid _ := (HSg.out.2 HScd.out HSk.out).2 HSl.out i hi
                          clear hi
                          by_cases c5 : sigR yk = 0 ∨ sigS yd (sigR yk) (beN S % QQ) i = 0
                          · obtain ⟨her, _, _⟩ := HRes.out.1 c5
                            replace her : er = .iface 35 (.int .i64 10) := her
                            subst her
                            have q1 := iface_eqE 10
                            have q3 := ne_codeE
                            clear c5
                            go_wp2_with fail
                            go_ret
                            exact ⟨rfl, belX⟩
                          obtain ⟨rfl, rfl, rfl⟩ := HRes.out.2 c5
                          have HN5 : Hid (isSc (sigR yk) ∧ isSc (sigS yd (sigR yk) (beN S % QQ) i)) := by
                            have b1 := sigR_bd yk
                            have b2 := sigS_bd yd (sigR yk) (beN S % QQ) i
                            exact ⟨⟨by omega, b1.2⟩, ⟨by omega, b2.2⟩⟩
                          clear c5
                          have q3 := ne_nilE
                          have l1 := D1.lt
                          go_wp2_with (first | (refine wpList_load_run (by rfl) (by rfl) (by rfl) (D1.load Tryd.underlying24 rfl size_u HLd.out) ?_) | fail)
                          refine (uBase (HG.out.below belX).1 HE.out).mono ?_
                          rintro e w5 ⟨ps, rfl, hp, hb⟩
                          replace D1 := D1.later hb
                          replace Z1 := Z1.later hb
                          replace HBX : Hid (Bs w5 (.slice hao 48 hcap) S) := HBX.out.later hb
                          have bel := below_step belX hb
                          clear hb belX l1 q3
                          obtain ⟨PX, PY, hPP⟩ : ∃ a b, cmul yd.toNat GG = some (a, b) := by
                            cases hq : cmul yd.toNat GG with
                            | none => exact absurd hq (base_some HScd.out)
                            | some p => exact ⟨p.1, p.2, rfl⟩
                          have HPP : Hid (cmul yd.toNat GG = some (PX, PY)) := hPP
                          have HAff : Hid (Aff PX PY) := by have h := on_cmul on_G yd.toNat; rw [hPP] at h; exact h
                          rw [hPP] at hp
                          have HP : Hid (P13R ps PX PY false) := hp.rawS
                          clear hp hPP
                          have lzq := Z1.lt
                          have HLq : Hid (ps.length = 13) := HP.out.len
                          have HSq : Hid (ps.toArray.size = 13) := by show _ = _; rw [List.size_toArray]; exact HLq.out
                          have HOq : Hid (OneR ps) := HP.out.ones
                          replace D1 := D1.alloc (.cells ps.toArray 37)
                          replace Z1 := Z1.alloc (.cells ps.toArray 37)
                          replace bel := below_alloc (o := .cells ps.toArray 37) bel
                          have Bq := Blk.new w5 ps 37 w5.heap.size rfl
                          replace HBX : Hid (Bs (w5.alloc (.cells ps.toArray 37)) (.slice hao 48 hcap) S) := HBX.out.later ((Below.refl _ _).alloc (Nat.le_refl _) _)
                          have hz := zero_p.out
                          go_upto_region 12 with (first | (refine wpList_store_row rfl 37 _ _ rfl w5.heap.size ps.toArray rfl rfl 37 _ (heap_alloc_last _ _) (by rw [size_p, HSq.out]) (by rw [HSq.out]; rfl) HOq.out ?_; rw [World.setRow_alloc_new]) | fail)
                          clear hz
                          obtain ⟨gq, hgq⟩ : ∃ g, g = w5.heap.size := ⟨_, rfl⟩
                          rw [← hgq] at Bq lzq
                          generalize w5.alloc (.cells ps.toArray 37) = Vq at *
                          rw [← hgq]
                          clear hgq
                          have l1 := Bq.lt
                          have l2 := Z1.lt
                          go_wp2_with (first | (refine wpList_load_run (by rfl) (by rfl) (by rfl) (Bq.load Tryd.underlying37 rfl size_p HLq.out) ?_) | (refine wpList_load_run (by rfl) (by rfl) (by rfl) (Z1.load Tryd.underlying30 rfl size_s HLs.out) ?_) | fail)
                          refine (con_Verify (HG.out.below bel) HP.out HR.out HS.out HBX.out HSb.out).mono ?_
                          rintro e w6 ⟨er1, rfl, hv, hb⟩
                          obtain ⟨j, hj⟩ : ∃ j, InvO (sigS yd (sigR yk) (beN S % QQ) i) j := ⟨_, rfl⟩
                          have her1 : er1 = .nilIface := (((hv.2 rfl HAff.out).2 HSl.out).2 HN5.out.1 HN5.out.2 j hj).1 (by rw [← HPP.out]; exact holds_ok HScd.out HSk.out (rest_bd _).1 HI.out HN5.out.2 hj)
                          subst her1
                          clear hv hj
                          replace Bq := Bq.later hb
                          replace Z1 := Z1.later hb
                          replace HBX : Hid (Bs w6 (.slice hao 48 hcap) S) := HBX.out.later hb
                          replace bel := below_step bel hb
                          clear hb l1 l2 D1
                          go_upto_region 13 with fail
                          have hlz : w.heap.size ≤ gs := by have := bel1.size; omega
                          have HOb : Hid (∀ a, hao = some a → a.block ≠ gs) := fun a ha => by have := HOlt.out a ha; omega
                          have HSq : Hid (isSc (QQ - sigS yd (sigR yk) (beN S % QQ) i)) := by
                            have h1 := HN5.out.2.1
                            have h2 := HN5.out.2.2
                            exact ⟨by omega, by omega⟩
                          obtain ⟨sv, hsv⟩ : ∃ sv, sigS yd (sigR yk) (beN S % QQ) i = sv := ⟨_, rfl⟩
                          have HSV : Hid (sigS yd (sigR yk) (beN S % QQ) i = sv) := hsv
                          rw [hsv] at HS HSq
                          have HN6 : Hid (isSc sv) := by have := HN5.out.2; rw [hsv] at this; exact this
                          clear hsv
                          obtain ⟨S2, hS2, KB2, KI2, KD2, KL2, KA2⟩ : ∃ S : World → Prop, Hd S w6 ∧ Hid (∀ wx, Hd S wx → Below w.heap.size w wx) ∧ Hid (∀ wx, Below w.heap.size w wx → Hd S wx) ∧ Hid (∀ wx, Hd S wx → Hd S wx.drew) ∧ Hid (∀ w1 w2, Hd S w1 → Below w1.heap.size w1 w2 → Hd S w2) ∧ Hid (∀ w1 o, Hd S w1 → Hd S (w1.alloc o)) := ⟨fun wx => Below w.heap.size w wx, bel, fun _ h => h, fun _ h => h, fun wx h => Below.drew h, fun w1 w2 h hb => below_step h hb, fun w1 o h => Below.alloc h h.size o⟩
                          refine wp_region_noPanic ?_
                          refine wp_region_held_drew (S := Hd S2) (by kernel_rfl) (KD2.out _ hS2) (fun hHeld => ?_)
                          clear hS2
                          have hdw : Below w6.heap.size w6 w6.drew := (Below.refl _ _).drew
                          replace Z1 := Z1.later hdw
                          replace Bq := Bq.later hdw
                          replace HBX : Hid (Bs w6.drew (.slice hao 48 hcap) S) := HBX.out.later hdw
                          clear hdw
                          generalize World.drew _ = wd2 at *
                          refine wpAnyH_take (i := 1) (v := ?_) rfl (by kernel_rfl) (by kernel_rfl) (by kernel_rfl) (fun _ _ _ h => h) (Or.inl ⟨by rfl, ?_⟩) (by assumption) ?_
                          rotate_left
                          · intro w hSw
                            go_simp
                            with_reducible rfl
                          try simp only [Act.put, List.getElem_toArray, List.getElem_cons_zero, List.getElem_cons_succ, List.setIfInBounds_toArray, List.set_cons_zero, List.set_cons_succ]
                          refine wpAnyH_ready (rs := [0, 2]) (by kernel_rfl) (by simp) ?_
                          refine AllReadyH.cons rfl (fun K hK => ?_) ?_
                          · go_simp
                            refine n_any.mono ?_
                            rintro e y0 ⟨v1, rfl, N1, hb⟩
                            refine hK.out _ _ ?_ (fun hHeld2 => ?_)
                            · exact KL2.out _ _ hHeld hb
                            · clear hK K
                              try clear hHeld
                              have hHeld := hHeld2
                              clear hHeld2
                              try simp only [Act.put, List.getElem_toArray, List.getElem_cons_zero, List.getElem_cons_succ, List.setIfInBounds_toArray, List.set_cons_zero, List.set_cons_succ]
                              replace Z1 := Z1.later hb
                              replace Bq := Bq.later hb
                              replace HBX : Hid (Bs y0 (.slice hao 48 hcap) S) := HBX.out.later hb
                              clear hb
                              refine wpAnyH_ready (rs := [2]) (by kernel_rfl) (by simp) ?_
                              refine AllReadyH.cons rfl (fun K hK => ?_) ?_
                              · rw [if_pos (by rfl)]
                                refine wp_load_run (by rfl) (by rfl) (load_u Z1 HS.out (app_at2 HR.out.len)) ?_
                                refine hK.out _ _ ?_ (fun hHeld2 => ?_)
                                · exact hHeld
                                · clear hK K
                                  try clear hHeld
                                  have hHeld := hHeld2
                                  clear hHeld2
                                  try simp only [Act.put, List.getElem_toArray, List.getElem_cons_zero, List.getElem_cons_succ, List.setIfInBounds_toArray, List.set_cons_zero, List.set_cons_succ]
                                  refine wpAnyH_ready (rs := [3]) (by kernel_rfl) (by simp) ?_
                                  refine AllReadyH.cons rfl (fun K hK => ?_) ?_
                                  · go_simp
                                    refine (uOf6 HS.out).mono ?_
                                    rintro e y3 ⟨v3, rfl, N3, hb⟩
                                    refine hK.out _ _ ?_ (fun hHeld2 => ?_)
                                    · exact KL2.out _ _ hHeld hb
                                    · clear hK K
                                      try clear hHeld
                                      have hHeld := hHeld2
                                      clear hHeld2
                                      try simp only [Act.put, List.getElem_toArray, List.getElem_cons_zero, List.getElem_cons_succ, List.setIfInBounds_toArray, List.set_cons_zero, List.set_cons_succ]
                                      replace Z1 := Z1.later hb
                                      replace Bq := Bq.later hb
                                      replace HBX : Hid (Bs y3 (.slice hao 48 hcap) S) := HBX.out.later hb
                                      replace N1 := N1.later hb
                                      clear hb
                                      refine wpAnyH_ready (rs := [4]) (by kernel_rfl) (by simp) ?_
                                      refine AllReadyH.cons rfl (fun K hK => ?_) ?_
                                      · go_simp
                                        refine (rsub_any _ _ _ _ _ N1 N3 (by decide) (by have := HN6.out.2; omega)).mono ?_
                                        rintro e y4 ⟨v4, rfl, N4, hb⟩
                                        refine hK.out _ _ ?_ (fun hHeld2 => ?_)
                                        · exact KL2.out _ _ hHeld hb
                                        · clear hK K
                                          try clear hHeld
                                          have hHeld := hHeld2
                                          clear hHeld2
                                          try simp only [Act.put, List.getElem_toArray, List.getElem_cons_zero, List.getElem_cons_succ, List.setIfInBounds_toArray, List.set_cons_zero, List.set_cons_succ]
                                          replace Z1 := Z1.later hb
                                          replace Bq := Bq.later hb
                                          replace HBX : Hid (Bs y4 (.slice hao 48 hcap) S) := HBX.out.later hb
                                          clear hb N1 N3
                                          refine wpAnyH_ready (rs := [5]) (by kernel_rfl) (by simp) ?_
                                          refine AllReadyH.cons rfl (fun K hK => ?_) ?_
                                          · go_simp
                                            refine (uTo6 N4 (by have := HN6.out.2; omega) (by have h1 := QQ_lt; have h2 := HN6.out.1; omega)).mono ?_
                                            rintro e y5 ⟨ms, rfl, hm, hb⟩
                                            refine hK.out _ _ ?_ (fun hHeld2 => ?_)
                                            · exact KL2.out _ _ hHeld hb
                                            · clear hK K
                                              try clear hHeld
                                              have hHeld := hHeld2
                                              clear hHeld2
                                              try simp only [Act.put, List.getElem_toArray, List.getElem_cons_zero, List.getElem_cons_succ, List.setIfInBounds_toArray, List.set_cons_zero, List.set_cons_succ]
                                              replace Z1 := Z1.later hb
                                              replace Bq := Bq.later hb
                                              replace HBX : Hid (Bs y5 (.slice hao 48 hcap) S) := HBX.out.later hb
                                              have HM : Hid (U6 ms (QQ - sv)) := hm
                                              clear hb N4 hm
                                              refine wpAnyH_take (i := 6) (v := ?_) rfl (by kernel_rfl) (by kernel_rfl) (by kernel_rfl) (fun _ _ _ h => h) (Or.inl ⟨by rfl, ?_⟩) (by assumption) ?_
                                              rotate_left
                                              · intro w hSw
                                                go_simp
                                                with_reducible rfl
                                              try simp only [Act.put, List.getElem_toArray, List.getElem_cons_zero, List.getElem_cons_succ, List.setIfInBounds_toArray, List.set_cons_zero, List.set_cons_succ]
                                              refine wpAnyH_ready (rs := [7]) (by kernel_rfl) (by simp) ?_
                                              refine AllReadyH.cons rfl (fun K hK => ?_) ?_
                                              · have HH7 : Hid (Hd S2 y5) := hHeld
                                                have lzz := Z1.lt
                                                have Z2 : Blk (y5.setRow gs (rs ++ ms).toArray) gs (rs ++ ms) := Z1.put
                                                have Bq2 := Bq.row (cs := (rs ++ ms).toArray) (c := gs) (by omega)
                                                have HB2 : Hid (Bs (y5.setRow gs (rs ++ ms).toArray) (.slice hao 48 hcap) S) := bs_row HBX.out HOb.out
                                                obtain ⟨tZ, hZ⟩ := Z1
                                                have hst := run_storeCells_at Tryd.prog gs 6 tZ ms 0 (rs ++ ss).toArray y5 hZ (by rw [List.size_toArray, List.length_append, HR.out.len, HS.out.len, HM.out.len]; omega) (fun u hu => by have := HM.out.ones; unfold OneR at this; rw [Array.all_eq_true_iff_forall_mem] at this; exact this u (by simpa using hu))
                                                have hrow : ((rs ++ ss).toArray.toList.take (6 + 0) ++ ms ++ (rs ++ ss).toArray.toList.drop (6 + 0 + ms.length)) = rs ++ ms := by
                                                  have h1 := HR.out.len
                                                  have h2 := HS.out.len
                                                  have h3 := HM.out.len
                                                  simp only [Nat.add_zero]
                                                  rw [List.take_append_of_le_length (by omega), List.take_of_length_le (by omega), List.drop_of_length_le (by rw [List.length_append]; omega), List.append_nil]
                                                rw [hrow] at hst
                                                have hl6 : ms.length = 6 := HM.out.len
                                                clear hrow hZ
                                                go_simp
                                                refine hK.out _ _ ?_ (fun hHeld2 => ?_)
                                                · exact KI2.out _ (below_setRow (KB2.out _ HH7.out) hlz _)
                                                · clear hK K
                                                  try clear hHeld
                                                  have hHeld := hHeld2
                                                  clear hHeld2
                                                  try simp only [Act.put, List.getElem_toArray, List.getElem_cons_zero, List.getElem_cons_succ, List.setIfInBounds_toArray, List.set_cons_zero, List.set_cons_succ]
                                                  clear hst hl6
                                                  refine wpAnyH_done (by kernel_rfl) ?_ _
                                                  refine NoPanic.normal ?_
                                                  have belY := KB2.out _ hHeld
                                                  clear hHeld Bq
                                                  generalize World.setRow y5 gs (rs ++ ms).toArray = Y at *
                                                  have l1 := Bq2.lt
                                                  have l2 := Z2.lt
                                                  have HLm : Hid ((rs ++ ms).length = 12) := by show _ = _; rw [List.length_append, HR.out.len, HM.out.len]
                                                  go_wp2_with (first | (refine wpList_load_run (by rfl) (by rfl) (by rfl) (Bq2.load Tryd.underlying37 rfl size_p HLq.out) ?_) | (refine wpList_load_run (by rfl) (by rfl) (by rfl) (Z2.load Tryd.underlying30 rfl size_s HLm.out) ?_) | fail)
                                                  refine (con_Verify (HG.out.below belY) HP.out HR.out HM.out HB2.out HSb.out).mono ?_
                                                  rintro e w9 ⟨er2, rfl, hv, hb⟩
                                                  obtain ⟨j2, hj2⟩ : ∃ j, InvO (QQ - sv) j := ⟨_, rfl⟩
                                                  have her2 : er2 = .nilIface := (((hv.2 rfl HAff.out).2 HSl.out).2 HN5.out.1 HSq.out j2 hj2).1 (by rw [← HPP.out]; exact holds_other HScd.out HSk.out (rest_bd _).1 HI.out HN5.out.2 (by rw [HSV.out]; exact hj2))
                                                  subst her2
                                                  clear hv hj2
                                                  replace belY := below_step belY hb
                                                  clear hb l1 l2
                                                  have q1 := eq_nilE
                                                  go_wp2_with fail
                                                  go_ret
                                                  exact ⟨rfl, belY⟩
                                              exact AllReadyH.nil
                                          exact AllReadyH.nil
                                      exact AllReadyH.nil
                                  exact AllReadyH.nil
                              exact AllReadyH.nil
                          refine AllReadyH.cons rfl (fun K hK => ?_) ?_
                          · rw [if_pos (by rfl)]
                            refine wp_load_run (by rfl) (by rfl) (load_u Z1 HS.out (app_at2 HR.out.len)) ?_
                            refine hK.out _ _ ?_ (fun hHeld2 => ?_)
                            · exact hHeld
                            · clear hK K
                              try clear hHeld
                              have hHeld := hHeld2
                              clear hHeld2
                              try simp only [Act.put, List.getElem_toArray, List.getElem_cons_zero, List.getElem_cons_succ, List.setIfInBounds_toArray, List.set_cons_zero, List.set_cons_succ]
                              refine wpAnyH_ready (rs := [0]) (by kernel_rfl) (by simp) ?_
                              refine AllReadyH.cons rfl (fun K hK => ?_) ?_
                              · go_simp
                                refine n_any.mono ?_
                                rintro e y0 ⟨v1, rfl, N1, hb⟩
                                refine hK.out _ _ ?_ (fun hHeld2 => ?_)
                                · exact KL2.out _ _ hHeld hb
                                · clear hK K
                                  try clear hHeld
                                  have hHeld := hHeld2
                                  clear hHeld2
                                  try simp only [Act.put, List.getElem_toArray, List.getElem_cons_zero, List.getElem_cons_succ, List.setIfInBounds_toArray, List.set_cons_zero, List.set_cons_succ]
                                  replace Z1 := Z1.later hb
                                  replace Bq := Bq.later hb
                                  replace HBX : Hid (Bs y0 (.slice hao 48 hcap) S) := HBX.out.later hb
                                  clear hb
                                  refine wpAnyH_ready (rs := [3]) (by kernel_rfl) (by simp) ?_
                                  refine AllReadyH.cons rfl (fun K hK => ?_) ?_
                                  · go_simp
                                    refine (uOf6 HS.out).mono ?_
                                    rintro e y3 ⟨v3, rfl, N3, hb⟩
                                    refine hK.out _ _ ?_ (fun hHeld2 => ?_)
                                    · exact KL2.out _ _ hHeld hb
                                    · clear hK K
                                      try clear hHeld
                                      have hHeld := hHeld2
                                      clear hHeld2
                                      try simp only [Act.put, List.getElem_toArray, List.getElem_cons_zero, List.getElem_cons_succ, List.setIfInBounds_toArray, List.set_cons_zero, List.set_cons_succ]
                                      replace Z1 := Z1.later hb
                                      replace Bq := Bq.later hb
                                      replace HBX : Hid (Bs y3 (.slice hao 48 hcap) S) := HBX.out.later hb
                                      replace N1 := N1.later hb
                                      clear hb
                                      refine wpAnyH_ready (rs := [4]) (by kernel_rfl) (by simp) ?_
                                      refine AllReadyH.cons rfl (fun K hK => ?_) ?_
                                      · go_simp
                                        refine (rsub_any _ _ _ _ _ N1 N3 (by decide) (by have := HN6.out.2; omega)).mono ?_
                                        rintro e y4 ⟨v4, rfl, N4, hb⟩
                                        refine hK.out _ _ ?_ (fun hHeld2 => ?_)
                                        · exact KL2.out _ _ hHeld hb
                                        · clear hK K
                                          try clear hHeld
                                          have hHeld := hHeld2
                                          clear hHeld2
                                          try simp only [Act.put, List.getElem_toArray, List.getElem_cons_zero, List.getElem_cons_succ, List.setIfInBounds_toArray, List.set_cons_zero, List.set_cons_succ]
                                          replace Z1 := Z1.later hb
                                          replace Bq := Bq.later hb
                                          replace HBX : Hid (Bs y4 (.slice hao 48 hcap) S) := HBX.out.later hb
                                          clear hb N1 N3
                                          refine wpAnyH_ready (rs := [5]) (by kernel_rfl) (by simp) ?_
                                          refine AllReadyH.cons rfl (fun K hK => ?_) ?_
                                          · go_simp
                                            refine (uTo6 N4 (by have := HN6.out.2; omega) (by have h1 := QQ_lt; have h2 := HN6.out.1; omega)).mono ?_
                                            rintro e y5 ⟨ms, rfl, hm, hb⟩
                                            refine hK.out _ _ ?_ (fun hHeld2 => ?_)
                                            · exact KL2.out _ _ hHeld hb
                                            · clear hK K
                                              try clear hHeld
                                              have hHeld := hHeld2
                                              clear hHeld2
                                              try simp only [Act.put, List.getElem_toArray, List.getElem_cons_zero, List.getElem_cons_succ, List.setIfInBounds_toArray, List.set_cons_zero, List.set_cons_succ]
                                              replace Z1 := Z1.later hb
                                              replace Bq := Bq.later hb
                                              replace HBX : Hid (Bs y5 (.slice hao 48 hcap) S) := HBX.out.later hb
                                              have HM : Hid (U6 ms (QQ - sv)) := hm
                                              clear hb N4 hm
                                              refine wpAnyH_take (i := 6) (v := ?_) rfl (by kernel_rfl) (by kernel_rfl) (by kernel_rfl) (fun _ _ _ h => h) (Or.inl ⟨by rfl, ?_⟩) (by assumption) ?_
                                              rotate_left
                                              · intro w hSw
                                                go_simp
                                                with_reducible rfl
                                              try simp only [Act.put, List.getElem_toArray, List.getElem_cons_zero, List.getElem_cons_succ, List.setIfInBounds_toArray, List.set_cons_zero, List.set_cons_succ]
                                              refine wpAnyH_ready (rs := [7]) (by kernel_rfl) (by simp) ?_
                                              refine AllReadyH.cons rfl (fun K hK => ?_) ?_
                                              · have HH7 : Hid (Hd S2 y5) := hHeld
                                                have lzz := Z1.lt
                                                have Z2 : Blk (y5.setRow gs (rs ++ ms).toArray) gs (rs ++ ms) := Z1.put
                                                have Bq2 := Bq.row (cs := (rs ++ ms).toArray) (c := gs) (by omega)
                                                have HB2 : Hid (Bs (y5.setRow gs (rs ++ ms).toArray) (.slice hao 48 hcap) S) := bs_row HBX.out HOb.out
                                                obtain ⟨tZ, hZ⟩ := Z1
                                                have hst := run_storeCells_at Tryd.prog gs 6 tZ ms 0 (rs ++ ss).toArray y5 hZ (by rw [List.size_toArray, List.length_append, HR.out.len, HS.out.len, HM.out.len]; omega) (fun u hu => by have := HM.out.ones; unfold OneR at this; rw [Array.all_eq_true_iff_forall_mem] at this; exact this u (by simpa using hu))
                                                have hrow : ((rs ++ ss).toArray.toList.take (6 + 0) ++ ms ++ (rs ++ ss).toArray.toList.drop (6 + 0 + ms.length)) = rs ++ ms := by
                                                  have h1 := HR.out.len
                                                  have h2 := HS.out.len
                                                  have h3 := HM.out.len
                                                  simp only [Nat.add_zero]
                                                  rw [List.take_append_of_le_length (by omega), List.take_of_length_le (by omega), List.drop_of_length_le (by rw [List.length_append]; omega), List.append_nil]
                                                rw [hrow] at hst
                                                have hl6 : ms.length = 6 := HM.out.len
                                                clear hrow hZ
                                                go_simp
                                                refine hK.out _ _ ?_ (fun hHeld2 => ?_)
                                                · exact KI2.out _ (below_setRow (KB2.out _ HH7.out) hlz _)
                                                · clear hK K
                                                  try clear hHeld
                                                  have hHeld := hHeld2
                                                  clear hHeld2
                                                  try simp only [Act.put, List.getElem_toArray, List.getElem_cons_zero, List.getElem_cons_succ, List.setIfInBounds_toArray, List.set_cons_zero, List.set_cons_succ]
                                                  clear hst hl6
                                                  refine wpAnyH_done (by kernel_rfl) ?_ _
                                                  refine NoPanic.normal ?_
                                                  have belY := KB2.out _ hHeld
                                                  clear hHeld Bq
                                                  generalize World.setRow y5 gs (rs ++ ms).toArray = Y at *
                                                  have l1 := Bq2.lt
                                                  have l2 := Z2.lt
                                                  have HLm : Hid ((rs ++ ms).length = 12) := by show _ = _; rw [List.length_append, HR.out.len, HM.out.len]
                                                  go_wp2_with (first | (refine wpList_load_run (by rfl) (by rfl) (by rfl) (Bq2.load Tryd.underlying37 rfl size_p HLq.out) ?_) | (refine wpList_load_run (by rfl) (by rfl) (by rfl) (Z2.load Tryd.underlying30 rfl size_s HLm.out) ?_) | fail)
                                                  refine (con_Verify (HG.out.below belY) HP.out HR.out HM.out HB2.out HSb.out).mono ?_
                                                  rintro e w9 ⟨er2, rfl, hv, hb⟩
                                                  obtain ⟨j2, hj2⟩ : ∃ j, InvO (QQ - sv) j := ⟨_, rfl⟩
                                                  have her2 : er2 = .nilIface := (((hv.2 rfl HAff.out).2 HSl.out).2 HN5.out.1 HSq.out j2 hj2).1 (by rw [← HPP.out]; exact holds_other HScd.out HSk.out (rest_bd _).1 HI.out HN5.out.2 (by rw [HSV.out]; exact hj2))
                                                  subst her2
                                                  clear hv hj2
                                                  replace belY := below_step belY hb
                                                  clear hb l1 l2
                                                  have q1 := eq_nilE
                                                  go_wp2_with fail
                                                  go_ret
                                                  exact ⟨rfl, belY⟩
                                              exact AllReadyH.nil
                                          exact AllReadyH.nil
                                      exact AllReadyH.nil
                                  exact AllReadyH.nil
                              exact AllReadyH.nil
                          exact AllReadyH.nil
                      exact AllReadyH.nil
                  exact AllReadyH.nil
              exact AllReadyH.nil
          exact AllReadyH.nil
      refine AllReadyH.cons rfl (fun K hK => ?_) ?_
      · have HH0 : Hid (Hd S1 wd1) := hHeld
        have hz := zero_s.out
        go_simp
        refine hK.out _ _ ?_ (fun hHeld2 => ?_)
        · exact KA1.out _ _ hHeld
        · clear hK K
          try clear hHeld
          have hHeld := hHeld2
          clear hHeld2
          try simp only [Act.put, List.getElem_toArray, List.getElem_cons_zero, List.getElem_cons_succ, List.setIfInBounds_toArray, List.set_cons_zero, List.set_cons_succ]
          clear hz
          have Z0 := Blk.new wd1 [.int .u64 0, .int .u64 0, .int .u64 0, .int .u64 0, .int .u64 0, .int .u64 0, .int .u64 0, .int .u64 0, .int .u64 0, .int .u64 0, .int .u64 0, .int .u64 0] 30 wd1.heap.size rfl
          obtain ⟨gs, hgs⟩ : ∃ g, g = wd1.heap.size := ⟨_, rfl⟩
          have lgs : wr.heap.size ≤ gs := by rw [hgs]; exact (KB1.out _ HH0.out).size
          rw [← hgs] at Z0 ⊢
          clear hgs HH0
          refine wpAnyH_ready (rs := [2]) (by kernel_rfl) (by simp) ?_
          refine AllReadyH.cons rfl (fun K hK => ?_) ?_
          · go_simp
            refine (con_known (HG.out.below (below_step bel1 (KB1.out _ hHeld))).2 HK.out).mono ?_
            rintro e w3 ⟨fs, yk, rfl, hu, hsk, hb⟩
            refine hK.out _ _ ?_ (fun hHeld2 => ?_)
            · exact KL1.out _ _ hHeld hb
            · clear hK K
              try clear hHeld
              have hHeld := hHeld2
              clear hHeld2
              try simp only [Act.put, List.getElem_toArray, List.getElem_cons_zero, List.getElem_cons_succ, List.setIfInBounds_toArray, List.set_cons_zero, List.set_cons_succ]
              replace Z0 := Z0.later hb
              have HFk : Hid (U6 fs yk) := hu
              have HSk : Hid (isSc yk) := hsk
              clear hu hsk hb
              refine wpAnyH_ready (rs := [4]) (by kernel_rfl) (by simp) ?_
              refine AllReadyH.cons rfl (fun K hK => ?_) ?_
              · go_simp
                refine (con_Sign (HG.out.below (below_step bel1 (KB1.out _ hHeld))) HE.out HFk.out (HBs.out.later (KB1.out _ hHeld)) HSb.out).mono ?_
                rintro e w4 ⟨rs, ss, sr, sv, er, rfl, hr, hs, hsg, hb⟩
                refine hK.out _ _ ?_ (fun hHeld2 => ?_)
                · exact KL1.out _ _ hHeld hb
                · clear hK K
                  try clear hHeld
                  have hHeld := hHeld2
                  clear hHeld2
                  try simp only [Act.put, List.getElem_toArray, List.getElem_cons_zero, List.getElem_cons_succ, List.setIfInBounds_toArray, List.set_cons_zero, List.set_cons_succ]
                  replace Z0 := Z0.later hb
                  have HR : Hid (U6 rs sr) := hr
                  have HS : Hid (U6 ss sv) := hs
                  have HSg : Hid (SignIs yd yk S sr sv er) := hsg
                  clear hr hs hsg hb
                  refine wpAnyH_take (i := 5) (v := ?_) rfl (by kernel_rfl) (by kernel_rfl) (by kernel_rfl) (fun _ _ _ h => h) (Or.inl ⟨by rfl, ?_⟩) (by assumption) ?_
                  rotate_left
                  · intro w hSw
                    go_simp
                    with_reducible rfl
                  try simp only [Act.put, List.getElem_toArray, List.getElem_cons_zero, List.getElem_cons_succ, List.setIfInBounds_toArray, List.set_cons_zero, List.set_cons_succ]
                  refine wpAnyH_take (i := 6) (v := ?_) rfl (by kernel_rfl) (by kernel_rfl) (by kernel_rfl) (fun _ _ _ h => h) (Or.inl ⟨by rfl, ?_⟩) (by assumption) ?_
                  rotate_left
                  · intro w hSw
                    go_simp
                    with_reducible rfl
                  try simp only [Act.put, List.getElem_toArray, List.getElem_cons_zero, List.getElem_cons_succ, List.setIfInBounds_toArray, List.set_cons_zero, List.set_cons_succ]
                  refine wpAnyH_take (i := 7) (v := ?_) rfl (by kernel_rfl) (by kernel_rfl) (by kernel_rfl) (fun _ _ _ h => h) (Or.inl ⟨by rfl, ?_⟩) (by assumption) ?_
                  rotate_left
                  · intro w hSw
                    go_simp
                    with_reducible rfl
                  try simp only [Act.put, List.getElem_toArray, List.getElem_cons_zero, List.getElem_cons_succ, List.setIfInBounds_toArray, List.set_cons_zero, List.set_cons_succ]
                  refine wpAnyH_ready (rs := [9]) (by kernel_rfl) (by simp) ?_
                  refine AllReadyH.cons rfl (fun K hK => ?_) ?_
                  · have HH9 : Hid (Hd S1 _) := hHeld
                    have HLs : Hid ((rs ++ ss).length = 12) := by show _ = _; rw [List.length_append, HR.out.len, HS.out.len]
                    have HSs : Hid ((rs ++ ss).toArray.size = 12) := by show _ = _; rw [List.size_toArray]; exact HLs.out
                    have HOs : Hid (OneR (rs ++ ss)) := HR.out.ones.app HS.out.ones
                    have Z1 : Blk _ gs (rs ++ ss) := Z0.put
                    obtain ⟨tZ, hZ⟩ := Z0
                    rw [if_pos (by rfl)]
                    refine wp_store_row 30 _ _ rfl gs (rs ++ ss).toArray rfl rfl tZ _ hZ (by rw [size_s, HSs.out]) (by rw [HSs.out]; rfl) HOs.out ?_
                    have bel9 := below_setRow (KB1.out _ HH9.out) lgs (rs ++ ss).toArray
                    refine hK.out _ _ ?_ (fun hHeld2 => ?_)
                    · exact KI1.out _ bel9
                    · clear hK K
                      try clear hHeld
                      have hHeld := hHeld2
                      clear hHeld2
                      try simp only [Act.put, List.getElem_toArray, List.getElem_cons_zero, List.getElem_cons_succ, List.setIfInBounds_toArray, List.set_cons_zero, List.set_cons_succ]
                      clear hZ
                      refine wpAnyH_ready (rs := [10]) (by kernel_rfl) (by simp) ?_
                      refine AllReadyH.cons rfl (fun K hK => ?_) ?_
                      · go_simp
                        refine hK.out _ _ ?_ (fun hHeld2 => ?_)
                        · exact hHeld
                        · clear hK K
                          try clear hHeld
                          have hHeld := hHeld2
                          clear hHeld2
                          try simp only [Act.put, List.getElem_toArray, List.getElem_cons_zero, List.getElem_cons_succ, List.setIfInBounds_toArray, List.set_cons_zero, List.set_cons_succ]
                          refine wpAnyH_done (by kernel_rfl) ?_ _
                          refine NoPanic.normal ?_
                          generalize World.setRow w4 _ _ = X at *
                          have D1 := HD1.out.later bel9
                          have belX := bel1.trans (bel9.mono bel1.size)
                          have HBX : Hid (Bs X (.slice hao 48 hcap) S) := HBs.out.later bel9
                          clear rd rk hHeld bel9
                          obtain ⟨i, hi⟩ : ∃ i, InvO yk i := ⟨_, rfl⟩
                          have HI : Hid (InvO yk i) := hi
                          have HRes : Hid _ := (HSg.out.2 HScd.out HSk.out).2 HSl.out i hi
                          clear hi
                          by_cases c5 : sigR yk = 0 ∨ sigS yd (sigR yk) (beN S % QQ) i = 0
                          · obtain ⟨her, _, _⟩ := HRes.out.1 c5
                            replace her : er = .iface 35 (.int .i64 10) := her
                            subst her
                            have q1 := iface_eqE 10
                            have q3 := ne_codeE
                            clear c5
                            go_wp2_with fail
                            go_ret
                            exact ⟨rfl, belX⟩
                          obtain ⟨rfl, rfl, rfl⟩ := HRes.out.2 c5
                          have HN5 : Hid (isSc (sigR yk) ∧ isSc (sigS yd (sigR yk) (beN S % QQ) i)) := by
                            have b1 := sigR_bd yk
                            have b2 := sigS_bd yd (sigR yk) (beN S % QQ) i
                            exact ⟨⟨by omega, b1.2⟩, ⟨by omega, b2.2⟩⟩
                          clear c5
                          have q3 := ne_nilE
                          have l1 := D1.lt
                          go_wp2_with (first | (refine wpList_load_run (by rfl) (by rfl) (by rfl) (D1.load Tryd.underlying24 rfl size_u HLd.out) ?_) | fail)
                          refine (uBase (HG.out.below belX).1 HE.out).mono ?_
                          rintro e w5 ⟨ps, rfl, hp, hb⟩
                          replace D1 := D1.later hb
                          replace Z1 := Z1.later hb
                          replace HBX : Hid (Bs w5 (.slice hao 48 hcap) S) := HBX.out.later hb
                          have bel := below_step belX hb
                          clear hb belX l1 q3
                          obtain ⟨PX, PY, hPP⟩ : ∃ a b, cmul yd.toNat GG = some (a, b) := by
                            cases hq : cmul yd.toNat GG with
                            | none => exact absurd hq (base_some HScd.out)
                            | some p => exact ⟨p.1, p.2, rfl⟩
                          have HPP : Hid (cmul yd.toNat GG = some (PX, PY)) := hPP
                          have HAff : Hid (Aff PX PY) := by have h := on_cmul on_G yd.toNat; rw [hPP] at h; exact h
                          rw [hPP] at hp
                          have HP : Hid (P13R ps PX PY false) := hp.rawS
                          clear hp hPP
                          have lzq := Z1.lt
                          have HLq : Hid (ps.length = 13) := HP.out.len
                          have HSq : Hid (ps.toArray.size = 13) := by show _ = _; rw [List.size_toArray]; exact HLq.out
                          have HOq : Hid (OneR ps) := HP.out.ones
                          replace D1 := D1.alloc (.cells ps.toArray 37)
                          replace Z1 := Z1.alloc (.cells ps.toArray 37)
                          replace bel := below_alloc (o := .cells ps.toArray 37) bel
                          have Bq := Blk.new w5 ps 37 w5.heap.size rfl
                          replace HBX : Hid (Bs (w5.alloc (.cells ps.toArray 37)) (.slice hao 48 hcap) S) := HBX.out.later ((Below.refl _ _).alloc (Nat.le_refl _) _)
                          have hz := zero_p.out
                          go_upto_region 12 with (first | (refine wpList_store_row rfl 37 _ _ rfl w5.heap.size ps.toArray rfl rfl 37 _ (heap_alloc_last _ _) (by rw [size_p, HSq.out]) (by rw [HSq.out]; rfl) HOq.out ?_; rw [World.setRow_alloc_new]) | fail)
                          clear hz
                          obtain ⟨gq, hgq⟩ : ∃ g, g = w5.heap.size := ⟨_, rfl⟩
                          rw [← hgq] at Bq lzq
                          generalize w5.alloc (.cells ps.toArray 37) = Vq at *
                          rw [← hgq]
                          clear hgq
                          have l1 := Bq.lt
                          have l2 := Z1.lt
                          go_wp2_with (first | (refine wpList_load_run (by rfl) (by rfl) (by rfl) (Bq.load Tryd.underlying37 rfl size_p HLq.out) ?_) | (refine wpList_load_run (by rfl) (by rfl) (by rfl) (Z1.load Tryd.underlying30 rfl size_s HLs.out) ?_) | fail)
                          refine (con_Verify (HG.out.below bel) HP.out HR.out HS.out HBX.out HSb.out).mono ?_
                          rintro e w6 ⟨er1, rfl, hv, hb⟩
                          obtain ⟨j, hj⟩ : ∃ j, InvO (sigS yd (sigR yk) (beN S % QQ) i) j := ⟨_, rfl⟩
                          have her1 : er1 = .nilIface := (((hv.2 rfl HAff.out).2 HSl.out).2 HN5.out.1 HN5.out.2 j hj).1 (by rw [← HPP.out]; exact holds_ok HScd.out HSk.out (rest_bd _).1 HI.out HN5.out.2 hj)
                          subst her1
                          clear hv hj
                          replace Bq := Bq.later hb
                          replace Z1 := Z1.later hb
                          replace HBX : Hid (Bs w6 (.slice hao 48 hcap) S) := HBX.out.later hb
                          replace bel := below_step bel hb
                          clear hb l1 l2 D1
                          go_upto_region 13 with fail
                          have hlz : w.heap.size ≤ gs := by have := bel1.size; omega
                          have HOb : Hid (∀ a, hao = some a → a.block ≠ gs) := fun a ha => by have := HOlt.out a ha; omega
                          have HSq : Hid (isSc (QQ - sigS yd (sigR yk) (beN S % QQ) i)) := by
                            have h1 := HN5.out.2.1
                            have h2 := HN5.out.2.2
                            exact ⟨by omega, by omega⟩
                          obtain ⟨sv, hsv⟩ : ∃ sv, sigS yd (sigR yk) (beN S % QQ) i = sv := ⟨_, rfl⟩
                          have HSV : Hid (sigS yd (sigR yk) (beN S % QQ) i = sv) := hsv
                          rw [hsv] at HS HSq
                          have HN6 : Hid (isSc sv) := by have := HN5.out.2; rw [hsv] at this; exact this
                          clear hsv
                          obtain ⟨S2, hS2, KB2, KI2, KD2, KL2, KA2⟩ : ∃ S : World → Prop, Hd S w6 ∧ Hid (∀ wx, Hd S wx → Below w.heap.size w wx) ∧ Hid (∀ wx, Below w.heap.size w wx → Hd S wx) ∧ Hid (∀ wx, Hd S wx → Hd S wx.drew) ∧ Hid (∀ w1 w2, Hd S w1 → Below w1.heap.size w1 w2 → Hd S w2) ∧ Hid (∀ w1 o, Hd S w1 → Hd S (w1.alloc o)) := ⟨fun wx => Below w.heap.size w wx, bel, fun _ h => h, fun _ h => h, fun wx h => Below.drew h, fun w1 w2 h hb => below_step h hb, fun w1 o h => Below.alloc h h.size o⟩
                          refine wp_region_noPanic ?_
                          refine wp_region_held_drew (S := Hd S2) (by kernel_rfl) (KD2.out _ hS2) (fun hHeld => ?_)
                          clear hS2
                          have hdw : Below w6.heap.size w6 w6.drew := (Below.refl _ _).drew
                          replace Z1 := Z1.later hdw
                          replace Bq := Bq.later hdw
                          replace HBX : Hid (Bs w6.drew (.slice hao 48 hcap) S) := HBX.out.later hdw
                          clear hdw
                          generalize World.drew _ = wd2 at *
                          refine wpAnyH_take (i := 1) (v := ?_) rfl (by kernel_rfl) (by kernel_rfl) (by kernel_rfl) (fun _ _ _ h => h) (Or.inl ⟨by rfl, ?_⟩) (by assumption) ?_
                          rotate_left
                          · intro w hSw
                            go_simp
                            with_reducible rfl
                          try simp only [Act.put, List.getElem_toArray, List.getElem_cons_zero, List.getElem_cons_succ, List.setIfInBounds_toArray, List.set_cons_zero, List.set_cons_succ]
                          refine wpAnyH_ready (rs := [0, 2]) (by kernel_rfl) (by simp) ?_
                          refine AllReadyH.cons rfl (fun K hK => ?_) ?_
                          · go_simp
                            refine n_any.mono ?_
                            rintro e y0 ⟨v1, rfl, N1, hb⟩
                            refine hK.out _ _ ?_ (fun hHeld2 => ?_)
                            · exact KL2.out _ _ hHeld hb
                            · clear hK K
                              try clear hHeld
                              have hHeld := hHeld2
                              clear hHeld2
                              try simp only [Act.put, List.getElem_toArray, List.getElem_cons_zero, List.getElem_cons_succ, List.setIfInBounds_toArray, List.set_cons_zero, List.set_cons_succ]
                              replace Z1 := Z1.later hb
                              replace Bq := Bq.later hb
                              replace HBX : Hid (Bs y0 (.slice hao 48 hcap) S) := HBX.out.later hb
                              clear hb
                              refine wpAnyH_ready (rs := [2]) (by kernel_rfl) (by simp) ?_
                              refine AllReadyH.cons rfl (fun K hK => ?_) ?_
                              · rw [if_pos (by rfl)]
                                refine wp_load_run (by rfl) (by rfl) (load_u Z1 HS.out (app_at2 HR.out.len)) ?_
                                refine hK.out _ _ ?_ (fun hHeld2 => ?_)
                                · exact hHeld
                                · clear hK K
                                  try clear hHeld
                                  have hHeld := hHeld2
                                  clear hHeld2
                                  try simp only [Act.put, List.getElem_toArray, List.getElem_cons_zero, List.getElem_cons_succ, List.setIfInBounds_toArray, List.set_cons_zero, List.set_cons_succ]
                                  refine wpAnyH_ready (rs := [3]) (by kernel_rfl) (by simp) ?_
                                  refine AllReadyH.cons rfl (fun K hK => ?_) ?_
                                  · go_simp
                                    refine (uOf6 HS.out).mono ?_
                                    rintro e y3 ⟨v3, rfl, N3, hb⟩
                                    refine hK.out _ _ ?_ (fun hHeld2 => ?_)
                                    · exact KL2.out _ _ hHeld hb
                                    · clear hK K
                                      try clear hHeld
                                      have hHeld := hHeld2
                                      clear hHeld2
                                      try simp only [Act.put, List.getElem_toArray, List.getElem_cons_zero, List.getElem_cons_succ, List.setIfInBounds_toArray, List.set_cons_zero, List.set_cons_succ]
                                      replace Z1 := Z1.later hb
                                      replace Bq := Bq.later hb
                                      replace HBX : Hid (Bs y3 (.slice hao 48 hcap) S) := HBX.out.later hb
                                      replace N1 := N1.later hb
                                      clear hb
                                      refine wpAnyH_ready (rs := [4]) (by kernel_rfl) (by simp) ?_
                                      refine AllReadyH.cons rfl (fun K hK => ?_) ?_
                                      · go_simp
                                        refine (rsub_any _ _ _ _ _ N1 N3 (by decide) (by have := HN6.out.2; omega)).mono ?_
                                        rintro e y4 ⟨v4, rfl, N4, hb⟩
                                        refine hK.out _ _ ?_ (fun hHeld2 => ?_)
                                        · exact KL2.out _ _ hHeld hb
                                        · clear hK K
                                          try clear hHeld
                                          have hHeld := hHeld2
                                          clear hHeld2
                                          try simp only [Act.put, List.getElem_toArray, List.getElem_cons_zero, List.getElem_cons_succ, List.setIfInBounds_toArray, List.set_cons_zero, List.set_cons_succ]
                                          replace Z1 := Z1.later hb
                                          replace Bq := Bq.later hb
                                          replace HBX : Hid (Bs y4 (.slice hao 48 hcap) S) := HBX.out.later hb
                                          clear hb N1 N3
                                          refine wpAnyH_ready (rs := [5]) (by kernel_rfl) (by simp) ?_
                                          refine AllReadyH.cons rfl (fun K hK => ?_) ?_
                                          · go_simp
                                            refine (uTo6 N4 (by have := HN6.out.2; omega) (by have h1 := QQ_lt; have h2 := HN6.out.1; omega)).mono ?_
                                            rintro e y5 ⟨ms, rfl, hm, hb⟩
                                            refine hK.out _ _ ?_ (fun hHeld2 => ?_)
                                            · exact KL2.out _ _ hHeld hb
                                            · clear hK K
                                              try clear hHeld
                                              have hHeld := hHeld2
                                              clear hHeld2
                                              try simp only [Act.put, List.getElem_toArray, List.getElem_cons_zero, List.getElem_cons_succ, List.setIfInBounds_toArray, List.set_cons_zero, List.set_cons_succ]
                                              replace Z1 := Z1.later hb
                                              replace Bq := Bq.later hb
                                              replace HBX : Hid (Bs y5 (.slice hao 48 hcap) S) := HBX.out.later hb
                                              have HM : Hid (U6 ms (QQ - sv)) := hm
                                              clear hb N4 hm
                                              refine wpAnyH_take (i := 6) (v := ?_) rfl (by kernel_rfl) (by kernel_rfl) (by kernel_rfl) (fun _ _ _ h => h) (Or.inl ⟨by rfl, ?_⟩) (by assumption) ?_
                                              rotate_left
                                              · intro w hSw
                                                go_simp
                                                with_reducible rfl
                                              try simp only [Act.put, List.getElem_toArray, List.getElem_cons_zero, List.getElem_cons_succ, List.setIfInBounds_toArray, List.set_cons_zero, List.set_cons_succ]
                                              refine wpAnyH_ready (rs := [7]) (by kernel_rfl) (by simp) ?_
                                              refine AllReadyH.cons rfl (fun K hK => ?_) ?_
                                              · have HH7 : Hid (Hd S2 y5) := hHeld
                                                have lzz := Z1.lt
                                                have Z2 : Blk (y5.setRow gs (rs ++ ms).toArray) gs (rs ++ ms) := Z1.put
                                                have Bq2 := Bq.row (cs := (rs ++ ms).toArray) (c := gs) (by omega)
                                                have HB2 : Hid (Bs (y5.setRow gs (rs ++ ms).toArray) (.slice hao 48 hcap) S) := bs_row HBX.out HOb.out
                                                obtain ⟨tZ, hZ⟩ := Z1
                                                have hst := run_storeCells_at Tryd.prog gs 6 tZ ms 0 (rs ++ ss).toArray y5 hZ (by rw [List.size_toArray, List.length_append, HR.out.len, HS.out.len, HM.out.len]; omega) (fun u hu => by have := HM.out.ones; unfold OneR at this; rw [Array.all_eq_true_iff_forall_mem] at this; exact this u (by simpa using hu))
                                                have hrow : ((rs ++ ss).toArray.toList.take (6 + 0) ++ ms ++ (rs ++ ss).toArray.toList.drop (6 + 0 + ms.length)) = rs ++ ms := by
                                                  have h1 := HR.out.len
                                                  have h2 := HS.out.len
                                                  have h3 := HM.out.len
                                                  simp only [Nat.add_zero]
                                                  rw [List.take_append_of_le_length (by omega), List.take_of_length_le (by omega), List.drop_of_length_le (by rw [List.length_append]; omega), List.append_nil]
                                                rw [hrow] at hst
                                                have hl6 : ms.length = 6 := HM.out.len
                                                clear hrow hZ
                                                go_simp
                                                refine hK.out _ _ ?_ (fun hHeld2 => ?_)
                                                · exact KI2.out _ (below_setRow (KB2.out _ HH7.out) hlz _)
                                                · clear hK K
                                                  try clear hHeld
                                                  have hHeld := hHeld2
                                                  clear hHeld2
                                                  try simp only [Act.put, List.getElem_toArray, List.getElem_cons_zero, List.getElem_cons_succ, List.setIfInBounds_toArray, List.set_cons_zero, List.set_cons_succ]
                                                  clear hst hl6
                                                  refine wpAnyH_done (by kernel_rfl) ?_ _
                                                  refine NoPanic.normal ?_
                                                  have belY := KB2.out _ hHeld
                                                  clear hHeld Bq
                                                  generalize World.setRow y5 gs (rs ++ ms).toArray = Y at *
                                                  have l1 := Bq2.lt
                                                  have l2 := Z2.lt
                                                  have HLm : Hid ((rs ++ ms).length = 12) := by show _ = _; rw [List.length_append, HR.out.len, HM.out.len]
                                                  go_wp2_with (first | (refine wpList_load_run (by rfl) (by rfl) (by rfl) (Bq2.load Tryd.underlying37 rfl size_p HLq.out) ?_) | (refine wpList_load_run (by rfl) (by rfl) (by rfl) (Z2.load Tryd.underlying30 rfl size_s HLm.out) ?_) | fail)
                                                  refine (con_Verify (HG.out.below belY) HP.out HR.out HM.out HB2.out HSb.out).mono ?_
                                                  rintro e w9 ⟨er2, rfl, hv, hb⟩
                                                  obtain ⟨j2, hj2⟩ : ∃ j, InvO (QQ - sv) j := ⟨_, rfl⟩
                                                  have her2 : er2 = .nilIface := (((hv.2 rfl HAff.out).2 HSl.out).2 HN5.out.1 HSq.out j2 hj2).1 (by rw [← HPP.out]; exact holds_other HScd.out HSk.out (rest_bd _).1 HI.out HN5.out.2 (by rw [HSV.out]; exact hj2))
                                                  subst her2
                                                  clear hv hj2
                                                  replace belY := below_step belY hb
                                                  clear hb l1 l2
                                                  have q1 := eq_nilE
                                                  go_wp2_with fail
                                                  go_ret
                                                  exact ⟨rfl, belY⟩
                                              exact AllReadyH.nil
                                          exact AllReadyH.nil
                                      exact AllReadyH.nil
                                  exact AllReadyH.nil
                              exact AllReadyH.nil
                          refine AllReadyH.cons rfl (fun K hK => ?_) ?_
                          · rw [if_pos (by rfl)]
                            refine wp_load_run (by rfl) (by rfl) (load_u Z1 HS.out (app_at2 HR.out.len)) ?_
                            refine hK.out _ _ ?_ (fun hHeld2 => ?_)
                            · exact hHeld
                            · clear hK K
                              try clear hHeld
                              have hHeld := hHeld2
                              clear hHeld2
                              try simp only [Act.put, List.getElem_toArray, List.getElem_cons_zero, List.getElem_cons_succ, List.setIfInBounds_toArray, List.set_cons_zero, List.set_cons_succ]
                              refine wpAnyH_ready (rs := [0]) (by kernel_rfl) (by simp) ?_
                              refine AllReadyH.cons rfl (fun K hK => ?_) ?_
                              · go_simp
                                refine n_any.mono ?_
                                rintro e y0 ⟨v1, rfl, N1, hb⟩
                                refine hK.out _ _ ?_ (fun hHeld2 => ?_)
                                · exact KL2.out _ _ hHeld hb
                                · clear hK K
                                  try clear hHeld
                                  have hHeld := hHeld2
                                  clear hHeld2
                                  try simp only [Act.put, List.getElem_toArray, List.getElem_cons_zero, List.getElem_cons_succ, List.setIfInBounds_toArray, List.set_cons_zero, List.set_cons_succ]
                                  replace Z1 := Z1.later hb
                                  replace Bq := Bq.later hb
                                  replace HBX : Hid (Bs y0 (.slice hao 48 hcap) S) := HBX.out.later hb
                                  clear hb
                                  refine wpAnyH_ready (rs := [3]) (by kernel_rfl) (by simp) ?_
                                  refine AllReadyH.cons rfl (fun K hK => ?_) ?_
                                  · go_simp
                                    refine (uOf6 HS.out).mono ?_
                                    rintro e y3 ⟨v3, rfl, N3, hb⟩
                                    refine hK.out _ _ ?_ (fun hHeld2 => ?_)
                                    · exact KL2.out _ _ hHeld hb
                                    · clear hK K
                                      try clear hHeld
                                      have hHeld := hHeld2
                                      clear hHeld2
                                      try simp only [Act.put, List.getElem_toArray, List.getElem_cons_zero, List.getElem_cons_succ, List.setIfInBounds_toArray, List.set_cons_zero, List.set_cons_succ]
                                      replace Z1 := Z1.later hb
                                      replace Bq := Bq.later hb
                                      replace HBX : Hid (Bs y3 (.slice hao 48 hcap) S) := HBX.out.later hb
                                      replace N1 := N1.later hb
                                      clear hb
                                      refine wpAnyH_ready (rs := [4]) (by kernel_rfl) (by simp) ?_
                                      refine AllReadyH.cons rfl (fun K hK => ?_) ?_
                                      · go_simp
                                        refine (rsub_any _ _ _ _ _ N1 N3 (by decide) (by have := HN6.out.2; omega)).mono ?_
                                        rintro e y4 ⟨v4, rfl, N4, hb⟩
                                        refine hK.out _ _ ?_ (fun hHeld2 => ?_)
                                        · exact KL2.out _ _ hHeld hb
                                        · clear hK K
                                          try clear hHeld
                                          have hHeld := hHeld2
                                          clear hHeld2
                                          try simp only [Act.put, List.getElem_toArray, List.getElem_cons_zero, List.getElem_cons_succ, List.setIfInBounds_toArray, List.set_cons_zero, List.set_cons_succ]
                                          replace Z1 := Z1.later hb
                                          replace Bq := Bq.later hb
                                          replace HBX : Hid (Bs y4 (.slice hao 48 hcap) S) := HBX.out.later hb
                                          clear hb N1 N3
                                          refine wpAnyH_ready (rs := [5]) (by kernel_rfl) (by simp) ?_
                                          refine AllReadyH.cons rfl (fun K hK => ?_) ?_
                                          · go_simp
                                            refine (uTo6 N4 (by have := HN6.out.2; omega) (by have h1 := QQ_lt; have h2 := HN6.out.1; omega)).mono ?_
                                            rintro e y5 ⟨ms, rfl, hm, hb⟩
                                            refine hK.out _ _ ?_ (fun hHeld2 => ?_)
                                            · exact KL2.out _ _ hHeld hb
                                            · clear hK K
                                              try clear hHeld
                                              have hHeld := hHeld2
                                              clear hHeld2
                                              try simp only [Act.put, List.getElem_toArray, List.getElem_cons_zero, List.getElem_cons_succ, List.setIfInBounds_toArray, List.set_cons_zero, List.set_cons_succ]
                                              replace Z1 := Z1.later hb
                                              replace Bq := Bq.later hb
                                              replace HBX : Hid (Bs y5 (.slice hao 48 hcap) S) := HBX.out.later hb
                                              have HM : Hid (U6 ms (QQ - sv)) := hm
                                              clear hb N4 hm
                                              refine wpAnyH_take (i := 6) (v := ?_) rfl (by kernel_rfl) (by kernel_rfl) (by kernel_rfl) (fun _ _ _ h => h) (Or.inl ⟨by rfl, ?_⟩) (by assumption) ?_
                                              rotate_left
                                              · intro w hSw
                                                go_simp
                                                with_reducible rfl
                                              try simp only [Act.put, List.getElem_toArray, List.getElem_cons_zero, List.getElem_cons_succ, List.setIfInBounds_toArray, List.set_cons_zero, List.set_cons_succ]
                                              refine wpAnyH_ready (rs := [7]) (by kernel_rfl) (by simp) ?_
                                              refine AllReadyH.cons rfl (fun K hK => ?_) ?_
                                              · have HH7 : Hid (Hd S2 y5) := hHeld
                                                have lzz := Z1.lt
                                                have Z2 : Blk (y5.setRow gs (rs ++ ms).toArray) gs (rs ++ ms) := Z1.put
                                                have Bq2 := Bq.row (cs := (rs ++ ms).toArray) (c := gs) (by omega)
                                                have HB2 : Hid (Bs (y5.setRow gs (rs ++ ms).toArray) (.slice hao 48 hcap) S) := bs_row HBX.out HOb.out
                                                obtain ⟨tZ, hZ⟩ := Z1
                                                have hst := run_storeCells_at Tryd.prog gs 6 tZ ms 0 (rs ++ ss).toArray y5 hZ (by rw [List.size_toArray, List.length_append, HR.out.len, HS.out.len, HM.out.len]; omega) (fun u hu => by have := HM.out.ones; unfold OneR at this; rw [Array.all_eq_true_iff_forall_mem] at this; exact this u (by simpa using hu))
                                                have hrow : ((rs ++ ss).toArray.toList.take (6 + 0) ++ ms ++ (rs ++ ss).toArray.toList.drop (6 + 0 + ms.length)) = rs ++ ms := by
                                                  have h1 := HR.out.len
                                                  have h2 := HS.out.len
                                                  have h3 := HM.out.len
                                                  simp only [Nat.add_zero]
                                                  rw [List.take_append_of_le_length (by omega), List.take_of_length_le (by omega), List.drop_of_length_le (by rw [List.length_append]; omega), List.append_nil]
                                                rw [hrow] at hst
                                                have hl6 : ms.length = 6 := HM.out.len
                                                clear hrow hZ
                                                go_simp
                                                refine hK.out _ _ ?_ (fun hHeld2 => ?_)
                                                · exact KI2.out _ (below_setRow (KB2.out _ HH7.out) hlz _)
                                                · clear hK K
                                                  try clear hHeld
                                                  have hHeld := hHeld2
                                                  clear hHeld2
                                                  try simp only [Act.put, List.getElem_toArray, List.getElem_cons_zero, List.getElem_cons_succ, List.setIfInBounds_toArray, List.set_cons_zero, List.set_cons_succ]
                                                  clear hst hl6
                                                  refine wpAnyH_done (by kernel_rfl) ?_ _
                                                  refine NoPanic.normal ?_
                                                  have belY := KB2.out _ hHeld
                                                  clear hHeld Bq
                                                  generalize World.setRow y5 gs (rs ++ ms).toArray = Y at *
                                                  have l1 := Bq2.lt
                                                  have l2 := Z2.lt
                                                  have HLm : Hid ((rs ++ ms).length = 12) := by show _ = _; rw [List.length_append, HR.out.len, HM.out.len]
                                                  go_wp2_with (first | (refine wpList_load_run (by rfl) (by rfl) (by rfl) (Bq2.load Tryd.underlying37 rfl size_p HLq.out) ?_) | (refine wpList_load_run (by rfl) (by rfl) (by rfl) (Z2.load Tryd.underlying30 rfl size_s HLm.out) ?_) | fail)
                                                  refine (con_Verify (HG.out.below belY) HP.out HR.out HM.out HB2.out HSb.out).mono ?_
                                                  rintro e w9 ⟨er2, rfl, hv, hb⟩
                                                  obtain ⟨j2, hj2⟩ : ∃ j, InvO (QQ - sv) j := ⟨_, rfl⟩
                                                  have her2 : er2 = .nilIface := (((hv.2 rfl HAff.out).2 HSl.out).2 HN5.out.1 HSq.out j2 hj2).1 (by rw [← HPP.out]; exact holds_other HScd.out HSk.out (rest_bd _).1 HI.out HN5.out.2 (by rw [HSV.out]; exact hj2))
                                                  subst her2
                                                  clear hv hj2
                                                  replace belY := below_step belY hb
                                                  clear hb l1 l2
                                                  have q1 := eq_nilE
                                                  go_wp2_with fail
                                                  go_ret
                                                  exact ⟨rfl, belY⟩
                                              exact AllReadyH.nil
                                          exact AllReadyH.nil
                                      exact AllReadyH.nil
                                  exact AllReadyH.nil
                              exact AllReadyH.nil
                          exact AllReadyH.nil
                      exact AllReadyH.nil
                  exact AllReadyH.nil
              exact AllReadyH.nil
          exact AllReadyH.nil
      exact AllReadyH.nil
end Go.Proofs.YtjpnbbhpgchbpaaDoor
