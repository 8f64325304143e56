/- The document's Whole. -/
import Derived.Test.YtogbmekgmjmonaaRows
import Derived.Test.YtogbmekgmjmonaaGhHash
import Derived.Deep.WholeRow
import Derived.Deep.RegionHeld3
import Derived.Deep.DeepCutAuto
import Derived.Deep.DeepFit
namespace Go.Proofs.Ytogbmekgmjmonaa
open Go.RowKit

theorem r10_HashL {H B : List Int} {F G : List Value} {v : Value} {w : World} (hF : u8s H = F) (hG : u8s (hashB H B) = G) (lH : H.length = 16) (bH : byt H) (hv : Bs w v B) (bB : byt B) (l : B.length ≤ 1099511627776) :
    Calls Try.prog 33 #[.agg F.toArray, v] w fun e w' => e = .returned (.agg G.toArray) ∧ Below w.heap.size w w' := by
  subst hF hG
  exact r10_Hash lH bH hv bB l
set_option linter.unusedSimpArgs false in
set_option maxRecDepth 100000 in
set_option maxHeartbeats 4000000 in
theorem r10_Whole {H A B : List Int} {av bv : Value} {w : World} (lH : H.length = 16) (bH : byt H) (ha : Bs w av A) (bA : byt A) (hb : Bs w bv B) (bB : byt B) (lA : A.length ≤ 100000000000) (lB : B.length ≤ 100000000000) :
    Calls Try.prog 21 #[.agg (u8s H).toArray, av, bv] w fun e w' => e = .returned (.agg (u8s (wholeB H A B)).toArray) ∧ Below w.heap.size w w' := by
  obtain ⟨FH, hFH⟩ : ∃ F, u8s H = F := ⟨_, rfl⟩
  have FHh : Hid (u8s H = FH) := hFH
  have FHl : Hid (FH.length = 16) := by rw [← hFH, List.length_map]; exact lH
  have HH : Hid (byt H ∧ H.length = 16) := ⟨bH, lH⟩
  have HAb : Hid (byt A) := bA
  have HBb : Hid (byt B) := bB
  rw [hFH]
  clear hFH lH bH bA bB
  have hz := zero_16.out
  have B0 := (Blk.new w FH 42 w.heap.size rfl).alloc (.cells (u8s (List.replicate 16 0)).toArray 42)
  have R0 := Blk.new (w.alloc (.cells FH.toArray 42)) (u8s (List.replicate 16 0)) 42 (w.heap.size + 1) (by simp)
  have bel : Below w.heap.size w ((w.alloc (.cells FH.toArray 42)).alloc (.cells (u8s (List.replicate 16 0)).toArray 42)) := (((Below.refl _ _).alloc (Nat.le_refl _) _).alloc (by simp) _)
  obtain ⟨Z, hZ⟩ : ∃ Z, (u8s (List.replicate 16 0)) = Z := ⟨_, rfl⟩
  have HZl : Hid (Z.length = 16) := by rw [← hZ]; rfl
  rw [hZ] at hz B0 R0 bel
  clear hZ
  have ha0 := ha
  obtain ⟨ao, ca, rfl, a1, a2, a3⟩ := ha0
  clear a3
  unfold maxLen at a1
  have hb0 := hb
  obtain ⟨bo, cb, rfl, b1, b2, b3⟩ := hb0
  clear b3
  unfold maxLen at b1
  go_enter Try.func21, Try.ntmps21
  go_upto_region 1 with fail
  generalize ((w.alloc (.cells FH.toArray 42)).alloc (.cells Z.toArray 42)) = W at *
  clear hz
  replace ha := ha.later bel
  replace hb := hb.later bel
  have gR : w.heap.size + 1 < W.heap.size := R0.lt
  go_wp2_with fail
  refine (r10_Filled ha (by omega)).mono ?_
  rintro e w1 ⟨v1, rfl, own1, hx⟩
  have bW : Below W.heap.size W w1 := hx
  clear hx ha
  have lFA := filF_len A
  have lFB := filF_len B
  replace hb := hb.later bW
  go_wp2_with fail
  refine (r10_Filled hb (by omega)).mono ?_
  rintro e w2 ⟨v2, rfl, own2, hx⟩
  replace own1 := own_laterA own1 hx
  replace bW := bW.trans (hx.mono bW.size)
  clear hx hb
  have bs2 := Bs.of_own own2
  have sz2 := bW.size
  obtain ⟨nA, hnA⟩ : ∃ n, (filF A).length = n := ⟨_, rfl⟩
  obtain ⟨nB, hnB⟩ : ∃ n, (filF B).length = n := ⟨_, rfl⟩
  have HNA : Hid _ := hnA
  have HNB : Hid _ := hnB
  rw [hnA] at own1 lFA
  rw [hnB] at lFB own2
  clear hnA hnB own2
  go_upto_region 3 with (first | (at_builtin; refine wpList_append_bs (by rfl) _ _ (by rfl) W.heap.size _ nA (filF A) (by rfl) own1 _ (filF B) (by rfl) bs2 (by rw [HNB.out]; omega) sz2 ?_; intro v3 w3 own3 hgrow hat) | fail)
  rw [HNB.out] at own3
  replace bW := below_own (base := W.heap.size) bW hgrow sz2 (fun g hg => own_geA own1 hg) (Nat.le_refl _)
  replace sz2 := bW.size
  clear hgrow hat own1 bs2
  go_wp2_with fail
  refine (r10_bits (n := A.length) (by omega)).mono ?_
  rintro e w4 ⟨g4, rfl, B4, hg4, hx⟩
  replace own3 := own_laterA own3 hx
  replace bW := bW.trans (hx.mono sz2)
  replace sz2 := bW.size
  clear hx
  have bs4 := B4.bs (lenN_len _) (by decide)
  go_upto_region 4 with (first | (at_builtin; refine wpList_append_bs (by rfl) _ _ (by rfl) W.heap.size _ (nA + nB) (filF A ++ filF B) (by rfl) own3 _ (lenN A.length) (by rfl) bs4 (by rw [lenN_len]; omega) sz2 ?_; intro v5 w5 own5 hgrow hat) | fail)
  rw [lenN_len] at own5
  replace bW := below_own (base := W.heap.size) bW hgrow sz2 (fun g hg => own_geA own3 hg) (Nat.le_refl _)
  replace sz2 := bW.size
  clear hgrow hat own3 bs4 B4 hg4
  go_wp2_with fail
  refine (r10_bits (n := B.length) (by omega)).mono ?_
  rintro e w6 ⟨g6, rfl, B6, hg6, hx⟩
  replace own5 := own_laterA own5 hx
  replace bW := bW.trans (hx.mono sz2)
  replace sz2 := bW.size
  clear hx
  have bs6 := B6.bs (lenN_len _) (by decide)
  go_upto_region 5 with (first | (at_builtin; refine wpList_append_bs (by rfl) _ _ (by rfl) W.heap.size _ (nA + nB + 8) (filF A ++ filF B ++ lenN A.length) (by rfl) own5 _ (lenN B.length) (by rfl) bs6 (by rw [lenN_len]; omega) sz2 ?_; intro v7 w7 own7 hgrow hat) | fail)
  replace bW := below_own (base := W.heap.size) bW hgrow sz2 (fun g hg => own_geA own5 hg) (Nat.le_refl _)
  replace sz2 := bW.size
  clear hgrow hat own5 bs6 B6 hg6
  have bs7 := Bs.of_own own7
  replace B0 := B0.later bW
  replace R0 := R0.later bW
  replace bel := below_step bel bW
  clear own7 bW
  have HB7 : Hid (byt (filF A ++ filF B ++ lenN A.length ++ lenN B.length)) := byt_two (byt_two (byt_two (filF_byt HAb.out) (filF_byt HBb.out)) (lenN_byt _)) (lenN_byt _)
  have HL7 : Hid ((filF A ++ filF B ++ lenN A.length ++ lenN B.length).length ≤ 1099511627776) := by show _ ≤ _; rw [List.length_append, List.length_append, List.length_append, HNA.out, HNB.out, lenN_len, lenN_len]; omega
  obtain ⟨G, hG⟩ : ∃ G, u8s (wholeB H A B) = G := ⟨_, rfl⟩
  have HGl : Hid (G.length = 16) := by rw [← hG, List.length_map]; exact hashB_len _ _
  have HGo : Hid (G.toArray.all (·.oneCell') = true) := by rw [← hG]; exact u8_ones _
  have HGh : Hid (u8s (wholeB H A B) = G) := hG
  clear hG
  go_wp2_with (first
    | (refine wpList_load_run (by rfl) (by rfl) (by rfl) (B0.load Try.underlying42 rfl size_16 FHl.out) ?_)
    | fail)
  refine (r10_HashL FHh.out HGh.out HH.out.2 HH.out.1 bs7 HB7.out HL7.out).mono ?_
  rintro e w8 ⟨rfl, hx⟩
  replace R0 := R0.later hx
  replace bel := below_step bel hx
  clear hx B0 bs7
  obtain ⟨tR, hR⟩ := R0
  have HR : Hid _ := hR
  clear hR
  go_wp2_with (first
    | (refine wpList_store_row rfl 42 _ _ rfl (w.heap.size + 1) G.toArray rfl rfl tR Z.toArray HR.out (by rw [size_16, List.size_toArray, HGl.out]) (by rw [List.size_toArray, List.size_toArray, HGl.out, HZl.out]) HGo.out ?_)
    | fail)
  exact bodyPost_ret (results_cell_row Try.results21 _ _ (w.heap.size + 1) tR G.toArray (0, 0) _ rfl (setRow_heap _ _ _ _ _ _ HR.out) Try.underlying42 rfl (by rw [size_16, List.size_toArray, HGl.out])) rfl ⟨by rw [HGh.out], below_setRow bel (by omega) _⟩
end Go.Proofs.Ytogbmekgmjmonaa
