/- The document's Expand. -/
import Derived.Test.YtbglkbfnhnmodaaDoorRows
import Derived.Test.YtbglkbfnhnmodaaDoorMcHmac
import Derived.Deep.WholeRow
import Derived.Deep.RegionHeld3
import Derived.Deep.DeepCutAuto
import Derived.Deep.DeepFit
namespace Go.Proofs.YtbglkbfnhnmodaaDoor
open Go.RowKit

theorem r8_Hmac {t0 t1 t2 t3 t4 t5 t6 t7 : Int} {kb kc : Nat} {kv bv : Value} {key b : List Int} {w : World} (hK : ∀ j, j < 80 → w.cell? ⟨kb, j, none⟩ = some (.int .u64 (KS.getD j 0))) (ht : HS = [t0, t1, t2, t3, t4, t5, t6, t7]) (hk : Bs w kv key) (bk : byt key) (lk : key.length ≤ 20000) (hb : Bs w bv b) (bb : byt b) (lb : b.length ≤ 19000) :
    Calls Tryd.prog 10 #[.agg #[.slice (some ⟨kb, 0, none⟩) 80 kc, .int .u64 t0, .int .u64 t1, .int .u64 t2, .int .u64 t3, .int .u64 t4, .int .u64 t5, .int .u64 t6, .int .u64 t7], kv, bv] w fun e w' => ∃ v' : Value, e = .returned v' ∧ HmacRet w' v' w.heap.size key b ∧ Below w.heap.size w w' := by
  by_cases hl : key.length ≤ 128
  · exact hmac_short hK ht hk bk lk hb bb lb hl
  · exact hmac_long hK ht hk bk lk hb bb lb (by omega)
def MadeRet (w : World) (v : Value) (prk info : List Int) (n : Nat) : Prop := ∃ X : List Int, MadeIs prk info n X ∧ Bs w v X
theorem byt_of1 {y : Int} (h0 : 0 ≤ y) (h1 : y < 256) : byt [y] := byt_of _ (fun j hj => by
  have e : j = 0 := by simp at hj; exact hj
  subst e
  exact ⟨h0, h1⟩)
theorem own_blk {v : Value} {g n : Nat} (h : v.ownBlock = some g) (hb : Hid (∀ g, v.ownBlock = some g → g < n)) : g < n := hb.out g h

set_option linter.unusedSimpArgs false in
set_option maxRecDepth 100000 in
set_option maxHeartbeats 4000000 in
theorem r8_Expand {t0 t1 t2 t3 t4 t5 t6 t7 : Int} {kb kc n : Nat} {pv iv : Value} {prk info : List Int} {w : World} (hK : ∀ j, j < 80 → w.cell? ⟨kb, j, none⟩ = some (.int .u64 (KS.getD j 0))) (ht : HS = [t0, t1, t2, t3, t4, t5, t6, t7]) (hp : Bs w pv prk) (bp : byt prk) (lp : prk.length ≤ 20000) (hi : Bs w iv info) (bi : byt info) (li : info.length ≤ 18000) (hn : n ≤ 12240) :
    Calls Tryd.prog 13 #[.agg #[.slice (some ⟨kb, 0, none⟩) 80 kc, .int .u64 t0, .int .u64 t1, .int .u64 t2, .int .u64 t3, .int .u64 t4, .int .u64 t5, .int .u64 t6, .int .u64 t7], pv, iv, .int .i64 (n : Int)] w fun e w' => ∃ v' : Value, e = .returned v' ∧ MadeRet w' v' prk info n ∧ Below w.heap.size w w' := by
  have HK : Hid (∀ j, j < 80 → w.cell? ⟨kb, j, none⟩ = some (.int .u64 (KS.getD j 0))) := hK
  have HT : Hid (HS = [t0, t1, t2, t3, t4, t5, t6, t7]) := ht
  have HPs : Hid (Bs w pv prk) := hp
  have HIs : Hid (Bs w iv info) := hi
  have HPb : Hid (byt prk) := bp
  have HIb : Hid (byt info) := bi
  clear hK ht bp bi hp hi
  have B0 := Blk.new w [.slice (some ⟨kb, 0, none⟩) 80 kc, .int .u64 t0, .int .u64 t1, .int .u64 t2, .int .u64 t3, .int .u64 t4, .int .u64 t5, .int .u64 t6, .int .u64 t7] 29 w.heap.size rfl
  have bel : Below w.heap.size w (w.alloc (.cells [.slice (some ⟨kb, 0, none⟩) 80 kc, .int .u64 t0, .int .u64 t1, .int .u64 t2, .int .u64 t3, .int .u64 t4, .int .u64 t5, .int .u64 t6, .int .u64 t7].toArray 29)) := (Below.refl _ _).alloc (Nat.le_refl _) _
  go_enter Tryd.func13, Tryd.ntmps13
  go_upto_region 1 with fail
  try simp only [us, List.map_cons, List.map_nil] at bel
  generalize w.alloc (Obj.cells #[.slice (some ⟨kb, 0, none⟩) 80 kc, .int .u64 t0, .int .u64 t1, .int .u64 t2, .int .u64 t3, .int .u64 t4, .int .u64 t5, .int .u64 t6, .int .u64 t7] 29) = W at *
  have lt0 := B0.lt
  go_wp2_with fail
  go_loopw [9, 10, 11] (fun ov lv nv wx => ∃ (k : Nat) (L O : List Int), k ≤ 255 ∧ nv = .int .i64 ((k : Int) + 1) ∧ wx.ownsRow (w.heap.size + 1) 5 1 ov (48 * k) (u8s O) ∧ wx.ownsRow (w.heap.size + 1) 5 1 lv L.length (u8s L) ∧ Hid (ExpIs prk info k L O) ∧ Blk wx w.heap.size [.slice (some ⟨kb, 0, none⟩) 80 kc, .int .u64 t0, .int .u64 t1, .int .u64 t2, .int .u64 t3, .int .u64 t4, .int .u64 t5, .int .u64 t6, .int .u64 t7] ∧ Below w.heap.size w wx) (fun _ _ nv _ => 300 - (intOf nv).toNat)
  case atStart => exact ⟨0, [], [], by omega, by simp, World.ownsRow_nil _ _ _ _, World.ownsRow_nil _ _ _ _, ⟨rfl, rfl⟩, B0, bel⟩
  case round =>
    clear B0 bel lt0
    obtain ⟨k, L, O, hk, rfl, own1, own2, HE, B0, bel⟩ := hrel
    obtain ⟨ao, co, rfl, e1, e2⟩ := own_slice own1
    have lt0 := B0.lt
    unfold maxLen at e2
    by_cases hlt : 48 * k < n
    · have g1 : ((48 * k : Nat) : Int) < (n : Int) := by omega
      have lL : L.length ≤ 48 := HE.out.ln.2
      have own3 := own_made wr [] 5 0 wr.heap.size rfl (Nat.le_refl _) (by decide)
      have bl := (Bs.of_own own2).later ((Below.refl _ _).alloc (Nat.le_refl _) (.cells #[] 5))
      have hbx : Below wr.heap.size wr (wr.alloc (.cells #[] 5)) := (Below.refl _ _).alloc (Nat.le_refl _) _
      have ob : Hid (∀ g, (Value.slice ao (48 * k) co).ownBlock = some g → g < wr.heap.size) := fun g hg => own_under own1 hg
      go_upto_region 7 with (first | (at_builtin; refine wpList_append_bs (by rfl) _ _ (by rfl) wr.heap.size _ 0 [] (by rfl) own3 _ L (by rfl) bl (by omega) (by simp) ?_; intro v5 w5 own5 hgrow hat) | fail)
      replace hbx := below_own (base := wr.heap.size) hbx hgrow hbx.size (fun g hg => own_ge own3 hg) (Nat.le_refl _)
      rw [Nat.zero_add, List.nil_append] at own5
      clear hgrow hat own3 bl own2
      have bi := HIs.out.later (below_step bel hbx)
      have hs := hbx.size
      go_upto_region 8 with (first | (at_builtin; refine wpList_append_bs (by rfl) _ _ (by rfl) wr.heap.size _ L.length L (by rfl) own5 _ info (by rfl) bi (by omega) hs ?_; intro v6 w6 own6 hgrow hat) | fail)
      replace hbx := below_own (base := wr.heap.size) hbx hgrow hbx.size (fun g hg => own_ge own5 hg) (Nat.le_refl _)
      clear hgrow hat own5 bi hs
      have hs := hbx.size
      have w1 : IntKind.u8.wrap ((k : Int) + 1) = ((k : Int) + 1) % 256 := IntKind.wrap_u8 _
      obtain ⟨y, hy⟩ : ∃ y, ((k : Int) + 1) % 256 = y := ⟨_, rfl⟩
      have HY : Hid _ := hy
      have yb : 0 ≤ y ∧ y < 256 := by omega
      rw [hy] at w1
      clear hy
      have b1 := bs_one w6 y
      go_upto_region 9 with (first | (at_builtin; refine wpList_append_bs (by rfl) _ _ (by rfl) wr.heap.size _ (L.length + info.length) (L ++ info) (by rfl) (own6.alloc _) _ [y] (by rfl) b1 (by simp; omega) (by simp; omega) ?_; intro v7 w7 own7 hgrow hat) | fail)
      replace hbx := below_own (base := wr.heap.size) (hbx.alloc hs (.cells #[.int .u8 y] 5)) hgrow (by simp; omega) (fun g hg => own_ge own6 hg) (Nat.le_refl _)
      clear hgrow hat own6 b1 hs
      replace B0 := B0.below hbx B0.lt
      replace own1 := own_later own1 hbx
      replace bel := below_step bel hbx
      have hs := hbx.size
      clear hbx lt0
      have lt0 := B0.lt
      have x0 := B0.cell 0 _ rfl
      have x1 := B0.cell 1 _ rfl
      have x2 := B0.cell 2 _ rfl
      have x3 := B0.cell 3 _ rfl
      have x4 := B0.cell 4 _ rfl
      have x5 := B0.cell 5 _ rfl
      have x6 := B0.cell 6 _ rfl
      have x7 := B0.cell 7 _ rfl
      have x8 := B0.cell 8 _ rfl
      go_wp2_with fail
      refine (r8_Hmac (fun j hj => cell_later (HK.out j hj) bel) HT.out (HPs.out.later bel) HPb.out lp (Bs.of_own own7) (byt_app (byt_app HE.out.byt.1 HIb.out) (byt_of1 yb.1 yb.2)) (by simp; omega)).mono ?_
      rintro e w8 ⟨v8, rfl, ⟨M, hM, own8⟩, hbb⟩
      have HM : Hid (HmacIs prk (L ++ info ++ [y]) M) := hM
      clear hM own7 x0 x1 x2 x3 x4 x5 x6 x7 x8
      replace own1 := own_later own1 hbb
      replace B0 := B0.later hbb
      replace bel := below_step bel hbb
      have lM := HM.out.ln
      have hap : Apart v8 (.slice ao (48 * k) co) := fun g ha hb => by
        have h1 := own_ge own8 ha
        have h2 := own_blk hb ob
        omega
      have bM := Bs.of_own own8
      have hs2 : w.heap.size + 1 ≤ w8.heap.size := by have := B0.lt; omega
      replace own8 := own_mono own8 (show w.heap.size + 1 ≤ w7.heap.size by omega)
      clear hbb lt0
      go_wp2_with (first | (at_builtin; refine wpList_append_bs (by rfl) _ _ (by rfl) (w.heap.size + 1) _ (48 * k) O (by rfl) own1 _ M (by rfl) bM (by omega) hs2 ?_; intro v9 w9 own9 hgrow hat) | fail)
      go_roundw
      case rel =>
        rw [lM, show 48 * k + 48 = 48 * (k + 1) by omega] at own9
        exact ⟨k + 1, M, O ++ M, by omega, by go_num, own9, by rw [lM]; exact own8.kept hgrow hap.kept, ⟨L, O, HE.out, by rw [HY.out]; exact HM.out, rfl⟩, blk_grown (base := w.heap.size + 1) B0 hgrow (by omega) (fun i hi => own_ge own1 hi), below_own (base := w.heap.size + 1) bel hgrow bel.size (fun g hg => own_ge own1 hg) (by omega)⟩
      case measure => simp [intOf]; omega
    · have g1 : (n : Int) ≤ ((48 * k : Nat) : Int) := by omega
      have g2 : (0 : Int) ≤ (n : Int) := by omega
      have g3 : (n : Int) ≤ (co : Int) := by omega
      have g4 : n ≤ co := by omega
      have lO := HE.out.ln.1
      go_wp2_with fail
      go_ret
      exact ⟨_, rfl, ⟨O.take n, ⟨k, L, O, HE.out, by omega, rfl⟩, bs_upto (Bs.of_own own1) lO (by omega)⟩, bel⟩
end Go.Proofs.YtbglkbfnhnmodaaDoor
