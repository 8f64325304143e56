/- The document's Box and Turned. -/
import Derived.Test.YtogbmekgmjmonaaRows
import Derived.Test.YtogbmekgmjmonaaAeProd
import Derived.Test.YtogbmekgmjmonaaAeNumG
import Derived.Deep.OwnRows
import Derived.Deep.AppendLies
import Derived.Deep.WholeRow
import Derived.Deep.RegionHeld3
import Derived.Deep.DeepCutAuto
import Derived.Deep.DeepFit
namespace Go.Proofs.Ytogbmekgmjmonaa
open Go.RowKit

set_option maxRecDepth 100000 in
set_option maxHeartbeats 1000000 in
theorem r9_Box {w : World} :
    Calls Try.prog 10 #[] w fun e w' => ∃ v' : Value, e = .returned v' ∧ w'.ownsRow w.heap.size 5 1 v' 256 (u8s (boxN 256)) ∧ Below w.heap.size w w' := by
  obtain ⟨i0, hi0, hz0, hz1, hz2⟩ := info_parts info_b16
  go_enter Try.func10, Try.ntmps10
  go_wp2_with fail
  go_loopw [1, 2] (fun ov iv wx => ∃ k : Nat, k ≤ 256 ∧ iv = .int .i64 k ∧ wx.ownsRow w.heap.size 5 1 ov k (u8s (boxN k)) ∧ Below w.heap.size w wx) (fun _ iv _ => 256 - (intOf iv).toNat)
  case atStart => exact ⟨0, by omega, rfl, World.ownsRow_nil _ _ _ _, Below.refl _ _⟩
  case round =>
    obtain ⟨k, hk, rfl, hown, hbel⟩ := hrel
    have hsz := hbel.size
    by_cases hlt : k < 256
    · have g1 : (k : Int) < 256 := by omega
      have w1 : IntKind.u8.wrap (k : Int) = (k : Int) := by rw [IntKind.wrap_u8]; omega
      go_wp2_with fail
      refine (r9_Substitute hlt).mono ?_
      rintro e w2 ⟨rfl, hw2⟩
      rw [hw2]
      clear hw2
      have HT : Hid _ := boxN_next k
      obtain ⟨x, hx⟩ : ∃ x, ((subN k : Nat) : Int) = x := ⟨_, rfl⟩
      rw [hx] at HT ⊢
      clear hx
      go_wp2_with (first
        | (at_builtin; refine wpList_append_lies _ (by rfl) _ _ _ (by rfl) w.heap.size 5 i0 _ 1 1 Try.underlying22 hi0 hz0 hz1 hz2 rfl (by omega) _ _ _ (by rfl) (hown.alloc _) ⟨wr.heap.size, 0, none⟩ 1 1 [.int .u8 x] (by rfl) (by rfl) (World.news_of_block (cs := #[.int .u8 x]) (t := 5) (fr := (0, 0)) (heap_alloc_new wr _)) (by simp [Value.oneCell']) (by omega) (by unfold maxLen; omega) (by omega) (by simp; omega) (wr.heap.size + 1) (by simp) ?_; intro gg cap1 w5 hown1 hgrow hat hlt1)
        | fail)
      go_roundw
      case rel => exact ⟨k + 1, by omega, by go_num, by rw [HT.out] at hown1; exact hown1, hbel.trans (Below.grown ((Below.refl _ _).alloc (by omega) _) hgrow (by simp; omega) (fun j hj => own_geA hown hj))⟩
      case measure => simp [intOf]; omega
    · have HK : Hid (k = 256) := by show k = 256; omega
      have g1 : (256 : Int) ≤ (k : Int) := by omega
      go_wp2_with fail
      go_ret
      exact ⟨_, rfl, by rw [HK.out] at hown; exact hown, hbel⟩

set_option maxRecDepth 100000 in
set_option maxHeartbeats 1000000 in
theorem r9_Turned {S : List Int} {w : World} (l : S.length = 16) :
    Calls Try.prog 29 #[.agg (u8s S).toArray] w fun e w' => e = .returned (.agg (u8s (turnN S)).toArray) ∧ Below w.heap.size w w' := by
  have hz := zero_16.out
  have lS : Hid (S.length = 16) := l
  clear l
  have B0 := ((Blk.new w (u8s S) 42 w.heap.size rfl).alloc (.cells (u8s (List.replicate 16 0)).toArray 42)).alloc (.cells (u8s (List.replicate 16 0)).toArray 42)
  have R0 := (Blk.new (w.alloc (.cells (u8s S).toArray 42)) (u8s (List.replicate 16 0)) 42 (w.heap.size + 1) (by simp)).alloc (.cells (u8s (List.replicate 16 0)).toArray 42)
  have V0 := Blk.new ((w.alloc (.cells (u8s S).toArray 42)).alloc (.cells (u8s (List.replicate 16 0)).toArray 42)) (u8s (List.replicate 16 0)) 42 (w.heap.size + 1 + 1) (by simp)
  have bel : Below w.heap.size w (((w.alloc (.cells (u8s S).toArray 42)).alloc (.cells (u8s (List.replicate 16 0)).toArray 42)).alloc (.cells (u8s (List.replicate 16 0)).toArray 42)) := ((((Below.refl _ _).alloc (Nat.le_refl _) _).alloc (by simp) _).alloc (by simp; omega) _)
  generalize (u8s (List.replicate 16 0)).toArray = cs at hz bel B0 R0 V0
  obtain ⟨ds, hds⟩ : ∃ z, (u8s S).toArray = z := ⟨_, rfl⟩
  rw [hds] at B0 R0 V0 bel ⊢
  clear hds
  go_enter Try.func29, Try.ntmps29
  go_wp2_with fail
  obtain ⟨W, hW⟩ : ∃ z, z = ((w.alloc (Obj.cells ds 42)).alloc (Obj.cells cs 42)).alloc (Obj.cells cs 42) := ⟨_, rfl⟩
  rw [← hW] at B0 R0 V0 bel ⊢
  clear hW hz
  rw [← turnZ_0 S] at V0
  go_loopw [4] (fun rv wx => ∃ r : Nat, r ≤ 4 ∧ rv = .int .i64 r ∧ Blk wx (w.heap.size + 1 + 1) (u8s (turnZ S (4 * r))) ∧ Blk wx w.heap.size (u8s S) ∧ Blk wx (w.heap.size + 1) (u8s (List.replicate 16 0)) ∧ Below w.heap.size w wx) (fun rv _ => 4 - (intOf rv).toNat)
  case atStart => exact ⟨0, by omega, rfl, V0, B0, R0, bel⟩
  case round =>
    clear V0 B0 R0 bel
    obtain ⟨r, hr, rfl, V0, B0, R0, bel⟩ := hrel
    by_cases hrl : r < 4
    · have g1 : (r : Int) < 4 := by omega
      go_wp2_with fail
      obtain ⟨W1, hW1⟩ : ∃ z, z = wr := ⟨_, rfl⟩
      rw [← hW1] at V0 B0 R0 bel ⊢
      clear hW1
      go_loopw [5] (fun cv wx => ∃ c : Nat, c ≤ 4 ∧ cv = .int .i64 c ∧ Blk wx (w.heap.size + 1 + 1) (u8s (turnZ S (4 * r + c))) ∧ Blk wx w.heap.size (u8s S) ∧ Blk wx (w.heap.size + 1) (u8s (List.replicate 16 0)) ∧ Below w.heap.size w wx) (fun cv _ => 4 - (intOf cv).toNat)
      case atStart => exact ⟨0, by omega, rfl, V0, B0, R0, bel⟩
      case round =>
        clear V0 B0 R0 bel
        obtain ⟨c, hc, rfl, V0, B0, R0, bel⟩ := hrel
        by_cases hcl : c < 4
        · have HS : Hid _ := turnZ_set (S := S) hrl hcl
          have g2 : (c : Int) < 4 := by omega
          have i1 : IntKind.i64.wrap (4 * (c : Int)) = 4 * (c : Int) := by rw [IntKind.wrap_i64]; omega
          have i2 : IntKind.i64.wrap (4 * (c : Int) + (r : Int)) = ((4 * c + r : Nat) : Int) := by rw [IntKind.wrap_i64]; omega
          have i3 : IntKind.i64.wrap ((c : Int) + (r : Int)) = (c : Int) + (r : Int) := by rw [IntKind.wrap_i64]; omega
          have i4 : ((c : Int) + (r : Int)).tmod 4 = (((c + r) % 4 : Nat) : Int) := by rw [Int.tmod_eq_emod_of_nonneg (by omega)]; omega
          have i5 : IntKind.i64.wrap (4 * (((c + r) % 4 : Nat) : Int)) = 4 * (((c + r) % 4 : Nat) : Int) := by rw [IntKind.wrap_i64]; omega
          have i6 : IntKind.i64.wrap (4 * (((c + r) % 4 : Nat) : Int) + (r : Int)) = ((4 * ((c + r) % 4) + r : Nat) : Int) := by rw [IntKind.wrap_i64]; omega
          have l1 : ((4 * c + r : Nat) : Int) < 16 := by omega
          have l2 : ((4 * ((c + r) % 4) + r : Nat) : Int) < 16 := by omega
          have k1 : (0 : Int) ≤ ((4 * c + r : Nat) : Int) := by omega
          have k2 : (0 : Int) ≤ ((4 * ((c + r) % 4) + r : Nat) : Int) := by omega
          have cs1 := B0.cell (4 * ((c + r) % 4) + r) _ (u8s_get S _ (by rw [lS.out]; omega))
          have fz := V0.frozen (4 * c + r)
          have cv := V0.cell (4 * c + r) _ (u8s_get _ _ (by rw [turnZ_len]; omega))
          obtain ⟨x, hx⟩ : ∃ x, S.getD (4 * ((c + r) % 4) + r) 0 = x := ⟨_, rfl⟩
          obtain ⟨m, hm⟩ : ∃ m, 4 * ((c + r) % 4) + r = m := ⟨_, rfl⟩
          obtain ⟨d, hd⟩ : ∃ d, (c + r) % 4 = d := ⟨_, rfl⟩
          obtain ⟨n, hn⟩ : ∃ n, 4 * c + r = n := ⟨_, rfl⟩
          rw [hx] at cs1 HS
          rw [hm] at cs1 i6 l2 k2
          rw [hd] at i4 i5 i6
          rw [hn] at i2 l1 k1 fz cv HS
          clear hx hm hd hn
          have lv := V0.lt
          have lb := B0.lt
          have HV := V0.setb n x
          rw [HS.out] at HV
          replace B0 := B0.other ⟨w.heap.size + 1 + 1, n, none⟩ (.int .u8 x) (by show w.heap.size ≠ w.heap.size + 1 + 1; omega)
          replace R0 := R0.other ⟨w.heap.size + 1 + 1, n, none⟩ (.int .u8 x) (by show w.heap.size + 1 ≠ w.heap.size + 1 + 1; omega)
          replace bel := bel.setCell (p := ⟨w.heap.size + 1 + 1, n, none⟩) (by show w.heap.size ≤ w.heap.size + 1 + 1; omega) (.int .u8 x)
          clear V0 HS
          go_wp2_with fail
          go_roundw
          case rel => exact ⟨c + 1, by omega, by go_num, HV, B0, R0, bel⟩
          case measure => simp [intOf]; omega
        · have HC : Hid (c = 4) := by show c = 4; omega
          have g2 : (4 : Int) ≤ (c : Int) := by omega
          go_wp2_with fail
          go_roundw
          case rel => exact ⟨r + 1, by omega, by go_num, by rw [HC.out, show 4 * r + 4 = 4 * (r + 1) by omega] at V0; exact V0, B0, R0, bel⟩
          case measure => simp [intOf]; omega
    · have HR : Hid (r = 4) := by show r = 4; omega
      have g1 : (4 : Int) ≤ (r : Int) := by omega
      rw [HR.out, show 4 * 4 = 16 from rfl, turnZ_16] at V0
      obtain ⟨tV, hV⟩ := V0
      obtain ⟨tR, hR⟩ := R0
      have HL : Hid (16 = (u8s (turnN S)).toArray.size) := by show 16 = _; simp [turnN_len]
      have HO : Hid ((u8s (List.replicate 16 (0 : Int))).toArray.size = (u8s (turnN S)).toArray.size) := by show _ = _; simp [turnN_len]
      have H1 : Hid _ := u8_ones (turnN S)
      obtain ⟨fs, hfs⟩ : ∃ z, (u8s (turnN S)).toArray = z := ⟨_, rfl⟩
      have HD : Hid _ := hfs
      rw [hfs] at hV HL HO H1
      generalize (u8s (List.replicate 16 (0 : Int))).toArray = es at hR HO
      clear hfs
      go_wp2_with (first
        | (refine wpList_load_row rfl 42 _ rfl (w.heap.size + 1 + 1) rfl tV fs _ _ hV Try.underlying42 rfl (by rw [size_16, HL.out]) ?_)
        | (refine wpList_store_row rfl 42 _ _ rfl (w.heap.size + 1) fs rfl rfl tR es hR (by rw [size_16, HL.out]) HO.out H1.out ?_)
        | fail)
      refine bodyPost_ret (results_cell_row rfl _ _ (w.heap.size + 1) tR fs (0, 0) _ rfl (setRow_heap _ _ _ _ _ _ hR) Try.underlying42 rfl (by rw [size_16, HL.out])) rfl ?_
      exact ⟨by rw [HD.out], below_setRow bel (by omega) _⟩
end Go.Proofs.Ytogbmekgmjmonaa
