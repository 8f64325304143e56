/- The program's Turned; a column's byte. -/
import Derived.Test.YtlamngilmkaliaaRows
import Derived.Test.YtlamngilmkaliaaAeCodeL
import Derived.Test.YtlamngilmkaliaaAeInv
import Derived.Test.YtlamngilmkaliaaAeEncN
import Derived.Deep.WholeRow
import Derived.Deep.RegionHeld3
import Derived.Deep.DeepCutAuto
import Derived.Deep.DeepFit
namespace Go.Proofs.Ytlamngilmkaliaa
open Go.RowKit

/-- rows turned: the first t places, one after the other -/
def turnY (S : List Int) (t : Nat) : List Int := (List.range 16).map fun j => if j < t then S.getD (5 * j % 16) 0 else 0
theorem turnY_len (S : List Int) (t : Nat) : (turnY S t).length = 16 := by simp [turnY]
theorem turnY_0 (S : List Int) : turnY S 0 = List.replicate 16 0 := by simp [turnY]; rfl
theorem turnY_16 (S : List Int) : turnY S 16 = turnN S := by
  unfold turnY turnN
  apply List.map_congr_left
  intro j hj
  rw [if_pos (List.mem_range.1 hj)]
theorem turnY_set {S : List Int} {r c : Nat} (hr : r < 4) (_ : c < 4) : (turnY S (4 * c + r)).set (4 * c + r) (S.getD (4 * ((c + r) % 4) + r) 0) = turnY S (4 * c + (r + 1)) := by
  have e := zset (f := fun j => S.getD (5 * j % 16) 0) (g := fun _ => 0) (k := 4 * c + r)
  rw [show 5 * (4 * c + r) % 16 = 4 * ((c + r) % 4) + r by omega] at e
  exact e
set_option maxRecDepth 100000 in
set_option maxHeartbeats 1000000 in
theorem con_Turned {S : List Int} {w : World} (l : S.length = 16) (_ : byt S) :
    Calls Try.prog 13 #[.agg (u8s S).toArray] w fun e w' => e = .returned (.agg (u8s (turnN S)).toArray) ∧ Below w.heap.size w w' := by
  have hz := zero_16.out
  have lS : Hid (S.length = 16) := l
  clear l
  have B0 := ((Blk.new w (u8s S) 26 w.heap.size rfl).alloc (.cells (u8s (List.replicate 16 0)).toArray 26)).alloc (.cells (u8s (List.replicate 16 0)).toArray 26)
  have R0 := (Blk.new (w.alloc (.cells (u8s S).toArray 26)) (u8s (List.replicate 16 0)) 26 (w.heap.size + 1) (by simp)).alloc (.cells (u8s (List.replicate 16 0)).toArray 26)
  have V0 := Blk.new ((w.alloc (.cells (u8s S).toArray 26)).alloc (.cells (u8s (List.replicate 16 0)).toArray 26)) (u8s (List.replicate 16 0)) 26 (w.heap.size + 1 + 1) (by simp)
  have bel : Below w.heap.size w (((w.alloc (.cells (u8s S).toArray 26)).alloc (.cells (u8s (List.replicate 16 0)).toArray 26)).alloc (.cells (u8s (List.replicate 16 0)).toArray 26)) := ((((Below.refl _ _).alloc (Nat.le_refl _) _).alloc (by simp) _).alloc (by simp; omega) _)
  generalize (u8s (List.replicate 16 0)).toArray = cs at hz bel B0 R0 V0
  obtain ⟨ds, hds⟩ : ∃ z, (u8s S).toArray = z := ⟨_, rfl⟩
  rw [hds] at B0 R0 V0 bel ⊢
  clear hds
  go_enter Try.func13, Try.ntmps13
  go_wp2_with fail
  obtain ⟨W, hW⟩ : ∃ z, z = ((w.alloc (Obj.cells ds 26)).alloc (Obj.cells cs 26)).alloc (Obj.cells cs 26) := ⟨_, rfl⟩
  rw [← hW] at B0 R0 V0 bel ⊢
  clear hW hz
  rw [← turnY_0 S] at V0
  go_loopw [6] (fun rv wx => ∃ r : Nat, r ≤ 4 ∧ rv = .int .i64 r ∧ Blk wx (w.heap.size + 1 + 1) (u8s (turnY S (4 * r))) ∧ Blk wx w.heap.size (u8s S) ∧ Blk wx (w.heap.size + 1) (u8s (List.replicate 16 0)) ∧ Below w.heap.size w wx) (fun rv _ => 4 - (intOf rv).toNat)
  case atStart => exact ⟨0, by omega, rfl, V0, B0, R0, bel⟩
  case round =>
    clear V0 B0 R0 bel
    obtain ⟨r, hr, rfl, V0, B0, R0, bel⟩ := hrel
    by_cases hrl : r < 4
    · have g1 : (r : Int) < 4 := by omega
      go_wp2_with fail
      obtain ⟨W1, hW1⟩ : ∃ z, z = wr := ⟨_, rfl⟩
      rw [← hW1] at V0 B0 R0 bel ⊢
      clear hW1
      go_loopw [9] (fun cv wx => ∃ c : Nat, c ≤ 4 ∧ cv = .int .i64 c ∧ Blk wx (w.heap.size + 1 + 1) (u8s (turnY S (4 * r + c))) ∧ Blk wx w.heap.size (u8s S) ∧ Blk wx (w.heap.size + 1) (u8s (List.replicate 16 0)) ∧ Below w.heap.size w wx) (fun cv _ => 4 - (intOf cv).toNat)
      case atStart => exact ⟨0, by omega, rfl, V0, B0, R0, bel⟩
      case round =>
        clear V0 B0 R0 bel
        obtain ⟨c, hc, rfl, V0, B0, R0, bel⟩ := hrel
        by_cases hcl : c < 4
        · have HS : Hid _ := turnY_set (S := S) hcl hrl
          have g2 : (c : Int) < 4 := by omega
          have i1 : IntKind.i64.wrap (4 * (r : Int)) = 4 * (r : Int) := by rw [IntKind.wrap_i64]; omega
          have i2 : IntKind.i64.wrap (4 * (r : Int) + (c : Int)) = ((4 * r + c : Nat) : Int) := by rw [IntKind.wrap_i64]; omega
          have i3 : IntKind.i64.wrap ((r : Int) + (c : Int)) = (r : Int) + (c : Int) := by rw [IntKind.wrap_i64]; omega
          have i4 : ((r : Int) + (c : Int)).tmod 4 = (((r + c) % 4 : Nat) : Int) := by rw [Int.tmod_eq_emod_of_nonneg (by omega)]; omega
          have i5 : IntKind.i64.wrap (4 * (((r + c) % 4 : Nat) : Int)) = 4 * (((r + c) % 4 : Nat) : Int) := by rw [IntKind.wrap_i64]; omega
          have i6 : IntKind.i64.wrap (4 * (((r + c) % 4 : Nat) : Int) + (c : Int)) = ((4 * ((r + c) % 4) + c : Nat) : Int) := by rw [IntKind.wrap_i64]; omega
          have l1 : ((4 * r + c : Nat) : Int) < 16 := by omega
          have l2 : ((4 * ((r + c) % 4) + c : Nat) : Int) < 16 := by omega
          have k1 : (0 : Int) ≤ ((4 * r + c : Nat) : Int) := by omega
          have k2 : (0 : Int) ≤ ((4 * ((r + c) % 4) + c : Nat) : Int) := by omega
          have cs1 := B0.cell (4 * ((r + c) % 4) + c) _ (u8s_get S _ (by rw [lS.out]; omega))
          have fz := V0.frozen (4 * r + c)
          have cv := V0.cell (4 * r + c) _ (u8s_get _ _ (by rw [turnY_len]; omega))
          obtain ⟨x, hx⟩ : ∃ x, S.getD (4 * ((r + c) % 4) + c) 0 = x := ⟨_, rfl⟩
          obtain ⟨m, hm⟩ : ∃ m, 4 * ((r + c) % 4) + c = m := ⟨_, rfl⟩
          obtain ⟨d, hd⟩ : ∃ d, (r + c) % 4 = d := ⟨_, rfl⟩
          obtain ⟨n, hn⟩ : ∃ n, 4 * r + c = n := ⟨_, rfl⟩
          rw [hx] at cs1 HS
          rw [hm] at cs1 i6 l2 k2
          rw [hd] at i4 i5 i6
          rw [hn] at i2 l1 k1 fz cv HS V0
          clear hx hm hd hn
          have lv := V0.lt
          have lb := B0.lt
          have HV := V0.setb n x
          rw [HS.out] at HV
          replace B0 := B0.other ⟨w.heap.size + 1 + 1, n, none⟩ (.int .u8 x) (by show w.heap.size ≠ w.heap.size + 1 + 1; omega)
          replace R0 := R0.other ⟨w.heap.size + 1 + 1, n, none⟩ (.int .u8 x) (by show w.heap.size + 1 ≠ w.heap.size + 1 + 1; omega)
          replace bel := bel.setCell (p := ⟨w.heap.size + 1 + 1, n, none⟩) (by show w.heap.size ≤ w.heap.size + 1 + 1; omega) (.int .u8 x)
          clear V0 HS
          go_wp2_with fail
          go_roundw
          case rel => exact ⟨c + 1, by omega, by go_num, HV, B0, R0, bel⟩
          case measure => simp [intOf]; omega
        · have HC : Hid (c = 4) := by show c = 4; omega
          have g2 : (4 : Int) ≤ (c : Int) := by omega
          go_wp2_with fail
          go_roundw
          case rel => exact ⟨r + 1, by omega, by go_num, by rw [HC.out, show 4 * r + 4 = 4 * (r + 1) by omega] at V0; exact V0, B0, R0, bel⟩
          case measure => simp [intOf]; omega
    · have HR : Hid (r = 4) := by show r = 4; omega
      have g1 : (4 : Int) ≤ (r : Int) := by omega
      rw [HR.out, show 4 * 4 = 16 from rfl, turnY_16] at V0
      obtain ⟨tV, hV⟩ := V0
      obtain ⟨tR, hR⟩ := R0
      have HL : Hid (16 = (u8s (turnN S)).toArray.size) := by show 16 = _; simp [turnN_len]
      have HO : Hid ((u8s (List.replicate 16 (0 : Int))).toArray.size = (u8s (turnN S)).toArray.size) := by show _ = _; simp [turnN_len]
      have H1 : Hid _ := u8_ones (turnN S)
      obtain ⟨fs, hfs⟩ : ∃ z, (u8s (turnN S)).toArray = z := ⟨_, rfl⟩
      have HD : Hid _ := hfs
      rw [hfs] at hV HL HO H1
      generalize (u8s (List.replicate 16 (0 : Int))).toArray = es at hR HO
      clear hfs
      go_wp2_with (first
        | (refine wpList_load_row rfl 26 _ rfl (w.heap.size + 1 + 1) rfl tV fs _ _ hV Try.underlying26 rfl (by rw [size_16, HL.out]) ?_)
        | (refine wpList_store_row rfl 26 _ _ rfl (w.heap.size + 1) fs rfl rfl tR es hR (by rw [size_16, HL.out]) HO.out H1.out ?_)
        | fail)
      refine bodyPost_ret (results_cell_row rfl _ _ (w.heap.size + 1) tR fs (0, 0) _ rfl (setRow_heap _ _ _ _ _ _ hR) Try.underlying26 rfl (by rw [size_16, HL.out])) rfl ?_
      exact ⟨by rw [HD.out], below_setRow bel (by omega) _⟩
/-- columns mixed: the first t places -/
def mixY (S : List Int) (t : Nat) : List Int := (List.range 16).map fun j => if j < t then ((accN S (j / 4) (j % 4) 4 : Nat) : Int) else 0
theorem mixY_len (S : List Int) (t : Nat) : (mixY S t).length = 16 := by simp [mixY]
theorem mixY_0 (S : List Int) : mixY S 0 = List.replicate 16 0 := by simp [mixY]; rfl
theorem mixY_16 (S : List Int) : mixY S 16 = mixN S := by
  unfold mixY mixN
  apply List.map_congr_left
  intro j hj
  rw [if_pos (List.mem_range.1 hj)]
theorem mixY_set {S : List Int} {c r : Nat} (hr : r < 4) : (mixY S (4 * c + r)).set (4 * c + r) ((accN S c r 4 : Nat) : Int) = mixY S (4 * c + r + 1) := by
  have e := zset (f := fun j => ((accN S (j / 4) (j % 4) 4 : Nat) : Int)) (g := fun _ => 0) (k := 4 * c + r)
  rw [show (4 * c + r) / 4 = c by omega, show (4 * c + r) % 4 = r by omega] at e
  exact e
/-- a place of a mixed state, as the program goes -/
theorem mix_val {S : List Int} (b : byt S) {c r : Nat} (hr : r < 4) {x0 x1 x2 x3 d : Int} (e0 : S.getD (4 * c + r % 4) 0 = x0) (e1 : S.getD (4 * c + (r + 1) % 4) 0 = x1) (e2 : S.getD (4 * c + (r + 2) % 4) 0 = x2) (e3 : S.getD (4 * c + (r + 3) % 4) 0 = x3) (hd : d = ((dL (bits .xor .u8 x0 x1).toNat : Nat) : Int)) : bits .xor .u8 (bits .xor .u8 (bits .xor .u8 d x1) x2) x3 = ((accN S c r 4 : Nat) : Int) := by
  have lx : ∀ {x y : Nat}, x < 256 → y < 256 → x ^^^ y < 256 := fun hx hy => Nat.xor_lt_two_pow (n := 8) hx hy
  have c0 : x0 = ((cbN S c r : Nat) : Int) := by
    have := b (4 * c + r)
    rw [← e0, show r % 4 = r by omega]
    unfold cbN
    omega
  have cc : ∀ k x, S.getD (4 * c + k) 0 = x → x = ((cbN S c k : Nat) : Int) := fun k x h => by
    have := b (4 * c + k)
    rw [← h]
    unfold cbN
    omega
  have c1 := cc _ _ e1
  have c2 := cc _ _ e2
  have c3 := cc _ _ e3
  have l0 := cb_lt b c r
  have l1 := cb_lt b c ((r + 1) % 4)
  have l2 := cb_lt b c ((r + 2) % 4)
  have l3 := cb_lt b c ((r + 3) % 4)
  rw [acc_col b c r hr]
  clear e0 e1 e2 e3 cc
  generalize cbN S c r = y0 at *
  generalize cbN S c ((r + 1) % 4) = y1 at *
  generalize cbN S c ((r + 2) % 4) = y2 at *
  generalize cbN S c ((r + 3) % 4) = y3 at *
  subst c0 c1 c2 c3 hd
  have l01 := lx l0 l1
  have dd : dL (y0 ^^^ y1) = dblN y0 ^^^ dblN y1 := by rw [dL_all ⟨y0 ^^^ y1, l01⟩]; exact dbl_xor l0 l1
  have ld : dL (y0 ^^^ y1) < 256 := dL_lt
  rw [u8_xor_nat _ _ l0 l1, Int.toNat_natCast, u8_xor_nat _ _ ld l1, u8_xor_nat _ _ (lx ld l1) l2, u8_xor_nat _ _ (lx (lx ld l1) l2) l3, dd]
  unfold colN
  rw [Nat.xor_assoc (dblN y0)]

set_option maxRecDepth 100000 in
theorem con_at {gs gc c r : Nat} {rr : Int} {S : List Int} {w : World} (hr : rr = (r : Int)) (r0 : r < 100) (hc : c < 4) (lS : S.length = 16) (B : Blk w gs (u8s S)) (C : Blk w gc [.int .i64 (c : Int)]) :
    Calls Try.prog 24 #[.int .i64 rr, .pointer (some ⟨gs, 0, none⟩), .pointer (some ⟨gc, 0, none⟩)] w fun e w' => e = .returned (.int .u8 (S.getD (4 * c + r % 4) 0)) ∧ w' = w := by
  subst hr
  have cc := C.cell 0 _ rfl
  have cs := B.cell (4 * c + r % 4) _ (u8s_get S _ (by rw [lS]; omega))
  have i1 : IntKind.i64.wrap (4 * (c : Int)) = 4 * (c : Int) := by rw [IntKind.wrap_i64]; omega
  have i2 : ((r : Int)).tmod 4 = ((r % 4 : Nat) : Int) := by rw [Int.tmod_eq_emod_of_nonneg (by omega)]; omega
  have i3 : IntKind.i64.wrap (4 * (c : Int) + ((r % 4 : Nat) : Int)) = ((4 * c + r % 4 : Nat) : Int) := by rw [IntKind.wrap_i64]; omega
  have l1 : ((4 * c + r % 4 : Nat) : Int) < 16 := by omega
  have k1 : (0 : Int) ≤ ((4 * c + r % 4 : Nat) : Int) := by omega
  obtain ⟨n, hn⟩ : ∃ n, 4 * c + r % 4 = n := ⟨_, rfl⟩
  rw [hn] at cs i3 l1 k1 ⊢
  obtain ⟨m, hm⟩ : ∃ m, r % 4 = m := ⟨_, rfl⟩
  rw [hm] at i2 i3
  obtain ⟨x, hx⟩ : ∃ x, S.getD n 0 = x := ⟨_, rfl⟩
  rw [hx] at cs ⊢
  have lb := B.lt
  have lc := C.lt
  clear hn hm hx
  go_enter Try.func24, Try.ntmps24
  go_wp2_with fail
  go_ret
  exact ⟨rfl, rfl⟩
theorem con_atL {gs gc c r : Nat} {rr x : Int} {S : List Int} {w : World} (hr : rr = (r : Int)) (hx : S.getD (4 * c + r % 4) 0 = x) (r0 : r < 100) (hc : c < 4) (lS : S.length = 16) (B : Blk w gs (u8s S)) (C : Blk w gc [.int .i64 (c : Int)]) :
    Calls Try.prog 24 #[.int .i64 rr, .pointer (some ⟨gs, 0, none⟩), .pointer (some ⟨gc, 0, none⟩)] w fun e w' => e = .returned (.int .u8 x) ∧ w' = w := by
  subst hx
  exact con_at hr r0 hc lS B C

end Go.Proofs.Ytlamngilmkaliaa
