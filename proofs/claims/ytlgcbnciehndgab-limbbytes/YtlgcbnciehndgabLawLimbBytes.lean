/- The law LimbBytes. -/
import Derived.Test.YtlgcbnciehndgabRows
import Derived.Test.YtlgcbnciehndgabLFrom
import Derived.Test.YtlgcbnciehndgabLBytes
import Derived.Test.YtlgcbnciehndgabRBytes
import Derived.Test.YtlgcbnciehndgabROf6
import Derived.Test.YtlgcbnciehndgabEq
import Derived.Deep.RegionHeld3
import Derived.Laws.BytesArg
namespace Go.Proofs.Ytlgcbnciehndgab
open Go.RowKit

theorem of66 {x0 x1 x2 x3 x4 x5 : Int} {w : World} (hx : fits [x0, x1, x2, x3, x4, x5]) :
    Calls Try.prog 15 #[.agg #[.int .u64 x0, .int .u64 x1, .int .u64 x2, .int .u64 x3, .int .u64 x4, .int .u64 x5]] w fun e w' => ∃ v', e = .returned v' ∧ NumIs w' v' (v64 [x0, x1, x2, x3, x4, x5]) ∧ Below w.heap.size w w' :=
  of6_any _ w rfl hx

theorem info_u64 : (Try.prog.info? 22).map (fun i => (i.zero, i.size, i.bytes)) = some (some (.int .u64 0), 1, 8) := by kernel_rfl

theorem eql_same (x0 x1 x2 x3 x4 x5 : Int) : ∀ w : World, (Op.equalIn 10000 24 (.agg #[.int .u64 x0, .int .u64 x1, .int .u64 x2, .int .u64 x3, .int .u64 x4, .int .u64 x5]) (.agg #[.int .u64 x0, .int .u64 x1, .int .u64 x2, .int .u64 x3, .int .u64 x4, .int .u64 x5])).run Try.prog w = .ok true w := fun w => by
  obtain ⟨i0, hi, _, _, _⟩ := info_parts info_u64
  have h := run_eql_us w Try.underlying24 hi (by kernel_rfl) Try.underlying22 (by kernel_rfl) [x0, x1, x2, x3, x4, x5] [x0, x1, x2, x3, x4, x5] rfl rfl
  rw [decide_eq_true rfl] at h
  exact h

theorem iface_nil : ∀ w : World, (binOp .eql 32 .nilIface .nilIface).run Try.prog w = .ok (.bool true) w := fun _ => by kernel_rfl

theorem conv_blk {w : World} {b : Nat} {X : List Int} (h : Blk w b (u8s X)) (hl : X.length = 48) :
    (convert 30 9 (.slice (some ⟨b, 0, none⟩) 48 48)).run Try.prog w = .ok (.string (strOfNums X)) w :=
  run_convert_bytes_arg w 30 5 Try.underlying30 Try.underlying5 b 0 48 48 X hl (fun i hi => by rw [Nat.zero_add]; exact h.cell i _ (u8s_get X i (by omega))) 9 Try.underlying9

theorem Bs.of_blk {w : World} {b : Nat} {X : List Int} (h : Blk w b (u8s X)) (hl : X.length = 48) : Bs w (.slice (some ⟨b, 0, none⟩) 48 48) X :=
  ⟨_, 48, by rw [hl], by unfold maxLen; omega, by omega, fun _ => ⟨b, 0, rfl, h.lt, fun j hj => by rw [Nat.zero_add]; exact h.cell j _ (u8s_get X j hj)⟩⟩

theorem bytes6 {x0 x1 x2 x3 x4 x5 : Int} {w : World} (hx : fits [x0, x1, x2, x3, x4, x5]) :
    Calls Try.prog 13 #[.agg #[.int .u64 x0, .int .u64 x1, .int .u64 x2, .int .u64 x3, .int .u64 x4, .int .u64 x5]] w fun e w' => ∃ (g : Nat) (X : List Int), e = .returned (.slice (some ⟨g, 0, none⟩) 48 48) ∧ Blk w' g (u8s X) ∧ X.length = 48 ∧ byt X ∧ beN X = v64 [x0, x1, x2, x3, x4, x5] ∧ Below w.heap.size w w' := by
  refine (bytes_any [x0, x1, x2, x3, x4, x5] w rfl hx).mono ?_
  rintro e w' ⟨g, rfl, hB, hb⟩
  exact ⟨g, _, rfl, hB, bytesOf_len _, bytesOf_byt _, bytesOf_num _ rfl hx, hb⟩

theorem from_is {v : Value} {bs : List Int} {x0 x1 x2 x3 x4 x5 : Int} {w : World} (h : Bs w v bs) (hl : bs.length = 48) (hB : byt bs) (hx : fits [x0, x1, x2, x3, x4, x5]) (hn : beN bs = v64 [x0, x1, x2, x3, x4, x5]) :
    Calls Try.prog 10 #[v] w fun e w' => e = .returned (.tuple #[.agg #[.int .u64 x0, .int .u64 x1, .int .u64 x2, .int .u64 x3, .int .u64 x4, .int .u64 x5], .nilIface]) ∧ Below w.heap.size w w' := by
  refine (from_right v bs w h hl hB).mono ?_
  rintro e w' ⟨S, rfl, lS, fS, hS, hb⟩
  have : S = [x0, x1, x2, x3, x4, x5] := v64_inj S _ lS fS hx (by rw [hS, hn])
  subst this
  exact ⟨rfl, hb⟩

theorem rbytes_is {v : Value} {N : Int} {X : List Int} {w : World} (hv : NumIs w v N) (hN : N < 4294967296 ^ 12) (hl : X.length = 48) (hB : byt X) (hn : beN X = N) :
    Calls Try.prog 14 #[v, .int .i64 48] w fun e w' => ∃ g : Nat, e = .returned (.slice (some ⟨g, 0, none⟩) 48 48) ∧ Blk w' g (u8s X) ∧ Below w.heap.size w w' := by
  refine (rbytes_any v N w hv hN).mono ?_
  rintro e w' ⟨g, Y, rfl, hY, lY, bY, nY, hb⟩
  have : Y = X := beN_inj Y X (by omega) bY hB (by rw [nY, hn])
  subst this
  exact ⟨g, rfl, hY, hb⟩

theorem num_lt (X : List Int) (lX : X.length = 6) (fX : fits X) : v64 X < 4294967296 ^ 12 := by
  have b := v64_bound X fX
  rw [lX] at b
  have e : (18446744073709551616 : Int) ^ 6 = 4294967296 ^ 12 := by decide
  omega

set_option maxRecDepth 100000 in
set_option maxHeartbeats 1000000 in
theorem law_limbBytes (x0 x1 x2 x3 x4 x5 : Int) (w : World) (hx : fits [x0, x1, x2, x3, x4, x5]) :
    Calls Try.prog 6 #[.agg #[.int .u64 x0, .int .u64 x1, .int .u64 x2, .int .u64 x3, .int .u64 x4, .int .u64 x5]] w fun e w' => e = .returned (.bool true) ∧ Below w.heap.size w w' := by
  have B0 := Blk.new w (us [x0, x1, x2, x3, x4, x5]) 24 w.heap.size rfl
  have bel : Below w.heap.size w (w.alloc (.cells (us [x0, x1, x2, x3, x4, x5]).toArray 24)) := (Below.refl _ _).alloc (Nat.le_refl _) _
  have q1 := eql_same x0 x1 x2 x3 x4 x5
  have qi := iface_nil
  have hlt := num_lt [x0, x1, x2, x3, x4, x5] rfl hx
  go_enter Try.func6, Try.ntmps6
  go_wp2_with fail
  simp only [us, List.map_cons, List.map_nil] at B0 bel
  generalize w.alloc (Obj.cells #[.int .u64 x0, .int .u64 x1, .int .u64 x2, .int .u64 x3, .int .u64 x4, .int .u64 x5] 24) = W at *
  have z0 := B0.lt
  refine (bytes6 hx).mono ?_
  rintro e w1 ⟨g, X, rfl, BX, lX, bX, nX, hb⟩
  have HX : Hid (X.length = 48 ∧ byt X ∧ beN X = v64 [x0, x1, x2, x3, x4, x5]) := ⟨lX, bX, nX⟩
  replace B0 := B0.later hb
  replace bel := bel.trans (hb.mono (by omega))
  clear hb z0 lX bX nX
  have z0 := B0.lt
  go_wp2_with fail
  refine (from_is (Bs.of_blk BX HX.out.1) HX.out.1 HX.out.2.1 hx HX.out.2.2).mono ?_
  rintro e w2 ⟨rfl, hb⟩
  replace B0 := B0.later hb
  replace BX := BX.later hb
  replace bel := bel.trans (hb.mono (by omega))
  clear hb z0
  have z0 := B0.lt
  have B4 := Blk.new w2 (us [x0, x1, x2, x3, x4, x5]) 24 w2.heap.size rfl
  replace B0 := B0.alloc (.cells (us [x0, x1, x2, x3, x4, x5]).toArray 24)
  replace BX := BX.alloc (.cells (us [x0, x1, x2, x3, x4, x5]).toArray 24)
  replace bel := bel.alloc (by omega) (.cells (us [x0, x1, x2, x3, x4, x5]).toArray 24)
  go_wp2_with fail
  simp only [us, List.map_cons, List.map_nil] at B0 B4 BX bel
  generalize w2.alloc (Obj.cells #[.int .u64 x0, .int .u64 x1, .int .u64 x2, .int .u64 x3, .int .u64 x4, .int .u64 x5] 24) = W2 at *
  obtain ⟨b4, hb4⟩ : ∃ b, b = w2.heap.size := ⟨_, rfl⟩
  rw [← hb4] at B4 ⊢
  clear hb4 z0
  have z0 := B0.lt
  have z4 := B4.lt
  obtain ⟨c0, c1, c2, c3, c4, c5⟩ := B0.cells6
  obtain ⟨e0, e1, e2, e3, e4, e5⟩ := B4.cells6
  have cv := conv_blk BX HX.out.1
  obtain ⟨str, hstr⟩ : ∃ s, strOfNums X = s := ⟨_, rfl⟩
  rw [hstr] at cv
  have HS : Hid (strOfNums X = str) := hstr
  clear hstr
  have cvd := (conv_blk BX.drew HX.out.1).trans (by rw [HS.out])
  go_region_with (first
      | (go_at_call 15; refine (of66 hx).mono ?_; rintro e wn ⟨v9, rfl, hN9, hb⟩; (first | replace B0 := B0.later hb | replace B0 := B0.drew.later hb); (first | replace B4 := B4.later hb | replace B4 := B4.drew.later hb); (first | replace BX := BX.later hb | replace BX := BX.drew.later hb); (first | replace bel := bel.trans (hb.mono (by omega)) | replace bel := bel.drew.trans (hb.mono (by simp <;> omega))); have z0 := B0.lt; have z4 := B4.lt; obtain ⟨c0, c1, c2, c3, c4, c5⟩ := B0.cells6; obtain ⟨e0, e1, e2, e3, e4, e5⟩ := B4.cells6; have cv := (conv_blk BX HX.out.1).trans (by rw [HS.out]))
      | (go_at_call 14; refine (rbytes_is hN9 hlt HX.out.1 HX.out.2.1 HX.out.2.2).mono ?_; rintro e wn ⟨g2, rfl, BY, hb⟩; have cv2 := (conv_blk BY HX.out.1).trans (by rw [HS.out]); (first | replace B0 := B0.later hb | replace B0 := B0.drew.later hb); (first | replace B4 := B4.later hb | replace B4 := B4.drew.later hb); (first | replace BX := BX.later hb | replace BX := BX.drew.later hb); (first | replace bel := bel.trans (hb.mono (by omega)) | replace bel := bel.drew.trans (hb.mono (by simp <;> omega))); have z0 := B0.lt; have z4 := B4.lt; obtain ⟨c0, c1, c2, c3, c4, c5⟩ := B0.cells6; obtain ⟨e0, e1, e2, e3, e4, e5⟩ := B4.cells6; have cv := (conv_blk BX HX.out.1).trans (by rw [HS.out])))
  all_goals go_wp2
  all_goals (go_ret; exact ⟨rfl, bel⟩)
end Go.Proofs.Ytlgcbnciehndgab
