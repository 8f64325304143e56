/- The document's Filled and bits. -/
import Derived.Test.YtogbmekgmjmonaaRows
import Derived.Test.YtogbmekgmjmonaaGhNumG
import Derived.Test.YtogbmekgmjmonaaAeNumG
import Derived.Test.YtogbmekgmjmonaaApBs
import Derived.Test.YtogbmekgmjmonaaWpRowG
import Derived.Deep.WholeRow
import Derived.Deep.RegionHeld3
import Derived.Deep.DeepCutAuto
import Derived.Deep.DeepFit
namespace Go.Proofs.Ytogbmekgmjmonaa
open Go.RowKit

def lenW : Value → Nat
  | .slice _ n _ => n
  | _ => 0
set_option linter.unusedSimpArgs false in
set_option maxRecDepth 100000 in
set_option maxHeartbeats 2000000 in
theorem r10_Filled {v : Value} {B : List Int} {w : World} (hv : Bs w v B) (l : B.length ≤ 1099511627776) :
    Calls Try.prog 31 #[v] w fun e w' => ∃ v' : Value, e = .returned v' ∧ w'.ownsRow w.heap.size 5 1 v' (filF B).length (u8s (filF B)) ∧ Below w.heap.size w w' := by
  have hv0 := hv
  obtain ⟨ao, cap, rfl, c1, c2, c3⟩ := hv0
  clear c3
  unfold maxLen at c1
  have own1 := own_made w [] 5 0 w.heap.size rfl (Nat.le_refl _) (by decide)
  have hs1 := hv.later ((Below.refl _ _).alloc (Nat.le_refl _) (.cells #[] 5))
  go_enter Try.func31, Try.ntmps31
  go_wp2_with (first | (at_builtin; refine wpList_append_bs (by rfl) _ _ (by rfl) w.heap.size _ 0 [] (by rfl) own1 _ B (by rfl) hs1 (by omega) (by simp) ?_; intro v2 w2 own2 hgrow hat) | fail)
  have hb2 := below_own (base := w.heap.size) ((Below.refl w.heap.size w).alloc (Nat.le_refl _) (.cells #[] 5)) hgrow (by simp) (fun g hg => own_geA own1 hg) (Nat.le_refl _)
  rw [Nat.zero_add, List.nil_append] at own2
  clear hgrow hat own1 hs1 hv
  obtain ⟨W, hW⟩ : ∃ z, z = w2 := ⟨_, rfl⟩
  rw [← hW] at own2 hb2 ⊢
  clear hW
  go_loopw [3] (fun ov wx => ∃ k : Nat, k ≤ padK B.length ∧ wx.ownsRow w.heap.size 5 1 ov (B.length + k) (u8s (B ++ List.replicate k 0)) ∧ Below w.heap.size w wx) (fun ov _ => B.length + 16 - lenW ov)
  case atStart => exact ⟨0, Nat.zero_le _, by simpa using own2, hb2⟩
  case round =>
    clear own2 hb2
    obtain ⟨k, hk, own, hb⟩ := hrel
    have hp : padK B.length < 16 := Nat.mod_lt _ (by decide)
    have hpi := pad_iff hk
    obtain ⟨ak, ck, rfl, e1, e2⟩ := own_slice own
    unfold maxLen at e2
    have tm : ((B.length + k : Nat) : Int).tmod 16 = (((B.length + k) % 16 : Nat) : Int) := by rw [Int.tmod_eq_emod_of_nonneg (by omega)]; omega
    by_cases hkl : k < padK B.length
    · have g1 : ¬ (((B.length + k) % 16 : Nat) : Int) = 0 := by omega
      obtain ⟨m, hm⟩ : ∃ m, (B.length + k) % 16 = m := ⟨_, rfl⟩
      rw [hm] at tm g1
      clear hm hpi
      obtain ⟨n, hn⟩ : ∃ n, B.length + k = n := ⟨_, rfl⟩
      have HN : Hid (B.length + k = n) := hn
      rw [hn] at own tm e1 ⊢
      clear hn
      have HF : Hid _ := fill_next B k
      have b1 := bs_one wr 0
      have hsx := hb.size
      have nl : n ≤ 1099511627792 := by have := HN.out; omega
      go_wp2_with (first | (at_builtin; refine wpList_append_bs (by rfl) _ _ (by rfl) w.heap.size _ n (B ++ List.replicate k 0) (by rfl) (own.alloc _) _ [0] (by rfl) b1 (by simp; omega) (by simp; omega) ?_; intro v5 w5 own5 hgrow hat) | fail)
      go_roundw
      case rel =>
        rw [HF.out, ← HN.out] at own5
        exact ⟨k + 1, by omega, own5, below_own (base := w.heap.size) (hb.alloc hsx (.cells #[.int .u8 0] 5)) hgrow (by simp; omega) (fun g hg => own_geA own hg) (Nat.le_refl _)⟩
      case measure => obtain ⟨a6, c6, rfl, _, _⟩ := own_slice own5; have := HN.out; simp [lenW]; omega
    · have HK : Hid (k = padK B.length) := by show k = _; omega
      have g1 : (B.length + k) % 16 = 0 := by rw [hpi]; omega
      rw [g1] at tm
      clear hpi g1
      obtain ⟨n, hn⟩ : ∃ n, B.length + k = n := ⟨_, rfl⟩
      have HN : Hid (B.length + k = n) := hn
      rw [hn] at own tm e1 ⊢
      clear hn
      replace tm : (n : Int).tmod 16 = 0 := tm
      go_wp2_with fail
      go_ret
      refine ⟨_, rfl, ?_, hb⟩
      rw [← HN.out] at own ⊢
      have e : B.length + k = (filF B).length := by rw [HK.out, filF, List.length_append, List.length_replicate]
      rw [← e]
      unfold filF
      rw [← HK.out]
      exact own
set_option linter.unusedSimpArgs false in
set_option maxRecDepth 100000 in
set_option maxHeartbeats 2000000 in
theorem r10_bits {n : Nat} {w : World} (l : n ≤ 1099511627776) :
    Calls Try.prog 32 #[.int .i64 (n : Int)] w fun e w' => ∃ g : Nat, e = .returned (.slice (some ⟨g, 0, none⟩) 8 8) ∧ Blk w' g (u8s (lenN n)) ∧ w.heap.size ≤ g ∧ Below w.heap.size w w' := by
  have hmk := run_make_row' 22 5 (.int .u8 0) 1 Try.underlying22 info_b16 rfl .i64 .i64 8 (by decide) (by decide) w
  rw [made_zero] at hmk
  have BZ := Blk.new w (u8s (List.replicate 8 0)) 5 w.heap.size rfl
  have bz : Below w.heap.size w (w.alloc (.cells (u8s (List.replicate 8 0)).toArray 5)) := (Below.refl _ _).alloc (Nat.le_refl _) _
  obtain ⟨W, hW⟩ : ∃ W, W = w.alloc (.cells (u8s (List.replicate 8 0)).toArray 5) := ⟨_, rfl⟩
  rw [← hW] at hmk BZ bz
  replace hmk : (Instr.makeSlice 22 (.int .i64 8) (.int .i64 8)).run Try.prog w = .ok (.slice (some ⟨w.heap.size, 0, none⟩) 8 8) W := hmk
  clear hW
  rw [← lenZ_0 n] at BZ
  have w8 : IntKind.i64.wrap (8 * (n : Int)) = ((8 * n / 256 ^ 0 : Nat) : Int) := by rw [IntKind.wrap_i64]; omega
  go_enter Try.func32, Try.ntmps32
  go_wp2_with fail
  clear hmk w8
  go_loopw [0, 4] (fun nv iv wx => ∃ t : Nat, t ≤ 8 ∧ iv = .int .i64 (7 - (t : Int)) ∧ nv = .int .i64 ((8 * n / 256 ^ t : Nat) : Int) ∧ Blk wx w.heap.size (u8s (lenZ n t)) ∧ Below w.heap.size w wx) (fun _ iv _ => (intOf iv + 1).toNat)
  case atStart => exact ⟨0, by omega, by go_num, by rw [Nat.pow_zero, Nat.div_one]; simp, BZ, bz⟩
  case round =>
    clear BZ bz
    obtain ⟨t, ht, rfl, rfl, BZ, bz⟩ := hrel
    by_cases htl : t < 8
    · have HS : Hid _ := lenZ_set (n := n) htl
      obtain ⟨m, hm⟩ : ∃ m, m + t = 7 := ⟨7 - t, by omega⟩
      have et : 7 - (t : Int) = (m : Int) := by omega
      rw [show 7 - t = m by omega] at HS
      have gx : 8 * n / 256 ^ t ≤ 8 * n := Nat.div_le_self _ _
      have HD : Hid (8 * n / 256 ^ t / 256 = 8 * n / 256 ^ (t + 1)) := by show _ = _; rw [Nat.div_div_eq_div_mul, ← Nat.pow_succ]
      obtain ⟨x, hx⟩ : ∃ x, 8 * n / 256 ^ t = x := ⟨_, rfl⟩
      rw [hx] at HS gx HD
      rw [hx, et]
      clear hx et
      have tm : (x : Int).tmod 256 = ((x % 256 : Nat) : Int) := by rw [Int.tmod_eq_emod_of_nonneg (by omega)]; omega
      have td : (x : Int).tdiv 256 = ((x / 256 : Nat) : Int) := by rw [Int.tdiv_eq_ediv_of_nonneg (by omega)]; omega
      have w1 : IntKind.u8.wrap ((x % 256 : Nat) : Int) = ((x % 256 : Nat) : Int) := by rw [IntKind.wrap_u8]; omega
      have w2 : IntKind.i64.wrap ((x / 256 : Nat) : Int) = ((x / 256 : Nat) : Int) := by rw [IntKind.wrap_i64]; omega
      have w3 : IntKind.i64.wrap ((m : Int) - 1) = (m : Int) - 1 := by rw [IntKind.wrap_i64]; omega
      obtain ⟨y, hy⟩ : ∃ y, ((x % 256 : Nat) : Int) = y := ⟨_, rfl⟩
      rw [hy] at tm w1 HS
      obtain ⟨d, hd⟩ : ∃ d, x / 256 = d := ⟨_, rfl⟩
      rw [hd] at td w2 HD
      clear hy hd
      have g1 : (0 : Int) ≤ (m : Int) := by omega
      have g2 : (m : Int) < 8 := by omega
      have g3 : (m : Int).toNat = m := by omega
      have cz := BZ.cell m _ (u8s_get _ m (by rw [lenZ_len]; omega))
      have fz := BZ.frozen m
      have lz := BZ.lt
      go_wp2_with fail
      go_roundw
      case rel =>
        replace BZ := BZ.setb m y
        rw [HS.out] at BZ
        exact ⟨t + 1, by omega, by rw [show (m : Int) - 1 = 7 - ((t + 1 : Nat) : Int) by omega], by rw [HD.out], BZ, bz.setCell (by show w.heap.size ≤ w.heap.size; omega) _⟩
      case measure => simp [intOf]
    · have HT : Hid (t = 8) := by show t = 8; omega
      have g1 : 7 - (t : Int) < 0 := by omega
      go_wp2_with fail
      go_ret
      rw [HT.out, lenZ_8] at BZ
      exact ⟨w.heap.size, rfl, BZ, Nat.le_refl _, bz⟩
end Go.Proofs.Ytogbmekgmjmonaa
