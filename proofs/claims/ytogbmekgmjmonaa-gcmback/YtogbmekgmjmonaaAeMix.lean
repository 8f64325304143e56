/- The document's Mixed. -/
import Derived.Test.YtogbmekgmjmonaaRows
import Derived.Test.YtogbmekgmjmonaaAeTurn
import Derived.Deep.WholeRow
import Derived.Deep.RegionHeld3
import Derived.Deep.DeepCutAuto
import Derived.Deep.DeepFit
namespace Go.Proofs.Ytogbmekgmjmonaa
open Go.RowKit

set_option linter.unusedSimpArgs false in
set_option maxRecDepth 100000 in
set_option maxHeartbeats 4000000 in
theorem r9_Mixed {S : List Int} {w : World} (l : S.length = 16) (bS : byt S) :
    Calls Try.prog 30 #[.agg (u8s S).toArray] w fun e w' => e = .returned (.agg (u8s (mixN S)).toArray) ∧ Below w.heap.size w w' := by
  have hz := zero_16.out
  have lS : Hid (S.length = 16) := l
  have HSb : Hid (byt S) := bS
  clear l bS
  obtain ⟨ds, hds⟩ : ∃ z, (u8s S).toArray = z := ⟨_, rfl⟩
  have HDS : Hid _ := hds
  obtain ⟨cs, hcs⟩ : ∃ z, (u8s (List.replicate 16 (0 : Int))).toArray = z := ⟨_, rfl⟩
  have HCS : Hid _ := hcs
  rw [hcs] at hz
  rw [hds]
  clear hds hcs
  have B0 := (((((((Blk.new w ((u8s S)) 42 (w.heap.size) (by simp)).alloc (.cells (u8s (List.replicate 16 0)).toArray 42)).alloc (.cells [.int .u8 2, .int .u8 3, .int .u8 1, .int .u8 1].toArray 5)).alloc (.cells [.int .u8 1, .int .u8 2, .int .u8 3, .int .u8 1].toArray 5)).alloc (.cells [.int .u8 1, .int .u8 1, .int .u8 2, .int .u8 3].toArray 5)).alloc (.cells [.int .u8 3, .int .u8 1, .int .u8 1, .int .u8 2].toArray 5)).alloc (.cells [.slice (some ⟨w.heap.size + 1 + 1, 0, none⟩) 4 4, .slice (some ⟨w.heap.size + 1 + 1 + 1, 0, none⟩) 4 4, .slice (some ⟨w.heap.size + 1 + 1 + 1 + 1, 0, none⟩) 4 4, .slice (some ⟨w.heap.size + 1 + 1 + 1 + 1 + 1, 0, none⟩) 4 4].toArray 22)).alloc (.cells (u8s (List.replicate 16 0)).toArray 42)
  have R0 := ((((((Blk.new (w.alloc (.cells (u8s S).toArray 42)) ((u8s (List.replicate 16 0))) 42 (w.heap.size + 1) (by simp)).alloc (.cells [.int .u8 2, .int .u8 3, .int .u8 1, .int .u8 1].toArray 5)).alloc (.cells [.int .u8 1, .int .u8 2, .int .u8 3, .int .u8 1].toArray 5)).alloc (.cells [.int .u8 1, .int .u8 1, .int .u8 2, .int .u8 3].toArray 5)).alloc (.cells [.int .u8 3, .int .u8 1, .int .u8 1, .int .u8 2].toArray 5)).alloc (.cells [.slice (some ⟨w.heap.size + 1 + 1, 0, none⟩) 4 4, .slice (some ⟨w.heap.size + 1 + 1 + 1, 0, none⟩) 4 4, .slice (some ⟨w.heap.size + 1 + 1 + 1 + 1, 0, none⟩) 4 4, .slice (some ⟨w.heap.size + 1 + 1 + 1 + 1 + 1, 0, none⟩) 4 4].toArray 22)).alloc (.cells (u8s (List.replicate 16 0)).toArray 42)
  have M0 := (((((Blk.new ((w.alloc (.cells (u8s S).toArray 42)).alloc (.cells (u8s (List.replicate 16 0)).toArray 42)) ([.int .u8 2, .int .u8 3, .int .u8 1, .int .u8 1]) 5 (w.heap.size + 1 + 1) (by simp)).alloc (.cells [.int .u8 1, .int .u8 2, .int .u8 3, .int .u8 1].toArray 5)).alloc (.cells [.int .u8 1, .int .u8 1, .int .u8 2, .int .u8 3].toArray 5)).alloc (.cells [.int .u8 3, .int .u8 1, .int .u8 1, .int .u8 2].toArray 5)).alloc (.cells [.slice (some ⟨w.heap.size + 1 + 1, 0, none⟩) 4 4, .slice (some ⟨w.heap.size + 1 + 1 + 1, 0, none⟩) 4 4, .slice (some ⟨w.heap.size + 1 + 1 + 1 + 1, 0, none⟩) 4 4, .slice (some ⟨w.heap.size + 1 + 1 + 1 + 1 + 1, 0, none⟩) 4 4].toArray 22)).alloc (.cells (u8s (List.replicate 16 0)).toArray 42)
  have M1 := ((((Blk.new (((w.alloc (.cells (u8s S).toArray 42)).alloc (.cells (u8s (List.replicate 16 0)).toArray 42)).alloc (.cells [.int .u8 2, .int .u8 3, .int .u8 1, .int .u8 1].toArray 5)) ([.int .u8 1, .int .u8 2, .int .u8 3, .int .u8 1]) 5 (w.heap.size + 1 + 1 + 1) (by simp)).alloc (.cells [.int .u8 1, .int .u8 1, .int .u8 2, .int .u8 3].toArray 5)).alloc (.cells [.int .u8 3, .int .u8 1, .int .u8 1, .int .u8 2].toArray 5)).alloc (.cells [.slice (some ⟨w.heap.size + 1 + 1, 0, none⟩) 4 4, .slice (some ⟨w.heap.size + 1 + 1 + 1, 0, none⟩) 4 4, .slice (some ⟨w.heap.size + 1 + 1 + 1 + 1, 0, none⟩) 4 4, .slice (some ⟨w.heap.size + 1 + 1 + 1 + 1 + 1, 0, none⟩) 4 4].toArray 22)).alloc (.cells (u8s (List.replicate 16 0)).toArray 42)
  have M2 := (((Blk.new ((((w.alloc (.cells (u8s S).toArray 42)).alloc (.cells (u8s (List.replicate 16 0)).toArray 42)).alloc (.cells [.int .u8 2, .int .u8 3, .int .u8 1, .int .u8 1].toArray 5)).alloc (.cells [.int .u8 1, .int .u8 2, .int .u8 3, .int .u8 1].toArray 5)) ([.int .u8 1, .int .u8 1, .int .u8 2, .int .u8 3]) 5 (w.heap.size + 1 + 1 + 1 + 1) (by simp)).alloc (.cells [.int .u8 3, .int .u8 1, .int .u8 1, .int .u8 2].toArray 5)).alloc (.cells [.slice (some ⟨w.heap.size + 1 + 1, 0, none⟩) 4 4, .slice (some ⟨w.heap.size + 1 + 1 + 1, 0, none⟩) 4 4, .slice (some ⟨w.heap.size + 1 + 1 + 1 + 1, 0, none⟩) 4 4, .slice (some ⟨w.heap.size + 1 + 1 + 1 + 1 + 1, 0, none⟩) 4 4].toArray 22)).alloc (.cells (u8s (List.replicate 16 0)).toArray 42)
  have M3 := ((Blk.new (((((w.alloc (.cells (u8s S).toArray 42)).alloc (.cells (u8s (List.replicate 16 0)).toArray 42)).alloc (.cells [.int .u8 2, .int .u8 3, .int .u8 1, .int .u8 1].toArray 5)).alloc (.cells [.int .u8 1, .int .u8 2, .int .u8 3, .int .u8 1].toArray 5)).alloc (.cells [.int .u8 1, .int .u8 1, .int .u8 2, .int .u8 3].toArray 5)) ([.int .u8 3, .int .u8 1, .int .u8 1, .int .u8 2]) 5 (w.heap.size + 1 + 1 + 1 + 1 + 1) (by simp)).alloc (.cells [.slice (some ⟨w.heap.size + 1 + 1, 0, none⟩) 4 4, .slice (some ⟨w.heap.size + 1 + 1 + 1, 0, none⟩) 4 4, .slice (some ⟨w.heap.size + 1 + 1 + 1 + 1, 0, none⟩) 4 4, .slice (some ⟨w.heap.size + 1 + 1 + 1 + 1 + 1, 0, none⟩) 4 4].toArray 22)).alloc (.cells (u8s (List.replicate 16 0)).toArray 42)
  have MS := (Blk.new ((((((w.alloc (.cells (u8s S).toArray 42)).alloc (.cells (u8s (List.replicate 16 0)).toArray 42)).alloc (.cells [.int .u8 2, .int .u8 3, .int .u8 1, .int .u8 1].toArray 5)).alloc (.cells [.int .u8 1, .int .u8 2, .int .u8 3, .int .u8 1].toArray 5)).alloc (.cells [.int .u8 1, .int .u8 1, .int .u8 2, .int .u8 3].toArray 5)).alloc (.cells [.int .u8 3, .int .u8 1, .int .u8 1, .int .u8 2].toArray 5)) ([.slice (some ⟨w.heap.size + 1 + 1, 0, none⟩) 4 4, .slice (some ⟨w.heap.size + 1 + 1 + 1, 0, none⟩) 4 4, .slice (some ⟨w.heap.size + 1 + 1 + 1 + 1, 0, none⟩) 4 4, .slice (some ⟨w.heap.size + 1 + 1 + 1 + 1 + 1, 0, none⟩) 4 4]) 22 (w.heap.size + 1 + 1 + 1 + 1 + 1 + 1) (by simp)).alloc (.cells (u8s (List.replicate 16 0)).toArray 42)
  have V0 := Blk.new (((((((w.alloc (.cells (u8s S).toArray 42)).alloc (.cells (u8s (List.replicate 16 0)).toArray 42)).alloc (.cells [.int .u8 2, .int .u8 3, .int .u8 1, .int .u8 1].toArray 5)).alloc (.cells [.int .u8 1, .int .u8 2, .int .u8 3, .int .u8 1].toArray 5)).alloc (.cells [.int .u8 1, .int .u8 1, .int .u8 2, .int .u8 3].toArray 5)).alloc (.cells [.int .u8 3, .int .u8 1, .int .u8 1, .int .u8 2].toArray 5)).alloc (.cells [.slice (some ⟨w.heap.size + 1 + 1, 0, none⟩) 4 4, .slice (some ⟨w.heap.size + 1 + 1 + 1, 0, none⟩) 4 4, .slice (some ⟨w.heap.size + 1 + 1 + 1 + 1, 0, none⟩) 4 4, .slice (some ⟨w.heap.size + 1 + 1 + 1 + 1 + 1, 0, none⟩) 4 4].toArray 22)) ((u8s (List.replicate 16 0))) 42 (w.heap.size + 1 + 1 + 1 + 1 + 1 + 1 + 1) (by simp)
  have bel : Below w.heap.size w ((((((((w.alloc (.cells (u8s S).toArray 42)).alloc (.cells (u8s (List.replicate 16 0)).toArray 42)).alloc (.cells [.int .u8 2, .int .u8 3, .int .u8 1, .int .u8 1].toArray 5)).alloc (.cells [.int .u8 1, .int .u8 2, .int .u8 3, .int .u8 1].toArray 5)).alloc (.cells [.int .u8 1, .int .u8 1, .int .u8 2, .int .u8 3].toArray 5)).alloc (.cells [.int .u8 3, .int .u8 1, .int .u8 1, .int .u8 2].toArray 5)).alloc (.cells [.slice (some ⟨w.heap.size + 1 + 1, 0, none⟩) 4 4, .slice (some ⟨w.heap.size + 1 + 1 + 1, 0, none⟩) 4 4, .slice (some ⟨w.heap.size + 1 + 1 + 1 + 1, 0, none⟩) 4 4, .slice (some ⟨w.heap.size + 1 + 1 + 1 + 1 + 1, 0, none⟩) 4 4].toArray 22)).alloc (.cells (u8s (List.replicate 16 0)).toArray 42)) := by
    refine Below.alloc (Below.alloc (Below.alloc (Below.alloc (Below.alloc (Below.alloc (Below.alloc (Below.alloc (Below.refl _ _) ?_ _) ?_ _) ?_ _) ?_ _) ?_ _) ?_ _) ?_ _) ?_ _
    all_goals (simp; try omega)
  have TA : TimesAt ((((((((w.alloc (.cells (u8s S).toArray 42)).alloc (.cells (u8s (List.replicate 16 0)).toArray 42)).alloc (.cells [.int .u8 2, .int .u8 3, .int .u8 1, .int .u8 1].toArray 5)).alloc (.cells [.int .u8 1, .int .u8 2, .int .u8 3, .int .u8 1].toArray 5)).alloc (.cells [.int .u8 1, .int .u8 1, .int .u8 2, .int .u8 3].toArray 5)).alloc (.cells [.int .u8 3, .int .u8 1, .int .u8 1, .int .u8 2].toArray 5)).alloc (.cells [.slice (some ⟨w.heap.size + 1 + 1, 0, none⟩) 4 4, .slice (some ⟨w.heap.size + 1 + 1 + 1, 0, none⟩) 4 4, .slice (some ⟨w.heap.size + 1 + 1 + 1 + 1, 0, none⟩) 4 4, .slice (some ⟨w.heap.size + 1 + 1 + 1 + 1 + 1, 0, none⟩) 4 4].toArray 22)).alloc (.cells (u8s (List.replicate 16 0)).toArray 42)) (w.heap.size + 1 + 1) := ⟨four (MS.cell 0 _ rfl) (MS.cell 1 _ rfl) (MS.cell 2 _ rfl) (MS.cell 3 _ rfl), fun r k hr hk => four (P := fun r => ∀ k, k < 4 → World.cell? _ ⟨w.heap.size + 1 + 1 + r, k, none⟩ = some (.int .u8 ((tmN r k : Nat) : Int))) (four (M0.cell 0 _ rfl) (M0.cell 1 _ rfl) (M0.cell 2 _ rfl) (M0.cell 3 _ rfl)) (four (M1.cell 0 _ rfl) (M1.cell 1 _ rfl) (M1.cell 2 _ rfl) (M1.cell 3 _ rfl)) (four (M2.cell 0 _ rfl) (M2.cell 1 _ rfl) (M2.cell 2 _ rfl) (M2.cell 3 _ rfl)) (four (M3.cell 0 _ rfl) (M3.cell 1 _ rfl) (M3.cell 2 _ rfl) (M3.cell 3 _ rfl)) r hr k hk⟩
  have sW : Hid (((((((((w.alloc (.cells (u8s S).toArray 42)).alloc (.cells (u8s (List.replicate 16 0)).toArray 42)).alloc (.cells [.int .u8 2, .int .u8 3, .int .u8 1, .int .u8 1].toArray 5)).alloc (.cells [.int .u8 1, .int .u8 2, .int .u8 3, .int .u8 1].toArray 5)).alloc (.cells [.int .u8 1, .int .u8 1, .int .u8 2, .int .u8 3].toArray 5)).alloc (.cells [.int .u8 3, .int .u8 1, .int .u8 1, .int .u8 2].toArray 5)).alloc (.cells [.slice (some ⟨w.heap.size + 1 + 1, 0, none⟩) 4 4, .slice (some ⟨w.heap.size + 1 + 1 + 1, 0, none⟩) 4 4, .slice (some ⟨w.heap.size + 1 + 1 + 1 + 1, 0, none⟩) 4 4, .slice (some ⟨w.heap.size + 1 + 1 + 1 + 1 + 1, 0, none⟩) 4 4].toArray 22)).alloc (.cells (u8s (List.replicate 16 0)).toArray 42)).heap.size = w.heap.size + 8) := by show _ = _; simp
  clear M0 M1 M2 M3 MS
  obtain ⟨W, hW⟩ : ∃ z, z = ((((((((w.alloc (.cells (u8s S).toArray 42)).alloc (.cells (u8s (List.replicate 16 0)).toArray 42)).alloc (.cells [.int .u8 2, .int .u8 3, .int .u8 1, .int .u8 1].toArray 5)).alloc (.cells [.int .u8 1, .int .u8 2, .int .u8 3, .int .u8 1].toArray 5)).alloc (.cells [.int .u8 1, .int .u8 1, .int .u8 2, .int .u8 3].toArray 5)).alloc (.cells [.int .u8 3, .int .u8 1, .int .u8 1, .int .u8 2].toArray 5)).alloc (.cells [.slice (some ⟨w.heap.size + 1 + 1, 0, none⟩) 4 4, .slice (some ⟨w.heap.size + 1 + 1 + 1, 0, none⟩) 4 4, .slice (some ⟨w.heap.size + 1 + 1 + 1 + 1, 0, none⟩) 4 4, .slice (some ⟨w.heap.size + 1 + 1 + 1 + 1 + 1, 0, none⟩) 4 4].toArray 22)).alloc (.cells (u8s (List.replicate 16 0)).toArray 42)) := ⟨_, rfl⟩
  rw [← hW] at B0 R0 V0 bel TA sW
  rw [HDS.out, HCS.out] at hW
  go_enter Try.func30, Try.ntmps30
  go_wp2_with fail
  rw [← hW]
  clear hW hz
  rw [← mixZ_0 S] at V0
  obtain ⟨g, hg⟩ : ∃ g, g = w.heap.size + 1 + 1 + 1 + 1 + 1 + 1 + 1 := ⟨_, rfl⟩
  have HG : Hid (g = w.heap.size + 7) := by show _ = _; omega
  rw [← hg] at V0 ⊢
  have HT : Hid (TimesAt W (w.heap.size + 1 + 1)) := TA
  have HB0 : Hid (Blk W w.heap.size (u8s S)) := B0
  have HR0 : Hid (Blk W (w.heap.size + 1) (u8s (List.replicate 16 0))) := R0
  have HBel : Hid (Below w.heap.size w W) := bel
  clear TA hg B0 R0 bel
  go_loopw [5] (fun cv wx => ∃ c : Nat, c ≤ 4 ∧ cv = .int .i64 c ∧ Blk wx g (u8s (mixZ S (4 * c) 0)) ∧ Below g W wx) (fun cv _ => 4 - (intOf cv).toNat)
  case atStart => exact ⟨0, by omega, rfl, V0, Below.refl _ _⟩
  case round =>
    clear V0
    obtain ⟨c, hc, rfl, V0, hbx⟩ := hrel
    by_cases hcl : c < 4
    · have g1 : (c : Int) < 4 := by omega
      go_wp2_with fail
      obtain ⟨W1, hW1⟩ : ∃ z, z = wr := ⟨_, rfl⟩
      rw [← hW1] at V0 hbx ⊢
      clear hW1
      go_loopw [6] (fun rv wx => ∃ r : Nat, r ≤ 4 ∧ rv = .int .i64 r ∧ Blk wx g (u8s (mixZ S (4 * c + r) 0)) ∧ Below g W wx) (fun rv _ => 4 - (intOf rv).toNat)
      case atStart => exact ⟨0, by omega, rfl, V0, hbx⟩
      case round =>
        clear V0 hbx
        obtain ⟨r, hr, rfl, V0, hbx⟩ := hrel
        by_cases hrl : r < 4
        · have g2 : (r : Int) < 4 := by omega
          go_wp2_with fail
          obtain ⟨W2, hW2⟩ : ∃ z, z = wr := ⟨_, rfl⟩
          rw [← hW2] at V0 hbx ⊢
          clear hW2
          go_loopw [7] (fun kv wx => ∃ k : Nat, k ≤ 4 ∧ kv = .int .i64 k ∧ Blk wx g (u8s (mixZ S (4 * c + r) k)) ∧ Below g W wx) (fun kv _ => 4 - (intOf kv).toNat)
          case atStart => exact ⟨0, by omega, rfl, V0, hbx⟩
          case round =>
            clear V0 hbx
            obtain ⟨k, hk, rfl, V0, hbx⟩ := hrel
            by_cases hkl : k < 4
            · have g3 : (k : Int) < 4 := by omega
              have i1 : IntKind.i64.wrap (4 * (c : Int)) = 4 * (c : Int) := by rw [IntKind.wrap_i64]; omega
              have i2 : IntKind.i64.wrap (4 * (c : Int) + (r : Int)) = ((4 * c + r : Nat) : Int) := by rw [IntKind.wrap_i64]; omega
              have i3 : IntKind.i64.wrap (4 * (c : Int) + (k : Int)) = ((4 * c + k : Nat) : Int) := by rw [IntKind.wrap_i64]; omega
              have l1 : ((4 * c + r : Nat) : Int) < 16 := by omega
              have l2 : ((4 * c + k : Nat) : Int) < 16 := by omega
              have n1 : (0 : Int) ≤ (r : Int) := by omega
              have n2 : (0 : Int) ≤ (k : Int) := by omega
              have l3 : 4 * c + r < 16 := by omega
              have HS : Hid _ := mixZ_set (S := S) (k := k) hcl hrl
              have HGt : Hid _ := mixZ_get (S := S) (k := k) hcl hrl
              have HA : Hid (accN S c r (k + 1) = accN S c r k ^^^ prdN (tmN r k) (S.getD (4 * c + k) 0).toNat) := rfl
              have al := accN_lt S c r k
              have HX : Hid (0 ≤ S.getD (4 * c + k) 0 ∧ S.getD (4 * c + k) 0 < 256) := HSb.out (4 * c + k)
              obtain ⟨j, hj⟩ : ∃ j, 4 * c + r = j := ⟨_, rfl⟩
              obtain ⟨m, hm⟩ : ∃ m, 4 * c + k = m := ⟨_, rfl⟩
              have ml : m < 16 := by omega
              rw [hj] at V0 i2 l1 l3 HS HGt
              rw [hm] at i3 l2 HA HX
              have HCt := HT.out.1 r hrl
              have HCk := HT.out.2 r k hrl hkl
              have HCs := HB0.out.cell m _ (u8s_get S m (by rw [lS.out]; exact ml))
              obtain ⟨x, hx⟩ : ∃ x : Nat, S.getD m 0 = (x : Int) := ⟨_, (Int.toNat_of_nonneg HX.out.1).symm⟩
              rw [hx] at HCs HA HX
              have xl : x < 256 := by have := HX.out.2; omega
              rw [Int.toNat_natCast] at HA
              obtain ⟨t, ht⟩ : ∃ t, tmN r k = t := ⟨_, rfl⟩
              have tl : t < 256 := by rw [← ht]; exact tmN_lt r k
              rw [ht] at HCk HA
              obtain ⟨a, ha⟩ : ∃ a, accN S c r k = a := ⟨_, rfl⟩
              rw [ha] at HA HGt al
              obtain ⟨y, hy⟩ : ∃ y, prdN t x = y := ⟨_, rfl⟩
              have yl : y < 256 := by rw [← hy]; exact prdN_lt t x
              rw [hy] at HA
              have HY : Hid _ := hy
              have xx := u8_xor_nat a y al yl
              rw [← HA.out] at xx
              obtain ⟨z, hz⟩ : ∃ z, accN S c r (k + 1) = z := ⟨_, rfl⟩
              rw [hz] at xx HS
              have HJ : Hid _ := hj
              clear hj hm hx ht ha hy hz HA HX
              have gl : w.heap.size + 6 < g := by have := HG.out; omega
              obtain ⟨S1, hS1, KD1, KQ1, KB1⟩ := held_below hbx (Nat.le_refl g)
              have r1 : ∀ wx, Hd S1 wx → wx.cell? ⟨w.heap.size + 1 + 1 + 4, r, none⟩ = some (.slice (some ⟨w.heap.size + 1 + 1 + r, 0, none⟩) 4 4) := fun wx h => ((KB1.out wx h).cell (p := ⟨w.heap.size + 1 + 1 + 4, r, none⟩) (by show w.heap.size + 1 + 1 + 4 < g; omega)).trans HCt
              have r2 : ∀ wx, Hd S1 wx → wx.cell? ⟨w.heap.size + 1 + 1 + r, k, none⟩ = some (.int .u8 ((t : Nat) : Int)) := fun wx h => ((KB1.out wx h).cell (p := ⟨w.heap.size + 1 + 1 + r, k, none⟩) (by show w.heap.size + 1 + 1 + r < g; omega)).trans HCk
              have r3 : ∀ wx, Hd S1 wx → wx.cell? ⟨w.heap.size, m, none⟩ = some (.int .u8 ((x : Nat) : Int)) := fun wx h => ((KB1.out wx h).cell (p := ⟨w.heap.size, m, none⟩) (by show w.heap.size < g; omega)).trans HCs
              clear HCt HCk HCs hbx
              go_upto_region 12 with fail
              refine wp_region_noPanic ?_
              refine wp_region_held_drew (S := Hd S1) (by kernel_rfl) (KD1.out _ hS1) (fun hHeld => ?_)
              clear hS1
              replace V0 := V0.drew
              generalize World.drew _ = wd at *
              refine wpAnyH_take (i := 0) (v := ?_) rfl (by kernel_rfl) (by kernel_rfl) (by kernel_rfl) (fun _ _ _ h => h) (Or.inl ⟨by rfl, ?_⟩) (by assumption) ?_
              rotate_left
              · intro w hSw
                go_simp
                with_reducible rfl
              try simp only [Act.put, List.setIfInBounds_toArray, List.set_cons_zero, List.set_cons_succ]
              refine wpAnyH_take (i := 1) (v := ?_) rfl (by kernel_rfl) (by kernel_rfl) (by kernel_rfl) (fun _ _ _ h => h) (Or.inl ⟨by rfl, ?_⟩) (by assumption) ?_
              rotate_left
              · intro w hSw
                go_simp
                with_reducible rfl
              try simp only [Act.put, List.setIfInBounds_toArray, List.set_cons_zero, List.set_cons_succ]
              refine wpAnyH_take (i := 2) (v := ?_) rfl (by kernel_rfl) (by kernel_rfl) (by kernel_rfl) (fun _ _ _ h => h) (Or.inl ⟨by rfl, ?_⟩) (by assumption) ?_
              rotate_left
              · intro w hSw
                go_simp
                with_reducible rfl
              try simp only [Act.put, List.setIfInBounds_toArray, List.set_cons_zero, List.set_cons_succ]
              refine wpAnyH_take (i := 3) (v := ?_) rfl (by kernel_rfl) (by kernel_rfl) (by kernel_rfl) (fun _ _ _ h => h) (Or.inl ⟨by rfl, ?_⟩) (by assumption) ?_
              rotate_left
              · intro w hSw
                go_simp
                with_reducible rfl
              try simp only [Act.put, List.setIfInBounds_toArray, List.set_cons_zero, List.set_cons_succ]
              refine wpAnyH_take (i := 4) (v := ?_) rfl (by kernel_rfl) (by kernel_rfl) (by kernel_rfl) (fun _ _ _ h => h) (Or.inl ⟨by rfl, ?_⟩) (by assumption) ?_
              rotate_left
              · intro w hSw
                go_simp
                with_reducible rfl
              try simp only [Act.put, List.setIfInBounds_toArray, List.set_cons_zero, List.set_cons_succ]
              refine wpAnyH_take (i := 5) (v := ?_) rfl (by kernel_rfl) (by kernel_rfl) (by kernel_rfl) (fun _ _ _ h => h) (Or.inl ⟨by rfl, ?_⟩) (by assumption) ?_
              rotate_left
              · intro w hSw
                go_simp
                with_reducible rfl
              try simp only [Act.put, List.setIfInBounds_toArray, List.set_cons_zero, List.set_cons_succ]
              refine wpAnyH_take (i := 6) (v := ?_) rfl (by kernel_rfl) (by kernel_rfl) (by kernel_rfl) (fun _ _ _ h => h) (Or.inl ⟨by rfl, ?_⟩) (by assumption) ?_
              rotate_left
              · intro w hSw
                go_simp
                with_reducible rfl
              try simp only [Act.put, List.setIfInBounds_toArray, List.set_cons_zero, List.set_cons_succ]
              refine wpAnyH_take (i := 7) (v := ?_) rfl (by kernel_rfl) (by kernel_rfl) (by kernel_rfl) (fun _ _ _ h => h) (Or.inl ⟨by rfl, ?_⟩) (by assumption) ?_
              rotate_left
              · intro w hSw
                go_simp
                with_reducible rfl
              try simp only [Act.put, List.setIfInBounds_toArray, List.set_cons_zero, List.set_cons_succ]
              refine wpAnyH_take (i := 8) (v := ?_) rfl (by kernel_rfl) (by kernel_rfl) (by kernel_rfl) (fun _ _ _ h => h) (Or.inl ⟨by rfl, ?_⟩) (by assumption) ?_
              rotate_left
              · intro w hSw
                go_simp
                with_reducible rfl
              try simp only [Act.put, List.setIfInBounds_toArray, List.set_cons_zero, List.set_cons_succ]
              refine wpAnyH_take (i := 10) (v := ?_) rfl (by kernel_rfl) (by kernel_rfl) (by kernel_rfl) (fun _ _ _ h => h) (Or.inl ⟨by rfl, ?_⟩) (by assumption) ?_
              rotate_left
              · intro w hSw
                go_simp
                with_reducible rfl
              try simp only [Act.put, List.setIfInBounds_toArray, List.set_cons_zero, List.set_cons_succ]
              refine wpAnyH_take (i := 11) (v := ?_) rfl (by kernel_rfl) (by kernel_rfl) (by kernel_rfl) (fun _ _ _ h => h) (Or.inl ⟨by rfl, ?_⟩) (by assumption) ?_
              rotate_left
              · intro w hSw
                go_simp
                with_reducible rfl
              try simp only [Act.put, List.setIfInBounds_toArray, List.set_cons_zero, List.set_cons_succ]
              refine wpAnyH_take (i := 12) (v := ?_) rfl (by kernel_rfl) (by kernel_rfl) (by kernel_rfl) (fun _ _ _ h => h) (Or.inl ⟨by rfl, ?_⟩) (by assumption) ?_
              rotate_left
              · intro w hSw
                go_simp
                with_reducible rfl
              try simp only [Act.put, List.setIfInBounds_toArray, List.set_cons_zero, List.set_cons_succ]
              refine wpAnyH_take (i := 13) (v := ?_) rfl (by kernel_rfl) (by kernel_rfl) (by kernel_rfl) (fun _ _ _ h => h) (Or.inl ⟨by rfl, ?_⟩) (by assumption) ?_
              rotate_left
              · intro w hSw
                go_simp
                with_reducible rfl
              try simp only [Act.put, List.setIfInBounds_toArray, List.set_cons_zero, List.set_cons_succ]
              refine wpAnyH_take (i := 14) (v := ?_) rfl (by kernel_rfl) (by kernel_rfl) (by kernel_rfl) (fun _ _ _ h => h) (Or.inl ⟨by rfl, ?_⟩) (by assumption) ?_
              rotate_left
              · intro w hSw
                go_simp
                with_reducible rfl
              try simp only [Act.put, List.setIfInBounds_toArray, List.set_cons_zero, List.set_cons_succ]
              refine wpAnyH_take (i := 15) (v := ?_) rfl (by kernel_rfl) (by kernel_rfl) (by kernel_rfl) (fun _ _ _ h => h) (Or.inl ⟨by rfl, ?_⟩) (by assumption) ?_
              rotate_left
              · intro w hSw
                go_simp
                with_reducible rfl
              try simp only [Act.put, List.setIfInBounds_toArray, List.set_cons_zero, List.set_cons_succ]
              refine wpAnyH_take (i := 16) (v := ?_) rfl (by kernel_rfl) (by kernel_rfl) (by kernel_rfl) (fun _ _ _ h => h) (Or.inl ⟨by rfl, ?_⟩) (by assumption) ?_
              rotate_left
              · intro w hSw
                go_simp
                with_reducible rfl
              try simp only [Act.put, List.setIfInBounds_toArray, List.set_cons_zero, List.set_cons_succ]
              refine wpAnyH_take (i := 17) (v := ?_) rfl (by kernel_rfl) (by kernel_rfl) (by kernel_rfl) (fun _ _ _ h => h) (Or.inl ⟨by rfl, ?_⟩) (by assumption) ?_
              rotate_left
              · intro w hSw
                go_simp
                with_reducible rfl
              try simp only [Act.put, List.setIfInBounds_toArray, List.set_cons_zero, List.set_cons_succ]
              refine wpAnyH_take (i := 18) (v := ?_) rfl (by kernel_rfl) (by kernel_rfl) (by kernel_rfl) (fun _ _ _ h => h) (Or.inl ⟨by rfl, ?_⟩) (by assumption) ?_
              rotate_left
              · intro w hSw
                go_simp
                with_reducible rfl
              try simp only [Act.put, List.setIfInBounds_toArray, List.set_cons_zero, List.set_cons_succ]
              refine wpAnyH_take (i := 19) (v := ?_) rfl (by kernel_rfl) (by kernel_rfl) (by kernel_rfl) (fun _ _ _ h => h) (Or.inl ⟨by rfl, ?_⟩) (by assumption) ?_
              rotate_left
              · intro w hSw
                go_simp
                with_reducible rfl
              try simp only [Act.put, List.setIfInBounds_toArray, List.set_cons_zero, List.set_cons_succ]
              refine wpAnyH_take (i := 20) (v := ?_) rfl (by kernel_rfl) (by kernel_rfl) (by kernel_rfl) (fun _ _ _ h => h) (Or.inl ⟨by rfl, ?_⟩) (by assumption) ?_
              rotate_left
              · intro w hSw
                go_simp
                with_reducible rfl
              try simp only [Act.put, List.setIfInBounds_toArray, List.set_cons_zero, List.set_cons_succ]
              refine wpAnyH_take (i := 21) (v := ?_) rfl (by kernel_rfl) (by kernel_rfl) (by kernel_rfl) (fun _ _ _ h => h) (Or.inl ⟨by rfl, ?_⟩) (by assumption) ?_
              rotate_left
              · intro w hSw
                go_simp
                with_reducible rfl
              try simp only [Act.put, List.setIfInBounds_toArray, List.set_cons_zero, List.set_cons_succ]
              refine wpAnyH_take (i := 22) (v := ?_) rfl (by kernel_rfl) (by kernel_rfl) (by kernel_rfl) (fun _ _ _ h => h) (Or.inl ⟨by rfl, ?_⟩) (by assumption) ?_
              rotate_left
              · intro w hSw
                go_simp
                with_reducible rfl
              try simp only [Act.put, List.setIfInBounds_toArray, List.set_cons_zero, List.set_cons_succ]
              clear r1 r2 r3
              refine wpAnyH_ready (rs := [9, 23]) (by kernel_rfl) (by simp) ?_
              refine AllReadyH.cons rfl (fun K hK => ?_) ?_
              · have lts := V0.lt
                have cv := V0.cell j _ (u8s_get _ j (by rw [mixZ_len]; exact l3))
                rw [HGt.out] at cv
                go_simp
                refine hK.out _ _ ?_ (fun hHeld2 => ?_)
                · exact hHeld
                · clear hK K hHeld
                  have hHeld := hHeld2
                  clear hHeld2
                  try simp only [Act.put, List.setIfInBounds_toArray, List.set_cons_zero, List.set_cons_succ]
                  clear lts cv
                  refine wpAnyH_ready (rs := [23]) (by kernel_rfl) (by simp) ?_
                  refine AllReadyH.cons rfl (fun K hK => ?_) ?_
                  · go_simp
                    go_fit (r9_Product tl xl)
                    rintro e w' ⟨rfl, hw'⟩
                    rw [hw', HY.out]
                    refine hK.out _ _ ?_ (fun hHeld2 => ?_)
                    · exact hHeld
                    · clear hK K hHeld
                      have hHeld := hHeld2
                      clear hHeld2
                      try simp only [Act.put, List.setIfInBounds_toArray, List.set_cons_zero, List.set_cons_succ]
                      clear hw' w'
                      refine wpAnyH_take (i := 24) (v := ?_) rfl (by kernel_rfl) (by kernel_rfl) (by kernel_rfl) (fun _ _ _ h => h) (Or.inl ⟨by rfl, ?_⟩) (by assumption) ?_
                      rotate_left
                      · intro w hSw
                        go_simp
                        with_reducible rfl
                      try simp only [Act.put, List.setIfInBounds_toArray, List.set_cons_zero, List.set_cons_succ]
                      refine wpAnyH_take (i := 25) (v := ?_) rfl (by kernel_rfl) (by kernel_rfl) (by kernel_rfl) (fun _ _ _ h => h) (Or.inl ⟨by rfl, ?_⟩) (by assumption) ?_
                      rotate_left
                      · intro w hSw
                        go_simp
                        with_reducible rfl
                      try simp only [Act.put, List.setIfInBounds_toArray, List.set_cons_zero, List.set_cons_succ]
                      refine wpAnyH_ready (rs := [26]) (by kernel_rfl) (by simp) ?_
                      refine AllReadyH.cons rfl (fun K hK => ?_) ?_
                      · have lts := V0.lt
                        have fz := V0.frozen j
                        have cv := V0.cell j _ (u8s_get _ j (by rw [mixZ_len]; exact l3))
                        go_simp
                        refine hK.out _ _ ?_ (fun hHeld2 => ?_)
                        · exact KQ1.out _ _ _ hHeld
                        · clear hK K hHeld
                          have hHeld := hHeld2
                          clear hHeld2 lts fz cv
                          try simp only [Act.put, List.setIfInBounds_toArray, List.set_cons_zero, List.set_cons_succ]
                          refine wpAnyH_done (by kernel_rfl) ?_ _
                          refine NoPanic.normal ?_
                          have hbx := KB1.out _ hHeld
                          have HV := V0.setb j ((z : Nat) : Int)
                          rw [HS.out] at HV
                          clear hHeld V0
                          generalize World.setCell _ _ _ = w9 at *
                          go_wp2_with fail
                          go_roundw
                          case rel => exact ⟨k + 1, by omega, by go_num, by rw [HJ.out]; exact HV, hbx⟩
                          case measure => simp [intOf]; omega
                      exact AllReadyH.nil
                  exact AllReadyH.nil
              refine AllReadyH.cons rfl (fun K hK => ?_) ?_
              · go_simp
                go_fit (r9_Product tl xl)
                rintro e w' ⟨rfl, hw'⟩
                rw [hw', HY.out]
                refine hK.out _ _ ?_ (fun hHeld2 => ?_)
                · exact hHeld
                · clear hK K hHeld
                  have hHeld := hHeld2
                  clear hHeld2
                  try simp only [Act.put, List.setIfInBounds_toArray, List.set_cons_zero, List.set_cons_succ]
                  clear hw' w'
                  refine wpAnyH_ready (rs := [9]) (by kernel_rfl) (by simp) ?_
                  refine AllReadyH.cons rfl (fun K hK => ?_) ?_
                  · have lts := V0.lt
                    have cv := V0.cell j _ (u8s_get _ j (by rw [mixZ_len]; exact l3))
                    rw [HGt.out] at cv
                    go_simp
                    refine hK.out _ _ ?_ (fun hHeld2 => ?_)
                    · exact hHeld
                    · clear hK K hHeld
                      have hHeld := hHeld2
                      clear hHeld2
                      try simp only [Act.put, List.setIfInBounds_toArray, List.set_cons_zero, List.set_cons_succ]
                      clear lts cv
                      refine wpAnyH_take (i := 24) (v := ?_) rfl (by kernel_rfl) (by kernel_rfl) (by kernel_rfl) (fun _ _ _ h => h) (Or.inl ⟨by rfl, ?_⟩) (by assumption) ?_
                      rotate_left
                      · intro w hSw
                        go_simp
                        with_reducible rfl
                      try simp only [Act.put, List.setIfInBounds_toArray, List.set_cons_zero, List.set_cons_succ]
                      refine wpAnyH_take (i := 25) (v := ?_) rfl (by kernel_rfl) (by kernel_rfl) (by kernel_rfl) (fun _ _ _ h => h) (Or.inl ⟨by rfl, ?_⟩) (by assumption) ?_
                      rotate_left
                      · intro w hSw
                        go_simp
                        with_reducible rfl
                      try simp only [Act.put, List.setIfInBounds_toArray, List.set_cons_zero, List.set_cons_succ]
                      refine wpAnyH_ready (rs := [26]) (by kernel_rfl) (by simp) ?_
                      refine AllReadyH.cons rfl (fun K hK => ?_) ?_
                      · have lts := V0.lt
                        have fz := V0.frozen j
                        have cv := V0.cell j _ (u8s_get _ j (by rw [mixZ_len]; exact l3))
                        go_simp
                        refine hK.out _ _ ?_ (fun hHeld2 => ?_)
                        · exact KQ1.out _ _ _ hHeld
                        · clear hK K hHeld
                          have hHeld := hHeld2
                          clear hHeld2 lts fz cv
                          try simp only [Act.put, List.setIfInBounds_toArray, List.set_cons_zero, List.set_cons_succ]
                          refine wpAnyH_done (by kernel_rfl) ?_ _
                          refine NoPanic.normal ?_
                          have hbx := KB1.out _ hHeld
                          have HV := V0.setb j ((z : Nat) : Int)
                          rw [HS.out] at HV
                          clear hHeld V0
                          generalize World.setCell _ _ _ = w9 at *
                          go_wp2_with fail
                          go_roundw
                          case rel => exact ⟨k + 1, by omega, by go_num, by rw [HJ.out]; exact HV, hbx⟩
                          case measure => simp [intOf]; omega
                      exact AllReadyH.nil
                  exact AllReadyH.nil
              exact AllReadyH.nil
            · have HK : Hid (k = 4) := by show k = 4; omega
              have g3 : (4 : Int) ≤ (k : Int) := by omega
              rw [HK.out, mixZ_next] at V0
              go_wp2_with fail
              go_roundw
              case rel => exact ⟨r + 1, by omega, by go_num, V0, hbx⟩
              case measure => simp [intOf]; omega
        · have HR : Hid (r = 4) := by show r = 4; omega
          have g2 : (4 : Int) ≤ (r : Int) := by omega
          rw [HR.out, show 4 * c + 4 = 4 * (c + 1) by omega] at V0
          go_wp2_with fail
          go_roundw
          case rel => exact ⟨c + 1, by omega, by go_num, V0, hbx⟩
          case measure => simp [intOf]; omega
    · have HC : Hid (c = 4) := by show c = 4; omega
      have g1 : (4 : Int) ≤ (c : Int) := by omega
      rw [HC.out, show 4 * 4 = 16 from rfl, mixZ_16] at V0
      have R0 := HR0.out.below hbx (by have := HG.out; omega)
      have bel := HBel.out.trans (hbx.mono (by have := HG.out; omega))
      obtain ⟨tV, hV⟩ := V0
      obtain ⟨tR, hR⟩ := R0
      have HL : Hid (16 = (u8s (mixN S)).toArray.size) := by show 16 = _; simp [mixN_len]
      have HO : Hid ((u8s (List.replicate 16 (0 : Int))).toArray.size = (u8s (mixN S)).toArray.size) := by show _ = _; simp [mixN_len]
      have H1 : Hid _ := u8_ones (mixN S)
      obtain ⟨fs, hfs⟩ : ∃ z, (u8s (mixN S)).toArray = z := ⟨_, rfl⟩
      have HD : Hid _ := hfs
      rw [hfs] at hV HL HO H1
      generalize (u8s (List.replicate 16 (0 : Int))).toArray = es at hR HO
      clear hfs
      go_wp2_with (first
        | (refine wpList_load_row rfl 42 _ rfl g rfl tV fs _ _ hV Try.underlying42 rfl (by rw [size_16, HL.out]) ?_)
        | (refine wpList_store_row rfl 42 _ _ rfl (w.heap.size + 1) fs rfl rfl tR es hR (by rw [size_16, HL.out]) HO.out H1.out ?_)
        | fail)
      refine bodyPost_ret (results_cell_row rfl _ _ (w.heap.size + 1) tR fs (0, 0) _ rfl (setRow_heap _ _ _ _ _ _ hR) Try.underlying42 rfl (by rw [size_16, HL.out])) rfl ?_
      exact ⟨by rw [HD.out], below_setRow bel (by omega) _⟩
end Go.Proofs.Ytogbmekgmjmonaa
