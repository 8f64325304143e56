/- The document's fine of elements. The document's Depth of elements. The document's Write of elements. -/
import Derived.Test.YtnkipgbnnhahbaaGreatDoorDrDep
import Derived.Test.YtnkipgbnnhahbaaGreatDoorDrBytes
import Derived.Test.YtnkipgbnnhahbaaGreatDoorDcOut
import Derived.Test.YtnkipgbnnhahbaaGreatDoorRows
import Derived.Deep.WholeRow
import Derived.Deep.RegionHeld3
import Derived.Deep.DeepCutAuto
import Derived.Deep.DeepFit
import Derived.Deep.OwnRows
import Derived.Deep.AppendLies
namespace Go.Proofs.YtnkipgbnnhahbaaGreatDoor
open Go.RowKit
set_option linter.unusedSimpArgs false in
set_option maxRecDepth 100000 in
set_option maxHeartbeats 4000000 in
theorem r12_fine (n:Nat):∀ (T:Tl) (w:World) (cs:List Value),szT T≤n→TlAt w T cs →
  Calls Tryz.prog 45 #[.agg cs.toArray] w fun e w'=>e=.returned (.bool (fineT T))∧Below w.heap.size w w':=by
 induction n with
 | zero=>intro T w cs hz;have:=szT_pos T;omega
 | succ n IH =>
  intro T w cs hz h
  obtain ⟨c,t,m,b,ks⟩:=T
  have h0:=h
  rw [TlAt] at h
  obtain ⟨bv,ao,cap,rfl,hbv,hk1,hk2,hk3⟩:=h
  have HK:Hid (0 < ks.length→∃ g o,ao=some ⟨g,o,none⟩∧KidsAt w ks g o):=hk3
  clear hk3 h0
  unfold maxLen at hk2
  obtain ⟨bao,bcap,rfl,hb1,hb2,hb3⟩:=hbv
  clear hb3
  unfold maxLen at hb1
  have B0:=Blk.new w [.int .i64 c,.int .i64 t,.bool m,.slice bao b.length bcap,.slice ao ks.length cap] 41 w.heap.size rfl
  have bel:Below w.heap.size w (w.alloc (.cells #[.int .i64 c,.int .i64 t,.bool m,.slice bao b.length bcap,.slice ao ks.length cap] 41)):=(Below.refl _ _).alloc (Nat.le_refl _) _
  rw [szT] at hz
  have e0:=B0.cell 0 _ rfl
  have e1:=B0.cell 1 _ rfl
  have e2:=B0.cell 2 _ rfl
  have e3:=B0.cell 3 _ rfl
  have e4:=B0.cell 4 _ rfl
  have lt0:=B0.lt
  have HF:Hid (fineT (.mk c t m b ks)=(fine1 c t m b ks && fineL ks)):=by show _=_;rw [fineT]
  go_enter Tryz.func45,Tryz.ntmps45
  go_upto_region 1 with fail
  generalize w.alloc (Obj.cells #[.int .i64 c,.int .i64 t,.bool m,.slice bao b.length bcap,.slice ao ks.length cap] 41)=W at *
  by_cases h1:c < 0
  ·go_wp2_with fail
   go_ret
   exact ⟨by rw [HF.out,show fine1 c t m b ks=false by exact fine1_bad (by omega),Bool.false_and];rfl,bel⟩
  by_cases h2:3 < c
  ·go_wp2_with fail
   go_ret
   exact ⟨by rw [HF.out,show fine1 c t m b ks=false by exact fine1_bad (by omega),Bool.false_and];rfl,bel⟩
  by_cases h3:t < 0
  ·go_wp2_with fail
   go_ret
   exact ⟨by rw [HF.out,show fine1 c t m b ks=false by exact fine1_bad (by omega),Bool.false_and];rfl,bel⟩
  by_cases h4:30 < t
  ·go_wp2_with fail
   go_ret
   exact ⟨by rw [HF.out,show fine1 c t m b ks=false by exact fine1_bad (by omega),Bool.false_and];rfl,bel⟩
  go_upto_region 3 with fail
  cases m with
  | true =>
   by_cases h5:0 < b.length
   ·go_wp2_with fail
    go_ret
    exact ⟨by rw [HF.out,show fine1 c t true b ks=false from fine1_bad (by first|exact .inr (.inr (.inr (.inr (.inl ⟨rfl,by omega⟩))))|exact .inr (.inr (.inr (.inr (.inr ⟨rfl,by omega⟩))))),Bool.false_and];rfl,bel⟩
   ·replace HF:Hid (fineT (.mk c t true b ks)=fineL ks):=by show _=_;rw [HF.out,show fine1 c t true b ks=true from fine1_good (by omega) (by omega) (fun h=>by first|omega|cases h) (fun h=>by first|omega|cases h),Bool.true_and]
    go_wp2_with fail
    go_loopw [3] (fun iv wx=>∃ i:Nat,i≤ks.length∧iv=.int .i64 i∧Hid (fineL ks=fineL (ks.drop i))∧Blk wx w.heap.size [.int .i64 c,.int .i64 t,.bool true,.slice bao b.length bcap,.slice ao ks.length cap]∧Below w.heap.size w wx) (fun iv _=>ks.length - (intOf iv).toNat)
    case atStart=>exact ⟨0,by omega,rfl,rfl,B0,bel⟩
    case round =>
     clear B0 bel lt0 e0 e1 e2 e3 e4
     obtain ⟨i,hi,rfl,HL,B0,bel⟩:=hrel
     have e4:=B0.cell 4 _ rfl
     have lt0:=B0.lt
     by_cases hil:i < ks.length
     ·have g1:(i:Int) < (ks.length:Int):=by omega
      have g2:(0:Int)≤(i:Int):=by omega
      have gi:IntKind.i64.wrap ((i:Int) + 1)=(i:Int) + 1:=by rw [IntKind.wrap_i64];omega
      obtain ⟨k,hkk⟩:=get_kid hil
      obtain ⟨g,o,hao,hks⟩:=HK.out (by omega)
      obtain ⟨cs,hcs,hkt⟩:=hks.get hkk
      have hsz:=szL_get hkk
      replace hcs:=hcs.later bel
      replace hkt:=hkt.later bel
      have hld:=tlv_load hcs hkt.five
      have hld2:=hld
      rw [Nat.mul_comm 5 i] at hld2
      subst hao
      have HN:Hid _:=fineL_drop hkk
      go_wp2_with (first|(refine wpList_load_run (by rfl) (by rfl) (by rfl) hld ?_)|(refine wpList_load_run (by rfl) (by rfl) (by rfl) hld2 ?_)|fail)
      refine (IH k _ _ (by omega) hkt).mono ?_
      rintro e w2 ⟨rfl,hb2⟩
      replace B0:=B0.later hb2
      replace bel:=below_stepD bel hb2
      clear hb2 hld hld2 hcs hkt e4 lt0
      cases hq:fineT k with
      | true =>
       rw [hq,Bool.true_and] at HN
       clear hq
       go_wp2_with fail
       go_roundw
       case rel=>exact ⟨i + 1,by omega,by go_num,by show _=_;rw [HL.out,HN.out],B0,bel⟩
       case measure=>simp [intOf];omega
      | false =>
       rw [hq,Bool.false_and] at HN
       clear hq
       go_wp2_with fail
       go_ret
       exact ⟨by rw [HF.out,HL.out,HN.out];rfl,bel⟩
     ·have HI:Hid (i=ks.length):=by show i=ks.length;omega
      have g1:¬ (i:Int) < (ks.length:Int):=by omega
      go_wp2_with fail
      go_ret
      exact ⟨by rw [HF.out,HL.out,HI.out,List.drop_of_length_le (Nat.le_refl _),fineL];rfl,bel⟩
  | false =>
   by_cases h6:0 < ks.length
   ·go_wp2_with fail
    go_ret
    exact ⟨by rw [HF.out,show fine1 c t false b ks=false from fine1_bad (by first|exact .inr (.inr (.inr (.inr (.inl ⟨rfl,by omega⟩))))|exact .inr (.inr (.inr (.inr (.inr ⟨rfl,by omega⟩))))),Bool.false_and];rfl,bel⟩
   ·replace HF:Hid (fineT (.mk c t false b ks)=fineL ks):=by show _=_;rw [HF.out,show fine1 c t false b ks=true from fine1_good (by omega) (by omega) (fun h=>by first|omega|cases h) (fun h=>by first|omega|cases h),Bool.true_and]
    go_wp2_with fail
    go_loopw [3] (fun iv wx=>∃ i:Nat,i≤ks.length∧iv=.int .i64 i∧Hid (fineL ks=fineL (ks.drop i))∧Blk wx w.heap.size [.int .i64 c,.int .i64 t,.bool false,.slice bao b.length bcap,.slice ao ks.length cap]∧Below w.heap.size w wx) (fun iv _=>ks.length - (intOf iv).toNat)
    case atStart=>exact ⟨0,by omega,rfl,rfl,B0,bel⟩
    case round =>
     clear B0 bel lt0 e0 e1 e2 e3 e4
     obtain ⟨i,hi,rfl,HL,B0,bel⟩:=hrel
     have e4:=B0.cell 4 _ rfl
     have lt0:=B0.lt
     by_cases hil:i < ks.length
     ·exact absurd hil (by omega)
     ·have HI:Hid (i=ks.length):=by show i=ks.length;omega
      have g1:¬ (i:Int) < (ks.length:Int):=by omega
      go_wp2_with fail
      go_ret
      exact ⟨by rw [HF.out,HL.out,HI.out,List.drop_of_length_le (Nat.le_refl _),fineL];rfl,bel⟩
set_option linter.unusedSimpArgs false in
set_option maxRecDepth 100000 in
set_option maxHeartbeats 2000000 in
theorem r12_Depth (n:Nat):∀ (T:Tl) (w:World) (cs:List Value),szT T≤n→szT T≤4611686018427387904→TlAt w T cs →
  Calls Tryz.prog 46 #[.agg cs.toArray] w fun e w'=>e=.returned (.int .i64 ((depT T:Nat):Int))∧Below w.heap.size w w':=by
 induction n with
 | zero=>intro T w cs hz _;have:=szT_pos T;omega
 | succ n IH =>
  intro T w cs hz hbig h
  obtain ⟨c,t,m,b,ks⟩:=T
  have h0:=h
  rw [TlAt] at h
  obtain ⟨bv,ao,cap,rfl,hbv,hk1,hk2,hk3⟩:=h
  have HK:Hid (0 < ks.length→∃ g o,ao=some ⟨g,o,none⟩∧KidsAt w ks g o):=hk3
  clear hk3 h0
  unfold maxLen at hk2
  obtain ⟨bao,bcap,rfl,hb1,hb2,hb3⟩:=hbv
  clear hb3
  unfold maxLen at hb1
  have B0:=Blk.new w [.int .i64 c,.int .i64 t,.bool m,.slice bao b.length bcap,.slice ao ks.length cap] 41 w.heap.size rfl
  have bel:Below w.heap.size w (w.alloc (.cells #[.int .i64 c,.int .i64 t,.bool m,.slice bao b.length bcap,.slice ao ks.length cap] 41)):=(Below.refl _ _).alloc (Nat.le_refl _) _
  rw [szT] at hz hbig
  have e4:=B0.cell 4 _ rfl
  have lt0:=B0.lt
  go_enter Tryz.func46,Tryz.ntmps46
  go_upto_region 2 with fail
  generalize w.alloc (Obj.cells #[.int .i64 c,.int .i64 t,.bool m,.slice bao b.length bcap,.slice ao ks.length cap] 41)=W at *
  go_wp2_with fail
  go_loopw [3,4] (fun mv iv wx=>∃ i:Nat,i≤ks.length∧iv=.int .i64 i∧mv=.int .i64 ((depL (ks.take i):Nat):Int)∧Blk wx w.heap.size [.int .i64 c,.int .i64 t,.bool m,.slice bao b.length bcap,.slice ao ks.length cap]∧Below w.heap.size w wx) (fun _ iv _=>ks.length - (intOf iv).toNat)
  case atStart=>exact ⟨0,by omega,rfl,by simp [depL],B0,bel⟩
  case round =>
   clear B0 bel lt0 e4
   obtain ⟨i,hi,rfl,rfl,B0,bel⟩:=hrel
   have e4:=B0.cell 4 _ rfl
   have lt0:=B0.lt
   by_cases hil:i < ks.length
   ·have g1:(i:Int) < (ks.length:Int):=by omega
    have g2:(0:Int)≤(i:Int):=by omega
    have gi:IntKind.i64.wrap ((i:Int) + 1)=(i:Int) + 1:=by rw [IntKind.wrap_i64];omega
    obtain ⟨k,hkk⟩:=get_kid hil
    obtain ⟨g,o,hao,hks⟩:=HK.out (by omega)
    obtain ⟨cs,hcs,hkt⟩:=hks.get hkk
    have hsz:=szL_get hkk
    replace hcs:=hcs.later bel
    replace hkt:=hkt.later bel
    have hld:=tlv_load hcs hkt.five
    have hld2:=hld
    rw [Nat.mul_comm 5 i] at hld2
    subst hao
    have HN:Hid _:=depL_next hkk
    go_wp2_with (first|(refine wpList_load_run (by rfl) (by rfl) (by rfl) hld ?_)|(refine wpList_load_run (by rfl) (by rfl) (by rfl) hld2 ?_)|fail)
    refine (IH k _ _ (by omega) (by omega) hkt).mono ?_
    rintro e w2 ⟨rfl,hb2⟩
    replace B0:=B0.later hb2
    replace bel:=below_stepD bel hb2
    clear hb2 hld hld2 hcs hkt e4 lt0
    obtain ⟨x,hx⟩:∃ x,depT k=x:=⟨_,rfl⟩
    obtain ⟨y,hy⟩:∃ y,depL (ks.take i)=y:=⟨_,rfl⟩
    rw [hx,hy] at HN
    rw [hx,hy]
    clear hx hy
    by_cases hxy:y < x
    ·have g3:(y:Int) < (x:Int):=by omega
     go_wp2_with fail
     go_roundw
     case rel=>exact ⟨i + 1,by omega,by go_num,by rw [HN.out,Nat.max_eq_right (by omega)],B0,bel⟩
     case measure=>simp [intOf];omega
    ·have g3:¬ (y:Int) < (x:Int):=by omega
     go_wp2_with fail
     go_roundw
     case rel=>exact ⟨i + 1,by omega,by go_num,by rw [HN.out,Nat.max_eq_left (by omega)],B0,bel⟩
     case measure=>simp [intOf];omega
   ·have HI:Hid (i=ks.length):=by show i=ks.length;omega
    have g1:¬ (i:Int) < (ks.length:Int):=by omega
    have HD:Hid (depL (ks.take i)=depL ks):=by show _=_;rw [HI.out,List.take_of_length_le (Nat.le_refl _)]
    have hle:=depL_szL ks
    rw [HD.out]
    have g3:IntKind.i64.wrap (((depL ks:Nat):Int) + 1)=((depL ks:Nat):Int) + 1:=by rw [IntKind.wrap_i64];omega
    go_wp2_with fail
    go_ret
    exact ⟨by rw [depT];rfl,bel⟩
set_option linter.unusedSimpArgs false in
set_option maxRecDepth 100000 in
set_option maxHeartbeats 2000000 in
theorem r12_Write {T : Tl} {cs : List Value} {w : World} (hz : szT T ≤ 4611686018427387904) (hl : Hid (fineT T = true → (bytesT T).length ≤ 1099511627776)) (h : TlAt w T cs) :
    Calls Tryz.prog 21 #[.agg cs.toArray] w fun e w' => ∃ v' : Value, e = .returned (.tuple #[v', .int .i64 ((wrN T : Nat) : Int)]) ∧ (wrN T = 0 → w'.ownsRow w.heap.size 5 1 v' (bytesT T).length (u8s (bytesT T))) ∧ (¬ wrN T = 0 → v' = .slice none 0 0) ∧ Below w.heap.size w w' := by
  obtain ⟨c, t, m, b, ks⟩ := T
  have h0 := h
  rw [TlAt] at h
  obtain ⟨bv, ao, cap, hcs, hbv, hk1, hk2, hk3⟩ := h
  obtain ⟨bao, bcap, rfl, hb1, hb2, hb3⟩ := hbv
  subst hcs
  clear hk1 hk2 hk3 hb1 hb2 hb3
  have B0 := Blk.new w [.int .i64 c, .int .i64 t, .bool m, .slice bao b.length bcap, .slice ao ks.length cap] 41 w.heap.size rfl
  have bel : Below w.heap.size w (w.alloc (.cells #[.int .i64 c, .int .i64 t, .bool m, .slice bao b.length bcap, .slice ao ks.length cap] 41)) := (Below.refl _ _).alloc (Nat.le_refl _) _
  have H0 : Hid (TlAt (w.alloc (.cells #[.int .i64 c, .int .i64 t, .bool m, .slice bao b.length bcap, .slice ao ks.length cap] 41)) (.mk c t m b ks) [.int .i64 c, .int .i64 t, .bool m, .slice bao b.length bcap, .slice ao ks.length cap]) := h0.later bel
  clear h0
  obtain ⟨T, hT⟩ : ∃ T, T = Tl.mk c t m b ks := ⟨_, rfl⟩
  rw [← hT] at H0 hz hl ⊢
  clear hT
  go_enter Tryz.func21, Tryz.ntmps21
  go_upto_region 1 with fail
  generalize w.alloc (Obj.cells #[.int .i64 c, .int .i64 t, .bool m, .slice bao b.length bcap, .slice ao ks.length cap] 41) = W at *
  have hld := B0.load (P := Tryz.prog) Tryz.underlying41 rfl size_tlv rfl
  have lt0 := B0.lt
  go_wp2_with (first | (refine wpList_load_run (by rfl) (by rfl) (by rfl) hld ?_) | fail)
  refine (r12_fine (szT T) T _ _ (Nat.le_refl _) H0.out).mono ?_
  rintro e w2 ⟨rfl, hb9⟩
  replace B0 := B0.later hb9
  replace H0 : Hid _ := H0.out.later hb9
  replace bel := below_stepD bel hb9
  clear hb9 hld lt0
  by_cases hf : fineT T = true
  rotate_left
  · replace hf : fineT T = false := by cases hq : fineT T with
      | true => exact absurd hq hf
      | false => rfl
    have HW : Hid (wrN T = 1) := by show _ = _; unfold wrN; rw [hf]; rfl
    rw [hf]
    go_wp2_with fail
    refine bodyPost_ret (results_tmp2 rfl _ _ _) rfl ?_
    exact ⟨_, by rw [HW.out]; rfl, fun h => absurd (HW.out.symm.trans h) (by decide), fun _ => rfl, bel⟩
  have HF : Hid (fineT T = true) := hf
  rw [hf]
  clear hf
  have hld := B0.load (P := Tryz.prog) Tryz.underlying41 rfl size_tlv rfl
  have lt0 := B0.lt
  go_wp2_with (first | (refine wpList_load_run (by rfl) (by rfl) (by rfl) hld ?_) | fail)
  refine (r12_Depth (szT T) T _ _ (Nat.le_refl _) hz H0.out).mono ?_
  rintro e w3 ⟨rfl, hb9⟩
  replace B0 := B0.later hb9
  replace H0 : Hid _ := H0.out.later hb9
  replace bel := below_stepD bel hb9
  clear hb9 hld lt0
  have hds := depT_sz T
  obtain ⟨d, hd⟩ : ∃ d, depT T = d := ⟨_, rfl⟩
  rw [hd] at hds ⊢
  have HD : Hid (depT T = d) := hd
  clear hd
  by_cases hd1 : 16 < d
  · have g1 : (16 : Int) < (d : Int) := by omega
    have HW : Hid (wrN T = 9) := by show _ = _; unfold wrN; rw [if_pos HF.out, HD.out, if_pos hd1]
    go_wp2_with fail
    refine bodyPost_ret (results_tmp2 rfl _ _ _) rfl ?_
    exact ⟨_, by rw [HW.out]; rfl, fun h => absurd (HW.out.symm.trans h) (by decide), fun _ => rfl, bel⟩
  have g1 : ¬ (16 : Int) < (d : Int) := by omega
  have hld := B0.load (P := Tryz.prog) Tryz.underlying41 rfl size_tlv rfl
  have lt0 := B0.lt
  go_wp2_with (first | (refine wpList_load_run (by rfl) (by rfl) (by rfl) hld ?_) | fail)
  refine (r12_bytes (szT T) T _ _ (Nat.le_refl _) HF.out (hl.out HF.out) H0.out).mono ?_
  rintro e w4 ⟨v4, rfl, own, hb9⟩
  have own4 := own_lowerD own (Nat.le_trans (Nat.le_of_lt lt0) (Nat.le_refl _) |> fun h => bel.size)
  replace B0 := B0.later hb9
  replace H0 : Hid _ := H0.out.later hb9
  replace bel := below_stepD bel hb9
  clear hb9 hld lt0
  obtain ⟨N, hN⟩ : ∃ N, (bytesT T).length = N := ⟨_, rfl⟩
  have hN40 := hl.out HF.out
  rw [hN] at own own4 hN40
  clear own
  obtain ⟨hao, hcap, hhv, hc1, hc2⟩ := own_slice own4
  subst hhv
  by_cases hn1 : 1048576 < N
  · have g2 : (1048576 : Int) < (N : Int) := by omega
    have HW : Hid (wrN T = 2) := by show _ = _; unfold wrN; rw [if_pos HF.out, HD.out, if_neg hd1, hN, if_pos hn1]
    clear hN own4
    go_wp2_with fail
    refine bodyPost_ret (results_tmp2 rfl _ _ _) rfl ?_
    exact ⟨_, by rw [HW.out]; rfl, fun h => absurd (HW.out.symm.trans h) (by decide), fun _ => rfl, bel⟩
  have g2 : ¬ (1048576 : Int) < (N : Int) := by omega
  have HW : Hid (wrN T = 0) := by show _ = _; unfold wrN; rw [if_pos HF.out, HD.out, if_neg hd1, hN, if_neg hn1]
  have HN : Hid ((bytesT T).length = N) := hN
  clear hN
  go_wp2_with fail
  refine bodyPost_ret (results_tmp2 rfl _ _ _) rfl ?_
  exact ⟨_, by rw [HW.out]; rfl, fun _ => by rw [HN.out]; exact own4, fun h => absurd HW.out h, bel⟩
end Go.Proofs.YtnkipgbnnhahbaaGreatDoor
