/- The program's halves, timesX, joined and lengths of ghash. The program's Mul. The program's xored of ghash. -/
import Derived.Test.YtlkljfnenonfgaaGreatDoorGhHalf
import Derived.Test.YtlkljfnenonfgaaGreatDoorAeCodeX
import Derived.Test.YtlkljfnenonfgaaGreatDoorRows
import Derived.Deep.WholeRow
import Derived.Deep.RegionHeld3
import Derived.Deep.DeepCutAuto
import Derived.Deep.DeepFit
namespace Go.Proofs.YtlkljfnenonfgaaGreatDoor
open Go.RowKit
set_option linter.unusedSimpArgs false in
set_option maxRecDepth 100000 in
set_option maxHeartbeats 1000000 in
theorem con_halves {A:List Int} {F:List Value} {w:World} (hF:u8s A=F) (l:A.length=16) (b:byt A) :
  Calls Tryz.prog 109 #[.agg F.toArray] w fun e w'=>e=.returned (.tuple #[.int .u64 (rvI (blkN A) 63),.int .u64 (rvI (blkN A) 127)])∧Below w.heap.size w w':=by
 have HF:Hid (u8s A=F):=hF
 have HB:Hid (byt A∧A.length=16):=⟨b,l⟩
 clear hF l b
 have B0:=Blk.new w F 91 w.heap.size rfl
 have bel:Below w.heap.size w (w.alloc (.cells F.toArray 91)):=(Below.refl _ _).alloc (Nat.le_refl _) _
 go_enter Tryz.func109,Tryz.ntmps109
 go_upto_region 1 with fail
 generalize w.alloc (.cells F.toArray 91)=W at *
 rw [← HF.out] at B0
 have HB0:Hid (Blk W w.heap.size (u8s A)):=B0
 have lv:=B0.lt
 clear B0
 go_wp2_with fail
 go_loopw [4,5,7] (fun hv lv iv wx=>∃ (i:Nat) (x y:Int),i≤8∧iv=.int .i64 i∧hv=.int .u64 x∧lv=.int .u64 y∧Hid (x=((jn (rvN A 0 i):Nat):Int))∧Hid (y=((jn (rvN A 8 i):Nat):Int))∧wx=W) (fun _ _ iv _=>8 - (intOf iv).toNat)
 case atStart=>exact ⟨0,0,0,by omega,rfl,rfl,rfl,rfl,rfl,rfl⟩
 case round =>
  obtain ⟨i,x,y,hi,rfl,rfl,rfl,HX,HY,hw⟩:=hrel
  rw [hw]
  clear hw
  by_cases hil:i < 8
  ·have g2:(i:Int) < 8:=by omega
   have g3:(0:Int)≤(i:Int):=by omega
   have g4:(i:Int).toNat=i:=by omega
   have g5:(i:Int) < 16:=by omega
   have i2:IntKind.i64.wrap (8 + (i:Int))=((8 + i:Nat):Int):=by rw [IntKind.wrap_i64];omega
   have l1:((8 + i:Nat):Int) < 16:=by omega
   have k1:(0:Int)≤((8 + i:Nat):Int):=by omega
   have c0:=HB0.out.cell i _ (u8s_get _ _ (by rw [HB.out.2];omega))
   have c8:=HB0.out.cell (8 + i) _ (u8s_get _ _ (by rw [HB.out.2];omega))
   have y0:=HB.out.1 i
   have y8:=HB.out.1 (8 + i)
   have O0:Hid _:=or_low (rvN_bd HB.out.1 0 hil) y0
   have O8:Hid _:=or_low (rvN_bd HB.out.1 8 hil) y8
   rw [← HX.out] at O0
   rw [← HY.out] at O8
   have N0:Hid (((jn (rvN A 0 (i + 1)):Nat):Int)=(((A.getD i 0).toNat + 256 * jn (rvN A 0 i):Nat):Int)):=by show _=_;rw [rvN,jn,Nat.zero_add]
   have N8:Hid (((jn (rvN A 8 (i + 1)):Nat):Int)=(((A.getD (8 + i) 0).toNat + 256 * jn (rvN A 8 i):Nat):Int)):=rfl
   obtain ⟨p,hp⟩:∃ p,A.getD i 0=p:=⟨_,rfl⟩
   obtain ⟨q,hq⟩:∃ q,A.getD (8 + i) 0=q:=⟨_,rfl⟩
   obtain ⟨n,hn⟩:∃ n,8 + i=n:=⟨_,rfl⟩
   rw [hp] at c0 y0 O0 N0
   rw [hq] at c8 y8 O8 N8
   rw [hn] at c8 i2 l1 k1
   have wp:IntKind.u64.wrap p=p:=by rw [IntKind.wrap_u64];omega
   have wq:IntKind.u64.wrap q=q:=by rw [IntKind.wrap_u64];omega
   clear hp hq hn
   go_wp2_with fail
   go_roundw
   case rel=>exact ⟨i + 1,_,_,by omega,by go_num,rfl,rfl,by show _=_;rw [N0.out];exact O0.out,by show _=_;rw [N8.out];exact O8.out,trivial⟩
   case measure=>simp [intOf];omega
  ·have HI:Hid (i=8):=by show i=8;omega
   have g2:(8:Int)≤(i:Int):=by omega
   have H1:Hid (x=rvI (blkN A) 63):=by show x=_;rw [HX.out,HI.out];exact half_of HB.out.1 (o:=0) (by decide)
   have H2:Hid (y=rvI (blkN A) 127):=by show y=_;rw [HY.out,HI.out];exact half_of HB.out.1 (o:=8) (by decide)
   go_wp2_with fail
   refine bodyPost_ret (results_tmp2 rfl _ _ _) rfl ?_
   exact ⟨by rw [← H1.out,← H2.out];rfl,bel⟩
set_option maxRecDepth 100000 in
theorem con_timesX {x y:Int} {v:Nat} {w:World} (hx:x=rvI v 63) (hy:y=rvI v 127) :
  Calls Tryz.prog 110 #[.int .u64 x,.int .u64 y] w fun e w'=>∃ p q:Int,e=.returned (.tuple #[.int .u64 p,.int .u64 q])∧p=rvI (tN2 v) 63∧q=rvI (tN2 v) 127∧w'=w:=by
 have a1:=low_bit v
 have a2:=mask_neg (v.testBit 127)
 rw [← a1] at a2
 have H3:Hid _:=high_x v
 have H4:Hid _:=low_x v
 rw [← hx] at H3 H4
 rw [← hy] at a2 H4
 clear hx hy a1
 obtain ⟨m,hm⟩:∃ m,maskI (v.testBit 127)=m:=⟨_,rfl⟩
 rw [hm] at a2 H3
 clear hm
 go_enter Tryz.func110,Tryz.ntmps110
 go_wp2_with fail
 refine bodyPost_ret (results_tmp2 rfl _ _ _) rfl ?_
 exact ⟨_,_,rfl,H3.out,H4.out,rfl⟩
set_option linter.unusedSimpArgs false in
set_option maxRecDepth 100000 in
set_option maxHeartbeats 1000000 in
theorem con_joined {p q : Int} {x y : Nat} {w : World} (hp : p = (x : Int)) (hq : q = (y : Int)) :
    Calls Tryz.prog 111 #[.int .u64 p, .int .u64 q] w fun e w' => e = .returned (.agg (u8s (wdsL x y)).toArray) ∧ Below w.heap.size w w' := by
  subst hp hq
  have hz := zero_16.out
  have R0 := (Blk.new w (u8s (List.replicate 16 0)) 91 w.heap.size rfl).alloc (.cells (u8s (List.replicate 16 0)).toArray 91)
  have V0 := Blk.new (w.alloc (.cells (u8s (List.replicate 16 0)).toArray 91)) (u8s (List.replicate 16 0)) 91 (w.heap.size + 1) (by simp)
  have bel : Below w.heap.size w ((w.alloc (.cells (u8s (List.replicate 16 0)).toArray 91)).alloc (.cells (u8s (List.replicate 16 0)).toArray 91)) := (((Below.refl _ _).alloc (Nat.le_refl _) _).alloc (by simp) _)
  generalize (u8s (List.replicate 16 0)).toArray = cs at hz bel R0 V0
  go_enter Tryz.func111, Tryz.ntmps111
  go_wp2_with fail
  clear hz
  obtain ⟨W, hW⟩ : ∃ z, z = (w.alloc (Obj.cells cs 91)).alloc (Obj.cells cs 91) := ⟨_, rfl⟩
  rw [← hW] at R0 V0 bel ⊢
  clear hW
  rw [← wdsZ_0 x y] at V0
  go_loopw [7] (fun iv wx => ∃ k : Nat, k ≤ 8 ∧ iv = .int .i64 k ∧ Blk wx (w.heap.size + 1) (u8s (wdsZ x y k)) ∧ Blk wx w.heap.size (u8s (List.replicate 16 0)) ∧ Below w.heap.size w wx) (fun iv _ => 8 - (intOf iv).toNat)
  case atStart => exact ⟨0, by omega, rfl, V0, R0, bel⟩
  case round =>
    clear V0 R0 bel
    obtain ⟨k, hk, rfl, V, R, bel⟩ := hrel
    by_cases hkl : k < 8
    · have g1 : (k : Int) < 8 := by omega
      have g2 : (0 : Int) ≤ (k : Int) := by omega
      have g4 : (k : Int) < 16 := by omega
      have i2 : IntKind.i64.wrap (8 + (k : Int)) = ((8 + k : Nat) : Int) := by rw [IntKind.wrap_i64]; omega
      have l1 : ((8 + k : Nat) : Int) < 16 := by omega
      have k1 : (0 : Int) ≤ ((8 + k : Nat) : Int) := by omega
      have j1 : IntKind.i64.wrap (8 * (k : Int)) = 8 * (k : Int) := by rw [IntKind.wrap_i64]; omega
      have HS1 : Hid _ := wdsZ_set (x := x) (y := y) hkl
      have HS2 : Hid _ := wdsY_set (x := x) (y := y) hkl
      obtain ⟨m, hm⟩ : ∃ m, 56 - 8 * k = m := ⟨_, rfl⟩
      rw [hm] at HS1 HS2
      have j2 : IntKind.i64.wrap (56 - 8 * (k : Int)) = (m : Int) := by rw [IntKind.wrap_i64]; omega
      have j3 : ¬ (m : Int) < 0 := by omega
      have j4 : min m 64 = m := by omega
      obtain ⟨p, hp⟩ : ∃ p, ((x / 2 ^ m % 256 : Nat) : Int) = p := ⟨_, rfl⟩
      obtain ⟨q, hq⟩ : ∃ q, ((y / 2 ^ m % 256 : Nat) : Int) = q := ⟨_, rfl⟩
      have z1 : IntKind.u8.wrap ((x : Int) / 2 ^ m) = p := by rw [IntKind.wrap_u8, ← hp]; simp
      have z2 : IntKind.u8.wrap ((y : Int) / 2 ^ m) = q := by rw [IntKind.wrap_u8, ← hq]; simp
      rw [hp] at HS1
      rw [hq] at HS2
      have lv := V.lt
      have c1 := V.cell k _ (u8s_get _ _ (by rw [wdsZ_len]; omega))
      have f1 := V.frozen k
      obtain ⟨n, hn⟩ : ∃ n, 8 + k = n := ⟨_, rfl⟩
      have HNk : Hid (n ≠ k) := by show n ≠ k; omega
      have V2 := V.setb k p
      rw [HS1.out] at V2
      have c2 := V2.cell n _ (u8s_get _ _ (by rw [wdsY_len]; omega))
      have f2 := V2.frozen n
      have lv2 := V2.lt
      rw [hn] at i2 l1 k1 HS2
      have V3 := V2.setb n q
      rw [HS2.out] at V3
      replace R := (R.other ⟨w.heap.size + 1, k, none⟩ (.int .u8 p) (by show w.heap.size ≠ w.heap.size + 1; omega)).other ⟨w.heap.size + 1, n, none⟩ (.int .u8 q) (by show w.heap.size ≠ w.heap.size + 1; omega)
      replace bel := (bel.setCell (p := ⟨w.heap.size + 1, k, none⟩) (by show w.heap.size ≤ w.heap.size + 1; omega) (.int .u8 p)).setCell (p := ⟨w.heap.size + 1, n, none⟩) (by show w.heap.size ≤ w.heap.size + 1; omega) (.int .u8 q)
      have HV3 : Hid _ := V3
      clear V V2 V3 hm hp hq hn HS1 HS2
      go_wp2_with fail
      go_roundw
      case rel => exact ⟨k + 1, by omega, by go_num, HV3.out, R, bel⟩
      case measure => simp [intOf]; omega
    · have HI : Hid (k = 8) := by show k = 8; omega
      have g1 : (8 : Int) ≤ (k : Int) := by omega
      rw [HI.out, wdsZ_8] at V
      obtain ⟨F, hF⟩ : ∃ F, u8s (wdsL x y) = F := ⟨_, rfl⟩
      have HF : Hid (u8s (wdsL x y) = F) := hF
      have HFl : Hid (F.length = 16) := by rw [← hF, List.length_map]; exact wdsL_len x y
      have HFo : Hid (F.toArray.all (·.oneCell') = true) := by rw [← hF]; exact u8_ones _
      replace V : Blk wr (w.heap.size + 1) F := by rw [← hF]; exact V
      clear hF
      obtain ⟨tR, hR⟩ := R
      have HR : Hid _ := hR
      clear hR
      go_wp2_with (first
        | (refine wpList_load_run (by rfl) (by rfl) (by rfl) (V.load Tryz.underlying91 rfl size_16 HFl.out) ?_
           refine wpList_store_row rfl 91 _ _ rfl w.heap.size F.toArray rfl rfl tR _ HR.out (by rw [size_16, List.size_toArray, HFl.out]) (by rw [List.size_toArray, List.size_toArray, HFl.out]; rfl) HFo.out ?_)
        | fail)
      exact bodyPost_ret (results_cell_row Tryz.results111 _ _ w.heap.size tR F.toArray (0, 0) _ rfl (setRow_heap _ _ _ _ _ _ HR.out) Tryz.underlying91 rfl (by rw [size_16, List.size_toArray, HFl.out])) rfl ⟨by rw [HF.out], below_setRow bel (by omega) _⟩
theorem con_joinedL {p q:Int} {x y:Nat} {F:List Value} {w:World} (hp:p=(x:Int)) (hq:q=(y:Int)) (hF:u8s (wdsL x y)=F) :
  Calls Tryz.prog 111 #[.int .u64 p,.int .u64 q] w fun e w'=>e=.returned (.agg F.toArray)∧Below w.heap.size w w':=by
 subst hF
 exact con_joined hp hq
set_option linter.unusedSimpArgs false in
set_option maxRecDepth 100000 in
set_option maxHeartbeats 1000000 in
theorem con_lengths {m n:Nat} {F:List Value} {w:World} (hm:m≤100000000000) (hn:n≤100000000000) (hF:u8s (wdsL (8 * m) (8 * n))=F) :
    Calls Tryz.prog 85 #[.int .i64 (m:Int),.int .i64 (n:Int)] w fun e w'=>e=.returned (.agg F.toArray)∧Below w.heap.size w w':=by
  have HF:Hid (u8s (wdsL (8 * m) (8 * n))=F):=hF
  have HFl:Hid (F.length=16):=by rw [← hF,List.length_map];exact wdsL_len _ _
  have HFo:Hid (F.toArray.all (·.oneCell')=true):=by rw [← hF];exact u8_ones _
  clear hF
  have hz:=zero_16.out
  have R0:=Blk.new w (u8s (List.replicate 16 0)) 91 w.heap.size rfl
  have bel:Below w.heap.size w (w.alloc (.cells (u8s (List.replicate 16 0)).toArray 91)):=(Below.refl _ _).alloc (Nat.le_refl _) _
  obtain ⟨Z,hZ⟩:∃ Z,(u8s (List.replicate 16 0))=Z:=⟨_,rfl⟩
  have HZl:Hid (Z.length=16):=by rw [← hZ];rfl
  rw [hZ] at hz R0 bel
  clear hZ
  have w1:IntKind.u64.wrap (m:Int)=(m:Int):=by rw [IntKind.wrap_u64];omega
  have w2:IntKind.u64.wrap (n:Int)=(n:Int):=by rw [IntKind.wrap_u64];omega
  have w3:IntKind.u64.wrap ((m:Int) * 8)=((8 * m:Nat):Int):=by rw [IntKind.wrap_u64];omega
  have w4:IntKind.u64.wrap ((n:Int) * 8)=((8 * n:Nat):Int):=by rw [IntKind.wrap_u64];omega
  obtain ⟨p,hp⟩:∃ p,((8 * m:Nat):Int)=p:=⟨_,rfl⟩
  obtain ⟨q,hq⟩:∃ q,((8 * n:Nat):Int)=q:=⟨_,rfl⟩
  have HP:Hid (p=((8 * m:Nat):Int)):=hp.symm
  have HQ:Hid (q=((8 * n:Nat):Int)):=hq.symm
  rw [hp] at w3
  rw [hq] at w4
  clear hp hq
  go_enter Tryz.func85,Tryz.ntmps85
  go_upto_region 1 with fail
  generalize w.alloc (.cells Z.toArray 91)=W at *
  clear hz
  go_wp2_with fail
  refine (con_joinedL HP.out HQ.out HF.out).mono ?_
  rintro e w5 ⟨rfl,hb⟩
  replace R0:=R0.later hb
  replace bel:=below_step bel hb
  clear hb
  obtain ⟨tR,hR⟩:=R0
  have HR:Hid _:=hR
  clear hR
  go_wp2_with (first
    | (refine wpList_store_row rfl 91 _ _ rfl w.heap.size F.toArray rfl rfl tR Z.toArray HR.out (by rw [size_16,List.size_toArray,HFl.out]) (by rw [List.size_toArray,List.size_toArray,HFl.out,HZl.out]) HFo.out ?_)
    | fail)
  exact bodyPost_ret (results_cell_row Tryz.results85 _ _ w.heap.size tR F.toArray (0,0) _ rfl (setRow_heap _ _ _ _ _ _ HR.out) Tryz.underlying91 rfl (by rw [size_16,List.size_toArray,HFl.out])) rfl ⟨rfl,below_setRow bel (by omega) _⟩
set_option linter.unusedSimpArgs false in
set_option maxRecDepth 100000 in
set_option maxHeartbeats 2000000 in
theorem con_GMul {A B:List Int} {w:World} (lA:A.length=16) (bA:byt A) (lB:B.length=16) (bB:byt B) :
    Calls Tryz.prog 83 #[.agg (u8s A).toArray,.agg (u8s B).toArray] w fun e w'=>e=.returned (.agg (u8s (mulB A B)).toArray)∧Below w.heap.size w w':=by
  obtain ⟨FA,hFA⟩:∃ F,u8s A=F:=⟨_,rfl⟩
  obtain ⟨FB,hFB⟩:∃ F,u8s B=F:=⟨_,rfl⟩
  have FAh:Hid (u8s A=FA):=hFA
  have FBh:Hid (u8s B=FB):=hFB
  have FAl:Hid (FA.length=16):=by rw [← hFA,List.length_map];exact lA
  have HA:Hid (byt A∧A.length=16):=⟨bA,lA⟩
  have HB:Hid (byt B∧B.length=16):=⟨bB,lB⟩
  rw [hFA,hFB]
  clear hFA hFB lA lB bA bB
  have hz:=zero_16.out
  have B0:=((Blk.new w FA 91 w.heap.size rfl).alloc (.cells FB.toArray 91)).alloc (.cells (u8s (List.replicate 16 0)).toArray 91)
  have B1:=(Blk.new (w.alloc (.cells FA.toArray 91)) FB 91 (w.heap.size + 1) (by simp)).alloc (.cells (u8s (List.replicate 16 0)).toArray 91)
  have R0:=Blk.new ((w.alloc (.cells FA.toArray 91)).alloc (.cells FB.toArray 91)) (u8s (List.replicate 16 0)) 91 (w.heap.size + 1 + 1) (by simp)
  have bel:Below w.heap.size w (((w.alloc (.cells FA.toArray 91)).alloc (.cells FB.toArray 91)).alloc (.cells (u8s (List.replicate 16 0)).toArray 91)):=((((Below.refl _ _).alloc (Nat.le_refl _) _).alloc (by simp) _).alloc (by simp;omega) _)
  obtain ⟨Z,hZ⟩:∃ Z,(u8s (List.replicate 16 0))=Z:=⟨_,rfl⟩
  have HZl:Hid (Z.length=16):=by rw [← hZ];rfl
  rw [hZ] at hz B0 B1 R0 bel
  clear hZ
  go_enter Tryz.func83,Tryz.ntmps83
  go_upto_region 1 with fail
  generalize (((w.alloc (.cells FA.toArray 91)).alloc (.cells FB.toArray 91)).alloc (.cells Z.toArray 91))=W at *
  clear hz
  go_wp2_with (first|(refine wpList_load_run (by rfl) (by rfl) (by rfl) (B0.load Tryz.underlying91 rfl size_16 FAl.out) ?_)|fail)
  refine (con_halves FAh.out HA.out.2 HA.out.1).mono ?_
  rintro e w1 ⟨rfl,hb⟩
  replace B1:=B1.later hb
  replace R0:=R0.later hb
  replace bel:=below_step bel hb
  clear hb B0
  obtain ⟨h0,hh0⟩:∃ z,rvI (blkN A) 63=z:=⟨_,rfl⟩
  obtain ⟨l0,hl0⟩:∃ z,rvI (blkN A) 127=z:=⟨_,rfl⟩
  have Hh0:Hid (h0=rvI (ttN 0 (blkN A)) 63):=hh0.symm
  have Hl0:Hid (l0=rvI (ttN 0 (blkN A)) 127):=hl0.symm
  rw [hh0,hl0]
  clear hh0 hl0
  rw [← FBh.out] at B1
  have HB1:Hid (Blk w1 (w.heap.size + 1) (u8s B)):=B1
  have lv:=B1.lt
  clear B1
  go_wp2_with fail
  go_loopw [5,6,7,8,16] (fun hv lv sv tv iv wx=>∃ (i:Nat) (x y s t:Int),i≤128∧iv=.int .i64 i∧hv=.int .u64 x∧lv=.int .u64 y∧sv=.int .u64 s∧tv=.int .u64 t∧Hid (x=rvI (ttN i (blkN A)) 63)∧Hid (y=rvI (ttN i (blkN A)) 127)∧Hid (s=rvI (prP (blkN A) (blkN B) i) 63)∧Hid (t=rvI (prP (blkN A) (blkN B) i) 127)∧wx=w1) (fun _ _ _ _ iv _=>128 - (intOf iv).toNat)
  case atStart=>exact ⟨0,h0,l0,0,0,by omega,rfl,rfl,rfl,rfl,rfl,Hh0,Hl0,(rvI_0 63).symm,(rvI_0 127).symm,rfl⟩
  case round =>
    clear Hh0 Hl0
    obtain ⟨i,x,y,s,t,hi,rfl,rfl,rfl,rfl,rfl,HX,HY,HS,HT,hw⟩:=hrel
    rw [hw]
    clear hw
    by_cases hil:i < 128
    · have g1:(i:Int) < 128:=by omega
      have q1:(i:Int).tdiv 8=((i / 8:Nat):Int):=by rw [Int.tdiv_eq_ediv_of_nonneg (by omega)];omega
      have q2:(0:Int)≤((i / 8:Nat):Int):=by omega
      have q3:((i / 8:Nat):Int) < 16:=by omega
      have m1:(i:Int).tmod 8=((i % 8:Nat):Int):=by rw [Int.tmod_eq_emod_of_nonneg (by omega)];omega
      obtain ⟨n,hn⟩:∃ n,7 - i % 8=n:=⟨_,rfl⟩
      have m2:IntKind.i64.wrap (7 - ((i % 8:Nat):Int))=(n:Int):=by rw [IntKind.wrap_i64];omega
      have j3:¬ (n:Int) < 0:=by omega
      have j4:min n 8=n:=by omega
      have cb:=HB1.out.cell (i / 8) _ (u8s_get _ _ (by rw [HB.out.2];omega))
      have z1:=coef_bit HB.out.1 i hn.symm
      have z2:=mask_negZ (cbB B i) z1
      have HBt:Hid ((blkN B).testBit i=cbB B i):=by show _=_;rw [blkN_bit];simp [hil]
      obtain ⟨m,hm⟩:∃ m,maskI (cbB B i)=m:=⟨_,rfl⟩
      have HM:Hid (maskI ((blkN B).testBit i)=m):=by show _=_;rw [HBt.out];exact hm
      rw [hm] at z2
      obtain ⟨c,hc⟩:∃ c,B.getD (i / 8) 0=c:=⟨_,rfl⟩
      rw [hc] at cb z2
      obtain ⟨d,hd⟩:∃ d,i / 8=d:=⟨_,rfl⟩
      rw [hd] at cb q1 q2 q3
      obtain ⟨r,hr⟩:∃ r,i % 8=r:=⟨_,rfl⟩
      rw [hr] at m1 m2
      clear hm hc hd hr hn z1 HBt
      have HS2:Hid (bits .xor .u64 s (bits .and .u64 x m)=rvI (prP (blkN A) (blkN B) (i + 1)) 63):=by show _=_;rw [prP_next,← xor_rvI,← and_mask,HS.out,HX.out,HM.out]
      have HT2:Hid (bits .xor .u64 t (bits .and .u64 y m)=rvI (prP (blkN A) (blkN B) (i + 1)) 127):=by show _=_;rw [prP_next,← xor_rvI,← and_mask,HT.out,HY.out,HM.out]
      clear HS HT HM
      go_wp2_with fail
      refine (con_timesX HX.out HY.out).mono ?_
      rintro e w2 ⟨p,q,rfl,hp,hq,hw⟩
      rw [hw]
      have HP:Hid _:=hp
      have HQ:Hid _:=hq
      clear hp hq hw HX HY
      go_wp2_with fail
      go_roundw
      case rel=>exact ⟨i + 1,p,q,_,_,by omega,by go_num,rfl,rfl,rfl,rfl,HP,HQ,HS2,HT2,trivial⟩
      case measure=>simp [intOf];omega
    · have HI:Hid (i=128):=by show i=128;omega
      have g1:(128:Int)≤(i:Int):=by omega
      have HS2:Hid (s=((rvB (prP (blkN A) (blkN B) 128) 63:Nat):Int)):=by show s=_;rw [HS.out,HI.out];rfl
      have HT2:Hid (t=((rvB (prP (blkN A) (blkN B) 128) 127:Nat):Int)):=by show t=_;rw [HT.out,HI.out];rfl
      obtain ⟨F,hF⟩:∃ F,u8s (mulB A B)=F:=⟨_,rfl⟩
      have HF:Hid (u8s (mulB A B)=F):=hF
      have HFl:Hid (F.length=16):=by rw [← hF,List.length_map];exact mulB_len A B
      have HFo:Hid (F.toArray.all (·.oneCell')=true):=by rw [← hF];exact u8_ones _
      have HF2:Hid (u8s (wdsL (rvB (prP (blkN A) (blkN B) 128) 63) (rvB (prP (blkN A) (blkN B) 128) 127))=F):=by show _=_;rw [wds_of,prP_all];exact hF
      clear hF HX HY HS HT
      go_wp2_with fail
      refine (con_joinedL HS2.out HT2.out HF2.out).mono ?_
      rintro e w2 ⟨rfl,hb⟩
      replace R0:=R0.later hb
      replace bel:=below_step bel hb
      clear hb
      obtain ⟨tR,hR⟩:=R0
      have HR:Hid _:=hR
      clear hR
      go_wp2_with (first
        | (refine wpList_store_row rfl 91 _ _ rfl (w.heap.size + 1 + 1) F.toArray rfl rfl tR Z.toArray HR.out (by rw [size_16,List.size_toArray,HFl.out]) (by rw [List.size_toArray,List.size_toArray,HFl.out,HZl.out]) HFo.out ?_)
        | fail)
      exact bodyPost_ret (results_cell_row Tryz.results83 _ _ (w.heap.size + 1 + 1) tR F.toArray (0,0) _ rfl (setRow_heap _ _ _ _ _ _ HR.out) Tryz.underlying91 rfl (by rw [size_16,List.size_toArray,HFl.out])) rfl ⟨by rw [HF.out],below_setRow bel (by omega) _⟩
theorem con_MulG {A B:List Int} {F G K:List Value} {w:World} (hF:u8s A=F) (hG:u8s B=G) (hK:u8s (mulB A B)=K) (lA:A.length=16) (bA:byt A) (lB:B.length=16) (bB:byt B) :
  Calls Tryz.prog 83 #[.agg F.toArray,.agg G.toArray] w fun e w'=>e=.returned (.agg K.toArray)∧Below w.heap.size w w':=by
 subst hF hG hK
 exact con_GMul lA bA lB bB
set_option linter.unusedSimpArgs false in
set_option maxRecDepth 100000 in
set_option maxHeartbeats 2000000 in
theorem con_gxored {A B : List Int} {w : World} (lA : A.length = 16) (lB : B.length = 16) :
    Calls Tryz.prog 84 #[.agg (u8s A).toArray, .agg (u8s B).toArray] w fun e w' => e = .returned (.agg (u8s (xkN A B)).toArray) ∧ Below w.heap.size w w' := by
  obtain ⟨FB, hFB⟩ : ∃ F, u8s B = F := ⟨_, rfl⟩
  have FBh : Hid (u8s B = FB) := hFB
  have HA : Hid (A.length = 16) := lA
  have HB : Hid (B.length = 16) := lB
  rw [hFB]
  clear hFB lA lB
  have hz := zero_16.out
  have B0 := ((Blk.new w (u8s A) 91 w.heap.size rfl).alloc (.cells FB.toArray 91)).alloc (.cells (u8s (List.replicate 16 0)).toArray 91)
  have B1 := (Blk.new (w.alloc (.cells (u8s A).toArray 91)) FB 91 (w.heap.size + 1) (by simp)).alloc (.cells (u8s (List.replicate 16 0)).toArray 91)
  have R0 := Blk.new ((w.alloc (.cells (u8s A).toArray 91)).alloc (.cells FB.toArray 91)) (u8s (List.replicate 16 0)) 91 (w.heap.size + 1 + 1) (by simp)
  have bel : Below w.heap.size w (((w.alloc (.cells (u8s A).toArray 91)).alloc (.cells FB.toArray 91)).alloc (.cells (u8s (List.replicate 16 0)).toArray 91)) := ((((Below.refl _ _).alloc (Nat.le_refl _) _).alloc (by simp) _).alloc (by simp; omega) _)
  obtain ⟨Z, hZ⟩ : ∃ Z, (u8s (List.replicate 16 0)) = Z := ⟨_, rfl⟩
  have HZl : Hid (Z.length = 16) := by rw [← hZ]; rfl
  rw [hZ] at hz B0 B1 R0 bel
  clear hZ
  generalize hcs : (u8s A).toArray = cs at B0 B1 R0 bel ⊢
  clear hcs
  go_enter Tryz.func84, Tryz.ntmps84
  go_upto_region 1 with fail
  generalize (((w.alloc (.cells cs 91)).alloc (.cells FB.toArray 91)).alloc (.cells Z.toArray 91)) = W at *
  clear hz
  rw [← xkZ_0 (Y := B) HA.out] at B0
  go_wp2_with fail
  go_loopw [6] (fun iv wx => ∃ k : Nat, k ≤ 16 ∧ iv = .int .i64 k ∧ Blk wx w.heap.size (u8s (xkZ A B k)) ∧ Blk wx (w.heap.size + 1) FB ∧ Blk wx (w.heap.size + 1 + 1) Z ∧ Below w.heap.size w wx) (fun iv _ => 16 - (intOf iv).toNat)
  case atStart => exact ⟨0, by omega, rfl, B0, B1, R0, bel⟩
  case round =>
    clear B0 B1 R0 bel
    obtain ⟨k, hk, rfl, B0, B1, R0, bel⟩ := hrel
    by_cases hkl : k < 16
    · have gB : (k : Int) < 16 := by omega
      have g0 : (0 : Int) ≤ (k : Int) := by omega
      have g3 : (k : Int).toNat = k := by omega
      have gk : IntKind.i64.wrap ((k : Int) + 1) = (k : Int) + 1 := by rw [IntKind.wrap_i64]; omega
      have HS : Hid _ := xkZ_set (X := A) (Y := B) (k := k)
      have cA := B0.cell k _ (u8s_get (xkZ A B k) k (by rw [xkZ_len]; exact hkl))
      rw [xkZ_get hkl] at cA
      have cB := B1.cell k _ (by rw [← FBh.out]; exact u8s_get B k (by rw [HB.out]; exact hkl))
      obtain ⟨x, hx⟩ : ∃ x, A.getD k 0 = x := ⟨_, rfl⟩
      obtain ⟨y, hy⟩ : ∃ y, B.getD k 0 = y := ⟨_, rfl⟩
      rw [hx] at cA HS
      rw [hy] at cB HS
      clear hx hy
      have fz := B0.frozen k
      have l0 := B0.lt
      have l1 := B1.lt
      go_upto_region 4 with fail
      go_region
      all_goals go_wp2_with fail
      all_goals go_roundw
      case rel =>
        replace B0 := B0.setb k (bits .xor .u8 x y)
        rw [HS.out] at B0
        exact ⟨k + 1, by omega, by go_num, B0.drew, (B1.other _ _ (by show w.heap.size + 1 ≠ w.heap.size; omega)).drew, (R0.other _ _ (by show w.heap.size + 1 + 1 ≠ w.heap.size; omega)).drew, (bel.setCell (by show w.heap.size ≤ w.heap.size; omega) _).drew⟩
      case measure => simp [intOf]; omega
    · have HK : Hid (k = 16) := by show k = 16; omega
      have gB : ¬ (k : Int) < 16 := by omega
      rw [HK.out] at B0
      obtain ⟨F, hF⟩ : ∃ F, u8s (xkN A B) = F := ⟨_, rfl⟩
      have HF : Hid (u8s (xkN A B) = F) := hF
      have HFl : Hid (F.length = 16) := by rw [← hF, List.length_map]; exact xkZ_len _ _ 16
      have HFo : Hid (F.toArray.all (·.oneCell') = true) := by rw [← hF]; exact u8_ones _
      replace B0 : Blk wr w.heap.size F := by rw [← hF]; exact B0
      clear hF
      obtain ⟨tR, hR⟩ := R0
      have HR : Hid _ := hR
      clear hR
      go_wp2_with (first
        | (refine wpList_load_run (by rfl) (by rfl) (by rfl) (B0.load Tryz.underlying91 rfl size_16 HFl.out) ?_
           refine wpList_store_row rfl 91 _ _ rfl (w.heap.size + 1 + 1) F.toArray rfl rfl tR Z.toArray HR.out (by rw [size_16, List.size_toArray, HFl.out]) (by rw [List.size_toArray, List.size_toArray, HFl.out, HZl.out]) HFo.out ?_)
        | fail)
      exact bodyPost_ret (results_cell_row Tryz.results84 _ _ (w.heap.size + 1 + 1) tR F.toArray (0, 0) _ rfl (setRow_heap _ _ _ _ _ _ HR.out) Tryz.underlying91 rfl (by rw [size_16, List.size_toArray, HFl.out])) rfl ⟨by rw [HF.out], below_setRow bel (by omega) _⟩
theorem con_gxoredL {A B:List Int} {F G K:List Value} {w:World} (hF:u8s A=F) (hG:u8s B=G) (hK:u8s (xkN A B)=K) (lA:A.length=16) (lB:B.length=16) :
  Calls Tryz.prog 84 #[.agg F.toArray,.agg G.toArray] w fun e w'=>e=.returned (.agg K.toArray)∧Below w.heap.size w w':=by
 subst hF hG hK
 exact con_gxored lA lB
end Go.Proofs.YtlkljfnenonfgaaGreatDoor
