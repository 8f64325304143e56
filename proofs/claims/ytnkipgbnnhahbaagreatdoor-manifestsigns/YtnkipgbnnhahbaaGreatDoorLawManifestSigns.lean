/- The law ManifestSigns. -/
import Derived.Test.YtnkipgbnnhahbaaGreatDoorMfUp
import Derived.Test.YtnkipgbnnhahbaaGreatDoorMfSgn
import Derived.Test.YtnkipgbnnhahbaaGreatDoorMfSgd
import Derived.Test.YtnkipgbnnhahbaaGreatDoorMfSgF
import Derived.Test.YtnkipgbnnhahbaaGreatDoorMfTldS
import Derived.Test.YtnkipgbnnhahbaaGreatDoorCtSeal
import Derived.Test.YtnkipgbnnhahbaaGreatDoorEdDecode
import Derived.Test.YtnkipgbnnhahbaaGreatDoorDrDep
import Derived.Test.YtnkipgbnnhahbaaGreatDoorErLaw
import Derived.Test.YtnkipgbnnhahbaaGreatDoorRows
import Derived.Deep.OwnRows
import Derived.Deep.AppendLies
import Derived.Great.BuildSlice
import Derived.Laws.Rows
import Derived.BigQuiet
import Derived.Deep.WholeRow
import Derived.Deep.RegionHeld3
import Derived.Deep.DeepCutAuto
import Derived.Deep.DeepFit
namespace Go.Proofs.YtnkipgbnnhahbaaGreatDoor
open Go.RowKit
theorem u_Sealed20 {v:Value} {B:List Int} {rs ss ts:List Value} {r s:Int} {w:World} (hv:Bs w v B) (b:byt B) (hr:U6 rs r) (hs:U6 ss s) (hT:rs++ss=ts):Calls Tryz.prog 7 #[v,.agg ts.toArray,.bool true] w (SealR w B r s true):=by
 subst hT
 exact r17_Sealed hv b hr hs
theorem u_MSign20 {v:Value} {B:List Int} {rs ss ts:List Value} {r s:Int} {w:World} (G:GlsO w) (hv:Bs w v B) (b:byt B) (hr:U6 rs r) (hs:U6 ss s) (hT:rs++ss=ts):Calls Tryz.prog 6 #[v,.agg ts.toArray] w (SgnR20 w B r s):=by
 subst hT
 exact con_MSign G hv b hr hs
set_option linter.unusedSimpArgs false in
set_option maxRecDepth 100000 in
set_option maxHeartbeats 4000000 in
theorem law_manifestSigns {v:Value} {B:List Int} {rs ss:List Value} {r s:Int} {w:World} (G:GlsO w) (GE:GlsE w) (hv:Bs w v B) (b:byt B) (hr:U6 rs r) (hs:U6 ss s) :
  Calls Tryz.prog 3 #[v,.agg (rs++ss).toArray] w fun e w'=>e=.returned (.bool true)∧Below w.heap.size w w':=by
 have HG:Hid (GlsO w):=G
 have HGE:Hid (GlsE w):=GE
 have HY:Hid (byt B):=b
 have HV:Hid (Bs w v B):=hv
 have HR:Hid (U6 rs r):=hr
 have HS:Hid (U6 ss s):=hs
 obtain ⟨ts,hts⟩:∃ ts,rs++ss=ts:=⟨_,rfl⟩
 have HT:Hid (rs++ss=ts):=hts
 have HLt:Hid (ts.length=12):=by show _=_;rw [← hts,List.length_append,hr.len,hs.len]
 obtain ⟨ao,cap,rfl,h1,h2,h3⟩:=hv
 rw [hts]
 clear G GE b h3 hr hs hts
 unfold maxLen at h1
 obtain ⟨LB,hLB⟩:∃ z,B.length=z:=⟨_,rfl⟩
 have HLB:Hid (B.length=LB):=hLB
 rw [hLB] at HV h2 ⊢
 clear hLB
 have B0:=Blk.new w ts 27 w.heap.size rfl
 have bel:Below w.heap.size w (w.alloc (.cells ts.toArray 27)):=(Below.refl _ _).alloc (Nat.le_refl _) _
 go_enter Tryz.func3,Tryz.ntmps3
 go_upto_region 1 with fail
 generalize w.alloc (.cells ts.toArray 27)=W at *
 go_wp2_with fail
 refine con_up20.mono ?_
 rintro e w1 ⟨rfl,hb⟩
 replace B0:=B0.later hb
 replace bel:=below_step bel hb
 clear hb
 by_cases c:(50000:Int) < (LB:Int)∧(LB:Int)≤1048576
 ·obtain ⟨g1,g2⟩:=c
  go_wp2_with fail
  go_ret
  exact ⟨rfl,bel⟩
 have HLd:Hid (∀ wx,Blk wx w.heap.size ts→(loadVar 27 ⟨w.heap.size,0,none⟩).run Tryz.prog wx=.ok (.agg ts.toArray) wx):=fun wx h=>h.load Tryz.underlying27 rfl size_sg8 HLt.out
 by_cases c1:(50000:Int) < (LB:Int)
 ·have c2:¬ (LB:Int)≤1048576:=fun h=>c ⟨c1,h⟩
  clear c
  have hld:=HLd.out _ B0
  have l0:=B0.lt
  go_wp2_with (first|((with_reducible show wpList _ _ _ ({ dst:=_,op:=.load _ _,type:=_,pos:=_,after:=_,guard:=_ } :: _) _ _);refine wpList_load_run (by rfl) (by rfl) (by rfl) hld ?_)|fail)
  refine (u_MSign20 (HG.out.below bel) (HV.out.later bel) HY.out HR.out HS.out HT.out).mono ?_
  rintro e w2 ⟨hb,e1,e2,e3⟩
  replace B0:=B0.later hb
  replace bel:=below_step bel hb
  clear hb hld l0
  cases hp:parseP B with
  | error q =>
   obtain ⟨c,p⟩:=q
   obtain ⟨er,rfl,her⟩:=e1 c p hp
   have HP:Hid (parseP B=.error (c,p)):=hp
   have HEr:Hid (ErAt w2 c p er):=her
   clear e1 e2 e3 her hp
   have hld:=HLd.out _ B0
   have l0:=B0.lt
   go_wp2_with (first|((with_reducible show wpList _ _ _ ({ dst:=_,op:=.load _ _,type:=_,pos:=_,after:=_,guard:=_ } :: _) _ _);refine wpList_load_run (by rfl) (by rfl) (by rfl) hld ?_)|fail)
   refine (u_Sealed20 (HV.out.later bel) HY.out HR.out HS.out HT.out).mono ?_
   rintro e w3 ⟨hb,d1,d2,d3⟩
   obtain rfl:=d1 c p HP.out
   replace HEr:Hid (ErAt w3 c p er):=HEr.out.later hb
   replace bel:=below_step bel hb
   clear hb d1 d2 d3 hld l0 B0
   have hcb:=parse_bad HP.out
   have HCb:Hid (1≤c∧c≤21):=⟨by omega,by omega⟩
   clear hcb
   obtain ⟨AT9,hAT⟩:∃ z,atP c p=z:=⟨_,rfl⟩
   have HAT:Hid (atP c p=AT9):=hAT
   rw [hAT]
   clear hAT
   go_wp2_with fail
   refine (con_toldS20 HAT.out (HGE.out.below bel) HEr.out HCb.out.1 HCb.out.2).mono ?_
   rintro e w4 ⟨rfl,hb⟩
   replace bel:=below_step bel hb
   clear hb
   have hc0:¬ (c:Int)=0:=by have:=HCb.out.1;omega
   have g5:((c:Int) == 0)=false:=by rw [beq_eq_false_iff_ne];exact hc0
   have g6:((c:Int) != 0)=true:=by rw [bne,g5];rfl
   have sq:((strOfNums []).toList == (strOfNums []).toList)=true:=beq_self_eq_true _
   have x1:=conv_any (w:=w4) (v:=.slice none 0 0) (bs:=[]) ⟨none,0,rfl,Nat.zero_le _,Nat.zero_le _,fun h=>absurd h (Nat.lt_irrefl 0)⟩
   go_wp2_with fail
   go_ret
   exact ⟨rfl,bel⟩
  | ok T =>
   have HP:Hid (parseP B=.ok T):=hp
   clear hp e1
   by_cases hsc:isSc r∧isSc s
   rotate_left
   ·obtain rfl:=e2 T HP.out hsc
    have HX:Hid (¬ (isSc r∧isSc s)):=hsc
    clear e2 e3 hsc
    have hld:=HLd.out _ B0
    have l0:=B0.lt
    go_wp2_with (first|((with_reducible show wpList _ _ _ ({ dst:=_,op:=.load _ _,type:=_,pos:=_,after:=_,guard:=_ } :: _) _ _);refine wpList_load_run (by rfl) (by rfl) (by rfl) hld ?_)|fail)
    refine (u_Sealed20 (HV.out.later bel) HY.out HR.out HS.out HT.out).mono ?_
    rintro e w3 ⟨hb,d1,d2,d3⟩
    obtain rfl:=d2 T HP.out HX.out
    replace bel:=below_step bel hb
    clear hb d1 d2 d3 hld l0 B0
    obtain ⟨E3,hE3⟩:∃ z,erN 3=z:=⟨_,rfl⟩
    have HE3:Hid (erN 3=E3):=hE3
    rw [hE3]
    clear hE3
    go_wp2_with fail
    refine (con_toldY HE3.out).mono ?_
    rintro e w4 ⟨rfl,hb⟩
    replace bel:=below_step bel hb
    clear hb
    have g6:((3:Int) != 0)=true:=rfl
    have sq:((strOfNums []).toList == (strOfNums []).toList)=true:=beq_self_eq_true _
    have x1:=conv_any (w:=w4) (v:=.slice none 0 0) (bs:=[]) ⟨none,0,rfl,Nat.zero_le _,Nat.zero_le _,fun h=>absurd h (Nat.lt_irrefl 0)⟩
    go_wp2_with fail
    go_ret
    exact ⟨rfl,bel⟩
   obtain ⟨v5,X,Y,x,y,hB5,rfl,hv5⟩:=e3 T HP.out hsc
   have HX:Hid (isSc r∧isSc s):=hsc
   have HB5:Hid (SigB r s X Y x y):=hB5
   obtain ⟨N,hN⟩:∃ z,sealP true T (bytesT (sigT x y))=z:=⟨_,rfl⟩
   rw [hN] at hv5 ⊢
   have HN:Hid (sealP true T (bytesT (sigT x y))=N):=hN
   have HV5:Hid (Bs w2 v5 (wrB N)):=hv5
   clear e2 e3 hsc hB5 hN hv5
   obtain ⟨a5,c5,hv5,-,-,-⟩:=id HV5.out
   obtain ⟨L5,hL5⟩:∃ z,(wrB N).length=z:=⟨_,rfl⟩
   have HL5:Hid ((wrB N).length=L5):=hL5
   rw [hL5] at hv5
   subst hv5
   obtain ⟨EN,hEN⟩:∃ z,erN (wrN N)=z:=⟨_,rfl⟩
   have HEN:Hid (erN (wrN N)=EN):=hEN
   rw [hEN]
   clear hEN hL5
   have hld:=HLd.out _ B0
   have l0:=B0.lt
   go_wp2_with (first|((with_reducible show wpList _ _ _ ({ dst:=_,op:=.load _ _,type:=_,pos:=_,after:=_,guard:=_ } :: _) _ _);refine wpList_load_run (by rfl) (by rfl) (by rfl) hld ?_)|fail)
   refine (u_Sealed20 (HV.out.later bel) HY.out HR.out HS.out HT.out).mono ?_
   rintro e w3 ⟨hb,d1,d2,d3⟩
   obtain ⟨v6,X',Y',x',y',hB6,rfl,hv6⟩:=d3 T HP.out HX.out
   obtain ⟨rfl,rfl⟩:=sigB_one HB5.out hB6
   rw [HN.out] at hv6 ⊢
   have HV6:Hid (Bs w3 v6 (wrB N)):=hv6
   replace HV5:Hid (Bs w3 (.slice a5 L5 c5) (wrB N)):=HV5.out.later hb
   replace B0:=B0.later hb
   replace bel:=below_step bel hb
   clear hb d1 d2 d3 hld l0 hv6 hB6
   obtain ⟨a6,c6,hv6,-,-,-⟩:=id HV6.out
   rw [HL5.out] at hv6
   subst hv6
   go_wp2_with fail
   refine (con_toldZ HEN.out (by unfold wrN;split;(split;omega;split<;>omega);omega)).mono ?_
   rintro e w4 ⟨rfl,hb⟩
   replace HV5:Hid (Bs w4 (.slice a5 L5 c5) (wrB N)):=HV5.out.later hb
   replace HV6:Hid (Bs w4 (.slice a6 L5 c6) (wrB N)):=HV6.out.later hb
   replace B0:=B0.later hb
   replace bel:=below_step bel hb
   clear hb
   obtain ⟨Z,hZ⟩:∃ z,strOfNums (wrB N)=z:=⟨_,rfl⟩
   have x1:=conv_any HV5.out
   have x2:=conv_any HV6.out
   rw [hZ] at x1 x2
   have sq:(Z.toList == Z.toList)=true:=beq_self_eq_true _
   clear hZ
   by_cases hw:wrN N=0
   rotate_left
   ·obtain ⟨W9,hW9⟩:∃ z,wrN N=z:=⟨_,rfl⟩
    rw [hW9] at hw ⊢
    clear hW9
    have g5:((W9:Int) == 0)=false:=by rw [beq_eq_false_iff_ne];omega
    have g6:((W9:Int) != 0)=true:=by rw [bne,g5];rfl
    clear hw
    go_wp2_with fail
    go_ret
    exact ⟨rfl,bel⟩
   have HW:Hid (wrN N=0):=hw
   have hwb:wrB N=bytesT N:=by unfold wrB;rw [if_pos hw]
   rw [hw]
   have HV7:Hid (Bs w4 (.slice a5 L5 c5) (bytesT N)):=by rw [← hwb];exact HV5.out
   have HYn:Hid (byt (bytesT N)):=by rw [← HN.out];exact seal20_byt HY.out HP.out HB5.out (by rw [HN.out];exact hw)
   clear hw hwb
   have g6:(((0:Nat):Int) != 0)=false:=rfl
   go_wp2_with fail
   refine (con_MSigned (HG.out.below bel) HV7.out HYn.out).mono ?_
   rintro e w7 ⟨hb,-,-,f3⟩
   obtain ⟨v7,qs,us,rfl,hv7,u1,u2⟩:=f3 N T r s (wr0_parse HW.out) (by rw [← HN.out];exact seal20_open HB5.out HX.out)
   replace B0:=B0.later hb
   replace bel:=below_step bel hb
   clear hb f3 x1 x2 sq g6
   have hTB:=(parse_ok HY.out HP.out).1
   rw [hTB] at hv7
   have HU1:Hid (U6 qs r∧U6 us s):=⟨u1,u2⟩
   obtain ⟨fs,hfs⟩:∃ fs,qs++us=fs:=⟨_,rfl⟩
   have HFs:Hid (qs++us=fs):=hfs
   have HLf:Hid (fs.length=12):=by show _=_;rw [← hfs,List.length_append,u1.len,u2.len]
   have HSf:Hid (fs.toArray.size=12):=by show _=_;rw [List.size_toArray];exact HLf.out
   have HOf:Hid (OneC fs):=by rw [← hfs];exact u1.ones.app u2.ones
   rw [hfs]
   obtain ⟨a7,c7,hve,-,-,-⟩:=id hv7
   rw [HLB.out] at hve
   subst hve
   have HV8:Hid (Bs (w7.alloc (.cells fs.toArray 27)) (.slice a7 LB c7) B):=hv7.later ((Below.refl _ _).alloc (Nat.le_refl _) _)
   clear hv7 u1 u2 hfs hTB
   have hz:=zero_sg8.out
   replace B0:=B0.alloc (.cells fs.toArray 27)
   replace bel:=below_alloc (o:=.cells fs.toArray 27) bel
   have Bs9:=Blk.new w7 fs 27 w7.heap.size rfl
   go_upto_region 12 with (first|((with_reducible show wpList _ _ _ ({ dst:=_,op:=.store _ _ _,type:=_,pos:=_,after:=_,guard:=_ } :: _) _ _);refine wpList_store_row rfl 27 _ _ rfl w7.heap.size fs.toArray rfl rfl 27 _ (heap_alloc_last _ _) (by rw [size_sg8,HSf.out]) (by first|rfl|(rw [HSf.out];rfl)) HOf.out ?_;rw [World.setRow_alloc_new])|fail)
   obtain ⟨gs,hgs⟩:∃ g,g=w7.heap.size:=⟨_,rfl⟩
   rw [← hgs] at Bs9 ⊢
   generalize w7.alloc (.cells fs.toArray 27)=V9 at *
   clear hgs
   clear hz
   obtain ⟨Z8,hZ8⟩:∃ z,strOfNums B=z:=⟨_,rfl⟩
   have x1:=conv_any HV8.out
   have x2:=conv_any (HV.out.later bel)
   rw [hZ8] at x1 x2
   have sq:(Z8.toList == Z8.toList)=true:=beq_self_eq_true _
   clear hZ8
   have q1:=eq_nilM
   have q8:=sig_same20 HFs.out HT.out HU1.out.1 HU1.out.2 HR.out HS.out
   have hld:=HLd.out _ B0
   have hld2:(loadVar 27 ⟨gs,0,none⟩).run Tryz.prog V9=.ok (.agg fs.toArray) V9:=Bs9.load Tryz.underlying27 rfl size_sg8 HLf.out
   have l0:=B0.lt
   have l2:=Bs9.lt
   go_wp2_with (first|((with_reducible show wpList _ _ _ ({ dst:=_,op:=.load _ _,type:=_,pos:=_,after:=_,guard:=_ } :: _) _ _);refine wpList_load_run (by rfl) (by rfl) (by rfl) hld ?_)|((with_reducible show wpList _ _ _ ({ dst:=_,op:=.load _ _,type:=_,pos:=_,after:=_,guard:=_ } :: _) _ _);refine wpList_load_run (by rfl) (by rfl) (by rfl) hld2 ?_)|fail)
   go_ret
   exact ⟨rfl,bel⟩
 ·clear c
  have hld:=HLd.out _ B0
  have l0:=B0.lt
  go_wp2_with (first|((with_reducible show wpList _ _ _ ({ dst:=_,op:=.load _ _,type:=_,pos:=_,after:=_,guard:=_ } :: _) _ _);refine wpList_load_run (by rfl) (by rfl) (by rfl) hld ?_)|fail)
  refine (u_MSign20 (HG.out.below bel) (HV.out.later bel) HY.out HR.out HS.out HT.out).mono ?_
  rintro e w2 ⟨hb,e1,e2,e3⟩
  replace B0:=B0.later hb
  replace bel:=below_step bel hb
  clear hb hld l0
  cases hp:parseP B with
  | error q =>
   obtain ⟨c,p⟩:=q
   obtain ⟨er,rfl,her⟩:=e1 c p hp
   have HP:Hid (parseP B=.error (c,p)):=hp
   have HEr:Hid (ErAt w2 c p er):=her
   clear e1 e2 e3 her hp
   have hld:=HLd.out _ B0
   have l0:=B0.lt
   go_wp2_with (first|((with_reducible show wpList _ _ _ ({ dst:=_,op:=.load _ _,type:=_,pos:=_,after:=_,guard:=_ } :: _) _ _);refine wpList_load_run (by rfl) (by rfl) (by rfl) hld ?_)|fail)
   refine (u_Sealed20 (HV.out.later bel) HY.out HR.out HS.out HT.out).mono ?_
   rintro e w3 ⟨hb,d1,d2,d3⟩
   obtain rfl:=d1 c p HP.out
   replace HEr:Hid (ErAt w3 c p er):=HEr.out.later hb
   replace bel:=below_step bel hb
   clear hb d1 d2 d3 hld l0 B0
   have hcb:=parse_bad HP.out
   have HCb:Hid (1≤c∧c≤21):=⟨by omega,by omega⟩
   clear hcb
   obtain ⟨AT9,hAT⟩:∃ z,atP c p=z:=⟨_,rfl⟩
   have HAT:Hid (atP c p=AT9):=hAT
   rw [hAT]
   clear hAT
   go_wp2_with fail
   refine (con_toldS20 HAT.out (HGE.out.below bel) HEr.out HCb.out.1 HCb.out.2).mono ?_
   rintro e w4 ⟨rfl,hb⟩
   replace bel:=below_step bel hb
   clear hb
   have hc0:¬ (c:Int)=0:=by have:=HCb.out.1;omega
   have g5:((c:Int) == 0)=false:=by rw [beq_eq_false_iff_ne];exact hc0
   have g6:((c:Int) != 0)=true:=by rw [bne,g5];rfl
   have sq:((strOfNums []).toList == (strOfNums []).toList)=true:=beq_self_eq_true _
   have x1:=conv_any (w:=w4) (v:=.slice none 0 0) (bs:=[]) ⟨none,0,rfl,Nat.zero_le _,Nat.zero_le _,fun h=>absurd h (Nat.lt_irrefl 0)⟩
   go_wp2_with fail
   go_ret
   exact ⟨rfl,bel⟩
  | ok T =>
   have HP:Hid (parseP B=.ok T):=hp
   clear hp e1
   by_cases hsc:isSc r∧isSc s
   rotate_left
   ·obtain rfl:=e2 T HP.out hsc
    have HX:Hid (¬ (isSc r∧isSc s)):=hsc
    clear e2 e3 hsc
    have hld:=HLd.out _ B0
    have l0:=B0.lt
    go_wp2_with (first|((with_reducible show wpList _ _ _ ({ dst:=_,op:=.load _ _,type:=_,pos:=_,after:=_,guard:=_ } :: _) _ _);refine wpList_load_run (by rfl) (by rfl) (by rfl) hld ?_)|fail)
    refine (u_Sealed20 (HV.out.later bel) HY.out HR.out HS.out HT.out).mono ?_
    rintro e w3 ⟨hb,d1,d2,d3⟩
    obtain rfl:=d2 T HP.out HX.out
    replace bel:=below_step bel hb
    clear hb d1 d2 d3 hld l0 B0
    obtain ⟨E3,hE3⟩:∃ z,erN 3=z:=⟨_,rfl⟩
    have HE3:Hid (erN 3=E3):=hE3
    rw [hE3]
    clear hE3
    go_wp2_with fail
    refine (con_toldY HE3.out).mono ?_
    rintro e w4 ⟨rfl,hb⟩
    replace bel:=below_step bel hb
    clear hb
    have g6:((3:Int) != 0)=true:=rfl
    have sq:((strOfNums []).toList == (strOfNums []).toList)=true:=beq_self_eq_true _
    have x1:=conv_any (w:=w4) (v:=.slice none 0 0) (bs:=[]) ⟨none,0,rfl,Nat.zero_le _,Nat.zero_le _,fun h=>absurd h (Nat.lt_irrefl 0)⟩
    go_wp2_with fail
    go_ret
    exact ⟨rfl,bel⟩
   obtain ⟨v5,X,Y,x,y,hB5,rfl,hv5⟩:=e3 T HP.out hsc
   have HX:Hid (isSc r∧isSc s):=hsc
   have HB5:Hid (SigB r s X Y x y):=hB5
   obtain ⟨N,hN⟩:∃ z,sealP true T (bytesT (sigT x y))=z:=⟨_,rfl⟩
   rw [hN] at hv5 ⊢
   have HN:Hid (sealP true T (bytesT (sigT x y))=N):=hN
   have HV5:Hid (Bs w2 v5 (wrB N)):=hv5
   clear e2 e3 hsc hB5 hN hv5
   obtain ⟨a5,c5,hv5,-,-,-⟩:=id HV5.out
   obtain ⟨L5,hL5⟩:∃ z,(wrB N).length=z:=⟨_,rfl⟩
   have HL5:Hid ((wrB N).length=L5):=hL5
   rw [hL5] at hv5
   subst hv5
   obtain ⟨EN,hEN⟩:∃ z,erN (wrN N)=z:=⟨_,rfl⟩
   have HEN:Hid (erN (wrN N)=EN):=hEN
   rw [hEN]
   clear hEN hL5
   have hld:=HLd.out _ B0
   have l0:=B0.lt
   go_wp2_with (first|((with_reducible show wpList _ _ _ ({ dst:=_,op:=.load _ _,type:=_,pos:=_,after:=_,guard:=_ } :: _) _ _);refine wpList_load_run (by rfl) (by rfl) (by rfl) hld ?_)|fail)
   refine (u_Sealed20 (HV.out.later bel) HY.out HR.out HS.out HT.out).mono ?_
   rintro e w3 ⟨hb,d1,d2,d3⟩
   obtain ⟨v6,X',Y',x',y',hB6,rfl,hv6⟩:=d3 T HP.out HX.out
   obtain ⟨rfl,rfl⟩:=sigB_one HB5.out hB6
   rw [HN.out] at hv6 ⊢
   have HV6:Hid (Bs w3 v6 (wrB N)):=hv6
   replace HV5:Hid (Bs w3 (.slice a5 L5 c5) (wrB N)):=HV5.out.later hb
   replace B0:=B0.later hb
   replace bel:=below_step bel hb
   clear hb d1 d2 d3 hld l0 hv6 hB6
   obtain ⟨a6,c6,hv6,-,-,-⟩:=id HV6.out
   rw [HL5.out] at hv6
   subst hv6
   go_wp2_with fail
   refine (con_toldZ HEN.out (by unfold wrN;split;(split;omega;split<;>omega);omega)).mono ?_
   rintro e w4 ⟨rfl,hb⟩
   replace HV5:Hid (Bs w4 (.slice a5 L5 c5) (wrB N)):=HV5.out.later hb
   replace HV6:Hid (Bs w4 (.slice a6 L5 c6) (wrB N)):=HV6.out.later hb
   replace B0:=B0.later hb
   replace bel:=below_step bel hb
   clear hb
   obtain ⟨Z,hZ⟩:∃ z,strOfNums (wrB N)=z:=⟨_,rfl⟩
   have x1:=conv_any HV5.out
   have x2:=conv_any HV6.out
   rw [hZ] at x1 x2
   have sq:(Z.toList == Z.toList)=true:=beq_self_eq_true _
   clear hZ
   by_cases hw:wrN N=0
   rotate_left
   ·obtain ⟨W9,hW9⟩:∃ z,wrN N=z:=⟨_,rfl⟩
    rw [hW9] at hw ⊢
    clear hW9
    have g5:((W9:Int) == 0)=false:=by rw [beq_eq_false_iff_ne];omega
    have g6:((W9:Int) != 0)=true:=by rw [bne,g5];rfl
    clear hw
    go_wp2_with fail
    go_ret
    exact ⟨rfl,bel⟩
   have HW:Hid (wrN N=0):=hw
   have hwb:wrB N=bytesT N:=by unfold wrB;rw [if_pos hw]
   rw [hw]
   have HV7:Hid (Bs w4 (.slice a5 L5 c5) (bytesT N)):=by rw [← hwb];exact HV5.out
   have HYn:Hid (byt (bytesT N)):=by rw [← HN.out];exact seal20_byt HY.out HP.out HB5.out (by rw [HN.out];exact hw)
   clear hw hwb
   have g6:(((0:Nat):Int) != 0)=false:=rfl
   go_wp2_with fail
   refine (con_MSigned (HG.out.below bel) HV7.out HYn.out).mono ?_
   rintro e w7 ⟨hb,-,-,f3⟩
   obtain ⟨v7,qs,us,rfl,hv7,u1,u2⟩:=f3 N T r s (wr0_parse HW.out) (by rw [← HN.out];exact seal20_open HB5.out HX.out)
   replace B0:=B0.later hb
   replace bel:=below_step bel hb
   clear hb f3 x1 x2 sq g6
   have hTB:=(parse_ok HY.out HP.out).1
   rw [hTB] at hv7
   have HU1:Hid (U6 qs r∧U6 us s):=⟨u1,u2⟩
   obtain ⟨fs,hfs⟩:∃ fs,qs++us=fs:=⟨_,rfl⟩
   have HFs:Hid (qs++us=fs):=hfs
   have HLf:Hid (fs.length=12):=by show _=_;rw [← hfs,List.length_append,u1.len,u2.len]
   have HSf:Hid (fs.toArray.size=12):=by show _=_;rw [List.size_toArray];exact HLf.out
   have HOf:Hid (OneC fs):=by rw [← hfs];exact u1.ones.app u2.ones
   rw [hfs]
   obtain ⟨a7,c7,hve,-,-,-⟩:=id hv7
   rw [HLB.out] at hve
   subst hve
   have HV8:Hid (Bs (w7.alloc (.cells fs.toArray 27)) (.slice a7 LB c7) B):=hv7.later ((Below.refl _ _).alloc (Nat.le_refl _) _)
   clear hv7 u1 u2 hfs hTB
   have hz:=zero_sg8.out
   replace B0:=B0.alloc (.cells fs.toArray 27)
   replace bel:=below_alloc (o:=.cells fs.toArray 27) bel
   have Bs9:=Blk.new w7 fs 27 w7.heap.size rfl
   go_upto_region 12 with (first|((with_reducible show wpList _ _ _ ({ dst:=_,op:=.store _ _ _,type:=_,pos:=_,after:=_,guard:=_ } :: _) _ _);refine wpList_store_row rfl 27 _ _ rfl w7.heap.size fs.toArray rfl rfl 27 _ (heap_alloc_last _ _) (by rw [size_sg8,HSf.out]) (by first|rfl|(rw [HSf.out];rfl)) HOf.out ?_;rw [World.setRow_alloc_new])|fail)
   obtain ⟨gs,hgs⟩:∃ g,g=w7.heap.size:=⟨_,rfl⟩
   rw [← hgs] at Bs9 ⊢
   generalize w7.alloc (.cells fs.toArray 27)=V9 at *
   clear hgs
   clear hz
   obtain ⟨Z8,hZ8⟩:∃ z,strOfNums B=z:=⟨_,rfl⟩
   have x1:=conv_any HV8.out
   have x2:=conv_any (HV.out.later bel)
   rw [hZ8] at x1 x2
   have sq:(Z8.toList == Z8.toList)=true:=beq_self_eq_true _
   clear hZ8
   have q1:=eq_nilM
   have q8:=sig_same20 HFs.out HT.out HU1.out.1 HU1.out.2 HR.out HS.out
   have hld:=HLd.out _ B0
   have hld2:(loadVar 27 ⟨gs,0,none⟩).run Tryz.prog V9=.ok (.agg fs.toArray) V9:=Bs9.load Tryz.underlying27 rfl size_sg8 HLf.out
   have l0:=B0.lt
   have l2:=Bs9.lt
   go_wp2_with (first|((with_reducible show wpList _ _ _ ({ dst:=_,op:=.load _ _,type:=_,pos:=_,after:=_,guard:=_ } :: _) _ _);refine wpList_load_run (by rfl) (by rfl) (by rfl) hld ?_)|((with_reducible show wpList _ _ _ ({ dst:=_,op:=.load _ _,type:=_,pos:=_,after:=_,guard:=_ } :: _) _ _);refine wpList_load_run (by rfl) (by rfl) (by rfl) hld2 ?_)|fail)
   go_ret
   exact ⟨rfl,bel⟩
end Go.Proofs.YtnkipgbnnhahbaaGreatDoor
