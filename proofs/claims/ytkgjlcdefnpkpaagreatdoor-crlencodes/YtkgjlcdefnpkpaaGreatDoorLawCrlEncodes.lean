/- The law CrlEncodes. -/
import Derived.Test.YtkgjlcdefnpkpaaGreatDoorKrUp
import Derived.Test.YtkgjlcdefnpkpaaGreatDoorCtTlX
import Derived.Test.YtkgjlcdefnpkpaaGreatDoorKrEnc
import Derived.Test.YtkgjlcdefnpkpaaGreatDoorCtSeal
import Derived.Test.YtkgjlcdefnpkpaaGreatDoorCtRG
import Derived.Test.YtkgjlcdefnpkpaaGreatDoorRows
import Derived.Deep.OwnRows
import Derived.Deep.AppendLies
import Derived.Great.BuildSlice
import Derived.Laws.Rows
import Derived.BigQuiet
import Derived.Deep.WholeRow
import Derived.Deep.RegionHeld3
import Derived.Deep.DeepCutAuto
import Derived.Deep.DeepFit
namespace Go.Proofs.YtkgjlcdefnpkpaaGreatDoor
open Go.RowKit
theorem uKEncT {v:Value} {B:List Int} {rs ss ts:List Value} {r s:Int} {w:World} (G:GlsO w) (hv:Bs w v B) (b:byt B) (hr:U6 rs r) (hs:U6 ss s) (hT:rs++ss=ts):Calls Tryz.prog 13 #[v,.agg ts.toArray] w (EncCR w B r s):=by
 subst hT
 exact con_KEncode G hv b hr hs
set_option linter.unusedSimpArgs false in
set_option maxRecDepth 100000 in
set_option maxHeartbeats 4000000 in
theorem law_crlEncodes {v:Value} {B:List Int} {rs ss:List Value} {r s:Int} {w:World} (G:GlsO w) (GE:GlsE w) (hv:Bs w v B) (b:byt B) (hr:U6 rs r) (hs:U6 ss s) :
  Calls Tryz.prog 4 #[v,.agg (rs++ss).toArray] w fun e w'=>e=.returned (.bool true)∧Below w.heap.size w w':=by
 have HG:Hid (GlsO w):=G
 have HGE:Hid (GlsE w):=GE
 have HY:Hid (byt B):=b
 have HV:Hid (Bs w v B):=hv
 have HR:Hid (U6 rs r):=hr
 have HS:Hid (U6 ss s):=hs
 obtain ⟨ts,hts⟩:∃ ts,rs++ss=ts:=⟨_,rfl⟩
 have HT:Hid (rs++ss=ts):=hts
 have HLt:Hid (ts.length=12):=by show _=_;rw [← hts,List.length_append,hr.len,hs.len]
 obtain ⟨ao,cap,rfl,h1,h2,h3⟩:=hv
 rw [hts]
 clear G GE b h3 hr hs hts
 unfold maxLen at h1
 obtain ⟨L,hL⟩:∃ L,B.length=L:=⟨_,rfl⟩
 rw [hL] at HV h2 ⊢
 clear hL
 have B0:=Blk.new w ts 30 w.heap.size rfl
 have bel:Below w.heap.size w (w.alloc (.cells ts.toArray 30)):=(Below.refl _ _).alloc (Nat.le_refl _) _
 go_enter Tryz.func4,Tryz.ntmps4
 go_upto_region 1 with fail
 generalize w.alloc (.cells ts.toArray 30)=W at *
 go_wp2_with fail
 refine con_up18.mono ?_
 rintro e w1 ⟨rfl,hb⟩
 replace B0:=B0.later hb
 replace bel:=below_step bel hb
 clear hb
 by_cases c:(50000:Int) < (L:Int)∧(L:Int)≤1048576
 ·obtain ⟨g1,g2⟩:=c
  go_wp2_with fail
  go_ret
  exact ⟨rfl,bel⟩
 have HLd:Hid (∀ wx,Blk wx w.heap.size ts→(loadVar 30 ⟨w.heap.size,0,none⟩).run Tryz.prog wx=.ok (.agg ts.toArray) wx):=fun wx h=>h.load Tryz.underlying30 rfl size_sgL HLt.out
 by_cases c1:(50000:Int) < (L:Int)
 ·have c2:¬ (L:Int)≤1048576:=fun h=>c ⟨c1,h⟩
  clear c
  have hld:=HLd.out _ B0
  have l0:=B0.lt
  go_wp2_with (first|((with_reducible show wpList _ _ _ ({ dst:=_,op:=.load _ _,type:=_,pos:=_,after:=_,guard:=_ } :: _) _ _);refine wpList_load_run (by rfl) (by rfl) (by rfl) hld ?_)|fail)
  refine (uKEncT (HG.out.below bel) (HV.out.later bel) HY.out HR.out HS.out HT.out).mono ?_
  rintro e w2 ⟨hb,e1,e2,e3⟩
  replace B0:=B0.later hb
  replace bel:=below_step bel hb
  clear hb hld l0
  cases hp:parseP B with
  | error q =>
   obtain ⟨c,p⟩:=q
   obtain ⟨er,rfl,her⟩:=e1 c p hp
   have HP:Hid (parseP B=.error (c,p)):=hp
   have HEr:Hid (ErAt w2 c p er):=her
   clear e1 e2 e3 her hp
   have hld:=HLd.out _ B0
   have l0:=B0.lt
   go_wp2_with (first|((with_reducible show wpList _ _ _ ({ dst:=_,op:=.load _ _,type:=_,pos:=_,after:=_,guard:=_ } :: _) _ _);refine wpList_load_run (by rfl) (by rfl) (by rfl) hld ?_)|fail)
   refine (uSealT (HV.out.later bel) HY.out HR.out HS.out HT.out).mono ?_
   rintro e w3 ⟨hb,d1,d2,d3⟩
   obtain rfl:=d1 c p HP.out
   replace HEr:Hid (ErAt w3 c p er):=HEr.out.later hb
   replace bel:=below_step bel hb
   clear hb d1 d2 d3 hld l0 B0
   have hcb:=parse_bad HP.out
   obtain ⟨AT,hAT⟩:∃ z,atP c p=z:=⟨_,rfl⟩
   have HAT:Hid (atP c p=AT):=hAT
   rw [hAT]
   clear hAT
   have sq:((strOfNums []).toList == (strOfNums []).toList)=true:=beq_self_eq_true _
   have x1:=conv_any (w:=w3) (v:=.slice none 0 0) (bs:=[]) ⟨none,0,rfl,Nat.zero_le _,Nat.zero_le _,fun h=>absurd h (Nat.lt_irrefl 0)⟩
   go_wp2_with fail
   refine (con_toldX HAT.out (HGE.out.below bel) HEr.out (by omega) (by omega)).mono ?_
   rintro e w4 ⟨rfl,hb⟩
   replace bel:=below_step bel hb
   clear hb
   go_wp2_with fail
   go_ret
   exact ⟨rfl,bel⟩
  | ok T =>
   have HP:Hid (parseP B=.ok T):=hp
   clear hp e1
   by_cases hsc:isSc r∧isSc s
   rotate_left
   ·obtain rfl:=e2 T HP.out hsc
    have HX:Hid (¬ (isSc r∧isSc s)):=hsc
    clear e2 e3 hsc
    have hld:=HLd.out _ B0
    have l0:=B0.lt
    go_wp2_with (first|((with_reducible show wpList _ _ _ ({ dst:=_,op:=.load _ _,type:=_,pos:=_,after:=_,guard:=_ } :: _) _ _);refine wpList_load_run (by rfl) (by rfl) (by rfl) hld ?_)|fail)
    refine (uSealT (HV.out.later bel) HY.out HR.out HS.out HT.out).mono ?_
    rintro e w3 ⟨hb,d1,d2,d3⟩
    obtain rfl:=d2 T HP.out HX.out
    replace bel:=below_step bel hb
    clear hb d1 d2 d3 hld l0 B0
    have sq:((strOfNums []).toList == (strOfNums []).toList)=true:=beq_self_eq_true _
    have x1:=conv_any (w:=w3) (v:=.slice none 0 0) (bs:=[]) ⟨none,0,rfl,Nat.zero_le _,Nat.zero_le _,fun h=>absurd h (Nat.lt_irrefl 0)⟩
    obtain ⟨E3,hE3⟩:∃ z,erN 3=z:=⟨_,rfl⟩
    have HE3:Hid (erN 3=E3):=hE3
    rw [hE3]
    clear hE3
    go_wp2_with fail
    refine (con_toldY HE3.out).mono ?_
    rintro e w4 ⟨rfl,hb⟩
    replace bel:=below_step bel hb
    clear hb
    go_wp2_with fail
    go_ret
    exact ⟨rfl,bel⟩
   obtain ⟨v5,X,Y,x,y,hB5,rfl,hv5⟩:=e3 T HP.out hsc
   have HX:Hid (isSc r∧isSc s):=hsc
   have HB5:Hid (SigB r s X Y x y):=hB5
   obtain ⟨N,hN⟩:∃ z,sealP false T (bytesT (sigT x y))=z:=⟨_,rfl⟩
   rw [hN] at hv5 ⊢
   have HN:Hid (sealP false T (bytesT (sigT x y))=N):=hN
   have HV5:Hid (Bs w2 v5 (wrB N)):=hv5
   clear e2 e3 hsc hB5 hN hv5
   obtain ⟨a5,c5,hv5,-,-,-⟩:=id HV5.out
   obtain ⟨L5,hL5⟩:∃ z,(wrB N).length=z:=⟨_,rfl⟩
   rw [hL5] at hv5
   subst hv5
   obtain ⟨EN,hEN⟩:∃ z,erN (wrN N)=z:=⟨_,rfl⟩
   have HEN:Hid (erN (wrN N)=EN):=hEN
   rw [hEN]
   clear hEN hL5
   have hld:=HLd.out _ B0
   have l0:=B0.lt
   go_wp2_with (first|((with_reducible show wpList _ _ _ ({ dst:=_,op:=.load _ _,type:=_,pos:=_,after:=_,guard:=_ } :: _) _ _);refine wpList_load_run (by rfl) (by rfl) (by rfl) hld ?_)|fail)
   refine (uSealT (HV.out.later bel) HY.out HR.out HS.out HT.out).mono ?_
   rintro e w3 ⟨hb,d1,d2,d3⟩
   obtain ⟨v6,X',Y',x',y',hB6,rfl,hv6⟩:=d3 T HP.out HX.out
   obtain ⟨rfl,rfl⟩:=sigB_one HB5.out hB6
   rw [HN.out] at hv6 ⊢
   have HV6:Hid (Bs w3 v6 (wrB N)):=hv6
   replace HV5:Hid (Bs w3 (.slice a5 L5 c5) (wrB N)):=HV5.out.later hb
   replace bel:=below_step bel hb
   clear hb d1 d2 d3 hld l0 B0 hv6 hB6
   obtain ⟨a6,c6,hv6,-,-,-⟩:=id HV6.out
   obtain ⟨L6,hL6⟩:∃ z,(wrB N).length=z:=⟨_,rfl⟩
   rw [hL6] at hv6
   subst hv6
   clear hL6
   obtain ⟨Z,hZ⟩:∃ z,strOfNums (wrB N)=z:=⟨_,rfl⟩
   have x1:=conv_any HV5.out
   have x2:=conv_any HV6.out
   rw [hZ] at x1 x2
   have sq:(Z.toList == Z.toList)=true:=beq_self_eq_true _
   clear hZ
   have HNb:Hid (wrN N≤21):=by have:=wrN_bd N;show _≤_;omega
   obtain ⟨K,hK⟩:∃ z,wrN N=z:=⟨_,rfl⟩
   rw [hK] at HEN HNb ⊢
   clear hK
   go_wp2_with fail
   refine (con_toldZ HEN.out HNb.out).mono ?_
   rintro e w4 ⟨rfl,hb⟩
   replace bel:=below_step bel hb
   clear hb
   go_wp2_with fail
   go_ret
   exact ⟨rfl,bel⟩
 ·clear c
  have hld:=HLd.out _ B0
  have l0:=B0.lt
  go_wp2_with (first|((with_reducible show wpList _ _ _ ({ dst:=_,op:=.load _ _,type:=_,pos:=_,after:=_,guard:=_ } :: _) _ _);refine wpList_load_run (by rfl) (by rfl) (by rfl) hld ?_)|fail)
  refine (uKEncT (HG.out.below bel) (HV.out.later bel) HY.out HR.out HS.out HT.out).mono ?_
  rintro e w2 ⟨hb,e1,e2,e3⟩
  replace B0:=B0.later hb
  replace bel:=below_step bel hb
  clear hb hld l0
  cases hp:parseP B with
  | error q =>
   obtain ⟨c,p⟩:=q
   obtain ⟨er,rfl,her⟩:=e1 c p hp
   have HP:Hid (parseP B=.error (c,p)):=hp
   have HEr:Hid (ErAt w2 c p er):=her
   clear e1 e2 e3 her hp
   have hld:=HLd.out _ B0
   have l0:=B0.lt
   go_wp2_with (first|((with_reducible show wpList _ _ _ ({ dst:=_,op:=.load _ _,type:=_,pos:=_,after:=_,guard:=_ } :: _) _ _);refine wpList_load_run (by rfl) (by rfl) (by rfl) hld ?_)|fail)
   refine (uSealT (HV.out.later bel) HY.out HR.out HS.out HT.out).mono ?_
   rintro e w3 ⟨hb,d1,d2,d3⟩
   obtain rfl:=d1 c p HP.out
   replace HEr:Hid (ErAt w3 c p er):=HEr.out.later hb
   replace bel:=below_step bel hb
   clear hb d1 d2 d3 hld l0 B0
   have hcb:=parse_bad HP.out
   obtain ⟨AT,hAT⟩:∃ z,atP c p=z:=⟨_,rfl⟩
   have HAT:Hid (atP c p=AT):=hAT
   rw [hAT]
   clear hAT
   have sq:((strOfNums []).toList == (strOfNums []).toList)=true:=beq_self_eq_true _
   have x1:=conv_any (w:=w3) (v:=.slice none 0 0) (bs:=[]) ⟨none,0,rfl,Nat.zero_le _,Nat.zero_le _,fun h=>absurd h (Nat.lt_irrefl 0)⟩
   go_wp2_with fail
   refine (con_toldX HAT.out (HGE.out.below bel) HEr.out (by omega) (by omega)).mono ?_
   rintro e w4 ⟨rfl,hb⟩
   replace bel:=below_step bel hb
   clear hb
   go_wp2_with fail
   go_ret
   exact ⟨rfl,bel⟩
  | ok T =>
   have HP:Hid (parseP B=.ok T):=hp
   clear hp e1
   by_cases hsc:isSc r∧isSc s
   rotate_left
   ·obtain rfl:=e2 T HP.out hsc
    have HX:Hid (¬ (isSc r∧isSc s)):=hsc
    clear e2 e3 hsc
    have hld:=HLd.out _ B0
    have l0:=B0.lt
    go_wp2_with (first|((with_reducible show wpList _ _ _ ({ dst:=_,op:=.load _ _,type:=_,pos:=_,after:=_,guard:=_ } :: _) _ _);refine wpList_load_run (by rfl) (by rfl) (by rfl) hld ?_)|fail)
    refine (uSealT (HV.out.later bel) HY.out HR.out HS.out HT.out).mono ?_
    rintro e w3 ⟨hb,d1,d2,d3⟩
    obtain rfl:=d2 T HP.out HX.out
    replace bel:=below_step bel hb
    clear hb d1 d2 d3 hld l0 B0
    have sq:((strOfNums []).toList == (strOfNums []).toList)=true:=beq_self_eq_true _
    have x1:=conv_any (w:=w3) (v:=.slice none 0 0) (bs:=[]) ⟨none,0,rfl,Nat.zero_le _,Nat.zero_le _,fun h=>absurd h (Nat.lt_irrefl 0)⟩
    obtain ⟨E3,hE3⟩:∃ z,erN 3=z:=⟨_,rfl⟩
    have HE3:Hid (erN 3=E3):=hE3
    rw [hE3]
    clear hE3
    go_wp2_with fail
    refine (con_toldY HE3.out).mono ?_
    rintro e w4 ⟨rfl,hb⟩
    replace bel:=below_step bel hb
    clear hb
    go_wp2_with fail
    go_ret
    exact ⟨rfl,bel⟩
   obtain ⟨v5,X,Y,x,y,hB5,rfl,hv5⟩:=e3 T HP.out hsc
   have HX:Hid (isSc r∧isSc s):=hsc
   have HB5:Hid (SigB r s X Y x y):=hB5
   obtain ⟨N,hN⟩:∃ z,sealP false T (bytesT (sigT x y))=z:=⟨_,rfl⟩
   rw [hN] at hv5 ⊢
   have HN:Hid (sealP false T (bytesT (sigT x y))=N):=hN
   have HV5:Hid (Bs w2 v5 (wrB N)):=hv5
   clear e2 e3 hsc hB5 hN hv5
   obtain ⟨a5,c5,hv5,-,-,-⟩:=id HV5.out
   obtain ⟨L5,hL5⟩:∃ z,(wrB N).length=z:=⟨_,rfl⟩
   rw [hL5] at hv5
   subst hv5
   obtain ⟨EN,hEN⟩:∃ z,erN (wrN N)=z:=⟨_,rfl⟩
   have HEN:Hid (erN (wrN N)=EN):=hEN
   rw [hEN]
   clear hEN hL5
   have hld:=HLd.out _ B0
   have l0:=B0.lt
   go_wp2_with (first|((with_reducible show wpList _ _ _ ({ dst:=_,op:=.load _ _,type:=_,pos:=_,after:=_,guard:=_ } :: _) _ _);refine wpList_load_run (by rfl) (by rfl) (by rfl) hld ?_)|fail)
   refine (uSealT (HV.out.later bel) HY.out HR.out HS.out HT.out).mono ?_
   rintro e w3 ⟨hb,d1,d2,d3⟩
   obtain ⟨v6,X',Y',x',y',hB6,rfl,hv6⟩:=d3 T HP.out HX.out
   obtain ⟨rfl,rfl⟩:=sigB_one HB5.out hB6
   rw [HN.out] at hv6 ⊢
   have HV6:Hid (Bs w3 v6 (wrB N)):=hv6
   replace HV5:Hid (Bs w3 (.slice a5 L5 c5) (wrB N)):=HV5.out.later hb
   replace bel:=below_step bel hb
   clear hb d1 d2 d3 hld l0 B0 hv6 hB6
   obtain ⟨a6,c6,hv6,-,-,-⟩:=id HV6.out
   obtain ⟨L6,hL6⟩:∃ z,(wrB N).length=z:=⟨_,rfl⟩
   rw [hL6] at hv6
   subst hv6
   clear hL6
   obtain ⟨Z,hZ⟩:∃ z,strOfNums (wrB N)=z:=⟨_,rfl⟩
   have x1:=conv_any HV5.out
   have x2:=conv_any HV6.out
   rw [hZ] at x1 x2
   have sq:(Z.toList == Z.toList)=true:=beq_self_eq_true _
   clear hZ
   have HNb:Hid (wrN N≤21):=by have:=wrN_bd N;show _≤_;omega
   obtain ⟨K,hK⟩:∃ z,wrN N=z:=⟨_,rfl⟩
   rw [hK] at HEN HNb ⊢
   clear hK
   go_wp2_with fail
   refine (con_toldZ HEN.out HNb.out).mono ?_
   rintro e w4 ⟨rfl,hb⟩
   replace bel:=below_step bel hb
   clear hb
   go_wp2_with fail
   go_ret
   exact ⟨rfl,bel⟩
end Go.Proofs.YtkgjlcdefnpkpaaGreatDoor
