/- The law ManifestEncodes. -/
import Derived.Test.YtnkipgbnnhahbaaMfUp
import Derived.Test.YtnkipgbnnhahbaaMfEnc
import Derived.Test.YtnkipgbnnhahbaaMfEcd
import Derived.Test.YtnkipgbnnhahbaaMfSame
import Derived.Test.YtnkipgbnnhahbaaMfDec
import Derived.Test.YtnkipgbnnhahbaaCtBase
import Derived.Test.YtnkipgbnnhahbaaRows
import Derived.Deep.OwnRows
import Derived.Deep.AppendLies
import Derived.Great.BuildSlice
import Derived.Laws.Rows
import Derived.BigQuiet
import Derived.Deep.WholeRow
import Derived.Deep.RegionHeld3
import Derived.Deep.DeepCutAuto
import Derived.Deep.DeepFit
namespace Go.Proofs.Ytnkipgbnnhahbaa
open Go.RowKit
set_option linter.unusedSimpArgs false in
set_option maxRecDepth 100000 in
set_option maxHeartbeats 2000000 in
theorem law_manifestEncodes {m:Mf} {cs:List Value} {w:World} (h:MfAt w m cs) (wf:WfM m):Calls Try.prog 3 #[.agg cs.toArray] w fun e w'=>e=.returned (.bool true)∧Below w.heap.size w w':=by
 have HF:Hid (MfAt w m cs):=h
 have HWf:Hid (WfM m):=wf
 have HL7:Hid (cs.length=7):=h.len
 obtain ⟨na,nc,wa,wc,da,dc,-,⟨q4,q5,q6⟩,-,-,-⟩:=h.open
 obtain ⟨NL,hNL⟩:∃ z,m.nonce.length=z:=⟨_,rfl⟩
 obtain ⟨WL,hWL⟩:∃ z,m.wrapped.length=z:=⟨_,rfl⟩
 obtain ⟨DL,hDL⟩:∃ z,m.digest.length=z:=⟨_,rfl⟩
 rw [hNL] at q4
 rw [hWL] at q5
 rw [hDL] at q6
 have HQ:Hid (cs[4]?=some (.slice na NL nc)∧cs[5]?=some (.slice wa WL wc)∧cs[6]?=some (.slice da DL dc)):=⟨q4,q5,q6⟩
 clear q4 q5 q6 hNL hWL hDL h wf
 have B0:=Blk.new w cs 24 w.heap.size rfl
 have bel:Below w.heap.size w (w.alloc (.cells cs.toArray 24)):=(Below.refl _ _).alloc (Nat.le_refl _) _
 go_enter Try.func3,Try.ntmps3
 go_upto_region 1 with fail
 generalize w.alloc (.cells cs.toArray 24)=W at *
 go_wp2_with fail
 refine con_up20.mono ?_
 rintro e w1 ⟨rfl,hb⟩
 replace B0:=B0.later hb
 replace bel:=below_step bel hb
 clear hb
 have HLd:Hid (∀ wx,Blk wx w.heap.size cs→(loadVar 24 ⟨w.heap.size,0,none⟩).run Try.prog wx=.ok (.agg cs.toArray) wx):=fun wx h=>h.load Try.underlying24 rfl size_mf HL7.out
 have e4:=B0.cell 4 _ HQ.out.1
 have e5:=B0.cell 5 _ HQ.out.2.1
 have e6:=B0.cell 6 _ HQ.out.2.2
 have l0:=B0.lt
 by_cases k0:1000 < NL
 ·have g0:(1000:Int) < (NL:Int):=by omega
  clear k0
  go_wp2_with fail
  go_ret
  exact ⟨rfl,bel⟩
 have g0:¬ (1000:Int) < (NL:Int):=by omega
 by_cases k1:1000 < WL
 ·have g1:(1000:Int) < (WL:Int):=by omega
  clear k1
  go_wp2_with fail
  go_ret
  exact ⟨rfl,bel⟩
 have g1:¬ (1000:Int) < (WL:Int):=by omega
 by_cases k2:1000 < DL
 ·have g2:(1000:Int) < (DL:Int):=by omega
  clear k2
  go_wp2_with fail
  go_ret
  exact ⟨rfl,bel⟩
 have g2:¬ (1000:Int) < (DL:Int):=by omega
 clear k0 k1 k2
 go_upto_region 4 with fail
 clear g0 g1 g2 e4 e5 e6
 have hld:=HLd.out _ B0
 go_wp2_with (first|((with_reducible show wpList _ _ _ ({ dst:=_,op:=.load _ _,type:=_,pos:=_,after:=_,guard:=_ } :: _) _ _);refine wpList_load_run (by rfl) (by rfl) (by rfl) hld ?_)|fail)
 refine (con_MEncode (HF.out.later bel) HWf.out).mono ?_
 rintro e w2 ⟨hb,eno,eyes⟩
 replace B0:=B0.later hb
 replace bel:=below_step bel hb
 clear hb hld l0
 by_cases hm:MayM m
 rotate_left
 ·obtain rfl:=eno hm
  have H:Hid (¬ MayM m):=hm
  clear eno eyes hm
  have hld:=HLd.out _ B0
  have l0:=B0.lt
  go_wp2_with (first|((with_reducible show wpList _ _ _ ({ dst:=_,op:=.load _ _,type:=_,pos:=_,after:=_,guard:=_ } :: _) _ _);refine wpList_load_run (by rfl) (by rfl) (by rfl) hld ?_)|fail)
  refine (con_encoded20 (HF.out.later bel) HWf.out).mono ?_
  rintro e w3 ⟨hb,dno,dyes⟩
  obtain rfl:=dno H.out
  replace bel:=below_step bel hb
  clear hb dno dyes hld l0 B0
  have sq:((strOfNums []).toList == (strOfNums []).toList)=true:=beq_self_eq_true _
  have x1:=conv_any (w:=w3) (v:=.slice none 0 0) (bs:=[]) ⟨none,0,rfl,Nat.zero_le _,Nat.zero_le _,fun h=>absurd h (Nat.lt_irrefl 0)⟩
  go_wp2_with fail
  refine (con_CodeOf (c:=1) (by omega) (by omega)).mono ?_
  rintro e w4 ⟨rfl,hw⟩
  rw [hw]
  clear hw
  go_wp2_with fail
  go_ret
  exact ⟨rfl,bel⟩
 obtain ⟨v5,rfl,hv5⟩:=eyes hm
 have H:Hid (MayM m):=hm
 have HV5:Hid (Bs w2 v5 (bytesT (mfT m))):=hv5
 obtain ⟨a5,c5,hve,-,-,-⟩:=id hv5
 obtain ⟨L5,hL5⟩:∃ z,(bytesT (mfT m)).length=z:=⟨_,rfl⟩
 have HL5:Hid ((bytesT (mfT m)).length=L5):=hL5
 rw [hL5] at hve
 subst hve
 clear eno eyes hm hv5 hL5
 have hld:=HLd.out _ B0
 have l0:=B0.lt
 go_wp2_with (first|((with_reducible show wpList _ _ _ ({ dst:=_,op:=.load _ _,type:=_,pos:=_,after:=_,guard:=_ } :: _) _ _);refine wpList_load_run (by rfl) (by rfl) (by rfl) hld ?_)|fail)
 refine (con_encoded20 (HF.out.later bel) HWf.out).mono ?_
 rintro e w3 ⟨hb,dno,dyes⟩
 obtain ⟨v6,rfl,hv6⟩:=dyes H.out
 have HV6:Hid (Bs w3 v6 (bytesT (mfT m))):=hv6
 replace HV5:Hid (Bs w3 (.slice a5 L5 c5) (bytesT (mfT m))):=HV5.out.later hb
 replace B0:=B0.later hb
 replace bel:=below_step bel hb
 clear hb dno dyes hld l0
 obtain ⟨a6,c6,hve6,-,-,-⟩:=id hv6
 rw [HL5.out] at hve6
 subst hve6
 clear hv6
 obtain ⟨Z,hZ⟩:∃ z,strOfNums (bytesT (mfT m))=z:=⟨_,rfl⟩
 have x1:=conv_any HV5.out
 have x2:=conv_any HV6.out
 rw [hZ] at x1 x2
 have sq:(Z.toList == Z.toList)=true:=beq_self_eq_true _
 clear hZ
 go_wp2_with fail
 refine con_CodeNil.mono ?_
 rintro e w4 ⟨rfl,hw⟩
 rw [hw]
 clear hw w4
 go_wp2_with fail
 clear x1 x2 sq
 have HP:Hid (parseP (bytesT (mfT m))=.ok (mfT m)):=mf_parse H.out
 refine (con_MDecode HV5.out (mf_byt HWf.out H.out)).mono ?_
 rintro e w5 ⟨hb,-,-,hyes⟩
 obtain ⟨rs,rfl,hr⟩:=hyes _ m HP.out (mfD_made H.out)
 have HRm:Hid (MfAt w5 m rs):=hr
 have HLr:Hid (rs.length=7):=hr.len
 have HSr:Hid (rs.toArray.size=7):=by show _=_;rw [List.size_toArray];exact HLr.out
 have HOr:Hid (OneC rs):=hr.ones
 replace B0:=B0.later hb
 replace bel:=below_step bel hb
 clear hb hyes hr
 have hz:=zero_mf.out
 replace HRm:Hid (MfAt (w5.alloc (.cells rs.toArray 24)) m rs):=HRm.out.later ((Below.refl _ _).alloc (Nat.le_refl _) _)
 replace B0:=B0.alloc (.cells rs.toArray 24)
 replace bel:=below_alloc (o:=.cells rs.toArray 24) bel
 have Bc:=Blk.new w5 rs 24 w5.heap.size rfl
 go_upto_region 11 with (first|((with_reducible show wpList _ _ _ ({ dst:=_,op:=.store _ _ _,type:=_,pos:=_,after:=_,guard:=_ } :: _) _ _);refine wpList_store_row rfl 24 _ _ rfl w5.heap.size rs.toArray rfl rfl 24 _ (heap_alloc_last _ _) (by rw [size_mf,HSr.out]) (by first|rfl|(rw [HSr.out];rfl)) HOr.out ?_;rw [World.setRow_alloc_new])|fail)
 obtain ⟨gc,hgc⟩:∃ g,g=w5.heap.size:=⟨_,rfl⟩
 rw [← hgc] at Bc ⊢
 generalize w5.alloc (.cells rs.toArray 24)=V6 at *
 clear hgc
 clear hz
 have q:=eq_nilM
 have hld:=HLd.out _ B0
 have hld2:(loadVar 24 ⟨gc,0,none⟩).run Try.prog V6=.ok (.agg rs.toArray) V6:=Bc.load Try.underlying24 rfl size_mf HLr.out
 have l0:=B0.lt
 have l2:=Bc.lt
 go_wp2_with (first|((with_reducible show wpList _ _ _ ({ dst:=_,op:=.load _ _,type:=_,pos:=_,after:=_,guard:=_ } :: _) _ _);refine wpList_load_run (by rfl) (by rfl) (by rfl) hld ?_)|((with_reducible show wpList _ _ _ ({ dst:=_,op:=.load _ _,type:=_,pos:=_,after:=_,guard:=_ } :: _) _ _);refine wpList_load_run (by rfl) (by rfl) (by rfl) hld2 ?_)|fail)
 refine (con_same20 HRm.out (HF.out.later bel)).mono ?_
 rintro e w7 ⟨rfl,hb⟩
 replace bel:=below_step bel hb
 clear hb hld hld2 l0 l2
 go_wp2_with fail
 go_ret
 exact ⟨rfl,bel⟩
end Go.Proofs.Ytnkipgbnnhahbaa
