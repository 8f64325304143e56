/- The law EciesWraps. -/
import Derived.Test.YtlkljfnenonfgaaGreatDoorEiUp
import Derived.Test.YtlkljfnenonfgaaGreatDoorEiSeal
import Derived.Test.YtlkljfnenonfgaaGreatDoorEdKnown
import Derived.Test.YtlkljfnenonfgaaGreatDoorEdG
import Derived.Test.YtlkljfnenonfgaaGreatDoorEiCode
import Derived.Test.YtlkljfnenonfgaaGreatDoorGcCode
import Derived.Test.YtlkljfnenonfgaaGreatDoorSConv
import Derived.Test.YtlkljfnenonfgaaGreatDoorRows
import Derived.Deep.OwnRows
import Derived.Deep.AppendLies
import Derived.Great.BuildSlice
import Derived.Laws.Rows
import Derived.BigQuiet
import Derived.Deep.WholeRow
import Derived.Deep.RegionHeld3
import Derived.Deep.DeepCutAuto
import Derived.Deep.DeepFit
namespace Go.Proofs.YtlkljfnenonfgaaGreatDoor
open Go.RowKit
theorem str_app (A B:List Int):strOfNums A++strOfNums B=strOfNums (A++B):=by
 apply ByteArray.ext
 simp [strOfNums]
theorem str_size (A:List Int):(strOfNums A).size=A.length:=by simp [strOfNums,ByteArray.size]
set_option linter.unusedSimpArgs false in
set_option maxRecDepth 100000 in
set_option maxHeartbeats 4000000 in
theorem law_eciesWraps {qs ks:List Value} {X Y:Int} {n:Bool} {k:Int} {v:Value} {key:List Int} {w:World} (G:GlsX w) (hq:P13R qs X Y n) (hk:U6 ks k) (hv:Bs w v key) (b:byt key) :
  Calls Tryz.prog 3 #[.agg qs.toArray,.agg ks.toArray,v] w fun e w'=>e=.returned (.bool true)∧Below w.heap.size w w':=by
 have HG:Hid (GlsX w):=G
 have HQ:Hid (P13R qs X Y n):=hq
 have HK:Hid (U6 ks k):=hk
 have HLq:Hid (qs.length=13):=hq.len
 have HLk:Hid (ks.length=6):=hk.len
 have HB:Hid (byt key):=b
 have HV:Hid (Bs w v key):=hv
 obtain ⟨ao,cap,rfl,h1,h2,h3⟩:=hv
 clear G hq hk b h1 h2 h3
 have HNn:Hid (qs[12]?=some (.bool n)):=by
  obtain ⟨xs,ys,e,u1,u2⟩:=HQ.out
  show _=_
  rw [e,List.getElem?_append_right (by simp [u1.len,u2.len])]
  simp [u1.len,u2.len]
 have Q0:=(Blk.new w qs 26 w.heap.size rfl).alloc (.cells ks.toArray 24)
 have K0:=Blk.new (w.alloc (.cells qs.toArray 26)) ks 24 (w.heap.size + 1) (by simp)
 have bel:Below w.heap.size w ((w.alloc (.cells qs.toArray 26)).alloc (.cells ks.toArray 24)):=((Below.refl _ _).alloc (Nat.le_refl _) _).alloc (by simp) _
 go_enter Tryz.func3,Tryz.ntmps3
 go_upto_region 1 with fail
 generalize (w.alloc (.cells qs.toArray 26)).alloc (.cells ks.toArray 24)=W at *
 go_wp2_with fail
 refine (con_up15 (HG.out.below bel)).mono ?_
 rintro e w1 ⟨rfl,hb⟩
 replace Q0:=Q0.later hb
 replace K0:=K0.later hb
 replace bel:=below_step bel hb
 clear hb
 have l0:=Q0.lt
 have l1:=K0.lt
 go_wp2_with (first|(refine wpList_load_run (by rfl) (by rfl) (by rfl) (Q0.load Tryz.underlying26 rfl size_p HLq.out) ?_)|(refine wpList_load_run (by rfl) (by rfl) (by rfl) (K0.load Tryz.underlying24 rfl size_u HLk.out) ?_)|fail)
 refine (con_WrapX (HG.out.below bel) HQ.out HK.out (HV.out.later bel) HB.out).mono ?_
 rintro e w2 hwr
 clear l0 l1
 have HW:Hid (WrapR w1 X Y n k key e w2):=hwr
 clear hwr
 by_cases c1:key.length=32
 rotate_left
 ·obtain ⟨a9,c9,rfl,hb⟩:=HW.out.1 c1
  replace Q0:=Q0.later hb
  replace K0:=K0.later hb
  replace bel:=below_step bel hb
  clear hb
  have l0:=Q0.lt
  have l1:=K0.lt
  have q1:=iface_eqX 1
  have g1:((key.length:Int) == 32)=false:=by rw [beq_eq_false_iff_ne];omega
  have g2:((key.length:Int) != 32)=true:=by rw [bne,g1];rfl
  clear c1
  go_wp2_with fail
  go_ret
  exact ⟨rfl,bel⟩
 have HW1:Hid _:=HW.out.2 c1
 have HL:Hid (key.length=32):=c1
 obtain ⟨kn,hkn⟩:∃ kn,key.length=kn:=⟨_,rfl⟩
 have HKn:Hid (kn=32):=by show _=_;rw [← hkn];exact c1
 have g1:((kn:Int) == 32)=true:=by rw [HKn.out];rfl
 have g2:((kn:Int) != 32)=false:=by rw [bne,g1];rfl
 rw [hkn] at HV ⊢
 clear c1 hkn HW
 by_cases c2:isSc k
 rotate_left
 ·obtain ⟨a9,c9,rfl,hb⟩:=HW1.out.1 c2
  replace Q0:=Q0.later hb
  replace K0:=K0.later hb
  replace bel:=below_step bel hb
  clear hb
  have l0:=Q0.lt
  have l1:=K0.lt
  have q1:=iface_eqX 3
  go_wp2_with (first|(refine wpList_load_run (by rfl) (by rfl) (by rfl) (K0.load Tryz.underlying24 rfl size_u HLk.out) ?_)|fail)
  refine (con_scalar14 HK.out).mono ?_
  rintro e w3 ⟨rfl,hb⟩
  replace Q0:=Q0.later hb
  replace K0:=K0.later hb
  replace bel:=below_step bel hb
  clear hb
  rw [decide_eq_false c2]
  clear l0 l1
  have l0:=Q0.lt
  have l1:=K0.lt
  clear c2
  go_wp2_with fail
  go_ret
  exact ⟨rfl,bel⟩
 have HW2:Hid _:=HW1.out.2 c2
 have HC2:Hid (isSc k):=c2
 clear HW1 c2
 by_cases c3:n=false∧Aff X Y
 rotate_left
 ·obtain ⟨a9,c9,rfl,hb⟩:=HW2.out.1 c3
  replace Q0:=Q0.later hb
  replace K0:=K0.later hb
  replace bel:=below_step bel hb
  clear hb
  have l0:=Q0.lt
  have l1:=K0.lt
  have q1:=iface_eqX 4
  go_wp2_with (first|(refine wpList_load_run (by rfl) (by rfl) (by rfl) (K0.load Tryz.underlying24 rfl size_u HLk.out) ?_)|fail)
  refine (con_scalar14 HK.out).mono ?_
  rintro e w3 ⟨rfl,hb⟩
  replace Q0:=Q0.later hb
  replace K0:=K0.later hb
  replace bel:=below_step bel hb
  clear hb
  rw [decide_eq_true HC2.out]
  clear l0 l1
  have l0:=Q0.lt
  have l1:=K0.lt
  go_wp2_with (first|(refine wpList_load_run (by rfl) (by rfl) (by rfl) (Q0.load Tryz.underlying26 rfl size_p HLq.out) ?_)|fail)
  refine (uOn (HG.out.below bel).1 HQ.out).mono ?_
  rintro e w4 ⟨ob,rfl,hob,hb⟩
  replace Q0:=Q0.later hb
  replace K0:=K0.later hb
  replace bel:=below_step bel hb
  clear hb
  clear l0 l1
  have l0:=Q0.lt
  have l1:=K0.lt
  have cn:=Q0.cell 12 _ HNn.out
  cases n with
  | true =>
   clear hob c3
   go_wp2_with fail
   go_ret
   exact ⟨rfl,bel⟩
  | false =>
   obtain rfl:ob=false:=by
    cases ob with
    | false=>rfl
    | true=>rcases hob.1 rfl with h|h;cases h.1;exact absurd ⟨rfl,h.2⟩ c3
   clear hob c3
   go_wp2_with fail
   go_ret
   exact ⟨rfl,bel⟩
 obtain ⟨rfl,hA⟩:=c3
 obtain ⟨bv,bb,rfl,hwi,hfr,hb⟩:=HW2.out.2 rfl hA
 have HA:Hid (Aff X Y):=hA
 have HWi:Hid (WrapIs X Y k key bb):=hwi
 have HBb:Hid (Bs w2 bv bb):=hfr.bs
 clear hwi hfr hA HW2
 replace Q0:=Q0.later hb
 replace K0:=K0.later hb
 replace bel:=below_step bel hb
 clear hb
 obtain ⟨ba,bc,hbv,-,-,-⟩:=id HBb.out
 subst hbv
 have st:Below w2.heap.size w2 w2:=Below.refl _ _
 have l0:=Q0.lt
 have l1:=K0.lt
 go_wp2_with (first|(refine wpList_load_run (by rfl) (by rfl) (by rfl) (K0.load Tryz.underlying24 rfl size_u HLk.out) ?_)|fail)
 refine (con_scalar14 HK.out).mono ?_
 rintro e w3 ⟨rfl,hb⟩
 replace st:=below_step st hb
 replace Q0:=Q0.later hb
 replace K0:=K0.later hb
 replace bel:=below_step bel hb
 clear hb
 rw [decide_eq_true HC2.out]
 clear l0 l1
 have l0:=Q0.lt
 have l1:=K0.lt
 go_wp2_with (first|(refine wpList_load_run (by rfl) (by rfl) (by rfl) (Q0.load Tryz.underlying26 rfl size_p HLq.out) ?_)|fail)
 refine (uOn (HG.out.below bel).1 HQ.out).mono ?_
 rintro e w4 ⟨ob,rfl,hob,hb⟩
 replace st:=below_step st hb
 replace Q0:=Q0.later hb
 replace K0:=K0.later hb
 replace bel:=below_step bel hb
 clear hb
 obtain rfl:ob=true:=hob.2 (.inr ⟨rfl,HA.out⟩)
 clear l0 l1 hob
 have l0:=Q0.lt
 have l1:=K0.lt
 have cn:=Q0.cell 12 _ HNn.out
 go_wp2_with (first|(refine wpList_load_run (by rfl) (by rfl) (by rfl) (Q0.load Tryz.underlying26 rfl size_p HLq.out) ?_)|(refine wpList_load_run (by rfl) (by rfl) (by rfl) (K0.load Tryz.underlying24 rfl size_u HLk.out) ?_)|fail)
 refine (uMulP (HG.out.below bel).1 HK.out HQ.out.told HA.out).mono ?_
 rintro e w5 ⟨es,rfl,hp,hb⟩
 replace st:=below_step st hb
 replace Q0:=Q0.later hb
 replace K0:=K0.later hb
 replace bel:=below_step bel hb
 clear hb
 clear l0 l1 cn
 obtain ⟨OX,OY,hraw,hOX⟩:=hp.raw
 have HO:Hid (P13R es OX OY _):=hraw
 have HOX:Hid (OX=xOf (cmul k.toNat (some (X,Y)))):=hOX
 clear hp hraw hOX
 replace st:=below_alloc (o:=.cells es.toArray 26) st
 have HLo:Hid (es.length=13):=HO.out.len
 have HSo:Hid (es.toArray.size=13):=by show _=_;rw [List.size_toArray];exact HLo.out
 have HOo:Hid (OneR es):=HO.out.ones
 replace Q0:=Q0.alloc (.cells es.toArray 26)
 replace K0:=K0.alloc (.cells es.toArray 26)
 replace bel:=below_alloc (o:=.cells es.toArray 26) bel
 have Bo:=Blk.new w5 es 26 w5.heap.size rfl
 have hz:=zero_p.out
 go_upto_region 12 with (first|(refine wpList_store_row rfl 26 _ _ rfl w5.heap.size es.toArray rfl rfl 26 _ (heap_alloc_last _ _) (by rw [size_p,HSo.out]) (by rw [HSo.out];rfl) HOo.out ?_;rw [World.setRow_alloc_new])|fail)
 clear hz
 obtain ⟨go,hgo⟩:∃ g,g=w5.heap.size:=⟨_,rfl⟩
 rw [← hgo] at Bo
 generalize w5.alloc (.cells es.toArray 26)=Vo at *
 rw [← hgo]
 clear hgo
 have l1:=K0.lt
 go_wp2_with (first|(refine wpList_load_run (by rfl) (by rfl) (by rfl) (K0.load Tryz.underlying24 rfl size_u HLk.out) ?_)|fail)
 refine (uBase (HG.out.below bel).1 HK.out).mono ?_
 rintro e w6 ⟨ps,rfl,hp,hb⟩
 replace st:=below_step st hb
 replace K0:=K0.later hb
 replace Bo:=Bo.later hb
 replace bel:=below_step bel hb
 clear hb
 clear l1 Q0
 obtain ⟨PX,PY,hPP⟩:∃ a b,cmul k.toNat GG=some (a,b):=by
  cases hq:cmul k.toNat GG with
  | none=>exact absurd hq (base_some HC2.out)
  | some p=>exact ⟨p.1,p.2,rfl⟩
 have HPP:Hid (cmul k.toNat GG=some (PX,PY)):=hPP
 have HAf:Hid (Aff PX PY):=by have h:=on_cmul on_G k.toNat;rw [hPP] at h;exact h
 rw [hPP] at hp
 have HP:Hid (P13 ps (some (PX,PY))):=hp
 clear hp hPP
 go_wp2_with fail
 refine (uEnc (HG.out.below bel).1 HP.out HAf.out).mono ?_
 rintro e w7 ⟨pv,p,rfl,hpv,hpe,hb⟩
 replace st:=below_step st hb
 replace Bo:=Bo.later hb
 replace bel:=below_step bel hb
 clear hb
 have HEn:Hid (EncIs (cmul k.toNat GG) p):=by rw [HPP.out];exact hpe
 have HPv:Hid (Bs w7 pv p):=hpv
 obtain ⟨pa,pc,rfl,-,-,-⟩:=hpv
 clear hpe K0
 have lo:=Bo.lt
 go_wp2_with (first|(refine wpList_load_run (by rfl) (by rfl) (by rfl) (Bo.load Tryz.underlying26 rfl size_p HLo.out) ?_)|fail)
 refine (con_sealing15 (HG.out.below bel).2.2 HPv.out HEn.out.byt (by rw [HEn.out.ln];omega) HO.out).mono ?_
 rintro e w8 ⟨v1,v2,O,rfl,hke,hv1,hv2,hb⟩
 have HKe:Hid (KeyIs p OX O):=hke
 have HV1:Hid (Bs w8 v1 (O.take 32)):=hv1
 have HV2:Hid (Bs w8 v2 (O.drop 32)):=hv2
 replace HPv:Hid (Bs w8 _ p):=HPv.out.later hb
 obtain ⟨ua,uc,rfl,-,-,-⟩:=hv1
 obtain ⟨ta,tc,rfl,-,-,-⟩:=hv2
 replace st:=below_step st hb
 replace bel:=below_step bel hb
 clear hb
 clear hke lo Bo
 obtain ⟨n32,h32⟩:∃ m,(O.take 32).length=m:=⟨_,rfl⟩
 obtain ⟨n12,h12⟩:∃ m,(O.drop 32).length=m:=⟨_,rfl⟩
 obtain ⟨n97,h97⟩:∃ m,p.length=m:=⟨_,rfl⟩
 rw [h32] at HV1 ⊢
 rw [h12] at HV2 ⊢
 rw [h97] at HPv ⊢
 clear h32 h12 h97
 go_wp2_with fail
 refine (con_Seal HV1.out HV2.out HPv.out (HV.out.later bel) (byt_takeC HKe.out.byt _) (key32 HKe.out.ln).1 (byt_dropC HKe.out.byt _) (key32 HKe.out.ln).2 HEn.out.byt HB.out (by rw [HEn.out.ln];omega) (by rw [HL.out];omega)).mono ?_
 rintro e w9 ⟨sv,rfl,hsf,hb⟩
 have HSv:Hid (Bs w9 sv (sealN (O.take 32) (O.drop 32) p key)):=hsf.bs
 replace HPv:Hid (Bs w9 _ p):=HPv.out.later hb
 replace st:=below_step st hb
 replace bel:=below_step bel hb
 clear hb
 obtain ⟨sa,sc,hsv,-,-,-⟩:=id HSv.out
 subst hsv
 clear hsf
 have HEq:Hid (bb=p++sealN (O.take 32) (O.drop 32) p key):=HWi.out.one ⟨p,O,HEn.out,by rw [← HOX.out];exact HKe.out,rfl⟩
 have HB9:Hid (Bs w9 (.slice ba bb.length bc) bb):=HBb.out.later st
 have HL145:Hid (bb.length=145):=by show _=_;rw [HEq.out,List.length_append,HEn.out.ln,sealN_len,HL.out]
 have hSl:(sealN (O.take 32) (O.drop 32) p key).length=48:=by rw [sealN_len,HL.out]
 obtain ⟨S,hS⟩:∃ S,sealN (O.take 32) (O.drop 32) p key=S:=⟨_,rfl⟩
 rw [hS] at HSv HEq hSl ⊢
 clear hS
 have c1:=conv_any HB9.out
 have c2:=conv_any HPv.out
 have c3:=conv_any HSv.out
 obtain ⟨s1,hs1⟩:∃ z,strOfNums p=z:=⟨_,rfl⟩
 obtain ⟨s2,hs2⟩:∃ z,strOfNums S=z:=⟨_,rfl⟩
 have g9:¬ 9223372036854775807 < s1.size + s2.size:=by rw [← hs1,← hs2,str_size,str_size,HEn.out.ln,hSl];omega
 clear hSl
 rw [HEq.out,← str_app,hs1,hs2] at c1
 rw [hs1] at c2
 rw [hs2] at c3
 obtain ⟨n145,h145⟩:∃ m,bb.length=m:=⟨_,rfl⟩
 have HN145:Hid (n145=145):=by show _=_;rw [← h145];exact HL145.out
 have g5:((n145:Int) == 145)=true:=by rw [HN145.out];rfl
 obtain ⟨mS,hmS⟩:∃ m,S.length=m:=⟨_,rfl⟩
 rw [hmS] at c3 ⊢
 rw [← HEq.out] at c1
 rw [h145] at c1 ⊢
 clear hs1 hs2 h145 hmS
 have q3:=ne_nilX
 have q5:=eq_nilX
 go_wp2_with fail
 go_ret
 exact ⟨rfl,bel⟩
end Go.Proofs.YtlkljfnenonfgaaGreatDoor
