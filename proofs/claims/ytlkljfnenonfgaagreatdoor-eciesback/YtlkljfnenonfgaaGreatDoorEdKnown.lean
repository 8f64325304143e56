/- What the lower layers answer of rows of cells. (Plain part.) ecies.Wrap. The law's 'known': any number as one from 1 to N - 1. -/
import Derived.Test.YtlkljfnenonfgaaGreatDoorEdG
import Derived.Test.YtlkljfnenonfgaaGreatDoorEiUp0
import Derived.Test.YtlkljfnenonfgaaGreatDoorEiCode
import Derived.Test.YtlkljfnenonfgaaGreatDoorGcCode
import Derived.Test.YtlkljfnenonfgaaGreatDoorBase
import Derived.Test.YtlkljfnenonfgaaGreatDoorRows
import Derived.Deep.WholeRow
import Derived.Deep.RegionHeld3
import Derived.Deep.DeepCutAuto
import Derived.Deep.DeepFit
import Derived.Deep.OwnRows
import Derived.Deep.AppendLies
import Derived.Great.BuildSlice
import Derived.Laws.Rows
import Derived.BigQuiet
namespace Go.Proofs.YtlkljfnenonfgaaGreatDoor
open Go.RowKit
theorem uBase {cs:List Value} {x:Int} {w:World} (G:GlsC w) (h:U6 cs x):Calls Tryz.prog 12 #[.agg cs.toArray] w fun e w'=>∃ es,e=.returned (.agg es.toArray)∧P13 es (cmul x.toNat GG)∧Below w.heap.size w w':=by
 obtain ⟨z0,z1,z2,z3,z4,z5,rfl,hf,rfl⟩:=h
 refine (con_Base G hf).mono ?_
 rintro e w' ⟨s0,s1,s2,s3,s4,s5,t0,t1,t2,t3,t4,t5,k,rfl,T,hb⟩
 exact ⟨_,rfl,⟨s0,s1,s2,s3,s4,s5,t0,t1,t2,t3,t4,t5,k,rfl,T⟩,hb⟩
set_option linter.unusedSimpArgs false in
set_option maxRecDepth 100000 in
set_option maxHeartbeats 4000000 in
theorem con_WrapX {qs ks:List Value} {X Y:Int} {n:Bool} {k:Int} {v:Value} {key:List Int} {w:World} (G:GlsX w) (hq:P13R qs X Y n) (hk:U6 ks k) (hv:Bs w v key) (b:byt key) :
  Calls Tryz.prog 7 #[.agg qs.toArray,.agg ks.toArray,v] w (WrapR w X Y n k key):=by
 have HG:Hid (GlsX w):=G
 have HQ:Hid (P13R qs X Y n):=hq
 have HK:Hid (U6 ks k):=hk
 have HB:Hid (byt key):=b
 clear G hq hk b
 have HLq:Hid (qs.length=13):=HQ.out.len
 have HLk:Hid (ks.length=6):=HK.out.len
 have HV:Hid (Bs w v key):=hv
 obtain ⟨ao,cap,rfl,h1,h2,h3⟩:=hv
 clear h1 h2 h3
 have HNn:Hid (qs[12]?=some (.bool n)):=by
  obtain ⟨xs,ys,e,u1,u2⟩:=HQ.out
  show _=_
  rw [e,List.getElem?_append_right (by simp [u1.len,u2.len])]
  simp [u1.len,u2.len]
 have Q0:=(Blk.new w qs 26 w.heap.size rfl).alloc (.cells ks.toArray 24)
 have K0:=Blk.new (w.alloc (.cells qs.toArray 26)) ks 24 (w.heap.size + 1) (by simp)
 have bel:Below w.heap.size w ((w.alloc (.cells qs.toArray 26)).alloc (.cells ks.toArray 24)):=((Below.refl _ _).alloc (Nat.le_refl _) _).alloc (by simp) _
 go_enter Tryz.func7,Tryz.ntmps7
 go_upto_region 1 with fail
 generalize (w.alloc (.cells qs.toArray 26)).alloc (.cells ks.toArray 24)=W at *
 by_cases c1:key.length=32
 rotate_left
 ·have g1:((key.length:Int) == 32)=false:=by rw [beq_eq_false_iff_ne];omega
  have g2:((key.length:Int) != 32)=true:=by rw [bne,g1];rfl
  have HC:Hid (¬ key.length=32):=c1
  clear c1
  go_wp2_with fail
  refine bodyPost_ret (results_tmp2 rfl _ _ _) rfl ?_
  exact ⟨fun _=>⟨_,_,rfl,bel⟩,fun h=>absurd h HC.out⟩
 have HL:Hid (key.length=32):=c1
 obtain ⟨kn,hkn⟩:∃ kn,key.length=kn:=⟨_,rfl⟩
 have HKn:Hid (kn=32):=by show _=_;rw [← hkn];exact c1
 have g1:((kn:Int) == 32)=true:=by rw [HKn.out];rfl
 have g2:((kn:Int) != 32)=false:=by rw [bne,g1];rfl
 rw [hkn] at HV ⊢
 clear c1 hkn
 by_cases c2:isSc k
 rotate_left
 ·have l0:=Q0.lt
  have l1:=K0.lt
  go_wp2_with (first|(refine wpList_load_run (by rfl) (by rfl) (by rfl) (K0.load Tryz.underlying24 rfl size_u HLk.out) ?_)|fail)
  refine (c15_inRange (HG.out.below bel).2.1 HK.out).mono ?_
  rintro e w1 ⟨rfl,hb⟩
  replace Q0:=Q0.later hb
  replace K0:=K0.later hb
  replace bel:=below_step bel hb
  clear hb
  rw [decide_eq_false c2]
  clear l0 l1
  have HC:Hid (¬ isSc k):=c2
  clear c2 Q0 K0
  go_wp2_with fail
  refine bodyPost_ret (results_tmp2 rfl _ _ _) rfl ?_
  exact ⟨fun h=>absurd HL.out h,fun _=>⟨fun _=>⟨_,_,rfl,bel⟩,fun h=>absurd h HC.out⟩⟩
 have HC2:Hid (isSc k):=c2
 clear c2
 have l0:=Q0.lt
 have l1:=K0.lt
 go_wp2_with (first|(refine wpList_load_run (by rfl) (by rfl) (by rfl) (K0.load Tryz.underlying24 rfl size_u HLk.out) ?_)|fail)
 refine (c15_inRange (HG.out.below bel).2.1 HK.out).mono ?_
 rintro e w1 ⟨rfl,hb⟩
 replace Q0:=Q0.later hb
 replace K0:=K0.later hb
 replace bel:=below_step bel hb
 clear hb
 rw [decide_eq_true HC2.out]
 clear l0 l1
 cases n with
 | true =>
  have l0:=Q0.lt
  have cn:=Q0.cell 12 _ HNn.out
  go_wp2_with fail
  refine bodyPost_ret (results_tmp2 rfl _ _ _) rfl ?_
  exact ⟨fun h=>absurd HL.out h,fun _=>⟨fun h=>absurd HC2.out h,fun _=>⟨fun _=>⟨_,_,rfl,bel⟩,fun h=>by cases h⟩⟩⟩
 | false =>
  by_cases c3:Aff X Y
  rotate_left
  ·have l0:=Q0.lt
   have l1:=K0.lt
   have cn:=Q0.cell 12 _ HNn.out
   go_wp2_with (first|(refine wpList_load_run (by rfl) (by rfl) (by rfl) (Q0.load Tryz.underlying26 rfl size_p HLq.out) ?_)|fail)
   refine (uOn (HG.out.below bel).1 HQ.out).mono ?_
   rintro e w2 ⟨ob,rfl,hob,hb⟩
   replace Q0:=Q0.later hb
   replace K0:=K0.later hb
   replace bel:=below_step bel hb
   clear hb
   clear l0 l1 cn
   obtain rfl:ob=false:=by
    cases ob with
    | false=>rfl
    | true=>rcases hob.1 rfl with h|h;cases h.1;exact absurd h.2 c3
   have HC:Hid (¬ Aff X Y):=c3
   clear hob c3 Q0 K0
   go_wp2_with fail
   refine bodyPost_ret (results_tmp2 rfl _ _ _) rfl ?_
   exact ⟨fun h=>absurd HL.out h,fun _=>⟨fun h=>absurd HC2.out h,fun _=>⟨fun _=>⟨_,_,rfl,bel⟩,fun _ h=>absurd h HC.out⟩⟩⟩
  have HA:Hid (Aff X Y):=c3
  clear c3
  have l0:=Q0.lt
  have l1:=K0.lt
  have cn:=Q0.cell 12 _ HNn.out
  go_wp2_with (first|(refine wpList_load_run (by rfl) (by rfl) (by rfl) (Q0.load Tryz.underlying26 rfl size_p HLq.out) ?_)|fail)
  refine (uOn (HG.out.below bel).1 HQ.out).mono ?_
  rintro e w2 ⟨ob,rfl,hob,hb⟩
  replace Q0:=Q0.later hb
  replace K0:=K0.later hb
  replace bel:=below_step bel hb
  clear hb
  clear l0 l1 cn
  obtain rfl:ob=true:=hob.2 (.inr ⟨rfl,HA.out⟩)
  clear hob
  have l1:=K0.lt
  go_wp2_with (first|(refine wpList_load_run (by rfl) (by rfl) (by rfl) (K0.load Tryz.underlying24 rfl size_u HLk.out) ?_)|fail)
  refine (uBase (HG.out.below bel).1 HK.out).mono ?_
  rintro e w3 ⟨ps,rfl,hp,hb⟩
  replace Q0:=Q0.later hb
  replace K0:=K0.later hb
  replace bel:=below_step bel hb
  clear hb
  clear l1
  obtain ⟨PX,PY,hPP⟩:∃ a b,cmul k.toNat GG=some (a,b):=by
   cases hq:cmul k.toNat GG with
   | none=>exact absurd hq (base_some HC2.out)
   | some p=>exact ⟨p.1,p.2,rfl⟩
  have HPP:Hid (cmul k.toNat GG=some (PX,PY)):=hPP
  have HAf:Hid (Aff PX PY):=by have h:=on_cmul on_G k.toNat;rw [hPP] at h;exact h
  rw [hPP] at hp
  have HP:Hid (P13 ps (some (PX,PY))):=hp
  clear hp hPP
  go_wp2_with fail
  refine (uEnc (HG.out.below bel).1 HP.out HAf.out).mono ?_
  rintro e w4 ⟨pv,p,rfl,hpv,hpe,hb⟩
  replace Q0:=Q0.later hb
  replace K0:=K0.later hb
  replace bel:=below_step bel hb
  clear hb
  have HEn:Hid (EncIs (cmul k.toNat GG) p):=by rw [HPP.out];exact hpe
  have HPl:Hid (p.length=97):=hpe.ln
  have HPb:Hid (byt p):=hpe.byt
  have HPv:Hid (Bs w4 pv p):=hpv
  obtain ⟨pa,pc,rfl,-,-,-⟩:=hpv
  obtain ⟨pn,hpn⟩:∃ m,p.length=m:=⟨_,rfl⟩
  have HPn:Hid (p.length=pn):=hpn
  rw [hpn] at HPv ⊢
  clear hpe hpn
  have q3:=ne_nilX
  have l0:=Q0.lt
  have l1:=K0.lt
  go_wp2_with (first|(refine wpList_load_run (by rfl) (by rfl) (by rfl) (Q0.load Tryz.underlying26 rfl size_p HLq.out) ?_)|(refine wpList_load_run (by rfl) (by rfl) (by rfl) (K0.load Tryz.underlying24 rfl size_u HLk.out) ?_)|fail)
  refine (c15_sealing (HG.out.below bel) HPv.out HPb.out (by rw [HPl.out];omega) HK.out HC2.out HQ.out HA.out).mono ?_
  rintro e w5 ⟨v1,v2,O,rfl,hke,hv1,hv2,hb⟩
  have HKe:Hid (KeyIs p (xOf (cmul k.toNat (some (X,Y)))) O):=hke
  have HV1:Hid (Bs w5 v1 (O.take 32)):=hv1
  have HV2:Hid (Bs w5 v2 (O.drop 32)):=hv2
  replace HPv:Hid (Bs w5 _ p):=HPv.out.later hb
  clear l0 l1 hke hv1 hv2 Q0 K0
  replace bel:=below_step bel hb
  clear hb
  go_wp2_with fail
  refine (con_Seal HV1.out HV2.out HPv.out (HV.out.later bel) (byt_takeC HKe.out.byt _) (key32 HKe.out.ln).1 (byt_dropC HKe.out.byt _) (key32 HKe.out.ln).2 HPb.out HB.out (by rw [HPl.out];omega) (by rw [HL.out];omega)).mono ?_
  rintro e w6 ⟨sv,rfl,hfr,hb⟩
  have HSv:Hid (Bs w6 sv (sealN (O.take 32) (O.drop 32) p key)):=hfr.bs
  replace HPv:Hid (Bs w6 _ p):=HPv.out.later hb
  clear hfr
  replace bel:=below_step bel hb
  clear hb
  obtain ⟨sa,sc,rfl,-,-,-⟩:=HSv.out
  obtain ⟨sn,hsn⟩:∃ m,(sealN (O.take 32) (O.drop 32) p key).length=m:=⟨_,rfl⟩
  have HSn:Hid (sn=48):=by show _=_;rw [← hsn,sealN_len,HL.out]
  rw [hsn] at HSv ⊢
  have HSl:Hid ((sealN (O.take 32) (O.drop 32) p key).length=sn):=hsn
  clear hsn
  have BN:=Blk.new w6 [.slice pa pn pc,.slice sa sn sc] 27 w6.heap.size rfl
  have st:=(Below.refl w6.heap.size w6).alloc (Nat.le_refl _) (.cells #[.slice pa pn pc,.slice sa sn sc] 27)
  replace HPv:Hid _:=HPv.out.later st
  replace HSv:Hid _:=HSv.out.later st
  replace bel:=below_step bel st
  clear st
  go_wp2_with fail
  refine (con_catF BN HPv.out HSv.out (by rw [HPl.out];omega) (by rw [HPl.out,HSl.out,HSn.out];omega)).mono ?_
  rintro e w8 ⟨v8,rfl,own,hb⟩
  have fr:=(FreshB.of_own own (by rw [List.length_append,HPl.out];omega)).mono bel.size
  replace bel:=below_step bel hb
  clear hb BN HPv HSv own
  go_wp2_with fail
  refine bodyPost_ret (results_tmp2 rfl _ _ _) rfl ?_
  exact ⟨fun h=>absurd HL.out h,fun _=>⟨fun h=>absurd HC2.out h,fun _=>⟨fun h=>absurd ⟨rfl,HA.out⟩ h,fun _ _=>⟨_,_,rfl,⟨p,O,HEn.out,HKe.out,rfl⟩,fr,bel⟩⟩⟩⟩
set_option linter.unusedSimpArgs false in
set_option maxRecDepth 100000 in
set_option maxHeartbeats 1000000 in
theorem con_known {cs:List Value} {x:Int} {w:World} (G:GlsO w) (h:U6 cs x) :
  Calls Tryz.prog 19 #[.agg cs.toArray] w fun e w'=>∃ es y,e=.returned (.agg es.toArray)∧U6 es y∧isSc y∧Below w.heap.size w w':=by
 have hz:=zero_u.out
 have HU:Hid (U6 cs x):=h
 have HLa:Hid (cs.length=6):=h.len
 clear h
 have B0:=(Blk.new w cs 24 w.heap.size rfl).alloc (.cells #[.int .u64 0,.int .u64 0,.int .u64 0,.int .u64 0,.int .u64 0,.int .u64 0] 24)
 have R0:=Blk.new (w.alloc (.cells cs.toArray 24)) [.int .u64 0,.int .u64 0,.int .u64 0,.int .u64 0,.int .u64 0,.int .u64 0] 24 (w.heap.size + 1) (by simp)
 have bel:Below w.heap.size w ((w.alloc (.cells cs.toArray 24)).alloc (.cells #[.int .u64 0,.int .u64 0,.int .u64 0,.int .u64 0,.int .u64 0,.int .u64 0] 24)):=((Below.refl _ _).alloc (Nat.le_refl _) _).alloc (by simp) _
 go_enter Tryz.func19,Tryz.ntmps19
 go_upto_region 1 with fail
 generalize (w.alloc (.cells cs.toArray 24)).alloc (.cells #[.int .u64 0,.int .u64 0,.int .u64 0,.int .u64 0,.int .u64 0,.int .u64 0] 24)=W at *
 have la:=B0.lt
 go_wp2_with (first|(refine wpList_load_run (by rfl) (by rfl) (by rfl) (B0.load Tryz.underlying24 rfl size_u HLa.out) ?_)|fail)
 refine (uRest (G.below bel) HU.out).mono ?_
 rintro e w1 ⟨es,rfl,hu,hb⟩
 have HE:Hid (U6 es (x % QQ)):=hu
 have HLb:Hid (es.length=6):=hu.len
 have HSb:Hid (es.toArray.size=6):=by show _=_;rw [List.size_toArray];exact HLb.out
 have HOb:Hid (OneR es):=hu.ones
 clear hu la B0
 replace R0:=(R0.later hb).alloc (.cells es.toArray 24)
 replace bel:=below_alloc (o:=.cells es.toArray 24) (below_step bel hb)
 have KB:=Blk.new w1 es 24 w1.heap.size rfl
 clear hb
 go_upto_region 2 with (first|(refine wpList_store_row rfl 24 _ _ rfl w1.heap.size es.toArray rfl rfl 24 _ (heap_alloc_last _ _) (by rw [size_u,HSb.out]) (by rw [HSb.out];rfl) HOb.out ?_;rw [World.setRow_alloc_new])|fail)
 clear hz
 obtain ⟨g1,hg1⟩:∃ g1,g1=w1.heap.size:=⟨_,rfl⟩
 rw [← hg1] at KB
 generalize w1.alloc (.cells es.toArray 24)=w2 at *
 rw [← hg1]
 clear hg1
 have lk:=KB.lt
 have q:=eqU HE.out U6.zero
 obtain ⟨tR,hR⟩:=R0
 have HR1:Hid _:=hR
 clear hR
 by_cases c1:x % QQ=0
 ·rw [decide_eq_true c1] at q
  go_wp2_with (first|(refine wpList_load_run (by rfl) (by rfl) (by rfl) (KB.load Tryz.underlying24 rfl size_u HLb.out) ?_)|(refine wpList_store_row rfl 24 _ _ rfl (w.heap.size + 1) #[.int .u64 1,.int .u64 0,.int .u64 0,.int .u64 0,.int .u64 0,.int .u64 0] rfl rfl tR _ HR1.out (by rw [size_u];rfl) rfl (by simp [Value.oneCell']) ?_)|fail)
  exact bodyPost_ret (results_cell_row rfl _ _ (w.heap.size + 1) tR #[.int .u64 1,.int .u64 0,.int .u64 0,.int .u64 0,.int .u64 0,.int .u64 0] (0,0) _ rfl (setRow_heap _ _ _ _ _ _ HR1.out) Tryz.underlying24 rfl (by rw [size_u];rfl)) rfl ⟨[.int .u64 1,.int .u64 0,.int .u64 0,.int .u64 0,.int .u64 0,.int .u64 0],1,rfl,U6.one,by decide,below_setRow bel (by omega) _⟩
 ·rw [decide_eq_false c1] at q
  have HSc:Hid (isSc (x % QQ)):=by have h1:=Int.emod_nonneg x (show QQ≠0 by decide);exact ⟨by omega,Int.emod_lt_of_pos _ (by decide)⟩
  go_wp2_with (first|(refine wpList_load_run (by rfl) (by rfl) (by rfl) (KB.load Tryz.underlying24 rfl size_u HLb.out) ?_)|(refine wpList_store_row rfl 24 _ _ rfl (w.heap.size + 1) es.toArray rfl rfl tR _ HR1.out (by rw [size_u,HSb.out]) (by rw [HSb.out];rfl) HOb.out ?_)|fail)
  exact bodyPost_ret (results_cell_row rfl _ _ (w.heap.size + 1) tR es.toArray (0,0) _ rfl (setRow_heap _ _ _ _ _ _ HR1.out) Tryz.underlying24 rfl (by rw [size_u,HSb.out])) rfl ⟨es,_,rfl,HE.out,HSc.out,below_setRow bel (by omega) _⟩
end Go.Proofs.YtlkljfnenonfgaaGreatDoor
