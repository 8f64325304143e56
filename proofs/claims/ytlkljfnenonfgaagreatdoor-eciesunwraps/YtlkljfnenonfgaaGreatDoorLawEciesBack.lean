/- ecies.Unwrap. What the lower layers answer of rows of cells. (Plain part.) ecies.Wrap. The law's 'known': any number as one from 1 to N - 1. What was wrapped is unwrapped: plain facts. The law's up. Bytes as text. The law EciesBack. -/
import Derived.Test.YtlkljfnenonfgaaGreatDoorEiCode
import Derived.Test.YtlkljfnenonfgaaGreatDoorEiUp0
import Derived.Test.YtlkljfnenonfgaaGreatDoorCDecC
import Derived.Test.YtlkljfnenonfgaaGreatDoorGcCode
import Derived.Test.YtlkljfnenonfgaaGreatDoorEdG
import Derived.Test.YtlkljfnenonfgaaGreatDoorCEvery
import Derived.Test.YtlkljfnenonfgaaGreatDoorBase
import Derived.Test.YtlkljfnenonfgaaGreatDoorAeCodeX
import Derived.Test.YtlkljfnenonfgaaGreatDoorFrom
import Derived.Test.YtlkljfnenonfgaaGreatDoorAeNumG
import Derived.Test.YtlkljfnenonfgaaGreatDoorRows
import Derived.Deep.OwnRows
import Derived.Deep.AppendLies
import Derived.Great.BuildSlice
import Derived.Laws.Rows
import Derived.BigQuiet
import Derived.Deep.WholeRow
import Derived.Deep.RegionHeld3
import Derived.Deep.DeepCutAuto
import Derived.Deep.DeepFit
import Derived.Laws.BytesArg
namespace Go.Proofs.YtlkljfnenonfgaaGreatDoor
open Go.RowKit
theorem dec_not {p:List Int} {c:Int} (h:DecOk p):¬ DecBad p c:=by
 obtain ⟨h1,h2,h3,h4,h5⟩:=h
 rintro (⟨k,_⟩|⟨k,_⟩|⟨_,k,_⟩|⟨_,_,k|k,_⟩|⟨_,_,_,_,k,_⟩)<;>first|omega|contradiction
theorem dec_one {p:List Int} {c d:Int} (h:DecBad p c) (k:DecBad p d):c=d:=by
 rcases h with ⟨_,rfl⟩|⟨_,rfl⟩|⟨_,_,rfl⟩|⟨_,_,h|h,rfl⟩|⟨_,_,_,_,_,rfl⟩<;>rcases k with ⟨_,rfl⟩|⟨_,rfl⟩|⟨_,_,rfl⟩|⟨_,_,k|k,rfl⟩|⟨_,_,_,_,_,rfl⟩<;>first|rfl|omega|contradiction
/-- what Open answers, as two values -/
def OpenV (w w':World) (O B:List Int) (v er:Value):Prop:=∃ e,e=Ending.returned (.tuple #[v,er])∧OpenR w O B e w'
theorem OpenV.to {w0 w w':World} {O B:List Int} {v er:Value} (h:OpenV w w' O B v er) (hb:Below w0.heap.size w0 w'):OpenR w0 O B (.returned (.tuple #[v,er])) w':=by
 obtain ⟨e,rfl,h1,h2⟩:=h
 refine ⟨fun t=>?_,fun t=>?_⟩
 ·obtain ⟨v',e,h,-⟩:=h1 t
  exact ⟨v',e,h,hb⟩
 ·obtain ⟨ao,cap,e,-⟩:=h2 t
  exact ⟨ao,cap,e,hb⟩
theorem con_openY {kv nv av bv:Value} {O B:List Int} {w:World} (hk:Bs w kv (O.take 32)) (hn:Bs w nv (O.drop 32)) (ha:Bs w av (B.take 97)) (hb:Bs w bv (B.drop 97)) (lO:O.length=44) (bO:byt O) (bA:byt (B.take 97)) (lA:(B.take 97).length=97) (bC:byt (B.drop 97)) (lC:(B.drop 97).length=48) :
  Calls Tryz.prog 18 #[kv,nv,av,bv] w fun e w'=>∃ (v er:Value),e=.returned (.tuple #[v,er])∧OpenV w w' O B v er∧Below w.heap.size w w':=by
 have l:=key32 lO
 have e:(B.drop 97).length - 16=32:=by omega
 by_cases t:(B.drop 97).drop 32=tagN (O.take 32) (O.drop 32) (B.take 97) ((B.drop 97).take 32)
 ·refine (con_Open hk hn ha hb (byt_takeC bO _) l.1 (byt_dropC bO _) l.2 bA bC (by omega) (by omega) (by omega) (by rw [e];exact t)).mono ?_
  rintro _ w' ⟨v',rfl,h,hb⟩
  rw [e] at h
  exact ⟨_,_,rfl,⟨_,rfl,fun _=>⟨v',rfl,h,hb⟩,fun h=>absurd t h⟩,hb⟩
 ·refine (con_OpenTag hk hn ha hb (byt_takeC bO _) l.1 (byt_dropC bO _) l.2 bA bC (by omega) (by omega) (by omega) (by rw [e];exact t)).mono ?_
  rintro _ w' ⟨ao,cap,rfl,hb⟩
  exact ⟨_,_,rfl,⟨_,rfl,fun h=>absurd h t,fun _=>⟨ao,cap,rfl,hb⟩⟩,hb⟩
set_option linter.unusedSimpArgs false in
set_option maxRecDepth 100000 in
set_option maxHeartbeats 4000000 in
theorem con_UnwX {ds:List Value} {d:Int} {v:Value} {B:List Int} {w:World} (G:GlsX w) (hd:U6 ds d) (hv:Bs w v B) (b:byt B) :
  Calls Tryz.prog 15 #[.agg ds.toArray,v] w (UnwR w d B):=by
 have HG:Hid (GlsX w):=G
 have HK:Hid (U6 ds d):=hd
 have HLk:Hid (ds.length=6):=hd.len
 have HB:Hid (byt B):=b
 have HV:Hid (Bs w v B):=hv
 obtain ⟨ao,cap,rfl,h1,h2,h3⟩:=hv
 clear G hd b
 have K0:=Blk.new w ds 24 w.heap.size rfl
 have bel:Below w.heap.size w (w.alloc (.cells ds.toArray 24)):=(Below.refl _ _).alloc (Nat.le_refl _) _
 go_enter Tryz.func15,Tryz.ntmps15
 go_upto_region 1 with fail
 generalize w.alloc (.cells ds.toArray 24)=W at *
 by_cases c1:isSc d
 rotate_left
 ·clear h1 h2 h3
  have l1:=K0.lt
  go_wp2_with (first|(refine wpList_load_run (by rfl) (by rfl) (by rfl) (K0.load Tryz.underlying24 rfl size_u HLk.out) ?_)|fail)
  refine (c15_inRange (HG.out.below bel).2.1 HK.out).mono ?_
  rintro e w1 ⟨rfl,hb⟩
  replace K0:=K0.later hb
  replace bel:=below_step bel hb
  clear hb
  rw [decide_eq_false c1]
  clear l1
  have HC:Hid (¬ isSc d):=c1
  clear c1 K0
  go_wp2_with fail
  refine bodyPost_ret (results_tmp2 rfl _ _ _) rfl ?_
  exact ⟨fun _=>⟨_,_,rfl,bel⟩,fun h=>absurd h HC.out⟩
 have HC1:Hid (isSc d):=c1
 clear c1
 have l1:=K0.lt
 go_wp2_with (first|(refine wpList_load_run (by rfl) (by rfl) (by rfl) (K0.load Tryz.underlying24 rfl size_u HLk.out) ?_)|fail)
 refine (c15_inRange (HG.out.below bel).2.1 HK.out).mono ?_
 rintro e w1 ⟨rfl,hb⟩
 replace K0:=K0.later hb
 replace bel:=below_step bel hb
 clear hb
 rw [decide_eq_true HC1.out]
 clear l1
 by_cases c2:B.length=145
 rotate_left
 ·have g1:((B.length:Int) == 145)=false:=by rw [beq_eq_false_iff_ne];omega
  have g2:((B.length:Int) != 145)=true:=by rw [bne,g1];rfl
  have HC:Hid (¬ B.length=145):=c2
  clear c2 h1 h2 h3 K0
  go_wp2_with fail
  refine bodyPost_ret (results_tmp2 rfl _ _ _) rfl ?_
  exact ⟨fun h=>absurd HC1.out h,fun _=>⟨fun _=>⟨_,_,rfl,bel⟩,fun h=>absurd h HC.out⟩⟩
 have HL:Hid (B.length=145):=c2
 obtain ⟨b0,o0,rfl,-,-⟩:=h3 (by omega)
 obtain ⟨kn,hkn⟩:∃ kn,B.length=kn:=⟨_,rfl⟩
 have HKn:Hid (kn=145):=by show _=_;rw [← hkn];exact c2
 have g1:((kn:Int) == 145)=true:=by rw [HKn.out];rfl
 have g2:((kn:Int) != 145)=false:=by rw [bne,g1];rfl
 have g3:145≤cap:=by omega
 have g4:¬ cap=97:=by omega
 have g6:(97:Int)≤(cap:Int):=by omega
 have g7:(97:Int)≤(kn:Int):=by rw [HKn.out];decide
 have g8:kn≤cap:=by rw [HKn.out];exact g3
 have HT9:Hid (Bs w (.slice (some ⟨b0,o0,none⟩) 97 cap) (B.take 97)):=bs_uptoC HV.out rfl (by omega)
 have HD9:Hid (Bs w (.slice (some ⟨b0,o0 + 97,none⟩) (kn - 97) (cap - 97)) (B.drop 97)):=by rw [← hkn];exact bs_dropC HV.out rfl (by omega)
 have HTb:Hid (byt (B.take 97)):=byt_takeC HB.out _
 have HDb:Hid (byt (B.drop 97)):=byt_dropC HB.out _
 have HTl:Hid ((B.take 97).length=97):=by show _=_;rw [List.length_take,HL.out];rfl
 have HDl:Hid ((B.drop 97).length=48):=by show _=_;rw [List.length_drop,HL.out]
 rw [hkn]
 clear c2 hkn h1 h2 h3 HV HB
 go_upto_region 5 with fail
 go_quiet (fail)
 replace K0:=K0.drewN nq
 replace bel:=below_dN bel nq
 generalize w1.drewN nq=wq at *
 clear g1 g2
 rcases dec_either (B.take 97) with hok|⟨c,hbad⟩
 rotate_left
 ·have HDc:Hid (DecBad (B.take 97) c):=hbad
  clear hbad
  go_wp2_with fail
  refine (con_DecBad (HG.out.below bel).1 (HT9.out.later bel) HTb.out HDc.out).mono ?_
  rintro e w5 ⟨rfl,hb⟩
  replace K0:=K0.later hb
  replace bel:=below_step bel hb
  clear hb
  obtain ⟨zs,hzs⟩:∃ zs:List Value,[.int .u64 0,.int .u64 0,.int .u64 0,.int .u64 0,.int .u64 0,.int .u64 0,.int .u64 0,.int .u64 0,.int .u64 0,.int .u64 0,.int .u64 0,.int .u64 0,.bool false]=zs:=⟨_,rfl⟩
  have HZs:Hid ([.int .u64 0,.int .u64 0,.int .u64 0,.int .u64 0,.int .u64 0,.int .u64 0,.int .u64 0,.int .u64 0,.int .u64 0,.int .u64 0,.int .u64 0,.int .u64 0,.bool false]=zs):=hzs
  have hza:#[.int .u64 0,.int .u64 0,.int .u64 0,.int .u64 0,.int .u64 0,.int .u64 0,.int .u64 0,.int .u64 0,.int .u64 0,.int .u64 0,.int .u64 0,.int .u64 0,.bool false]=zs.toArray:=by rw [← hzs]
  rw [hza]
  clear hza hzs
  have HLh:Hid (zs.length=13):=by rw [← HZs.out];rfl
  have HSh:Hid (zs.toArray.size=13):=by show _=_;rw [List.size_toArray];exact HLh.out
  have HOh:Hid (OneR zs):=by rw [← HZs.out];show _=true;simp [Value.oneCell']
  replace K0:=K0.alloc (.cells zs.toArray 26)
  replace bel:=below_alloc (o:=.cells zs.toArray 26) bel
  have Bh:=Blk.new w5 zs 26 w5.heap.size rfl
  have hz:=zero_p.out
  go_upto_region 7 with (first|(refine wpList_store_row rfl 26 _ _ rfl w5.heap.size zs.toArray rfl rfl 26 _ (heap_alloc_last _ _) (by rw [size_p,HSh.out]) (by rw [HSh.out];rfl) HOh.out ?_;rw [World.setRow_alloc_new])|fail)
  clear hz
  obtain ⟨gh,hgh⟩:∃ g,g=w5.heap.size:=⟨_,rfl⟩
  rw [← hgh] at Bh
  generalize w5.alloc (.cells zs.toArray 26)=Vh at *
  rw [← hgh]
  clear hgh
  have q3:=ne_codeX
  go_wp2_with fail
  refine bodyPost_ret (results_tmp2 rfl _ _ _) rfl ?_
  exact ⟨fun h=>absurd HC1.out h,fun _=>⟨fun h=>absurd HL.out h,fun _=>⟨fun c2 h2=>by rw [dec_one h2 HDc.out];exact ⟨_,_,rfl,bel⟩,fun h=>absurd HDc.out (dec_not h)⟩⟩⟩
 have HOk:Hid (DecOk (B.take 97)):=hok
 have HAf:Hid (Aff (beN (ptX (B.take 97))) (beN (ptY (B.take 97)))):=by
  rcases hok.2.2.2.2 with h|h
  ·cases h.1
  ·exact h.2
 clear hok
 go_wp2_with fail
 refine (uDec (HG.out.below bel).1 (HT9.out.later bel) HTb.out HOk.out).mono ?_
 rintro e w5 ⟨es,rfl,hp,hb⟩
 have HP:Hid (P13R es (beN (ptX (B.take 97))) (beN (ptY (B.take 97))) false):=hp
 clear hp
 replace K0:=K0.later hb
 replace bel:=below_step bel hb
 clear hb
 have HLp:Hid (es.length=13):=HP.out.len
 have HSp:Hid (es.toArray.size=13):=by show _=_;rw [List.size_toArray];exact HLp.out
 have HOp:Hid (OneR es):=HP.out.ones
 replace K0:=K0.alloc (.cells es.toArray 26)
 replace bel:=below_alloc (o:=.cells es.toArray 26) bel
 have Bp:=Blk.new w5 es 26 w5.heap.size rfl
 have hz:=zero_p.out
 go_upto_region 7 with (first|(refine wpList_store_row rfl 26 _ _ rfl w5.heap.size es.toArray rfl rfl 26 _ (heap_alloc_last _ _) (by rw [size_p,HSp.out]) (by rw [HSp.out];rfl) HOp.out ?_;rw [World.setRow_alloc_new])|fail)
 clear hz
 obtain ⟨gp,hgp⟩:∃ g,g=w5.heap.size:=⟨_,rfl⟩
 rw [← hgp] at Bp
 generalize w5.alloc (.cells es.toArray 26)=Vp at *
 rw [← hgp]
 clear hgp
 have q3:=ne_nilX
 have l1:=K0.lt
 have lp:=Bp.lt
 go_wp2_with (first|(refine wpList_load_run (by rfl) (by rfl) (by rfl) (K0.load Tryz.underlying24 rfl size_u HLk.out) ?_)|(refine wpList_load_run (by rfl) (by rfl) (by rfl) (Bp.load Tryz.underlying26 rfl size_p HLp.out) ?_)|fail)
 refine (c15_sealing (HG.out.below bel) (HT9.out.later bel) HTb.out (by rw [HTl.out];omega) HK.out HC1.out HP.out HAf.out).mono ?_
 rintro e w6 ⟨v1,v2,O,rfl,hke,hv1,hv2,hb⟩
 have HKe:Hid (KeyIs (B.take 97) (othX d (B.take 97)) O):=hke
 have HV1:Hid (Bs w6 v1 (O.take 32)):=hv1
 have HV2:Hid (Bs w6 v2 (O.drop 32)):=hv2
 clear l1 lp hke hv1 hv2 K0 Bp
 replace bel:=below_step bel hb
 clear hb
 have HOl:Hid (O.length=44):=HKe.out.ln
 have HOb:Hid (byt O):=HKe.out.byt
 go_wp2_with fail
 refine (con_openY HV1.out HV2.out (HT9.out.later bel) (HD9.out.later bel) HOl.out HOb.out HTb.out HTl.out HDb.out HDl.out).mono ?_
 rintro e w7 ⟨ov,er,rfl,hor,hb⟩
 have HOr:Hid (OpenV w6 w7 O B ov er):=hor
 clear hor
 replace bel:=below_step bel hb
 clear hb
 go_wp2_with fail
 refine bodyPost_ret (results_tmp2 rfl _ _ _) rfl ?_
 exact ⟨fun h=>absurd HC1.out h,fun _=>⟨fun h=>absurd HL.out h,fun _=>⟨fun c h=>absurd h (dec_not HOk.out),fun _=>⟨O,HKe.out,HOr.out.to bel⟩⟩⟩⟩
theorem uBase {cs:List Value} {x:Int} {w:World} (G:GlsC w) (h:U6 cs x):Calls Tryz.prog 12 #[.agg cs.toArray] w fun e w'=>∃ es,e=.returned (.agg es.toArray)∧P13 es (cmul x.toNat GG)∧Below w.heap.size w w':=by
 obtain ⟨z0,z1,z2,z3,z4,z5,rfl,hf,rfl⟩:=h
 refine (con_Base G hf).mono ?_
 rintro e w' ⟨s0,s1,s2,s3,s4,s5,t0,t1,t2,t3,t4,t5,k,rfl,T,hb⟩
 exact ⟨_,rfl,⟨s0,s1,s2,s3,s4,s5,t0,t1,t2,t3,t4,t5,k,rfl,T⟩,hb⟩
set_option linter.unusedSimpArgs false in
set_option maxRecDepth 100000 in
set_option maxHeartbeats 4000000 in
theorem con_WrapX {qs ks:List Value} {X Y:Int} {n:Bool} {k:Int} {v:Value} {key:List Int} {w:World} (G:GlsX w) (hq:P13R qs X Y n) (hk:U6 ks k) (hv:Bs w v key) (b:byt key) :
  Calls Tryz.prog 7 #[.agg qs.toArray,.agg ks.toArray,v] w (WrapR w X Y n k key):=by
 have HG:Hid (GlsX w):=G
 have HQ:Hid (P13R qs X Y n):=hq
 have HK:Hid (U6 ks k):=hk
 have HB:Hid (byt key):=b
 clear G hq hk b
 have HLq:Hid (qs.length=13):=HQ.out.len
 have HLk:Hid (ks.length=6):=HK.out.len
 have HV:Hid (Bs w v key):=hv
 obtain ⟨ao,cap,rfl,h1,h2,h3⟩:=hv
 clear h1 h2 h3
 have HNn:Hid (qs[12]?=some (.bool n)):=by
  obtain ⟨xs,ys,e,u1,u2⟩:=HQ.out
  show _=_
  rw [e,List.getElem?_append_right (by simp [u1.len,u2.len])]
  simp [u1.len,u2.len]
 have Q0:=(Blk.new w qs 26 w.heap.size rfl).alloc (.cells ks.toArray 24)
 have K0:=Blk.new (w.alloc (.cells qs.toArray 26)) ks 24 (w.heap.size + 1) (by simp)
 have bel:Below w.heap.size w ((w.alloc (.cells qs.toArray 26)).alloc (.cells ks.toArray 24)):=((Below.refl _ _).alloc (Nat.le_refl _) _).alloc (by simp) _
 go_enter Tryz.func7,Tryz.ntmps7
 go_upto_region 1 with fail
 generalize (w.alloc (.cells qs.toArray 26)).alloc (.cells ks.toArray 24)=W at *
 by_cases c1:key.length=32
 rotate_left
 ·have g1:((key.length:Int) == 32)=false:=by rw [beq_eq_false_iff_ne];omega
  have g2:((key.length:Int) != 32)=true:=by rw [bne,g1];rfl
  have HC:Hid (¬ key.length=32):=c1
  clear c1
  go_wp2_with fail
  refine bodyPost_ret (results_tmp2 rfl _ _ _) rfl ?_
  exact ⟨fun _=>⟨_,_,rfl,bel⟩,fun h=>absurd h HC.out⟩
 have HL:Hid (key.length=32):=c1
 obtain ⟨kn,hkn⟩:∃ kn,key.length=kn:=⟨_,rfl⟩
 have HKn:Hid (kn=32):=by show _=_;rw [← hkn];exact c1
 have g1:((kn:Int) == 32)=true:=by rw [HKn.out];rfl
 have g2:((kn:Int) != 32)=false:=by rw [bne,g1];rfl
 rw [hkn] at HV ⊢
 clear c1 hkn
 by_cases c2:isSc k
 rotate_left
 ·have l0:=Q0.lt
  have l1:=K0.lt
  go_wp2_with (first|(refine wpList_load_run (by rfl) (by rfl) (by rfl) (K0.load Tryz.underlying24 rfl size_u HLk.out) ?_)|fail)
  refine (c15_inRange (HG.out.below bel).2.1 HK.out).mono ?_
  rintro e w1 ⟨rfl,hb⟩
  replace Q0:=Q0.later hb
  replace K0:=K0.later hb
  replace bel:=below_step bel hb
  clear hb
  rw [decide_eq_false c2]
  clear l0 l1
  have HC:Hid (¬ isSc k):=c2
  clear c2 Q0 K0
  go_wp2_with fail
  refine bodyPost_ret (results_tmp2 rfl _ _ _) rfl ?_
  exact ⟨fun h=>absurd HL.out h,fun _=>⟨fun _=>⟨_,_,rfl,bel⟩,fun h=>absurd h HC.out⟩⟩
 have HC2:Hid (isSc k):=c2
 clear c2
 have l0:=Q0.lt
 have l1:=K0.lt
 go_wp2_with (first|(refine wpList_load_run (by rfl) (by rfl) (by rfl) (K0.load Tryz.underlying24 rfl size_u HLk.out) ?_)|fail)
 refine (c15_inRange (HG.out.below bel).2.1 HK.out).mono ?_
 rintro e w1 ⟨rfl,hb⟩
 replace Q0:=Q0.later hb
 replace K0:=K0.later hb
 replace bel:=below_step bel hb
 clear hb
 rw [decide_eq_true HC2.out]
 clear l0 l1
 cases n with
 | true =>
  have l0:=Q0.lt
  have cn:=Q0.cell 12 _ HNn.out
  go_wp2_with fail
  refine bodyPost_ret (results_tmp2 rfl _ _ _) rfl ?_
  exact ⟨fun h=>absurd HL.out h,fun _=>⟨fun h=>absurd HC2.out h,fun _=>⟨fun _=>⟨_,_,rfl,bel⟩,fun h=>by cases h⟩⟩⟩
 | false =>
  by_cases c3:Aff X Y
  rotate_left
  ·have l0:=Q0.lt
   have l1:=K0.lt
   have cn:=Q0.cell 12 _ HNn.out
   go_wp2_with (first|(refine wpList_load_run (by rfl) (by rfl) (by rfl) (Q0.load Tryz.underlying26 rfl size_p HLq.out) ?_)|fail)
   refine (uOn (HG.out.below bel).1 HQ.out).mono ?_
   rintro e w2 ⟨ob,rfl,hob,hb⟩
   replace Q0:=Q0.later hb
   replace K0:=K0.later hb
   replace bel:=below_step bel hb
   clear hb
   clear l0 l1 cn
   obtain rfl:ob=false:=by
    cases ob with
    | false=>rfl
    | true=>rcases hob.1 rfl with h|h;cases h.1;exact absurd h.2 c3
   have HC:Hid (¬ Aff X Y):=c3
   clear hob c3 Q0 K0
   go_wp2_with fail
   refine bodyPost_ret (results_tmp2 rfl _ _ _) rfl ?_
   exact ⟨fun h=>absurd HL.out h,fun _=>⟨fun h=>absurd HC2.out h,fun _=>⟨fun _=>⟨_,_,rfl,bel⟩,fun _ h=>absurd h HC.out⟩⟩⟩
  have HA:Hid (Aff X Y):=c3
  clear c3
  have l0:=Q0.lt
  have l1:=K0.lt
  have cn:=Q0.cell 12 _ HNn.out
  go_wp2_with (first|(refine wpList_load_run (by rfl) (by rfl) (by rfl) (Q0.load Tryz.underlying26 rfl size_p HLq.out) ?_)|fail)
  refine (uOn (HG.out.below bel).1 HQ.out).mono ?_
  rintro e w2 ⟨ob,rfl,hob,hb⟩
  replace Q0:=Q0.later hb
  replace K0:=K0.later hb
  replace bel:=below_step bel hb
  clear hb
  clear l0 l1 cn
  obtain rfl:ob=true:=hob.2 (.inr ⟨rfl,HA.out⟩)
  clear hob
  have l1:=K0.lt
  go_wp2_with (first|(refine wpList_load_run (by rfl) (by rfl) (by rfl) (K0.load Tryz.underlying24 rfl size_u HLk.out) ?_)|fail)
  refine (uBase (HG.out.below bel).1 HK.out).mono ?_
  rintro e w3 ⟨ps,rfl,hp,hb⟩
  replace Q0:=Q0.later hb
  replace K0:=K0.later hb
  replace bel:=below_step bel hb
  clear hb
  clear l1
  obtain ⟨PX,PY,hPP⟩:∃ a b,cmul k.toNat GG=some (a,b):=by
   cases hq:cmul k.toNat GG with
   | none=>exact absurd hq (base_some HC2.out)
   | some p=>exact ⟨p.1,p.2,rfl⟩
  have HPP:Hid (cmul k.toNat GG=some (PX,PY)):=hPP
  have HAf:Hid (Aff PX PY):=by have h:=on_cmul on_G k.toNat;rw [hPP] at h;exact h
  rw [hPP] at hp
  have HP:Hid (P13 ps (some (PX,PY))):=hp
  clear hp hPP
  go_wp2_with fail
  refine (uEnc (HG.out.below bel).1 HP.out HAf.out).mono ?_
  rintro e w4 ⟨pv,p,rfl,hpv,hpe,hb⟩
  replace Q0:=Q0.later hb
  replace K0:=K0.later hb
  replace bel:=below_step bel hb
  clear hb
  have HEn:Hid (EncIs (cmul k.toNat GG) p):=by rw [HPP.out];exact hpe
  have HPl:Hid (p.length=97):=hpe.ln
  have HPb:Hid (byt p):=hpe.byt
  have HPv:Hid (Bs w4 pv p):=hpv
  obtain ⟨pa,pc,rfl,-,-,-⟩:=hpv
  obtain ⟨pn,hpn⟩:∃ m,p.length=m:=⟨_,rfl⟩
  have HPn:Hid (p.length=pn):=hpn
  rw [hpn] at HPv ⊢
  clear hpe hpn
  have q3:=ne_nilX
  have l0:=Q0.lt
  have l1:=K0.lt
  go_wp2_with (first|(refine wpList_load_run (by rfl) (by rfl) (by rfl) (Q0.load Tryz.underlying26 rfl size_p HLq.out) ?_)|(refine wpList_load_run (by rfl) (by rfl) (by rfl) (K0.load Tryz.underlying24 rfl size_u HLk.out) ?_)|fail)
  refine (c15_sealing (HG.out.below bel) HPv.out HPb.out (by rw [HPl.out];omega) HK.out HC2.out HQ.out HA.out).mono ?_
  rintro e w5 ⟨v1,v2,O,rfl,hke,hv1,hv2,hb⟩
  have HKe:Hid (KeyIs p (xOf (cmul k.toNat (some (X,Y)))) O):=hke
  have HV1:Hid (Bs w5 v1 (O.take 32)):=hv1
  have HV2:Hid (Bs w5 v2 (O.drop 32)):=hv2
  replace HPv:Hid (Bs w5 _ p):=HPv.out.later hb
  clear l0 l1 hke hv1 hv2 Q0 K0
  replace bel:=below_step bel hb
  clear hb
  go_wp2_with fail
  refine (con_Seal HV1.out HV2.out HPv.out (HV.out.later bel) (byt_takeC HKe.out.byt _) (key32 HKe.out.ln).1 (byt_dropC HKe.out.byt _) (key32 HKe.out.ln).2 HPb.out HB.out (by rw [HPl.out];omega) (by rw [HL.out];omega)).mono ?_
  rintro e w6 ⟨sv,rfl,hfr,hb⟩
  have HSv:Hid (Bs w6 sv (sealN (O.take 32) (O.drop 32) p key)):=hfr.bs
  replace HPv:Hid (Bs w6 _ p):=HPv.out.later hb
  clear hfr
  replace bel:=below_step bel hb
  clear hb
  obtain ⟨sa,sc,rfl,-,-,-⟩:=HSv.out
  obtain ⟨sn,hsn⟩:∃ m,(sealN (O.take 32) (O.drop 32) p key).length=m:=⟨_,rfl⟩
  have HSn:Hid (sn=48):=by show _=_;rw [← hsn,sealN_len,HL.out]
  rw [hsn] at HSv ⊢
  have HSl:Hid ((sealN (O.take 32) (O.drop 32) p key).length=sn):=hsn
  clear hsn
  have BN:=Blk.new w6 [.slice pa pn pc,.slice sa sn sc] 27 w6.heap.size rfl
  have st:=(Below.refl w6.heap.size w6).alloc (Nat.le_refl _) (.cells #[.slice pa pn pc,.slice sa sn sc] 27)
  replace HPv:Hid _:=HPv.out.later st
  replace HSv:Hid _:=HSv.out.later st
  replace bel:=below_step bel st
  clear st
  go_wp2_with fail
  refine (con_catF BN HPv.out HSv.out (by rw [HPl.out];omega) (by rw [HPl.out,HSl.out,HSn.out];omega)).mono ?_
  rintro e w8 ⟨v8,rfl,own,hb⟩
  have fr:=(FreshB.of_own own (by rw [List.length_append,HPl.out];omega)).mono bel.size
  replace bel:=below_step bel hb
  clear hb BN HPv HSv own
  go_wp2_with fail
  refine bodyPost_ret (results_tmp2 rfl _ _ _) rfl ?_
  exact ⟨fun h=>absurd HL.out h,fun _=>⟨fun h=>absurd HC2.out h,fun _=>⟨fun h=>absurd ⟨rfl,HA.out⟩ h,fun _ _=>⟨_,_,rfl,⟨p,O,HEn.out,HKe.out,rfl⟩,fr,bel⟩⟩⟩⟩
set_option linter.unusedSimpArgs false in
set_option maxRecDepth 100000 in
set_option maxHeartbeats 1000000 in
theorem con_known {cs:List Value} {x:Int} {w:World} (G:GlsO w) (h:U6 cs x) :
  Calls Tryz.prog 19 #[.agg cs.toArray] w fun e w'=>∃ es y,e=.returned (.agg es.toArray)∧U6 es y∧isSc y∧Below w.heap.size w w':=by
 have hz:=zero_u.out
 have HU:Hid (U6 cs x):=h
 have HLa:Hid (cs.length=6):=h.len
 clear h
 have B0:=(Blk.new w cs 24 w.heap.size rfl).alloc (.cells #[.int .u64 0,.int .u64 0,.int .u64 0,.int .u64 0,.int .u64 0,.int .u64 0] 24)
 have R0:=Blk.new (w.alloc (.cells cs.toArray 24)) [.int .u64 0,.int .u64 0,.int .u64 0,.int .u64 0,.int .u64 0,.int .u64 0] 24 (w.heap.size + 1) (by simp)
 have bel:Below w.heap.size w ((w.alloc (.cells cs.toArray 24)).alloc (.cells #[.int .u64 0,.int .u64 0,.int .u64 0,.int .u64 0,.int .u64 0,.int .u64 0] 24)):=((Below.refl _ _).alloc (Nat.le_refl _) _).alloc (by simp) _
 go_enter Tryz.func19,Tryz.ntmps19
 go_upto_region 1 with fail
 generalize (w.alloc (.cells cs.toArray 24)).alloc (.cells #[.int .u64 0,.int .u64 0,.int .u64 0,.int .u64 0,.int .u64 0,.int .u64 0] 24)=W at *
 have la:=B0.lt
 go_wp2_with (first|(refine wpList_load_run (by rfl) (by rfl) (by rfl) (B0.load Tryz.underlying24 rfl size_u HLa.out) ?_)|fail)
 refine (uRest (G.below bel) HU.out).mono ?_
 rintro e w1 ⟨es,rfl,hu,hb⟩
 have HE:Hid (U6 es (x % QQ)):=hu
 have HLb:Hid (es.length=6):=hu.len
 have HSb:Hid (es.toArray.size=6):=by show _=_;rw [List.size_toArray];exact HLb.out
 have HOb:Hid (OneR es):=hu.ones
 clear hu la B0
 replace R0:=(R0.later hb).alloc (.cells es.toArray 24)
 replace bel:=below_alloc (o:=.cells es.toArray 24) (below_step bel hb)
 have KB:=Blk.new w1 es 24 w1.heap.size rfl
 clear hb
 go_upto_region 2 with (first|(refine wpList_store_row rfl 24 _ _ rfl w1.heap.size es.toArray rfl rfl 24 _ (heap_alloc_last _ _) (by rw [size_u,HSb.out]) (by rw [HSb.out];rfl) HOb.out ?_;rw [World.setRow_alloc_new])|fail)
 clear hz
 obtain ⟨g1,hg1⟩:∃ g1,g1=w1.heap.size:=⟨_,rfl⟩
 rw [← hg1] at KB
 generalize w1.alloc (.cells es.toArray 24)=w2 at *
 rw [← hg1]
 clear hg1
 have lk:=KB.lt
 have q:=eqU HE.out U6.zero
 obtain ⟨tR,hR⟩:=R0
 have HR1:Hid _:=hR
 clear hR
 by_cases c1:x % QQ=0
 ·rw [decide_eq_true c1] at q
  go_wp2_with (first|(refine wpList_load_run (by rfl) (by rfl) (by rfl) (KB.load Tryz.underlying24 rfl size_u HLb.out) ?_)|(refine wpList_store_row rfl 24 _ _ rfl (w.heap.size + 1) #[.int .u64 1,.int .u64 0,.int .u64 0,.int .u64 0,.int .u64 0,.int .u64 0] rfl rfl tR _ HR1.out (by rw [size_u];rfl) rfl (by simp [Value.oneCell']) ?_)|fail)
  exact bodyPost_ret (results_cell_row rfl _ _ (w.heap.size + 1) tR #[.int .u64 1,.int .u64 0,.int .u64 0,.int .u64 0,.int .u64 0,.int .u64 0] (0,0) _ rfl (setRow_heap _ _ _ _ _ _ HR1.out) Tryz.underlying24 rfl (by rw [size_u];rfl)) rfl ⟨[.int .u64 1,.int .u64 0,.int .u64 0,.int .u64 0,.int .u64 0,.int .u64 0],1,rfl,U6.one,by decide,below_setRow bel (by omega) _⟩
 ·rw [decide_eq_false c1] at q
  have HSc:Hid (isSc (x % QQ)):=by have h1:=Int.emod_nonneg x (show QQ≠0 by decide);exact ⟨by omega,Int.emod_lt_of_pos _ (by decide)⟩
  go_wp2_with (first|(refine wpList_load_run (by rfl) (by rfl) (by rfl) (KB.load Tryz.underlying24 rfl size_u HLb.out) ?_)|(refine wpList_store_row rfl 24 _ _ rfl (w.heap.size + 1) es.toArray rfl rfl tR _ HR1.out (by rw [size_u,HSb.out]) (by rw [HSb.out];rfl) HOb.out ?_)|fail)
  exact bodyPost_ret (results_cell_row rfl _ _ (w.heap.size + 1) tR es.toArray (0,0) _ rfl (setRow_heap _ _ _ _ _ _ HR1.out) Tryz.underlying24 rfl (by rw [size_u,HSb.out])) rfl ⟨es,_,rfl,HE.out,HSc.out,below_setRow bel (by omega) _⟩
theorem times_swap {d k:Int} {X Y PX PY:Int} (hP:cmul d.toNat GG=some (X,Y)) (hQ:cmul k.toNat GG=some (PX,PY)):cmul d.toNat (some (PX,PY))=cmul k.toNat (some (X,Y)):=by
 rw [← hP,← hQ,← cmul_mul on_G,← cmul_mul on_G,Nat.mul_comm]
/-- what is in a wrapped key -/
theorem wrap_back {d k X Y:Int} {key b:List Int} (hP:cmul d.toNat GG=some (X,Y)) (bK:byt key) (l:key.length=32) (h:WrapIs X Y k key b) :
  b.length=145∧byt b∧DecOk (b.take 97)∧∃ O,KeyIs (b.take 97) (othX d (b.take 97)) O∧(b.drop 97).take 32=hidN (O.take 32) (O.drop 32) key∧(b.drop 97).drop 32=tagN (O.take 32) (O.drop 32) (b.take 97) (hidN (O.take 32) (O.drop 32) key):=by
 obtain ⟨p,O,hE,hK,rfl⟩:=h
 have lp:=hE.ln
 have e1:(p++sealN (O.take 32) (O.drop 32) p key).take 97=p:=by rw [List.take_append_of_le_length (by omega),List.take_of_length_le (by omega)]
 have e2:(p++sealN (O.take 32) (O.drop 32) p key).drop 97=sealN (O.take 32) (O.drop 32) p key:=by rw [List.drop_append_of_le_length (by omega),List.drop_of_length_le (by omega),List.nil_append]
 have hE2:=hE
 obtain ⟨PX,PY,XB,YB,hQ,-,-,-⟩:=hE2
 have hA:Aff PX PY:=by have h:=on_cmul on_G k.toNat;rw [hQ] at h;exact h
 rw [hQ] at hE
 have e3:othX d p=xOf (cmul k.toNat (some (X,Y))):=by
  unfold othX
  rw [hE.pts.1,hE.pts.2.1,times_swap hP hQ]
 refine ⟨by rw [List.length_append,lp,sealN_len,l],byt_x2 hE.byt (sealN_byt (byt_takeC hK.byt _) (byt_dropC hK.byt _) bK),by rw [e1];exact hE.dec hA,O,?_,?_,?_⟩
 ·rw [e1,e3];exact hK
 ·have:=seal_take (O.take 32) (O.drop 32) p key
  rw [l] at this
  rw [e2,this]
 ·have:=seal_drop (O.take 32) (O.drop 32) p key
  rw [l] at this
  rw [e1,e2,this]
theorem unw_yes {w w':World} {d:Int} {B O:List Int} {e:Ending} (h:UnwR w d B e w') (hd:isSc d) (hl:B.length=145) (hok:DecOk (B.take 97)) (hk:KeyIs (B.take 97) (othX d (B.take 97)) O) (ht:(B.drop 97).drop 32=tagN (O.take 32) (O.drop 32) (B.take 97) ((B.drop 97).take 32)):∃ v',e=.returned (.tuple #[v',.nilIface])∧Bs w' v' (hidN (O.take 32) (O.drop 32) ((B.drop 97).take 32))∧Below w.heap.size w w':=by
 obtain ⟨O',k',h'⟩:=((h.2 hd).2 hl).2 hok
 obtain rfl:=k'.one hk
 exact h'.1 ht
theorem unw_no {w w':World} {d:Int} {B O:List Int} {e:Ending} (h:UnwR w d B e w') (hd:isSc d) (hl:B.length=145) (hok:DecOk (B.take 97)) (hk:KeyIs (B.take 97) (othX d (B.take 97)) O) (ht:¬ (B.drop 97).drop 32=tagN (O.take 32) (O.drop 32) (B.take 97) ((B.drop 97).take 32)):NoneX w 5 e w':=by
 obtain ⟨O',k',h'⟩:=((h.2 hd).2 hl).2 hok
 obtain rfl:=k'.one hk
 exact h'.2 ht
/-- a byte among the last 16 turned -/
theorem turn_97 {B:List Int} {n:Nat} {x:Int} (h:129≤n):(B.set n x).take 97=B.take 97∧((B.set n x).drop 97).take 32=(B.drop 97).take 32:=by
 refine ⟨turn_take (by omega),?_⟩
 rw [List.take_drop,List.take_drop,turn_take (by omega)]
theorem turn_tag {B:List Int} {n:Nat} {x:Int} (h:129≤n) (hn:n < B.length):((B.set n x).drop 97).drop 32=(B.drop 97).drop 32↔x=B.getD n 0:=by
 rw [List.drop_drop,List.drop_drop]
 exact turn_same (by omega) hn
theorem info_X:(Tryz.prog.info? 5).map (fun i=>(i.zero,i.size,i.bytes))=some (some (.int .u8 0),1,1):=by kernel_rfl
theorem mk_X:∀ w:World,(Instr.makeSlice 27 (.int .i64 32) (.int .i64 32)).run Tryz.prog w=.ok (.slice (some ⟨w.heap.size,0,none⟩) 32 32) (w.alloc (.cells (u8s (List.replicate 32 0)).toArray 5)):=fun w=>by
 have:=run_make_row' 27 5 (.int .u8 0) 1 Tryz.underlying27 info_X rfl .i64 .i64 32 (by omega) (by omega) w
 rw [made_zero] at this
 exact this
set_option linter.unusedSimpArgs false in
set_option maxRecDepth 100000 in
set_option maxHeartbeats 1000000 in
theorem con_up15 {w:World} (G:GlsX w):Calls Tryz.prog 6 #[] w fun e w'=>e=.returned (.bool true)∧Below w.heap.size w w':=by
 have HG:Hid (GlsX w):=G
 clear G
 obtain ⟨CZ,hCZ⟩:∃ c,(u8s (List.replicate 32 0)).toArray=c:=⟨_,rfl⟩
 have mk:=mk_X
 rw [hCZ] at mk
 have HCZ:Hid ((u8s (List.replicate 32 0)).toArray=CZ):=hCZ
 clear hCZ
 have hz:=zero_u.out
 have hzp:=zero_p.out
 go_enter Tryz.func6,Tryz.ntmps6
 have bel:Below w.heap.size w (w.alloc (.cells CZ 5)):=(Below.refl _ _).alloc (Nat.le_refl _) _
 have hBs:Bs (w.alloc (.cells CZ 5)) (.slice (some ⟨w.heap.size,0,none⟩) 32 32) (List.replicate 32 0):=by rw [← HCZ.out];exact (Blk.new w (u8s (List.replicate 32 0)) 5 w.heap.size rfl).bs (by simp) (by unfold maxLen;omega)
 go_wp2_with fail
 refine (con_Wrap0 (HG.out.below bel) hBs (by simp)).mono ?_
 rintro e w1 ⟨ao,cap,rfl,hb⟩
 replace bel:=below_step bel hb
 clear hb hBs mk hzp
 go_wp2_with fail
 refine (con_Unwrap0 (HG.out.below bel)).mono ?_
 rintro e w2 ⟨ao2,cap2,rfl,hb⟩
 replace bel:=below_step bel hb
 clear hb hz
 have q1:=iface_eqX 4
 have q2:=iface_eqX 1
 go_wp2_with fail
 go_ret
 exact ⟨rfl,bel⟩
theorem conv_s {w:World} {b o n cap:Nat} {bs:List Int} (h:Bs w (.slice (some ⟨b,o,none⟩) n cap) bs) (hn:0 < n):(convert 27 9 (.slice (some ⟨b,o,none⟩) n cap)).run Tryz.prog w=.ok (.string (strOfNums bs)) w:=by
 obtain ⟨ao,c,e,-,-,h4⟩:=h
 simp only [Value.slice.injEq] at e
 obtain ⟨rfl,rfl,rfl⟩:=e
 obtain ⟨b',o',e',-,h6⟩:=h4 hn
 simp only [Option.some.injEq,Addr.mk.injEq] at e'
 obtain ⟨rfl,rfl,-⟩:=e'
 exact run_convert_bytes_arg w 27 5 Tryz.underlying27 Tryz.underlying5 b o bs.length _ bs rfl h6 9 Tryz.underlying9
theorem Bs.form {w:World} {v:Value} {bs:List Int} (h:Bs w v bs) (h0:0 < bs.length):∃ b o cap,v=.slice (some ⟨b,o,none⟩) bs.length cap∧bs.length≤cap∧cap≤maxLen:=by
 obtain ⟨ao,cap,e,h1,h2,h3⟩:=h
 obtain ⟨b,o,rfl,_⟩:=h3 h0
 exact ⟨b,o,cap,e,h2,h1⟩
theorem conv_any {w:World} {v:Value} {bs:List Int} (h:Bs w v bs):(convert 27 9 v).run Tryz.prog w=.ok (.string (strOfNums bs)) w:=by
 by_cases h0:0 < bs.length
 ·obtain ⟨b,o,cap,rfl,_,_⟩:=h.form h0
  exact conv_s h h0
 ·obtain rfl:bs=[]:=List.eq_nil_of_length_eq_zero (by omega)
  obtain ⟨ao,cap,rfl,_,_,_⟩:=h
  cases ao<;>kernel_rfl
set_option linter.unusedSimpArgs false in
set_option maxRecDepth 100000 in
set_option maxHeartbeats 8000000 in
theorem law_eciesBack {cs ds:List Value} {x y:Int} {S:List Int} {at9 by9:Int} {w:World} (G:GlsX w) (ha:U6 cs x) (hk:U6 ds y) (l:S.length=32) (bS:byt S) (fx:-9223372036854775808≤at9∧at9≤9223372036854775807) (fy:0≤by9∧by9 < 256) :
  Calls Tryz.prog 5 #[.agg cs.toArray,.agg ds.toArray,.agg (u8s S).toArray,.int .i64 at9,.int .u8 by9] w fun e w'=>e=.returned (.bool true)∧Below w.heap.size w w':=by
 have HG:Hid (GlsX w):=G
 have HGO:Hid (GlsO w):=G.2.1
 have HA:Hid (U6 cs x):=ha
 have HK:Hid (U6 ds y):=hk
 have HLa:Hid (cs.length=6):=ha.len
 have HLk:Hid (ds.length=6):=hk.len
 have HSb:Hid (byt S):=bS
 have HSl:Hid (S.length=32):=l
 clear G ha hk bS
 have D0:=((Blk.new w cs 24 w.heap.size rfl).alloc (.cells ds.toArray 24)).alloc (.cells (u8s S).toArray 48)
 have K0:=(Blk.new (w.alloc (.cells cs.toArray 24)) ds 24 (w.heap.size + 1) (by simp)).alloc (.cells (u8s S).toArray 48)
 have G0:=Blk.new ((w.alloc (.cells cs.toArray 24)).alloc (.cells ds.toArray 24)) (u8s S) 48 (w.heap.size + 1 + 1) (by simp)
 have bel:Below w.heap.size w (((w.alloc (.cells cs.toArray 24)).alloc (.cells ds.toArray 24)).alloc (.cells (u8s S).toArray 48)):=(((Below.refl _ _).alloc (Nat.le_refl _) _).alloc (by simp) _).alloc (by simp;omega) _
 go_enter Tryz.func5,Tryz.ntmps5
 go_upto_region 1 with fail
 generalize ((w.alloc (.cells cs.toArray 24)).alloc (.cells ds.toArray 24)).alloc (.cells (u8s S).toArray 48)=W at *
 go_wp2_with fail
 refine (con_up15 (HG.out.below bel)).mono ?_
 rintro e w1 ⟨rfl,hb⟩
 replace D0:=D0.later hb
 replace K0:=K0.later hb
 replace G0:=G0.later hb
 replace bel:=below_step bel hb
 clear hb
 have l0:=D0.lt
 go_wp2_with (first|(refine wpList_load_run (by rfl) (by rfl) (by rfl) (D0.load Tryz.underlying24 rfl size_u HLa.out) ?_)|fail)
 refine (con_known (HGO.out.below bel) HA.out).mono ?_
 rintro e w2 ⟨es,yd,rfl,hu,hsd,hb⟩
 clear l0
 replace D0:=D0.later hb
 replace K0:=K0.later hb
 replace G0:=G0.later hb
 replace bel:=below_step bel hb
 clear hb
 have HE:Hid (U6 es yd):=hu
 have HScd:Hid (isSc yd):=hsd
 have HLd:Hid (es.length=6):=hu.len
 have HSd:Hid (es.toArray.size=6):=by show _=_;rw [List.size_toArray];exact HLd.out
 have HOd:Hid (OneR es):=hu.ones
 clear hu hsd
 have lD:=D0.lt
 have D1:Blk (w2.setRow w.heap.size es.toArray) w.heap.size es:=D0.put
 have K1:=K0.row (cs:=es.toArray) (c:=w.heap.size) (by omega)
 have G1:=G0.row (cs:=es.toArray) (c:=w.heap.size) (by omega)
 have bel1:=below_setRow bel (Nat.le_refl _) es.toArray
 obtain ⟨tR,hR⟩:=D0
 have HR1:Hid _:=hR
 clear hR
 go_upto_region 3 with (first|(refine wpList_store_row rfl 24 _ _ rfl w.heap.size es.toArray rfl rfl tR _ HR1.out (by rw [size_u,HSd.out]) (by rw [HSd.out,List.size_toArray,HLa.out]) HOd.out ?_)|fail)
 clear HR1 K0 G0 bel lD
 generalize World.setRow w2 _ _=V at *
 obtain ⟨W0,hW0⟩:∃ z,z=V.heap.size:=⟨_,rfl⟩
 have hg3:w.heap.size + 1 + 1 < W0:=by rw [hW0];exact G1.lt
 have hsV:W0≤V.heap.size:=by omega
 clear hW0
 go_wp2_with fail
 go_loopw [12,13] (fun bv iv wx=>∃ i:Nat,i≤32∧iv=.int .i64 (i:Int)∧wx.ownsRow W0 5 1 bv i (u8s (S.take i))∧Blk wx w.heap.size es∧Blk wx (w.heap.size + 1) ds∧Blk wx (w.heap.size + 1 + 1) (u8s S)∧Below w.heap.size w wx∧W0≤wx.heap.size) (fun _ iv _=>32 - (intOf iv).toNat)
 case atStart=>exact ⟨0,by omega,rfl,⟨rfl,.inl ⟨rfl,rfl⟩⟩,D1,K1,G1,bel1,hsV⟩
 case round =>
  clear D1 K1 G1 bel1 hsV
  obtain ⟨i,hi,rfl,own,D1,K1,G1,bel1,hsV⟩:=hrel
  by_cases hil:i < 32
  ·have g1:(i:Int) < 32:=by omega
   have g2:(0:Int)≤(i:Int):=by omega
   have gi:IntKind.i64.wrap ((i:Int) + 1)=(i:Int) + 1:=by rw [IntKind.wrap_i64];omega
   obtain ⟨z,hz⟩:∃ z,S.getD i 0=z:=⟨_,rfl⟩
   have HZ:Hid (S.take i++[z]=S.take (i + 1)):=by
    show _=_
    have hg:S[i]?=some z:=by rw [← hz,List.getD_eq_getElem?_getD,List.getElem?_eq_getElem (by rw [HSl.out];exact hil)];rfl
    rw [List.take_add_one,hg]
    rfl
   have cz:=G1.cell i (.int .u8 z) (by rw [u8s_get S i (by rw [HSl.out];exact hil),hz])
   clear hz
   have lg:=G1.lt
   have own1:=own_later6 own (o:=.cells #[.int .u8 z] 5)
   have bl:=bs_one wr z
   have hsz:W0≤(wr.alloc (.cells #[.int .u8 z] 5)).heap.size:=by simp;omega
   go_wp2_with (first|(at_builtin;refine wpList_append_bs (by rfl) _ _ (by rfl) W0 _ i _ (by rfl) own1 _ [z] (by rfl) bl (by simp;omega) hsz ?_;intro v8 w8 own8 hgrow hat)|fail)
   have bel8:=below_own (base:=W0) ((Below.refl W0 wr).alloc hsV (.cells #[.int .u8 z] 5)) hgrow hsz (fun g hg=>own_geD own1 hg) (Nat.le_refl _)
   rw [HZ.out] at own8
   replace D1:=D1.below bel8 (by omega)
   replace K1:=K1.below bel8 (by omega)
   replace G1:=G1.below bel8 (by omega)
   replace bel1:=bel1.trans (bel8.mono (by omega))
   have hs8:=bel8.size
   clear hgrow hat own1 bl bel8 cz lg
   go_roundw
   case rel=>exact ⟨i + 1,by omega,by go_num,own8,D1,K1,G1,bel1,by omega⟩
   case measure=>simp [intOf];omega
  ·obtain ⟨wr2,hwr2⟩:∃ z,z=wr:=⟨_,rfl⟩
   subst hwr2
   obtain rfl:i=32:=by omega
   have g1:¬ ((32:Nat):Int) < 32:=by omega
   rw [List.take_of_length_le (by rw [HSl.out];omega)] at own
   have hlS:=HSl.out
   obtain ⟨hao,hcap,hhv,hc1,hc2⟩:=own_slice own
   subst hhv
   have own9:=own
   rw [← hlS] at own9
   have HBs:Hid (Bs wr2 (.slice hao S.length hcap) S):=Bs.of_own own9
   obtain ⟨bo,oo,hbo⟩:∃ bo oo,hao=some ⟨bo,oo,none⟩:=by
    obtain ⟨a9,_,e9,_,_,h3⟩:=HBs.out
    obtain ⟨b9,o9,e2,_,_⟩:=h3 (by rw [hlS];omega)
    exact ⟨b9,o9,by rw [← e2];simpa using congrArg (fun v=>match v with|.slice a _ _=>a|_=>none) e9⟩
   subst hbo
   rw [hlS] at HBs
   clear own own9 hlS
   go_upto_region 8 with fail
   obtain ⟨S1,hS1,KB1,KI1,KD1,KL1,KA1⟩:∃ S:World→Prop,Hd S wr2∧Hid (∀ wx,Hd S wx→Below wr2.heap.size wr2 wx)∧Hid (∀ wx,Below wr2.heap.size wr2 wx→Hd S wx)∧Hid (∀ wx,Hd S wx→Hd S wx.drew)∧Hid (∀ w1 w2,Hd S w1→Below w1.heap.size w1 w2→Hd S w2)∧Hid (∀ w1 o,Hd S w1→Hd S (w1.alloc o)):=⟨fun wx=>Below wr2.heap.size wr2 wx,Below.refl _ _,fun _ h=>h,fun _ h=>h,fun wx h=>Below.drew h,fun w1 w2 h hb=>below_step h hb,fun w1 o h=>Below.alloc h h.size o⟩
   have HD1:Hid (Blk wr2 w.heap.size es):=D1
   have HK1:Hid (Blk wr2 (w.heap.size + 1) ds):=K1
   have HG1:Hid (Blk wr2 (w.heap.size + 1 + 1) (u8s S)):=G1
   have rd:Hid (∀ wx,Hd S1 wx→(loadVar 24 ⟨w.heap.size,0,none⟩).run Tryz.prog wx=.ok (.agg es.toArray) wx):=fun wx h=>(HD1.out.later (KB1.out wx h)).load Tryz.underlying24 rfl size_u HLd.out
   have rk:Hid (∀ wx,Hd S1 wx→(loadVar 24 ⟨w.heap.size + 1,0,none⟩).run Tryz.prog wx=.ok (.agg ds.toArray) wx):=fun wx h=>(HK1.out.later (KB1.out wx h)).load Tryz.underlying24 rfl size_u HLk.out
   clear D1 K1 G1
   refine wp_region_noPanic ?_
   refine wp_region_held_drew (S:=Hd S1) (by kernel_rfl) (KD1.out _ hS1) (fun hHeld=>?_)
   clear hS1
   generalize World.drew _=wd at *
   refine wpAnyH_take (i:=0) (v:=.agg es.toArray) rfl (by kernel_rfl) (by kernel_rfl) (by kernel_rfl) (fun _ _ _ h=>h) (Or.inl ⟨by rfl,fun wx h=>exec_load rfl rfl (rd.out wx h)⟩) (by assumption) ?_
   try simp only [Act.put,List.getElem_toArray,List.getElem_cons_zero,List.getElem_cons_succ,List.setIfInBounds_toArray,List.set_cons_zero,List.set_cons_succ]
   refine wpAnyH_take (i:=2) (v:=.agg ds.toArray) rfl (by kernel_rfl) (by kernel_rfl) (by kernel_rfl) (fun _ _ _ h=>h) (Or.inl ⟨by rfl,fun wx h=>exec_load rfl rfl (rk.out wx h)⟩) (by assumption) ?_
   try simp only [Act.put,List.getElem_toArray,List.getElem_cons_zero,List.getElem_cons_succ,List.setIfInBounds_toArray,List.set_cons_zero,List.set_cons_succ]
   refine wpAnyH_take (i:=4) (v:=?_) rfl (by kernel_rfl) (by kernel_rfl) (by kernel_rfl) (fun _ _ _ h=>h) (Or.inl ⟨by rfl,?_⟩) (by assumption) ?_
   rotate_left
   ·intro w hSw
    go_simp
    with_reducible rfl
   try simp only [Act.put,List.getElem_toArray,List.getElem_cons_zero,List.getElem_cons_succ,List.setIfInBounds_toArray,List.set_cons_zero,List.set_cons_succ]
   refine wpAnyH_ready (rs:=[1]) (by kernel_rfl) (by simp) ?_
   refine AllReadyH.cons rfl (fun K hK=>?_) ?_
   ·go_simp
    refine (uBase (HG.out.below (below_step bel1 (KB1.out _ hHeld))).1 HE.out).mono ?_
    rintro e z1 ⟨ps,rfl,hp,hb⟩
    refine hK.out _ _ ?_ (fun hHeld2=>?_)
    ·exact KL1.out _ _ hHeld hb
    ·clear hK K hHeld
     have hHeld:=hHeld2
     clear hHeld2
     try simp only [Act.put,List.getElem_toArray,List.getElem_cons_zero,List.getElem_cons_succ,List.setIfInBounds_toArray,List.set_cons_zero,List.set_cons_succ]
     obtain ⟨PX,PY,hPP⟩:∃ a b,cmul yd.toNat GG=some (a,b):=by
      cases hq:cmul yd.toNat GG with
      | none=>exact absurd hq (base_some HScd.out)
      | some p=>exact ⟨p.1,p.2,rfl⟩
     have HPP:Hid (cmul yd.toNat GG=some (PX,PY)):=hPP
     have HAff:Hid (Aff PX PY):=by have h:=on_cmul on_G yd.toNat;rw [hPP] at h;exact h
     rw [hPP] at hp
     have HP:Hid (P13R ps PX PY false):=hp.rawS
     clear hp hPP hb
     refine wpAnyH_ready (rs:=[3]) (by kernel_rfl) (by simp) ?_
     refine AllReadyH.cons rfl (fun K hK=>?_) ?_
     ·go_simp
      refine (con_known (HGO.out.below (below_step bel1 (KB1.out _ hHeld))) HK.out).mono ?_
      rintro e z3 ⟨fs,yk,rfl,hu,hsk,hb⟩
      refine hK.out _ _ ?_ (fun hHeld2=>?_)
      ·exact KL1.out _ _ hHeld hb
      ·clear hK K hHeld
       have hHeld:=hHeld2
       clear hHeld2
       try simp only [Act.put,List.getElem_toArray,List.getElem_cons_zero,List.getElem_cons_succ,List.setIfInBounds_toArray,List.set_cons_zero,List.set_cons_succ]
       have HF:Hid (U6 fs yk):=hu
       have HSk:Hid (isSc yk):=hsk
       clear hu hsk hb
       have HZ3:Hid (Hd S1 z3):=hHeld
       refine wpAnyH_ready (rs:=[5]) (by kernel_rfl) (by simp) ?_
       refine AllReadyH.cons rfl (fun K hK=>?_) ?_
       ·go_simp
        refine (con_WrapX (HG.out.below (below_step bel1 (KB1.out _ hHeld))) HP.out HF.out (HBs.out.later (KB1.out _ hHeld)) HSb.out).mono ?_
        rintro e z5 hwr
        obtain ⟨bv,bb,rfl,hwi,hfr,hb⟩:=((hwr.2 HSl.out).2 HSk.out).2 rfl HAff.out
        refine hK.out _ _ ?_ (fun hHeld2=>?_)
        ·exact KL1.out _ _ hHeld hb
        ·clear hK K hHeld
         have hHeld:=hHeld2
         clear hHeld2
         try simp only [Act.put,List.getElem_toArray,List.getElem_cons_zero,List.getElem_cons_succ,List.setIfInBounds_toArray,List.set_cons_zero,List.set_cons_succ]
         have HWi:Hid _:=wrap_back (d:=yd) HPP.out HSb.out HSl.out hwi
         have HFr:Hid (FreshB z3 z5 bv bb):=hfr
         clear hwi hfr hb hwr
         refine wpAnyH_take (i:=6) (v:=?_) rfl (by kernel_rfl) (by kernel_rfl) (by kernel_rfl) (fun _ _ _ h=>h) (Or.inl ⟨by rfl,?_⟩) (by assumption) ?_
         rotate_left
         ·intro w hSw
          go_simp
          with_reducible rfl
         try simp only [Act.put,List.getElem_toArray,List.getElem_cons_zero,List.getElem_cons_succ,List.setIfInBounds_toArray,List.set_cons_zero,List.set_cons_succ]
         refine wpAnyH_take (i:=7) (v:=?_) rfl (by kernel_rfl) (by kernel_rfl) (by kernel_rfl) (fun _ _ _ h=>h) (Or.inl ⟨by rfl,?_⟩) (by assumption) ?_
         rotate_left
         ·intro w hSw
          go_simp
          with_reducible rfl
         try simp only [Act.put,List.getElem_toArray,List.getElem_cons_zero,List.getElem_cons_succ,List.setIfInBounds_toArray,List.set_cons_zero,List.set_cons_succ]
         refine wpAnyH_take (i:=8) (v:=?_) rfl (by kernel_rfl) (by kernel_rfl) (by kernel_rfl) (fun _ _ _ h=>h) (Or.inl ⟨by rfl,?_⟩) (by assumption) ?_
         rotate_left
         ·intro w hSw
          go_simp
          with_reducible rfl
         try simp only [Act.put,List.getElem_toArray,List.getElem_cons_zero,List.getElem_cons_succ,List.setIfInBounds_toArray,List.set_cons_zero,List.set_cons_succ]
         refine wpAnyH_take (i:=9) (v:=?_) rfl (by kernel_rfl) (by kernel_rfl) (by kernel_rfl) (fun _ _ _ h=>h) (Or.inl ⟨by rfl,?_⟩) (by assumption) ?_
         rotate_left
         ·intro w hSw
          go_simp
          with_reducible rfl
         try simp only [Act.put,List.getElem_toArray,List.getElem_cons_zero,List.getElem_cons_succ,List.setIfInBounds_toArray,List.set_cons_zero,List.set_cons_succ]
         refine wpAnyH_take (i:=10) (v:=?_) rfl (by kernel_rfl) (by kernel_rfl) (by kernel_rfl) (fun _ _ _ h=>h) (Or.inl ⟨by rfl,?_⟩) (by assumption) ?_
         rotate_left
         ·intro w hSw
          go_simp
          with_reducible rfl
         try simp only [Act.put,List.getElem_toArray,List.getElem_cons_zero,List.getElem_cons_succ,List.setIfInBounds_toArray,List.set_cons_zero,List.set_cons_succ]
         refine wpAnyH_done (by kernel_rfl) ?_ _
         refine NoPanic.normal ?_
         have st:=KB1.out _ hHeld
         have st3:=(KB1.out _ HZ3.out).size
         have HBel:Hid (Below w.heap.size w z5):=below_step bel1 st
         clear rd rk hHeld bel1 HZ3
         obtain ⟨g,o,cap,cur,rfl,c1,c2,c3,c4,c5⟩:=HFr.out
         obtain ⟨hb145,hbb,hdk,O,hke,htk,htg⟩:=HWi.out
         have HBb:Hid (byt bb):=hbb
         have HDk:Hid (DecOk (bb.take 97)):=hdk
         have HKe:Hid (KeyIs (bb.take 97) (othX yd (bb.take 97)) O):=hke
         have HTk:Hid ((bb.drop 97).take 32=hidN (O.take 32) (O.drop 32) S):=htk
         have HTg:Hid ((bb.drop 97).drop 32=tagN (O.take 32) (O.drop 32) (bb.take 97) (hidN (O.take 32) (O.drop 32) S)):=htg
         have HBl:Hid (bb.length=145):=hb145
         rw [hb145] at c1 ⊢
         have HC5:Hid (∀ j,j < 145→cur[o + j]?=some (.int .u8 (bb.getD j 0))):=fun j hj=>c5 j (by rw [hb145];exact hj)
         clear c5 hb145 hbb hdk hke htk htg HFr HWi
         have HC4:Hid (Blk z5 g cur):=c4
         have HO5:Hid (Bs z5 (.slice (some ⟨bo,oo,none⟩) 32 hcap) S):=HBs.out.later st
         have HG5:Hid (Blk z5 (w.heap.size + 1 + 1) (u8s S)):=HG1.out.later st
         have HD5:Hid (Blk z5 w.heap.size es):=HD1.out.later st
         have HSt:Hid (wr2.heap.size≤g):=by show _≤_;omega
         clear st c4 HBs
         go_wp2_with fail
         go_loopw [16] (fun iv wx=>∃ i:Nat,i≤32∧iv=.int .i64 (i:Int)∧Below z5.heap.size z5 wx) (fun iv _=>32 - (intOf iv).toNat)
         case atStart=>exact ⟨0,by omega,rfl,Below.refl _ _⟩
         case round =>
          obtain ⟨i,hi,rfl,hbx⟩:=hrel
          by_cases hil:i < 32
          ·have g1:(i:Int) < 32:=by omega
           have g2:(0:Int)≤(i:Int):=by omega
           have gi:IntKind.i64.wrap ((i:Int) + 1)=(i:Int) + 1:=by rw [IntKind.wrap_i64];omega
           obtain ⟨z,hz⟩:∃ z,S.getD i 0=z:=⟨_,rfl⟩
           have G9:=HG5.out.later hbx
           have cz:=G9.cell i (.int .u8 z) (by rw [u8s_get S i (by rw [HSl.out];exact hil),hz])
           have lg:=G9.lt
           have cy:wr.cell? ⟨bo,oo + i,none⟩=some (.int .u8 z)∧bo < wr.heap.size:=by
            obtain ⟨a9,_,e9,_,_,h3⟩:=HO5.out.later hbx
            obtain ⟨b9,o9,e2,hl9,hc9⟩:=h3 (by rw [HSl.out];omega)
            have e3:some (⟨bo,oo,none⟩:Addr)=some ⟨b9,o9,none⟩:=by rw [← e2];simpa using congrArg (fun v=>match v with|.slice a _ _=>a|_=>none) e9
            simp only [Option.some.injEq,Addr.mk.injEq,and_true] at e3
            obtain ⟨rfl,rfl⟩:=e3
            rw [hc9 i (by rw [HSl.out];exact hil),hz]
            exact ⟨rfl,hl9⟩
           obtain ⟨cy,ly⟩:=cy
           clear hz G9
           go_wp2_with fail
           go_quiet (fail)
           go_wp2_with fail
           go_roundw
           case rel=>exact ⟨i + 1,by omega,by go_num,below_dN hbx _⟩
           case measure=>simp [intOf];omega
          ·have g1:¬ ((i:Nat):Int) < 32:=by omega
           obtain ⟨z6,hz6⟩:∃ z,z=wr:=⟨_,rfl⟩
           subst hz6
           have c4:=HC4.out.later hbx
           have HO6:Hid (Bs z6 (.slice (some ⟨bo,oo,none⟩) 32 hcap) S):=HO5.out.later hbx
           have D6:=HD5.out.later hbx
           have bel:=below_step HBel.out hbx
           have HBs:Hid (Bs z6 (.slice (some ⟨g,o,none⟩) 145 cap) bb):=⟨_,cap,by rw [HBl.out],c2,by rw [HBl.out];exact c1,fun _=>⟨g,o,rfl,c4.lt,fun j hj=>c4.cell _ _ (HC5.out j (by rw [← HBl.out];exact hj))⟩⟩
           have g5:129≤g + 129:=by omega
           clear hbx hi hil g5
           have lD:=D6.lt
           go_wp2_with (first|(refine wpList_load_run (by rfl) (by rfl) (by rfl) (D6.load Tryz.underlying24 rfl size_u HLd.out) ?_)|fail)
           refine (con_UnwX (HG.out.below bel) HE.out HBs.out HBb.out).mono ?_
           rintro e w6 hun
           obtain ⟨v6,rfl,h6,hb⟩:=unw_yes hun HScd.out HBl.out HDk.out HKe.out (by rw [HTk.out];exact HTg.out)
           rw [HTk.out,hid_back (byt_takeC HKe.out.byt _) (byt_dropC HKe.out.byt _) HSb.out] at h6
           replace c4:=c4.later hb
           replace D6:=D6.later hb
           have HO7:Hid (Bs w6 (.slice (some ⟨bo,oo,none⟩) 32 hcap) S):=HO6.out.later hb
           replace bel:=below_step bel hb
           clear hb hun HBs lD
           obtain ⟨va,vc,hv6,-,-,-⟩:=id h6
           subst hv6
           have x1:=conv_any h6
           have x3:=conv_any HO7.out
           obtain ⟨n6,hn6⟩:∃ n,S.length=n:=⟨_,rfl⟩
           rw [hn6] at x1 ⊢
           obtain ⟨sx9,hsx9⟩:∃ z,strOfNums S=z:=⟨_,rfl⟩
           rw [hsx9] at x1 x3
           clear h6 hn6 hsx9
           have q1:=ne_nilX
           have lgR:w.heap.size + 1 + 1 < g:=by have:=HSt.out;have:=HG1.out.lt;omega
           by_cases hneg:at9 < 0
           ·go_upto_region 17 with fail
            clear x1 x3
            have a0:at9 < 0:=by omega
            have a1:IntKind.i64.wrap (at9 + 1)=at9 + 1:=by rw [IntKind.wrap_i64];omega
            obtain ⟨z,hz⟩:∃ z,-(at9 + 1)=z:=⟨_,rfl⟩
            have a2:IntKind.i64.wrap (-(at9 + 1))=z:=by rw [IntKind.wrap_i64];omega
            have a3:IntKind.i64.wrap (-1 + -at9)=z:=by rw [IntKind.wrap_i64];omega
            have a4:IntKind.i64.wrap (-at9 + -1)=z:=by rw [IntKind.wrap_i64];omega
            have z0:0≤z:=by omega
            have z1:z < 9223372036854775808:=by omega
            obtain ⟨t,ht⟩:∃ t:Nat,z.tmod 16=(t:Int):=⟨(z % 16).toNat,by rw [Int.tmod_eq_emod_of_nonneg z0];omega⟩
            have t16:t < 16:=by
             have e:z.tmod 16=z % 16:=Int.tmod_eq_emod_of_nonneg z0
             omega
            have i1:IntKind.i64.wrap (129 + (t:Int))=((129 + t:Nat):Int):=by rw [IntKind.wrap_i64];omega
            obtain ⟨n,hn9⟩:∃ n,129 + t=n:=⟨_,rfl⟩
            rw [hn9] at i1
            have n1:(0:Int)≤(n:Int):=by omega
            have n2:(n:Int) < 145:=by omega
            have n3:n < 145:=by omega
            have n4:129≤n:=by omega
            have cn:=c4.cell _ _ (HC5.out n n3)
            have fn:=c4.frozen (o + n)
            have lg:=c4.lt
            have bs0:=HBb.out n
            have HSx:Hid (bits .xor .u8 (bb.getD n 0) by9=bb.getD n 0↔by9=0):=xor_same bs0 fy
            obtain ⟨sx,hsx⟩:∃ s,bb.getD n 0=s:=⟨_,rfl⟩
            rw [hsx] at cn bs0 HSx
            have HSX:Hid (bb.getD n 0=sx):=hsx
            have byx:=xorb_byte bs0 fy
            obtain ⟨sy,hsy⟩:∃ s,bits .xor .u8 sx by9=s:=⟨_,rfl⟩
            rw [hsy] at HSx byx
            have D4:=c4.set (o + n) (.int .u8 sy)
            have D7:=D6.other ⟨g,o + n,none⟩ (.int .u8 sy) (by show w.heap.size≠g;omega)
            have hs7:Bs (w6.setCell ⟨g,o + n,none⟩ (.int .u8 sy)) (.slice (some ⟨g,o,none⟩) 145 cap) (bb.set n sy):=by
             refine ⟨_,cap,by rw [List.length_set,HBl.out],c2,by rw [List.length_set,HBl.out];exact c1,fun _=>⟨g,o,rfl,D4.lt,fun j hj=>D4.cell _ _ ?_⟩⟩
             rw [List.length_set,HBl.out] at hj
             have hc9:=HC5.out j hj
             by_cases ej:j=n
             ·subst ej
              have hl9:o + j < cur.length:=(List.getElem?_eq_some_iff.1 hc9).1
              rw [List.getElem?_set_self hl9,List.getD_eq_getElem?_getD,List.getElem?_set_self (by rw [HBl.out];exact hj),Option.getD_some]
             ·rw [List.getElem?_set_ne (by omega),hc9,List.getD_eq_getElem?_getD,List.getD_eq_getElem?_getD,List.getElem?_set_ne (by omega)]
            replace bel:=bel.setCell (p:=⟨g,o + n,none⟩) (by show w.heap.size≤g;omega) (.int .u8 sy)
            have HTb:Hid (byt (bb.set n sy)):=byt_of _ (fun j hj=>by
             by_cases ej:j=n
             ·subst ej
              rw [List.length_set] at hj
              rw [List.getD_eq_getElem?_getD,List.getElem?_set_self hj,Option.getD_some]
              exact byx
             ·rw [List.getD_eq_getElem?_getD,List.getElem?_set_ne (by omega),← List.getD_eq_getElem?_getD]
              exact HBb.out j)
            have HTl:Hid ((bb.set n sy).length=145):=by show _=_;rw [List.length_set];exact HBl.out
            have HT97:Hid _:=turn_97 (B:=bb) (x:=sy) n4
            have HTd:Hid (((bb.set n sy).drop 97).drop 32=(bb.drop 97).drop 32↔by9=0):=by
             show _↔_
             rw [turn_tag n4 (by rw [HBl.out];exact n3),HSX.out]
             exact HSx.out
            clear D4 HSx hsx D6
            go_upto_region 21 with fail
            generalize w6.setCell ⟨g,o + n,none⟩ (.int .u8 sy)=w7 at *
            clear cn fn c4
            have lD:=D7.lt
            go_wp2_with (first|(refine wpList_load_run (by rfl) (by rfl) (by rfl) (D7.load Tryz.underlying24 rfl size_u HLd.out) ?_)|fail)
            refine (con_UnwX (HG.out.below bel) HE.out hs7 HTb.out).mono ?_
            rintro e w8 hun
            by_cases hy:by9=0
            ·obtain ⟨v8,rfl,h8,hb⟩:=unw_yes hun HScd.out HTl.out (by rw [HT97.out.1];exact HDk.out) (by rw [HT97.out.1];exact HKe.out) (by rw [HT97.out.1,HT97.out.2,HTk.out,HTd.out.2 hy];exact HTg.out)
             replace bel:=below_step bel hb
             clear hb h8 hun
             have q2:=eq_nilX
             subst hy
             go_wp2_with fail
             go_ret
             exact ⟨rfl,bel⟩
            ·obtain ⟨a8,c8,rfl,hb⟩:=unw_no hun HScd.out HTl.out (by rw [HT97.out.1];exact HDk.out) (by rw [HT97.out.1];exact HKe.out) (by rw [HT97.out.1,HT97.out.2,HTk.out];exact fun h=>hy (HTd.out.1 (h.trans HTg.out.symm)))
             replace bel:=below_step bel hb
             clear hb hun
             have q5:=iface_eqX 5
             go_wp2_with fail
             go_ret
             exact ⟨by show Ending.returned (.bool (by9 != 0))=_;rw [show (by9 != 0)=true by simp [hy]],bel⟩
           ·go_upto_region 17 with fail
            clear x1 x3
            have a0:¬ at9 < 0:=by omega
            have z0:0≤at9:=by omega
            have z1:at9 < 9223372036854775808:=by omega
            obtain ⟨t,ht⟩:∃ t:Nat,at9.tmod 16=(t:Int):=⟨(at9 % 16).toNat,by rw [Int.tmod_eq_emod_of_nonneg z0];omega⟩
            have t16:t < 16:=by
             have e:at9.tmod 16=at9 % 16:=Int.tmod_eq_emod_of_nonneg z0
             omega
            have i1:IntKind.i64.wrap (129 + (t:Int))=((129 + t:Nat):Int):=by rw [IntKind.wrap_i64];omega
            obtain ⟨n,hn9⟩:∃ n,129 + t=n:=⟨_,rfl⟩
            rw [hn9] at i1
            have n1:(0:Int)≤(n:Int):=by omega
            have n2:(n:Int) < 145:=by omega
            have n3:n < 145:=by omega
            have n4:129≤n:=by omega
            have cn:=c4.cell _ _ (HC5.out n n3)
            have fn:=c4.frozen (o + n)
            have lg:=c4.lt
            have bs0:=HBb.out n
            have HSx:Hid (bits .xor .u8 (bb.getD n 0) by9=bb.getD n 0↔by9=0):=xor_same bs0 fy
            obtain ⟨sx,hsx⟩:∃ s,bb.getD n 0=s:=⟨_,rfl⟩
            rw [hsx] at cn bs0 HSx
            have HSX:Hid (bb.getD n 0=sx):=hsx
            have byx:=xorb_byte bs0 fy
            obtain ⟨sy,hsy⟩:∃ s,bits .xor .u8 sx by9=s:=⟨_,rfl⟩
            rw [hsy] at HSx byx
            have D4:=c4.set (o + n) (.int .u8 sy)
            have D7:=D6.other ⟨g,o + n,none⟩ (.int .u8 sy) (by show w.heap.size≠g;omega)
            have hs7:Bs (w6.setCell ⟨g,o + n,none⟩ (.int .u8 sy)) (.slice (some ⟨g,o,none⟩) 145 cap) (bb.set n sy):=by
             refine ⟨_,cap,by rw [List.length_set,HBl.out],c2,by rw [List.length_set,HBl.out];exact c1,fun _=>⟨g,o,rfl,D4.lt,fun j hj=>D4.cell _ _ ?_⟩⟩
             rw [List.length_set,HBl.out] at hj
             have hc9:=HC5.out j hj
             by_cases ej:j=n
             ·subst ej
              have hl9:o + j < cur.length:=(List.getElem?_eq_some_iff.1 hc9).1
              rw [List.getElem?_set_self hl9,List.getD_eq_getElem?_getD,List.getElem?_set_self (by rw [HBl.out];exact hj),Option.getD_some]
             ·rw [List.getElem?_set_ne (by omega),hc9,List.getD_eq_getElem?_getD,List.getD_eq_getElem?_getD,List.getElem?_set_ne (by omega)]
            replace bel:=bel.setCell (p:=⟨g,o + n,none⟩) (by show w.heap.size≤g;omega) (.int .u8 sy)
            have HTb:Hid (byt (bb.set n sy)):=byt_of _ (fun j hj=>by
             by_cases ej:j=n
             ·subst ej
              rw [List.length_set] at hj
              rw [List.getD_eq_getElem?_getD,List.getElem?_set_self hj,Option.getD_some]
              exact byx
             ·rw [List.getD_eq_getElem?_getD,List.getElem?_set_ne (by omega),← List.getD_eq_getElem?_getD]
              exact HBb.out j)
            have HTl:Hid ((bb.set n sy).length=145):=by show _=_;rw [List.length_set];exact HBl.out
            have HT97:Hid _:=turn_97 (B:=bb) (x:=sy) n4
            have HTd:Hid (((bb.set n sy).drop 97).drop 32=(bb.drop 97).drop 32↔by9=0):=by
             show _↔_
             rw [turn_tag n4 (by rw [HBl.out];exact n3),HSX.out]
             exact HSx.out
            clear D4 HSx hsx D6
            go_upto_region 21 with fail
            generalize w6.setCell ⟨g,o + n,none⟩ (.int .u8 sy)=w7 at *
            clear cn fn c4
            have lD:=D7.lt
            go_wp2_with (first|(refine wpList_load_run (by rfl) (by rfl) (by rfl) (D7.load Tryz.underlying24 rfl size_u HLd.out) ?_)|fail)
            refine (con_UnwX (HG.out.below bel) HE.out hs7 HTb.out).mono ?_
            rintro e w8 hun
            by_cases hy:by9=0
            ·obtain ⟨v8,rfl,h8,hb⟩:=unw_yes hun HScd.out HTl.out (by rw [HT97.out.1];exact HDk.out) (by rw [HT97.out.1];exact HKe.out) (by rw [HT97.out.1,HT97.out.2,HTk.out,HTd.out.2 hy];exact HTg.out)
             replace bel:=below_step bel hb
             clear hb h8 hun
             have q2:=eq_nilX
             subst hy
             go_wp2_with fail
             go_ret
             exact ⟨rfl,bel⟩
            ·obtain ⟨a8,c8,rfl,hb⟩:=unw_no hun HScd.out HTl.out (by rw [HT97.out.1];exact HDk.out) (by rw [HT97.out.1];exact HKe.out) (by rw [HT97.out.1,HT97.out.2,HTk.out];exact fun h=>hy (HTd.out.1 (h.trans HTg.out.symm)))
             replace bel:=below_step bel hb
             clear hb hun
             have q5:=iface_eqX 5
             go_wp2_with fail
             go_ret
             exact ⟨by show Ending.returned (.bool (by9 != 0))=_;rw [show (by9 != 0)=true by simp [hy]],bel⟩
       exact AllReadyH.nil
     exact AllReadyH.nil
   exact AllReadyH.nil
end Go.Proofs.YtlkljfnenonfgaaGreatDoor
