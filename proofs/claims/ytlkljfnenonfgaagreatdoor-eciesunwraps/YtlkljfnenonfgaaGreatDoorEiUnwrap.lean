/- ecies.Unwrap. -/
import Derived.Test.YtlkljfnenonfgaaGreatDoorEiCode
import Derived.Test.YtlkljfnenonfgaaGreatDoorEiUp0
import Derived.Test.YtlkljfnenonfgaaGreatDoorCDecC
import Derived.Test.YtlkljfnenonfgaaGreatDoorGcCode
import Derived.Test.YtlkljfnenonfgaaGreatDoorRows
import Derived.Deep.OwnRows
import Derived.Deep.AppendLies
import Derived.Great.BuildSlice
import Derived.Laws.Rows
import Derived.BigQuiet
import Derived.Deep.WholeRow
import Derived.Deep.RegionHeld3
import Derived.Deep.DeepCutAuto
import Derived.Deep.DeepFit
namespace Go.Proofs.YtlkljfnenonfgaaGreatDoor
open Go.RowKit
theorem dec_not {p:List Int} {c:Int} (h:DecOk p):¬ DecBad p c:=by
 obtain ⟨h1,h2,h3,h4,h5⟩:=h
 rintro (⟨k,_⟩|⟨k,_⟩|⟨_,k,_⟩|⟨_,_,k|k,_⟩|⟨_,_,_,_,k,_⟩)<;>first|omega|contradiction
theorem dec_one {p:List Int} {c d:Int} (h:DecBad p c) (k:DecBad p d):c=d:=by
 rcases h with ⟨_,rfl⟩|⟨_,rfl⟩|⟨_,_,rfl⟩|⟨_,_,h|h,rfl⟩|⟨_,_,_,_,_,rfl⟩<;>rcases k with ⟨_,rfl⟩|⟨_,rfl⟩|⟨_,_,rfl⟩|⟨_,_,k|k,rfl⟩|⟨_,_,_,_,_,rfl⟩<;>first|rfl|omega|contradiction
/-- what Open answers, as two values -/
def OpenV (w w':World) (O B:List Int) (v er:Value):Prop:=∃ e,e=Ending.returned (.tuple #[v,er])∧OpenR w O B e w'
theorem OpenV.to {w0 w w':World} {O B:List Int} {v er:Value} (h:OpenV w w' O B v er) (hb:Below w0.heap.size w0 w'):OpenR w0 O B (.returned (.tuple #[v,er])) w':=by
 obtain ⟨e,rfl,h1,h2⟩:=h
 refine ⟨fun t=>?_,fun t=>?_⟩
 ·obtain ⟨v',e,h,-⟩:=h1 t
  exact ⟨v',e,h,hb⟩
 ·obtain ⟨ao,cap,e,-⟩:=h2 t
  exact ⟨ao,cap,e,hb⟩
theorem con_openY {kv nv av bv:Value} {O B:List Int} {w:World} (hk:Bs w kv (O.take 32)) (hn:Bs w nv (O.drop 32)) (ha:Bs w av (B.take 97)) (hb:Bs w bv (B.drop 97)) (lO:O.length=44) (bO:byt O) (bA:byt (B.take 97)) (lA:(B.take 97).length=97) (bC:byt (B.drop 97)) (lC:(B.drop 97).length=48) :
  Calls Tryz.prog 18 #[kv,nv,av,bv] w fun e w'=>∃ (v er:Value),e=.returned (.tuple #[v,er])∧OpenV w w' O B v er∧Below w.heap.size w w':=by
 have l:=key32 lO
 have e:(B.drop 97).length - 16=32:=by omega
 by_cases t:(B.drop 97).drop 32=tagN (O.take 32) (O.drop 32) (B.take 97) ((B.drop 97).take 32)
 ·refine (con_Open hk hn ha hb (byt_takeC bO _) l.1 (byt_dropC bO _) l.2 bA bC (by omega) (by omega) (by omega) (by rw [e];exact t)).mono ?_
  rintro _ w' ⟨v',rfl,h,hb⟩
  rw [e] at h
  exact ⟨_,_,rfl,⟨_,rfl,fun _=>⟨v',rfl,h,hb⟩,fun h=>absurd t h⟩,hb⟩
 ·refine (con_OpenTag hk hn ha hb (byt_takeC bO _) l.1 (byt_dropC bO _) l.2 bA bC (by omega) (by omega) (by omega) (by rw [e];exact t)).mono ?_
  rintro _ w' ⟨ao,cap,rfl,hb⟩
  exact ⟨_,_,rfl,⟨_,rfl,fun h=>absurd h t,fun _=>⟨ao,cap,rfl,hb⟩⟩,hb⟩
set_option linter.unusedSimpArgs false in
set_option maxRecDepth 100000 in
set_option maxHeartbeats 4000000 in
theorem con_UnwX {ds:List Value} {d:Int} {v:Value} {B:List Int} {w:World} (G:GlsX w) (hd:U6 ds d) (hv:Bs w v B) (b:byt B) :
  Calls Tryz.prog 15 #[.agg ds.toArray,v] w (UnwR w d B):=by
 have HG:Hid (GlsX w):=G
 have HK:Hid (U6 ds d):=hd
 have HLk:Hid (ds.length=6):=hd.len
 have HB:Hid (byt B):=b
 have HV:Hid (Bs w v B):=hv
 obtain ⟨ao,cap,rfl,h1,h2,h3⟩:=hv
 clear G hd b
 have K0:=Blk.new w ds 24 w.heap.size rfl
 have bel:Below w.heap.size w (w.alloc (.cells ds.toArray 24)):=(Below.refl _ _).alloc (Nat.le_refl _) _
 go_enter Tryz.func15,Tryz.ntmps15
 go_upto_region 1 with fail
 generalize w.alloc (.cells ds.toArray 24)=W at *
 by_cases c1:isSc d
 rotate_left
 ·clear h1 h2 h3
  have l1:=K0.lt
  go_wp2_with (first|(refine wpList_load_run (by rfl) (by rfl) (by rfl) (K0.load Tryz.underlying24 rfl size_u HLk.out) ?_)|fail)
  refine (c15_inRange (HG.out.below bel).2.1 HK.out).mono ?_
  rintro e w1 ⟨rfl,hb⟩
  replace K0:=K0.later hb
  replace bel:=below_step bel hb
  clear hb
  rw [decide_eq_false c1]
  clear l1
  have HC:Hid (¬ isSc d):=c1
  clear c1 K0
  go_wp2_with fail
  refine bodyPost_ret (results_tmp2 rfl _ _ _) rfl ?_
  exact ⟨fun _=>⟨_,_,rfl,bel⟩,fun h=>absurd h HC.out⟩
 have HC1:Hid (isSc d):=c1
 clear c1
 have l1:=K0.lt
 go_wp2_with (first|(refine wpList_load_run (by rfl) (by rfl) (by rfl) (K0.load Tryz.underlying24 rfl size_u HLk.out) ?_)|fail)
 refine (c15_inRange (HG.out.below bel).2.1 HK.out).mono ?_
 rintro e w1 ⟨rfl,hb⟩
 replace K0:=K0.later hb
 replace bel:=below_step bel hb
 clear hb
 rw [decide_eq_true HC1.out]
 clear l1
 by_cases c2:B.length=145
 rotate_left
 ·have g1:((B.length:Int) == 145)=false:=by rw [beq_eq_false_iff_ne];omega
  have g2:((B.length:Int) != 145)=true:=by rw [bne,g1];rfl
  have HC:Hid (¬ B.length=145):=c2
  clear c2 h1 h2 h3 K0
  go_wp2_with fail
  refine bodyPost_ret (results_tmp2 rfl _ _ _) rfl ?_
  exact ⟨fun h=>absurd HC1.out h,fun _=>⟨fun _=>⟨_,_,rfl,bel⟩,fun h=>absurd h HC.out⟩⟩
 have HL:Hid (B.length=145):=c2
 obtain ⟨b0,o0,rfl,-,-⟩:=h3 (by omega)
 obtain ⟨kn,hkn⟩:∃ kn,B.length=kn:=⟨_,rfl⟩
 have HKn:Hid (kn=145):=by show _=_;rw [← hkn];exact c2
 have g1:((kn:Int) == 145)=true:=by rw [HKn.out];rfl
 have g2:((kn:Int) != 145)=false:=by rw [bne,g1];rfl
 have g3:145≤cap:=by omega
 have g4:¬ cap=97:=by omega
 have g6:(97:Int)≤(cap:Int):=by omega
 have g7:(97:Int)≤(kn:Int):=by rw [HKn.out];decide
 have g8:kn≤cap:=by rw [HKn.out];exact g3
 have HT9:Hid (Bs w (.slice (some ⟨b0,o0,none⟩) 97 cap) (B.take 97)):=bs_uptoC HV.out rfl (by omega)
 have HD9:Hid (Bs w (.slice (some ⟨b0,o0 + 97,none⟩) (kn - 97) (cap - 97)) (B.drop 97)):=by rw [← hkn];exact bs_dropC HV.out rfl (by omega)
 have HTb:Hid (byt (B.take 97)):=byt_takeC HB.out _
 have HDb:Hid (byt (B.drop 97)):=byt_dropC HB.out _
 have HTl:Hid ((B.take 97).length=97):=by show _=_;rw [List.length_take,HL.out];rfl
 have HDl:Hid ((B.drop 97).length=48):=by show _=_;rw [List.length_drop,HL.out]
 rw [hkn]
 clear c2 hkn h1 h2 h3 HV HB
 go_upto_region 5 with fail
 go_quiet (fail)
 replace K0:=K0.drewN nq
 replace bel:=below_dN bel nq
 generalize w1.drewN nq=wq at *
 clear g1 g2
 rcases dec_either (B.take 97) with hok|⟨c,hbad⟩
 rotate_left
 ·have HDc:Hid (DecBad (B.take 97) c):=hbad
  clear hbad
  go_wp2_with fail
  refine (con_DecBad (HG.out.below bel).1 (HT9.out.later bel) HTb.out HDc.out).mono ?_
  rintro e w5 ⟨rfl,hb⟩
  replace K0:=K0.later hb
  replace bel:=below_step bel hb
  clear hb
  obtain ⟨zs,hzs⟩:∃ zs:List Value,[.int .u64 0,.int .u64 0,.int .u64 0,.int .u64 0,.int .u64 0,.int .u64 0,.int .u64 0,.int .u64 0,.int .u64 0,.int .u64 0,.int .u64 0,.int .u64 0,.bool false]=zs:=⟨_,rfl⟩
  have HZs:Hid ([.int .u64 0,.int .u64 0,.int .u64 0,.int .u64 0,.int .u64 0,.int .u64 0,.int .u64 0,.int .u64 0,.int .u64 0,.int .u64 0,.int .u64 0,.int .u64 0,.bool false]=zs):=hzs
  have hza:#[.int .u64 0,.int .u64 0,.int .u64 0,.int .u64 0,.int .u64 0,.int .u64 0,.int .u64 0,.int .u64 0,.int .u64 0,.int .u64 0,.int .u64 0,.int .u64 0,.bool false]=zs.toArray:=by rw [← hzs]
  rw [hza]
  clear hza hzs
  have HLh:Hid (zs.length=13):=by rw [← HZs.out];rfl
  have HSh:Hid (zs.toArray.size=13):=by show _=_;rw [List.size_toArray];exact HLh.out
  have HOh:Hid (OneR zs):=by rw [← HZs.out];show _=true;simp [Value.oneCell']
  replace K0:=K0.alloc (.cells zs.toArray 26)
  replace bel:=below_alloc (o:=.cells zs.toArray 26) bel
  have Bh:=Blk.new w5 zs 26 w5.heap.size rfl
  have hz:=zero_p.out
  go_upto_region 7 with (first|(refine wpList_store_row rfl 26 _ _ rfl w5.heap.size zs.toArray rfl rfl 26 _ (heap_alloc_last _ _) (by rw [size_p,HSh.out]) (by rw [HSh.out];rfl) HOh.out ?_;rw [World.setRow_alloc_new])|fail)
  clear hz
  obtain ⟨gh,hgh⟩:∃ g,g=w5.heap.size:=⟨_,rfl⟩
  rw [← hgh] at Bh
  generalize w5.alloc (.cells zs.toArray 26)=Vh at *
  rw [← hgh]
  clear hgh
  have q3:=ne_codeX
  go_wp2_with fail
  refine bodyPost_ret (results_tmp2 rfl _ _ _) rfl ?_
  exact ⟨fun h=>absurd HC1.out h,fun _=>⟨fun h=>absurd HL.out h,fun _=>⟨fun c2 h2=>by rw [dec_one h2 HDc.out];exact ⟨_,_,rfl,bel⟩,fun h=>absurd HDc.out (dec_not h)⟩⟩⟩
 have HOk:Hid (DecOk (B.take 97)):=hok
 have HAf:Hid (Aff (beN (ptX (B.take 97))) (beN (ptY (B.take 97)))):=by
  rcases hok.2.2.2.2 with h|h
  ·cases h.1
  ·exact h.2
 clear hok
 go_wp2_with fail
 refine (uDec (HG.out.below bel).1 (HT9.out.later bel) HTb.out HOk.out).mono ?_
 rintro e w5 ⟨es,rfl,hp,hb⟩
 have HP:Hid (P13R es (beN (ptX (B.take 97))) (beN (ptY (B.take 97))) false):=hp
 clear hp
 replace K0:=K0.later hb
 replace bel:=below_step bel hb
 clear hb
 have HLp:Hid (es.length=13):=HP.out.len
 have HSp:Hid (es.toArray.size=13):=by show _=_;rw [List.size_toArray];exact HLp.out
 have HOp:Hid (OneR es):=HP.out.ones
 replace K0:=K0.alloc (.cells es.toArray 26)
 replace bel:=below_alloc (o:=.cells es.toArray 26) bel
 have Bp:=Blk.new w5 es 26 w5.heap.size rfl
 have hz:=zero_p.out
 go_upto_region 7 with (first|(refine wpList_store_row rfl 26 _ _ rfl w5.heap.size es.toArray rfl rfl 26 _ (heap_alloc_last _ _) (by rw [size_p,HSp.out]) (by rw [HSp.out];rfl) HOp.out ?_;rw [World.setRow_alloc_new])|fail)
 clear hz
 obtain ⟨gp,hgp⟩:∃ g,g=w5.heap.size:=⟨_,rfl⟩
 rw [← hgp] at Bp
 generalize w5.alloc (.cells es.toArray 26)=Vp at *
 rw [← hgp]
 clear hgp
 have q3:=ne_nilX
 have l1:=K0.lt
 have lp:=Bp.lt
 go_wp2_with (first|(refine wpList_load_run (by rfl) (by rfl) (by rfl) (K0.load Tryz.underlying24 rfl size_u HLk.out) ?_)|(refine wpList_load_run (by rfl) (by rfl) (by rfl) (Bp.load Tryz.underlying26 rfl size_p HLp.out) ?_)|fail)
 refine (c15_sealing (HG.out.below bel) (HT9.out.later bel) HTb.out (by rw [HTl.out];omega) HK.out HC1.out HP.out HAf.out).mono ?_
 rintro e w6 ⟨v1,v2,O,rfl,hke,hv1,hv2,hb⟩
 have HKe:Hid (KeyIs (B.take 97) (othX d (B.take 97)) O):=hke
 have HV1:Hid (Bs w6 v1 (O.take 32)):=hv1
 have HV2:Hid (Bs w6 v2 (O.drop 32)):=hv2
 clear l1 lp hke hv1 hv2 K0 Bp
 replace bel:=below_step bel hb
 clear hb
 have HOl:Hid (O.length=44):=HKe.out.ln
 have HOb:Hid (byt O):=HKe.out.byt
 go_wp2_with fail
 refine (con_openY HV1.out HV2.out (HT9.out.later bel) (HD9.out.later bel) HOl.out HOb.out HTb.out HTl.out HDb.out HDl.out).mono ?_
 rintro e w7 ⟨ov,er,rfl,hor,hb⟩
 have HOr:Hid (OpenV w6 w7 O B ov er):=hor
 clear hor
 replace bel:=below_step bel hb
 clear hb
 go_wp2_with fail
 refine bodyPost_ret (results_tmp2 rfl _ _ _) rfl ?_
 exact ⟨fun h=>absurd HC1.out h,fun _=>⟨fun h=>absurd HL.out h,fun _=>⟨fun c h=>absurd h (dec_not HOk.out),fun _=>⟨O,HKe.out,HOr.out.to bel⟩⟩⟩⟩
end Go.Proofs.YtlkljfnenonfgaaGreatDoor
