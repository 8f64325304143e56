/- The law EciesUnwraps. -/
import Derived.Test.YtlkljfnenonfgaaGreatDoorEiUp
import Derived.Test.YtlkljfnenonfgaaGreatDoorEiSeal
import Derived.Test.YtlkljfnenonfgaaGreatDoorEiUnwrap
import Derived.Test.YtlkljfnenonfgaaGreatDoorEdG
import Derived.Test.YtlkljfnenonfgaaGreatDoorEiCode
import Derived.Test.YtlkljfnenonfgaaGreatDoorGcCode
import Derived.Test.YtlkljfnenonfgaaGreatDoorSConv
import Derived.Test.YtlkljfnenonfgaaGreatDoorXTEciesUnwraps
import Derived.Test.YtlkljfnenonfgaaGreatDoorRows
import Derived.Deep.OwnRows
import Derived.Deep.AppendLies
import Derived.Great.BuildSlice
import Derived.Laws.Rows
import Derived.BigQuiet
import Derived.Deep.WholeRow
import Derived.Deep.RegionHeld3
import Derived.Deep.DeepCutAuto
import Derived.Deep.DeepFit
namespace Go.Proofs.YtlkljfnenonfgaaGreatDoor
open Go.RowKit
/-- a slice whose string is told, from this world on -/
def StrV (w:World) (v:Value) (K:List Int):Prop:=(∃ ao n cap,v=.slice ao n cap)∧∀ w',Below w.heap.size w w'→(convert 27 9 v).run Tryz.prog w'=.ok (.string (strOfNums K)) w'
theorem StrV.of {w:World} {v:Value} {K:List Int} (h:Bs w v K):StrV w v K:=⟨by obtain ⟨ao,cap,e,_⟩:=h;exact ⟨ao,_,cap,e⟩,fun w' hb=>conv_any (h.later hb)⟩
theorem StrV.zero (w:World) (ao:Option Addr) (cap:Nat):StrV w (.slice ao 0 cap) []:=⟨⟨ao,0,cap,rfl⟩,fun w' _=>by cases ao<;>kernel_rfl⟩
theorem con_openX {kv nv av bv:Value} {O A C:List Int} {w:World} (hk:Bs w kv (O.take 32)) (hn:Bs w nv (O.drop 32)) (ha:Bs w av A) (hb:Bs w bv C) (hO:O.length=44∧byt O) (bA:byt A) (lA:A.length=97) (bC:byt C) (lC:C.length=48) :
  Calls Tryz.prog 18 #[kv,nv,av,bv] w fun e w'=>∃ (wv er:Value) (K:List Int),e=.returned (.tuple #[wv,er])∧StrV w' wv K∧((er=.nilIface∧C.drop 32=tagN (O.take 32) (O.drop 32) A (C.take 32)∧K=hidN (O.take 32) (O.drop 32) (C.take 32))∨(er=codeX 5∧¬ C.drop 32=tagN (O.take 32) (O.drop 32) A (C.take 32)∧K=[]))∧Below w.heap.size w w':=by
 have l:=key32 hO.1
 have e:C.length - 16=32:=by omega
 by_cases t:C.drop 32=tagN (O.take 32) (O.drop 32) A (C.take 32)
 ·refine (con_Open hk hn ha hb (byt_takeC hO.2 _) l.1 (byt_dropC hO.2 _) l.2 bA bC (by omega) (by omega) (by omega) (by rw [e];exact t)).mono ?_
  rintro _ w' ⟨v',rfl,h,hb⟩
  rw [e] at h
  exact ⟨v',_,_,rfl,StrV.of h,.inl ⟨rfl,t,rfl⟩,hb⟩
 ·refine (con_OpenTag hk hn ha hb (byt_takeC hO.2 _) l.1 (byt_dropC hO.2 _) l.2 bA bC (by omega) (by omega) (by omega) (by rw [e];exact t)).mono ?_
  rintro _ w' ⟨ao,cap,rfl,hb⟩
  exact ⟨_,_,[],rfl,StrV.zero _ _ _,.inr ⟨rfl,t,rfl⟩,hb⟩
set_option linter.unusedSimpArgs false in
set_option maxRecDepth 100000 in
set_option maxHeartbeats 4000000 in
theorem law_eciesUnwraps {ds:List Value} {d:Int} {v:Value} {B:List Int} {w:World} (G:GlsX w) (GE:GlsE w) (hd:U6 ds d) (hv:Bs w v B) (b:byt B) :
  Calls Tryz.prog 4 #[.agg ds.toArray,v] w fun e w'=>e=.returned (.bool true)∧Below w.heap.size w w':=by
 have HG:Hid (GlsX w):=G
 have HGE:Hid (GlsE w):=GE
 have HK:Hid (U6 ds d):=hd
 have HLk:Hid (ds.length=6):=hd.len
 have HB:Hid (byt B):=b
 have HV:Hid (Bs w v B):=hv
 obtain ⟨ao,cap,rfl,h1,h2,h3⟩:=hv
 clear G GE hd b
 have K0:=Blk.new w ds 24 w.heap.size rfl
 have bel:Below w.heap.size w (w.alloc (.cells ds.toArray 24)):=(Below.refl _ _).alloc (Nat.le_refl _) _
 go_enter Tryz.func4,Tryz.ntmps4
 go_upto_region 1 with fail
 generalize w.alloc (.cells ds.toArray 24)=W at *
 go_wp2_with fail
 refine (con_up15 (HG.out.below bel)).mono ?_
 rintro e w1 ⟨rfl,hb⟩
 replace K0:=K0.later hb
 replace bel:=below_step bel hb
 clear hb
 have l1:=K0.lt
 go_wp2_with (first|(refine wpList_load_run (by rfl) (by rfl) (by rfl) (K0.load Tryz.underlying24 rfl size_u HLk.out) ?_)|fail)
 refine (con_UnwX (HG.out.below bel) HK.out (HV.out.later bel) HB.out).mono ?_
 rintro e w2 hwr
 clear l1
 have HW:Hid (UnwR w1 d B e w2):=hwr
 clear hwr
 by_cases c1:isSc d
 rotate_left
 ·obtain ⟨a9,c9,rfl,hb⟩:=HW.out.1 c1
  replace K0:=K0.later hb
  replace bel:=below_step bel hb
  clear hb
  have l1:=K0.lt
  have q1:=iface_eqX 3
  go_wp2_with (first|(refine wpList_load_run (by rfl) (by rfl) (by rfl) (K0.load Tryz.underlying24 rfl size_u HLk.out) ?_)|fail)
  refine (con_scalar14 HK.out).mono ?_
  rintro e w3 ⟨rfl,hb⟩
  replace K0:=K0.later hb
  replace bel:=below_step bel hb
  clear hb
  rw [decide_eq_false c1]
  clear l1
  have l1:=K0.lt
  clear c1 h1 h2 h3
  go_wp2_with fail
  go_ret
  exact ⟨rfl,bel⟩
 have HW1:Hid _:=HW.out.2 c1
 have HC1:Hid (isSc d):=c1
 clear HW c1
 by_cases c2:B.length=145
 rotate_left
 ·obtain ⟨a9,c9,rfl,hb⟩:=HW1.out.1 c2
  replace K0:=K0.later hb
  replace bel:=below_step bel hb
  clear hb
  have l1:=K0.lt
  have q1:=iface_eqX 1
  have g1:((B.length:Int) == 145)=false:=by rw [beq_eq_false_iff_ne];omega
  have g2:((B.length:Int) != 145)=true:=by rw [bne,g1];rfl
  go_wp2_with (first|(refine wpList_load_run (by rfl) (by rfl) (by rfl) (K0.load Tryz.underlying24 rfl size_u HLk.out) ?_)|fail)
  refine (con_scalar14 HK.out).mono ?_
  rintro e w3 ⟨rfl,hb⟩
  replace K0:=K0.later hb
  replace bel:=below_step bel hb
  clear hb
  rw [decide_eq_true HC1.out]
  clear l1
  have l1:=K0.lt
  clear c2 h1 h2 h3
  go_wp2_with fail
  go_ret
  exact ⟨rfl,bel⟩
 have HW2:Hid _:=HW1.out.2 c2
 have HL:Hid (B.length=145):=c2
 obtain ⟨b0,o0,rfl,-,-⟩:=h3 (by omega)
 obtain ⟨kn,hkn⟩:∃ kn,B.length=kn:=⟨_,rfl⟩
 have HKn:Hid (kn=145):=by show _=_;rw [← hkn];exact c2
 have g1:((kn:Int) == 145)=true:=by rw [HKn.out];rfl
 have g2:((kn:Int) != 145)=false:=by rw [bne,g1];rfl
 have g3:145≤cap:=by omega
 have g4:¬ cap=97:=by omega
 have g6:(97:Int)≤(cap:Int):=by omega
 have g7:(97:Int)≤(kn:Int):=by rw [HKn.out];decide
 have g8:kn≤cap:=by rw [HKn.out];exact g3
 have HT9:Hid (Bs w (.slice (some ⟨b0,o0,none⟩) 97 cap) (B.take 97)):=bs_uptoC HV.out rfl (by omega)
 have HD9:Hid (Bs w (.slice (some ⟨b0,o0 + 97,none⟩) (kn - 97) (cap - 97)) (B.drop 97)):=by rw [← hkn];exact bs_dropC HV.out rfl (by omega)
 have HTb:Hid (byt (B.take 97)):=byt_takeC HB.out _
 have HDb:Hid (byt (B.drop 97)):=byt_dropC HB.out _
 have HTl:Hid ((B.take 97).length=97):=by show _=_;rw [List.length_take,HL.out];rfl
 have HDl:Hid ((B.drop 97).length=48):=by show _=_;rw [List.length_drop,HL.out]
 rw [hkn]
 clear c2 hkn HW1 h1 h2 h3 HV HB
 rcases dec_either (B.take 97) with hok|⟨c,hbad⟩
 rotate_left
 ·have HDc:Hid (DecBad (B.take 97) c):=hbad
  obtain ⟨r1,r2⟩:=dec_range hbad
  obtain ⟨m,hm⟩:∃ m:Nat,c=(m:Int):=⟨c.toNat,by omega⟩
  subst hm
  have r3:1≤m:=by omega
  have r4:m≤21:=by omega
  obtain ⟨a9,c9,rfl,hb⟩:=HW2.out.1 _ hbad
  replace K0:=K0.later hb
  replace bel:=below_step bel hb
  clear hb
  have l1:=K0.lt
  clear hbad r1 r2
  go_wp2_with (first|(refine wpList_load_run (by rfl) (by rfl) (by rfl) (K0.load Tryz.underlying24 rfl size_u HLk.out) ?_)|fail)
  refine (con_scalar14 HK.out).mono ?_
  rintro e w3 ⟨rfl,hb⟩
  replace K0:=K0.later hb
  replace bel:=below_step bel hb
  clear hb
  rw [decide_eq_true HC1.out]
  clear l1
  have l1:=K0.lt
  go_wp2_with fail
  refine (con_DecBad (HG.out.below bel).1 (HT9.out.later bel) HTb.out HDc.out).mono ?_
  rintro e w5 ⟨rfl,hb⟩
  replace K0:=K0.later hb
  replace bel:=below_step bel hb
  clear hb
  clear l1
  obtain ⟨zs,hzs⟩:∃ zs:List Value,[.int .u64 0,.int .u64 0,.int .u64 0,.int .u64 0,.int .u64 0,.int .u64 0,.int .u64 0,.int .u64 0,.int .u64 0,.int .u64 0,.int .u64 0,.int .u64 0,.bool false]=zs:=⟨_,rfl⟩
  have HZs:Hid ([.int .u64 0,.int .u64 0,.int .u64 0,.int .u64 0,.int .u64 0,.int .u64 0,.int .u64 0,.int .u64 0,.int .u64 0,.int .u64 0,.int .u64 0,.int .u64 0,.bool false]=zs):=hzs
  have hza:#[.int .u64 0,.int .u64 0,.int .u64 0,.int .u64 0,.int .u64 0,.int .u64 0,.int .u64 0,.int .u64 0,.int .u64 0,.int .u64 0,.int .u64 0,.int .u64 0,.bool false]=zs.toArray:=by rw [← hzs]
  rw [hza]
  clear hza hzs
  have HLh:Hid (zs.length=13):=by rw [← HZs.out];rfl
  have HSh:Hid (zs.toArray.size=13):=by show _=_;rw [List.size_toArray];exact HLh.out
  have HOh:Hid (OneR zs):=by rw [← HZs.out];show _=true;simp [Value.oneCell']
  replace K0:=K0.alloc (.cells zs.toArray 26)
  replace bel:=below_alloc (o:=.cells zs.toArray 26) bel
  have Bh:=Blk.new w5 zs 26 w5.heap.size rfl
  have hz:=zero_p.out
  go_upto_region 9 with (first|(refine wpList_store_row rfl 26 _ _ rfl w5.heap.size zs.toArray rfl rfl 26 _ (heap_alloc_last _ _) (by rw [size_p,HSh.out]) (by rw [HSh.out];rfl) HOh.out ?_;rw [World.setRow_alloc_new])|fail)
  clear hz
  obtain ⟨gh,hgh⟩:∃ g,g=w5.heap.size:=⟨_,rfl⟩
  rw [← hgh] at Bh
  generalize w5.alloc (.cells zs.toArray 26)=Vh at *
  rw [← hgh]
  clear hgh
  have q3:=ne_codeX
  go_wp2_with fail
  refine (con_SameCode (HGE.out.below bel) r3 r4).mono ?_
  rintro e w6 ⟨rfl,hb⟩
  replace bel:=below_step bel hb
  clear hb q3
  go_wp2_with fail
  go_ret
  exact ⟨rfl,bel⟩
 have HOk:Hid (DecOk (B.take 97)):=hok
 have HW3:Hid _:=HW2.out.2 hok
 have HAf:Hid (Aff (beN (ptX (B.take 97))) (beN (ptY (B.take 97)))):=by
  rcases hok.2.2.2.2 with h|h
  ·cases h.1
  ·exact h.2
 obtain ⟨O,hke,hop⟩:=HW3.out
 have HKe:Hid (KeyIs (B.take 97) (othX d (B.take 97)) O):=hke
 have HOp:Hid (OpenR w1 O B e w2):=hop
 clear hok HW2 HW3 hke hop
 have HE9:∃ (kv er:Value) (K:List Int),e=.returned (.tuple #[kv,er])∧StrV w2 kv K∧((er=.nilIface∧(B.drop 97).drop 32=tagN (O.take 32) (O.drop 32) (B.take 97) ((B.drop 97).take 32)∧K=hidN (O.take 32) (O.drop 32) ((B.drop 97).take 32))∨(er=codeX 5∧¬ (B.drop 97).drop 32=tagN (O.take 32) (O.drop 32) (B.take 97) ((B.drop 97).take 32)∧K=[]))∧Below w1.heap.size w1 w2:=by
  by_cases ct:(B.drop 97).drop 32=tagN (O.take 32) (O.drop 32) (B.take 97) ((B.drop 97).take 32)
  ·obtain ⟨kv,he,hk,hb⟩:=HOp.out.1 ct
   exact ⟨kv,_,_,he,StrV.of hk,.inl ⟨rfl,ct,rfl⟩,hb⟩
  ·obtain ⟨a9,c9,he,hb⟩:=HOp.out.2 ct
   exact ⟨_,_,[],he,StrV.zero _ _ _,.inr ⟨rfl,ct,rfl⟩,hb⟩
 obtain ⟨kv,er,K,rfl,hkv,hcase,hb⟩:=HE9
 have HKv:Hid (StrV w2 kv K):=hkv
 have HCs:Hid _:=hcase
 obtain ⟨ka,kn2,kc,hkv2⟩:=hkv.1
 subst hkv2
 clear hkv hcase HOp
 have st:Below w2.heap.size w2 w2:=Below.refl _ _
 replace K0:=K0.later hb
 replace bel:=below_step bel hb
 clear hb
 have l1:=K0.lt
 go_wp2_with (first|(refine wpList_load_run (by rfl) (by rfl) (by rfl) (K0.load Tryz.underlying24 rfl size_u HLk.out) ?_)|fail)
 refine (con_scalar14 HK.out).mono ?_
 rintro e w3 ⟨rfl,hb⟩
 replace st:=below_step st hb
 replace K0:=K0.later hb
 replace bel:=below_step bel hb
 clear hb
 rw [decide_eq_true HC1.out]
 clear l1
 have l1:=K0.lt
 go_wp2_with fail
 refine (uDec (HG.out.below bel).1 (HT9.out.later bel) HTb.out HOk.out).mono ?_
 rintro e w5 ⟨es,rfl,hp,hb⟩
 have HP:Hid (P13R es (beN (ptX (B.take 97))) (beN (ptY (B.take 97))) false):=hp
 replace st:=below_step st hb
 replace K0:=K0.later hb
 replace bel:=below_step bel hb
 clear hb
 clear l1 hp
 replace st:=below_alloc (o:=.cells es.toArray 26) st
 have HLp:Hid (es.length=13):=HP.out.len
 have HSp:Hid (es.toArray.size=13):=by show _=_;rw [List.size_toArray];exact HLp.out
 have HOp:Hid (OneR es):=HP.out.ones
 replace K0:=K0.alloc (.cells es.toArray 26)
 replace bel:=below_alloc (o:=.cells es.toArray 26) bel
 have Bp:=Blk.new w5 es 26 w5.heap.size rfl
 have hz:=zero_p.out
 go_upto_region 9 with (first|(refine wpList_store_row rfl 26 _ _ rfl w5.heap.size es.toArray rfl rfl 26 _ (heap_alloc_last _ _) (by rw [size_p,HSp.out]) (by rw [HSp.out];rfl) HOp.out ?_;rw [World.setRow_alloc_new])|fail)
 clear hz
 obtain ⟨gp,hgp⟩:∃ g,g=w5.heap.size:=⟨_,rfl⟩
 rw [← hgp] at Bp
 generalize w5.alloc (.cells es.toArray 26)=Vp at *
 rw [← hgp]
 clear hgp
 have q3:=ne_nilX
 have l1:=K0.lt
 have lp:=Bp.lt
 go_wp2_with (first|(refine wpList_load_run (by rfl) (by rfl) (by rfl) (K0.load Tryz.underlying24 rfl size_u HLk.out) ?_)|(refine wpList_load_run (by rfl) (by rfl) (by rfl) (Bp.load Tryz.underlying26 rfl size_p HLp.out) ?_)|fail)
 refine (uMulP (HG.out.below bel).1 HK.out HP.out.told HAf.out).mono ?_
 rintro e w6 ⟨os,rfl,hp,hb⟩
 obtain ⟨OX,OY,hraw,hOX⟩:=hp.raw
 have HO:Hid (P13R os OX OY _):=hraw
 have HOX:Hid (OX=othX d (B.take 97)):=hOX
 replace st:=below_step st hb
 replace bel:=below_step bel hb
 clear hb
 clear l1 lp hp hraw hOX q3 K0 Bp
 replace st:=below_alloc (o:=.cells os.toArray 26) st
 have HLo:Hid (os.length=13):=HO.out.len
 have HSo:Hid (os.toArray.size=13):=by show _=_;rw [List.size_toArray];exact HLo.out
 have HOo:Hid (OneR os):=HO.out.ones
 replace bel:=below_alloc (o:=.cells os.toArray 26) bel
 have Bo:=Blk.new w6 os 26 w6.heap.size rfl
 have hz:=zero_p.out
 go_upto_region 12 with (first|(refine wpList_store_row rfl 26 _ _ rfl w6.heap.size os.toArray rfl rfl 26 _ (heap_alloc_last _ _) (by rw [size_p,HSo.out]) (by rw [HSo.out];rfl) HOo.out ?_;rw [World.setRow_alloc_new])|fail)
 clear hz
 obtain ⟨go,hgo⟩:∃ g,g=w6.heap.size:=⟨_,rfl⟩
 rw [← hgo] at Bo
 generalize w6.alloc (.cells os.toArray 26)=Vo at *
 rw [← hgo]
 clear hgo
 obtain ⟨S1,hS1,KB1,KI1,KD1,KL1,KA1⟩:∃ S:World→Prop,Hd S Vo∧Hid (∀ wx,Hd S wx→Below Vo.heap.size Vo wx)∧Hid (∀ wx,Below Vo.heap.size Vo wx→Hd S wx)∧Hid (∀ wx,Hd S wx→Hd S wx.drew)∧Hid (∀ w1 w2,Hd S w1→Below w1.heap.size w1 w2→Hd S w2)∧Hid (∀ w1 o,Hd S w1→Hd S (w1.alloc o)):=⟨fun wx=>Below Vo.heap.size Vo wx,Below.refl _ _,fun _ h=>h,fun _ h=>h,fun wx h=>Below.drew h,fun w1 w2 h hb=>below_step h hb,fun w1 o h=>Below.alloc h h.size o⟩
 have HBo:Hid (Blk Vo go os):=Bo
 have ro:Hid (∀ wx,Hd S1 wx→(loadVar 26 ⟨go,0,none⟩).run Tryz.prog wx=.ok (.agg os.toArray) wx):=fun wx h=>(HBo.out.later (KB1.out wx h)).load Tryz.underlying26 rfl size_p HLo.out
 clear Bo
 refine wp_region_noPanic ?_
 refine wp_region_held_drew (S:=Hd S1) (by kernel_rfl) (KD1.out _ hS1) (fun hHeld=>?_)
 clear hS1
 generalize World.drew _=wd at *
 refine wpAnyH_take (i:=0) (v:=?_) rfl (by kernel_rfl) (by kernel_rfl) (by kernel_rfl) (fun _ _ _ h=>h) (Or.inl ⟨by rfl,?_⟩) (by assumption) ?_
 rotate_left
 ·intro w hSw
  go_simp
  with_reducible rfl
 try simp only [Act.put,List.getElem_toArray,List.getElem_cons_zero,List.getElem_cons_succ,List.setIfInBounds_toArray,List.set_cons_zero,List.set_cons_succ]
 refine wpAnyH_take (i:=1) (v:=?_) rfl (by kernel_rfl) (by kernel_rfl) (by kernel_rfl) (fun _ _ _ h=>h) (Or.inl ⟨by rfl,?_⟩) (by assumption) ?_
 rotate_left
 ·intro w hSw
  go_simp
  with_reducible rfl
 try simp only [Act.put,List.getElem_toArray,List.getElem_cons_zero,List.getElem_cons_succ,List.setIfInBounds_toArray,List.set_cons_zero,List.set_cons_succ]
 refine wpAnyH_take (i:=2) (v:=.agg os.toArray) rfl (by kernel_rfl) (by kernel_rfl) (by kernel_rfl) (fun _ _ _ h=>h) (Or.inl ⟨by rfl,fun wx h=>exec_load rfl rfl (ro.out wx h)⟩) (by assumption) ?_
 try simp only [Act.put,List.getElem_toArray,List.getElem_cons_zero,List.getElem_cons_succ,List.setIfInBounds_toArray,List.set_cons_zero,List.set_cons_succ]
 refine wpAnyH_ready (rs:=[3]) (by kernel_rfl) (by simp) ?_
 refine AllReadyH.cons rfl (fun K hK=>?_) ?_
 ·go_simp
  refine (con_sealing15 (HG.out.below (below_step bel (KB1.out _ hHeld))).2.2 (HT9.out.later (below_step bel (KB1.out _ hHeld))) HTb.out (by rw [HTl.out];omega) HO.out).mono ?_
  rintro e z3 ⟨v1,v2,O2,rfl,hke,hv1,hv2,hb⟩
  refine hK.out _ _ ?_ (fun hHeld2=>?_)
  ·exact KL1.out _ _ hHeld hb
  ·clear hK K hHeld
   have hHeld:=hHeld2
   clear hHeld2
   try simp only [Act.put,List.getElem_toArray,List.getElem_cons_zero,List.getElem_cons_succ,List.setIfInBounds_toArray,List.set_cons_zero,List.set_cons_succ]
   obtain rfl:O2=O:=by rw [HOX.out] at hke;exact hke.one HKe.out
   have HE1:Hid (Bs z3 v1 (O2.take 32)):=hv1
   have HE2:Hid (Bs z3 v2 (O2.drop 32)):=hv2
   have HKx:Hid (O2.length=44∧byt O2):=⟨hke.ln,hke.byt⟩
   clear hke hv1 hv2 hb
   refine wpAnyH_take (i:=4) (v:=?_) rfl (by kernel_rfl) (by kernel_rfl) (by kernel_rfl) (fun _ _ _ h=>h) (Or.inl ⟨by rfl,?_⟩) (by assumption) ?_
   rotate_left
   ·intro w hSw
    go_simp
    with_reducible rfl
   try simp only [Act.put,List.getElem_toArray,List.getElem_cons_zero,List.getElem_cons_succ,List.setIfInBounds_toArray,List.set_cons_zero,List.set_cons_succ]
   refine wpAnyH_take (i:=5) (v:=?_) rfl (by kernel_rfl) (by kernel_rfl) (by kernel_rfl) (fun _ _ _ h=>h) (Or.inl ⟨by rfl,?_⟩) (by assumption) ?_
   rotate_left
   ·intro w hSw
    go_simp
    with_reducible rfl
   try simp only [Act.put,List.getElem_toArray,List.getElem_cons_zero,List.getElem_cons_succ,List.setIfInBounds_toArray,List.set_cons_zero,List.set_cons_succ]
   refine wpAnyH_take (i:=6) (v:=?_) rfl (by kernel_rfl) (by kernel_rfl) (by kernel_rfl) (fun _ _ _ h=>h) (Or.inl ⟨by rfl,?_⟩) (by assumption) ?_
   rotate_left
   ·intro w hSw
    go_simp
    with_reducible rfl
   try simp only [Act.put,List.getElem_toArray,List.getElem_cons_zero,List.getElem_cons_succ,List.setIfInBounds_toArray,List.set_cons_zero,List.set_cons_succ]
   refine wpAnyH_take (i:=7) (v:=?_) rfl (by kernel_rfl) (by kernel_rfl) (by kernel_rfl) (fun _ _ _ h=>h) (Or.inl ⟨by rfl,?_⟩) (by assumption) ?_
   rotate_left
   ·intro w hSw
    go_simp
    with_reducible rfl
   try simp only [Act.put,List.getElem_toArray,List.getElem_cons_zero,List.getElem_cons_succ,List.setIfInBounds_toArray,List.set_cons_zero,List.set_cons_succ]
   refine wpAnyH_take (i:=8) (v:=?_) rfl (by kernel_rfl) (by kernel_rfl) (by kernel_rfl) (fun _ _ _ h=>h) (Or.inl ⟨by rfl,?_⟩) (by assumption) ?_
   rotate_left
   ·intro w hSw
    go_simp
    with_reducible rfl
   try simp only [Act.put,List.getElem_toArray,List.getElem_cons_zero,List.getElem_cons_succ,List.setIfInBounds_toArray,List.set_cons_zero,List.set_cons_succ]
   refine wpAnyH_done (by kernel_rfl) ?_ _
   refine NoPanic.normal ?_
   have bel2:=below_step bel (KB1.out _ hHeld)
   have st2:=below_step st (KB1.out _ hHeld)
   clear hHeld
   obtain ⟨ua,uc,h1v,-,-,-⟩:=id HE1.out
   obtain ⟨ta,tc,h2v,-,-,-⟩:=id HE2.out
   subst h1v h2v
   obtain ⟨n32,h32⟩:∃ m,(O2.take 32).length=m:=⟨_,rfl⟩
   obtain ⟨n12,h12⟩:∃ m,(O2.drop 32).length=m:=⟨_,rfl⟩
   rw [h32] at HE1 ⊢
   rw [h12] at HE2 ⊢
   clear h32 h12
   go_upto_region 13 with fail
   obtain ⟨S2,hS2,KB2,KI2,KD2,KL2,KA2⟩:∃ S:World→Prop,Hd S z3∧Hid (∀ wx,Hd S wx→Below z3.heap.size z3 wx)∧Hid (∀ wx,Below z3.heap.size z3 wx→Hd S wx)∧Hid (∀ wx,Hd S wx→Hd S wx.drew)∧Hid (∀ w1 w2,Hd S w1→Below w1.heap.size w1 w2→Hd S w2)∧Hid (∀ w1 o,Hd S w1→Hd S (w1.alloc o)):=⟨fun wx=>Below z3.heap.size z3 wx,Below.refl _ _,fun _ h=>h,fun _ h=>h,fun wx h=>Below.drew h,fun w1 w2 h hb=>below_step h hb,fun w1 o h=>Below.alloc h h.size o⟩
   refine wp_region_noPanic ?_
   refine wp_region_held_drew (S:=Hd S2) (by kernel_rfl) (KD2.out _ hS2) (fun hHeld=>?_)
   clear hS2
   generalize World.drew _=wd2 at *
   refine wpAnyH_take (i:=0) (v:=?_) rfl (by kernel_rfl) (by kernel_rfl) (by kernel_rfl) (fun _ _ _ h=>h) (Or.inl ⟨by rfl,?_⟩) (by assumption) ?_
   rotate_left
   ·intro w hSw
    go_simp
    with_reducible rfl
   try simp only [Act.put,List.getElem_toArray,List.getElem_cons_zero,List.getElem_cons_succ,List.setIfInBounds_toArray,List.set_cons_zero,List.set_cons_succ]
   refine wpAnyH_take (i:=1) (v:=?_) rfl (by kernel_rfl) (by kernel_rfl) (by kernel_rfl) (fun _ _ _ h=>h) (Or.inl ⟨by rfl,?_⟩) (by assumption) ?_
   rotate_left
   ·intro w hSw
    go_simp
    with_reducible rfl
   try simp only [Act.put,List.getElem_toArray,List.getElem_cons_zero,List.getElem_cons_succ,List.setIfInBounds_toArray,List.set_cons_zero,List.set_cons_succ]
   refine wpAnyH_take (i:=2) (v:=?_) rfl (by kernel_rfl) (by kernel_rfl) (by kernel_rfl) (fun _ _ _ h=>h) (Or.inl ⟨by rfl,?_⟩) (by assumption) ?_
   rotate_left
   ·intro w hSw
    go_simp
    with_reducible rfl
   try simp only [Act.put,List.getElem_toArray,List.getElem_cons_zero,List.getElem_cons_succ,List.setIfInBounds_toArray,List.set_cons_zero,List.set_cons_succ]
   refine wpAnyH_take (i:=3) (v:=?_) rfl (by kernel_rfl) (by kernel_rfl) (by kernel_rfl) (fun _ _ _ h=>h) (Or.inl ⟨by rfl,?_⟩) (by assumption) ?_
   rotate_left
   ·intro w hSw
    go_simp
    with_reducible rfl
   try simp only [Act.put,List.getElem_toArray,List.getElem_cons_zero,List.getElem_cons_succ,List.setIfInBounds_toArray,List.set_cons_zero,List.set_cons_succ]
   refine wpAnyH_take (i:=4) (v:=?_) rfl (by kernel_rfl) (by kernel_rfl) (by kernel_rfl) (fun _ _ _ h=>h) (Or.inl ⟨by rfl,?_⟩) (by assumption) ?_
   rotate_left
   ·intro w hSw
    go_simp
    with_reducible rfl
   try simp only [Act.put,List.getElem_toArray,List.getElem_cons_zero,List.getElem_cons_succ,List.setIfInBounds_toArray,List.set_cons_zero,List.set_cons_succ]
   refine wpAnyH_take (i:=5) (v:=?_) rfl (by kernel_rfl) (by kernel_rfl) (by kernel_rfl) (fun _ _ _ h=>h) (Or.inl ⟨by rfl,?_⟩) (by assumption) ?_
   rotate_left
   ·intro w hSw
    go_simp
    with_reducible rfl
   try simp only [Act.put,List.getElem_toArray,List.getElem_cons_zero,List.getElem_cons_succ,List.setIfInBounds_toArray,List.set_cons_zero,List.set_cons_succ]
   refine wpAnyH_ready (rs:=[6]) (by kernel_rfl) (by simp) ?_
   refine AllReadyH.cons rfl (fun K hK=>?_) ?_
   ·go_simp
    refine (con_openX (HE1.out.later (KB2.out _ hHeld)) (HE2.out.later (KB2.out _ hHeld)) (HT9.out.later (below_step bel2 (KB2.out _ hHeld))) (HD9.out.later (below_step bel2 (KB2.out _ hHeld))) HKx.out HTb.out HTl.out HDb.out HDl.out).mono ?_
    rintro e z6 ⟨wv,er2,K2,rfl,hb2x,hc2x,hb⟩
    refine hK.out _ _ ?_ (fun hHeld2=>?_)
    ·exact KL2.out _ _ hHeld hb
    ·clear hK K hHeld
     have hHeld:=hHeld2
     clear hHeld2
     try simp only [Act.put,List.getElem_toArray,List.getElem_cons_zero,List.getElem_cons_succ,List.setIfInBounds_toArray,List.set_cons_zero,List.set_cons_succ]
     have hb2:Hid (StrV z6 wv K2):=hb2x
     have hc2:Hid _:=hc2x
     clear hb hb2x hc2x
     refine wpAnyH_take (i:=7) (v:=?_) rfl (by kernel_rfl) (by kernel_rfl) (by kernel_rfl) (fun _ _ _ h=>h) (Or.inl ⟨by rfl,?_⟩) (by assumption) ?_
     rotate_left
     ·intro w hSw
      go_simp
      with_reducible rfl
     try simp only [Act.put,List.getElem_toArray,List.getElem_cons_zero,List.getElem_cons_succ,List.setIfInBounds_toArray,List.set_cons_zero,List.set_cons_succ]
     refine wpAnyH_take (i:=8) (v:=?_) rfl (by kernel_rfl) (by kernel_rfl) (by kernel_rfl) (fun _ _ _ h=>h) (Or.inl ⟨by rfl,?_⟩) (by assumption) ?_
     rotate_left
     ·intro w hSw
      go_simp
      with_reducible rfl
     try simp only [Act.put,List.getElem_toArray,List.getElem_cons_zero,List.getElem_cons_succ,List.setIfInBounds_toArray,List.set_cons_zero,List.set_cons_succ]
     refine wpAnyH_take (i:=9) (v:=?_) rfl (by kernel_rfl) (by kernel_rfl) (by kernel_rfl) (fun _ _ _ h=>h) (Or.inl ⟨by rfl,?_⟩) (by assumption) ?_
     rotate_left
     ·intro w hSw
      go_simp
      with_reducible rfl
     try simp only [Act.put,List.getElem_toArray,List.getElem_cons_zero,List.getElem_cons_succ,List.setIfInBounds_toArray,List.set_cons_zero,List.set_cons_succ]
     refine wpAnyH_take (i:=10) (v:=?_) rfl (by kernel_rfl) (by kernel_rfl) (by kernel_rfl) (fun _ _ _ h=>h) (Or.inl ⟨by rfl,?_⟩) (by assumption) ?_
     rotate_left
     ·intro w hSw
      go_simp
      with_reducible rfl
     try simp only [Act.put,List.getElem_toArray,List.getElem_cons_zero,List.getElem_cons_succ,List.setIfInBounds_toArray,List.set_cons_zero,List.set_cons_succ]
     refine wpAnyH_take (i:=11) (v:=?_) rfl (by kernel_rfl) (by kernel_rfl) (by kernel_rfl) (fun _ _ _ h=>h) (Or.inl ⟨by rfl,?_⟩) (by assumption) ?_
     rotate_left
     ·intro w hSw
      go_simp
      with_reducible rfl
     try simp only [Act.put,List.getElem_toArray,List.getElem_cons_zero,List.getElem_cons_succ,List.setIfInBounds_toArray,List.set_cons_zero,List.set_cons_succ]
     refine wpAnyH_done (by kernel_rfl) ?_ _
     refine NoPanic.normal ?_
     have bel3:=below_step bel2 (KB2.out _ hHeld)
     have st3:=below_step st2 (KB2.out _ hHeld)
     clear hHeld ro bel2 st2
     have HKeq:Hid (K2=K∧er2=er):=by
      rcases hc2.out with ⟨h1,h2,h3⟩|⟨h1,h2,h3⟩<;>rcases HCs.out with ⟨k1,k2,k3⟩|⟨k1,k2,k3⟩
      ·exact ⟨by rw [h3,k3],by rw [h1,k1]⟩
      ·exact absurd h2 k2
      ·exact absurd k2 h2
      ·exact ⟨by rw [h3,k3],by rw [h1,k1]⟩
     obtain ⟨ke1,ke2⟩:=HKeq.out
     subst ke1 ke2
     obtain ⟨wa,wn,wc,hwv⟩:=hb2.out.1
     subst hwv
     obtain ⟨s1,hs1⟩:∃ z,strOfNums K2=z:=⟨_,rfl⟩
     have HS1:Hid (strOfNums K2=s1):=hs1
     clear hs1 HKeq
     have q3:=ne_nilX
     rcases hc2.out with ⟨rfl,-,-⟩|⟨rfl,-,-⟩
     ·go_wp2_with fail
      refine con_SameNil.mono ?_
      rintro e z9 ⟨rfl,hw9⟩
      rw [hw9]
      clear hw9
      have c1:=HKv.out.2 z6 st3
      have c2:=hb2.out.2 z6 (Below.refl _ _)
      rw [HS1.out] at c1 c2
      go_wp2_with fail
      go_ret
      exact ⟨rfl,bel3⟩
     ·have hcx:codeX 5=.iface 33 (.int .i64 ((5:Nat):Int)):=rfl
      rw [hcx]
      clear hcx
      go_wp2_with fail
      refine (con_SameCode (c:=5) (HGE.out.below bel3) (by omega) (by omega)).mono ?_
      rintro e z9 ⟨rfl,hb⟩
      have c1:=HKv.out.2 z9 (below_step st3 hb)
      have c2:=hb2.out.2 z9 hb
      rw [HS1.out] at c1 c2
      replace bel3:=below_step bel3 hb
      clear hb
      go_wp2_with fail
      go_ret
      exact ⟨rfl,bel3⟩
   exact AllReadyH.nil
 exact AllReadyH.nil
end Go.Proofs.YtlkljfnenonfgaaGreatDoor
