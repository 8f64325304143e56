/- The law CrlBack. -/
import Derived.Test.YtohcdbifhnfcbaaGreatDoorKrUp
import Derived.Test.YtohcdbifhnfcbaaGreatDoorKrSmall
import Derived.Test.YtohcdbifhnfcbaaGreatDoorKrEnc
import Derived.Test.YtohcdbifhnfcbaaGreatDoorKrDec
import Derived.Test.YtohcdbifhnfcbaaGreatDoorKrFact
import Derived.Test.YtohcdbifhnfcbaaGreatDoorKdSame
import Derived.Test.YtohcdbifhnfcbaaGreatDoorKrOf
import Derived.Test.YtohcdbifhnfcbaaGreatDoorRows
import Derived.Deep.OwnRows
import Derived.Deep.AppendLies
import Derived.Great.BuildSlice
import Derived.Laws.Rows
import Derived.BigQuiet
import Derived.Deep.MidRow
import Derived.Deep.WholeRow
import Derived.Deep.RegionHeld3
import Derived.Deep.DeepCutAuto
import Derived.Deep.DeepFit
namespace Go.Proofs.YtohcdbifhnfcbaaGreatDoor
open Go.RowKit
theorem iface_eq8 (c:Int):∀ w:World,(binOp .eql 35 (.iface 46 (.int .i64 c)) (.iface 46 (.int .i64 c))).run Tryz.prog w=.ok (.bool true) w:=fun w=>by
 have:(binOp .eql 35 (.iface 46 (.int .i64 c)) (.iface 46 (.int .i64 c))).run Tryz.prog w=.ok (.bool (decide (c=c))) w:=by kernel_rfl
 rw [this];simp
theorem nil_eq8:∀ w:World,(binOp .eql 35 .nilIface .nilIface).run Tryz.prog w=.ok (.bool true) w:=fun _=>by kernel_rfl
theorem uKEncB {v:Value} {B:List Int} {rs ss ts:List Value} {r s:Int} {w:World} (G:GlsO w) (hv:Bs w v B) (b:byt B) (hr:U6 rs r) (hs:U6 ss s) (hT:rs++ss=ts):Calls Tryz.prog 12 #[v,.agg ts.toArray] w (EncCR w B r s):=by
 subst hT
 exact con_KEncode G hv b hr hs
set_option linter.unusedSimpArgs false in
set_option maxRecDepth 100000 in
set_option maxHeartbeats 4000000 in
theorem law_crlBack {c:Cr} {cs:List Value} {rs ss:List Value} {r s:Int} {w:World} (G:GlsO w) (h:CrAt w c cs) (wf:WfCr c) (hr:U6 rs r) (hs:U6 ss s):Calls Tryz.prog 4 #[.agg cs.toArray,.agg (rs++ss).toArray] w fun e w'=>e=.returned (.bool true)∧Below w.heap.size w w':=by
 have HG:Hid (GlsO w):=G
 have HWf:Hid (WfCr c):=wf
 have HR:Hid (U6 rs r):=hr
 have HS:Hid (U6 ss s):=hs
 have HC:Hid (CrAt w c cs):=h
 obtain ⟨iv,gv,bv,qs,zs,rfl,hi,hg,-,u1,u2⟩:=h
 obtain ⟨r0,r1,r2,r3,r4,r5,rfl,-,-⟩:=u1
 obtain ⟨s0,s1,s2,s3,s4,s5,rfl,-,-⟩:=u2
 obtain ⟨x0,x1,x2,x3,x4,x5,rfl,-,-⟩:=hr
 obtain ⟨y0,y1,y2,y3,y4,y5,rfl,-,-⟩:=hs
 have HI:Hid (NmAt w iv c.issuer):=hi
 have HGn:Hid (GnAt w gv c.gone):=hg
 clear G wf hi hg
 obtain ⟨fr,hfr⟩:∃ z,c.frm=z:=⟨_,rfl⟩
 obtain ⟨ti,hti⟩:∃ z,c.til=z:=⟨_,rfl⟩
 rw [hfr,hti] at HC ⊢
 have HFr:Hid (c.frm=fr):=hfr
 have HTi:Hid (c.til=ti):=hti
 clear hfr hti
 replace HC:Hid (CrAt w c [iv,.int .i64 fr,.int .i64 ti,gv,bv,.int .u64 r0,.int .u64 r1,.int .u64 r2,.int .u64 r3,.int .u64 r4,.int .u64 r5,.int .u64 s0,.int .u64 s1,.int .u64 s2,.int .u64 s3,.int .u64 s4,.int .u64 s5]):=HC
 show Calls Tryz.prog 4 #[.agg #[iv,.int .i64 fr,.int .i64 ti,gv,bv,.int .u64 r0,.int .u64 r1,.int .u64 r2,.int .u64 r3,.int .u64 r4,.int .u64 r5,.int .u64 s0,.int .u64 s1,.int .u64 s2,.int .u64 s3,.int .u64 s4,.int .u64 s5],.agg #[.int .u64 x0,.int .u64 x1,.int .u64 x2,.int .u64 x3,.int .u64 x4,.int .u64 x5,.int .u64 y0,.int .u64 y1,.int .u64 y2,.int .u64 y3,.int .u64 y4,.int .u64 y5]] w _
 have B0:=(Blk.new w [iv,.int .i64 fr,.int .i64 ti,gv,bv,.int .u64 r0,.int .u64 r1,.int .u64 r2,.int .u64 r3,.int .u64 r4,.int .u64 r5,.int .u64 s0,.int .u64 s1,.int .u64 s2,.int .u64 s3,.int .u64 s4,.int .u64 s5] 33 w.heap.size rfl).alloc (.cells #[.int .u64 x0,.int .u64 x1,.int .u64 x2,.int .u64 x3,.int .u64 x4,.int .u64 x5,.int .u64 y0,.int .u64 y1,.int .u64 y2,.int .u64 y3,.int .u64 y4,.int .u64 y5] 31)
 have B1:=Blk.new (w.alloc (.cells #[iv,.int .i64 fr,.int .i64 ti,gv,bv,.int .u64 r0,.int .u64 r1,.int .u64 r2,.int .u64 r3,.int .u64 r4,.int .u64 r5,.int .u64 s0,.int .u64 s1,.int .u64 s2,.int .u64 s3,.int .u64 s4,.int .u64 s5] 33)) [.int .u64 x0,.int .u64 x1,.int .u64 x2,.int .u64 x3,.int .u64 x4,.int .u64 x5,.int .u64 y0,.int .u64 y1,.int .u64 y2,.int .u64 y3,.int .u64 y4,.int .u64 y5] 31 (w.heap.size + 1) (by simp)
 have bel:Below w.heap.size w ((w.alloc (.cells #[iv,.int .i64 fr,.int .i64 ti,gv,bv,.int .u64 r0,.int .u64 r1,.int .u64 r2,.int .u64 r3,.int .u64 r4,.int .u64 r5,.int .u64 s0,.int .u64 s1,.int .u64 s2,.int .u64 s3,.int .u64 s4,.int .u64 s5] 33)).alloc (.cells #[.int .u64 x0,.int .u64 x1,.int .u64 x2,.int .u64 x3,.int .u64 x4,.int .u64 x5,.int .u64 y0,.int .u64 y1,.int .u64 y2,.int .u64 y3,.int .u64 y4,.int .u64 y5] 31)):=((Below.refl _ _).alloc (Nat.le_refl _) _).alloc (by simp) _
 go_enter Tryz.func4,Tryz.ntmps4
 go_upto_region 1 with fail
 generalize ((w.alloc (.cells #[iv,.int .i64 fr,.int .i64 ti,gv,bv,.int .u64 r0,.int .u64 r1,.int .u64 r2,.int .u64 r3,.int .u64 r4,.int .u64 r5,.int .u64 s0,.int .u64 s1,.int .u64 s2,.int .u64 s3,.int .u64 s4,.int .u64 s5] 33)).alloc (.cells #[.int .u64 x0,.int .u64 x1,.int .u64 x2,.int .u64 x3,.int .u64 x4,.int .u64 x5,.int .u64 y0,.int .u64 y1,.int .u64 y2,.int .u64 y3,.int .u64 y4,.int .u64 y5] 31))=W at *
 go_wp2_with fail
 refine con_up18.mono ?_
 rintro e w1 ⟨rfl,hb⟩
 replace B0:=B0.later hb
 replace B1:=B1.later hb
 replace bel:=below_step bel hb
 clear hb
 have HLd:Hid (∀ wx,Blk wx w.heap.size [iv,.int .i64 fr,.int .i64 ti,gv,bv,.int .u64 r0,.int .u64 r1,.int .u64 r2,.int .u64 r3,.int .u64 r4,.int .u64 r5,.int .u64 s0,.int .u64 s1,.int .u64 s2,.int .u64 s3,.int .u64 s4,.int .u64 s5]→(loadVar 33 ⟨w.heap.size,0,none⟩).run Tryz.prog wx=.ok (.agg #[iv,.int .i64 fr,.int .i64 ti,gv,bv,.int .u64 r0,.int .u64 r1,.int .u64 r2,.int .u64 r3,.int .u64 r4,.int .u64 r5,.int .u64 s0,.int .u64 s1,.int .u64 s2,.int .u64 s3,.int .u64 s4,.int .u64 s5]) wx):=fun wx h=>h.load Tryz.underlying33 rfl size_crU rfl
 have HLt:Hid (∀ wx,Blk wx (w.heap.size + 1) [.int .u64 x0,.int .u64 x1,.int .u64 x2,.int .u64 x3,.int .u64 x4,.int .u64 x5,.int .u64 y0,.int .u64 y1,.int .u64 y2,.int .u64 y3,.int .u64 y4,.int .u64 y5]→(loadVar 31 ⟨w.heap.size + 1,0,none⟩).run Tryz.prog wx=.ok (.agg #[.int .u64 x0,.int .u64 x1,.int .u64 x2,.int .u64 x3,.int .u64 x4,.int .u64 x5,.int .u64 y0,.int .u64 y1,.int .u64 y2,.int .u64 y3,.int .u64 y4,.int .u64 y5]) wx):=fun wx h=>h.load Tryz.underlying31 rfl size_sg8 rfl
 have hld:=HLd.out _ B0
 have l0:=B0.lt
 go_wp2_with (first|((with_reducible show wpList _ _ _ ({ dst:=_,op:=.load _ _,type:=_,pos:=_,after:=_,guard:=_ } :: _) _ _);refine wpList_load_run (by rfl) (by rfl) (by rfl) hld ?_)|fail)
 refine (con_small18 (HC.out.later bel)).mono ?_
 rintro e w2 ⟨b,rfl,hbs,hb⟩
 replace B0:=B0.later hb
 replace B1:=B1.later hb
 replace bel:=below_step bel hb
 clear hb hld l0
 cases b with
 | false =>
  clear hbs
  go_wp2_with fail
  go_ret
  exact ⟨rfl,bel⟩
 | true =>
  have HSm:Hid (SmallR8 c):=hbs.1 rfl
  clear hbs
  have hld:=HLd.out _ B0
  have l0:=B0.lt
  go_wp2_with (first|((with_reducible show wpList _ _ _ ({ dst:=_,op:=.load _ _,type:=_,pos:=_,after:=_,guard:=_ } :: _) _ _);refine wpList_load_run (by rfl) (by rfl) (by rfl) hld ?_)|fail)
  refine (con_KBody (HC.out.later bel) HWf.out (fun g hg=>Nat.le_trans (HSm.out.2.2 g hg) (by omega))).mono ?_
  rintro e w3 ⟨hb,hno,hyes⟩
  have HN2:Hid (w.heap.size + 1 < w2.heap.size):=B1.lt
  replace B0:=B0.later hb
  replace B1:=B1.later hb
  replace bel:=below_step bel hb
  clear hb hld l0
  by_cases hm:MayR8 c
  rotate_left
  ·obtain rfl:=hno hm
   clear hno hyes hm
   have q:=ne_codeL 1
   have q2:=iface_eq8 1
   go_wp2_with fail
   go_ret
   exact ⟨rfl,bel⟩
  obtain ⟨v5,rfl,hv5,hn5⟩:=hyes hm
  have H:Hid (MayR8 c):=hm
  obtain ⟨NB,hNB⟩:∃ z,z=w2.heap.size:=⟨_,rfl⟩
  rw [← hNB] at HN2
  have HBv:Hid (StN NB w3 (fun w9=>Bs w9 v5 (bytesT (crBody c)))):=fun w9 h9=>bs_agrC hv5 (fun a m c e h=>by rw [hNB];exact hn5 a m c e h) h9
  obtain ⟨a5,c5,hve,-,-,-⟩:=id hv5
  obtain ⟨L5,hL5⟩:∃ z,(bytesT (crBody c)).length=z:=⟨_,rfl⟩
  rw [hL5] at hve
  subst hve
  clear hno hyes hm hv5 hn5 hL5 hNB
  have q:=ne_nilL
  have hlt:=HLt.out _ B1
  have l1:=B1.lt
  go_wp2_with (first|((with_reducible show wpList _ _ _ ({ dst:=_,op:=.load _ _,type:=_,pos:=_,after:=_,guard:=_ } :: _) _ _);refine wpList_load_run (by rfl) (by rfl) (by rfl) hlt ?_)|fail)
  refine (uKEncB (HG.out.below bel) (HBv.out w3 (Agr.refl _ _)) (byt_crBody H.out HWf.out) HR.out HS.out rfl).mono ?_
  rintro e w4 ⟨hb,e1,e2,e3⟩
  replace B0:=B0.later hb
  replace B1:=B1.later hb
  replace HBv:Hid (StN NB w4 (fun w9=>Bs w9 (.slice a5 L5 c5) (bytesT (crBody c)))):=HBv.out.below hb
  replace bel:=below_step bel hb
  clear hb hlt l1 q e1
  by_cases hsc:isSc r∧isSc s
  rotate_left
  ·obtain rfl:=e2 _ (parse_crBody H.out) hsc
   clear e2 e3 hsc
   rw [erN_s (show ¬ (3:Nat)=0 by decide)]
   have q:=ne_codeL 3
   have q2:=iface_eq8 3
   go_wp2_with fail
   go_ret
   exact ⟨rfl,bel⟩
  obtain ⟨v6,X,Y,x,y,hSB,rfl,hv6⟩:=e3 _ (parse_crBody H.out) hsc
  have HSB:Hid (SigB r s X Y x y):=hSB
  have HSc:Hid (isSc r∧isSc s):=hsc
  have h0:=(crSeal_parse H.out hSB).1
  unfold wrB at hv6
  rw [if_pos h0] at hv6
  rw [h0,erN_0]
  have HV6:Hid (Bs w4 v6 (bytesT (sealP false (crBody c) (bytesT (sigT x y))))):=hv6
  obtain ⟨a6,c6,hve,-,-,-⟩:=id hv6
  obtain ⟨L6,hL6⟩:∃ z,(bytesT (sealP false (crBody c) (bytesT (sigT x y)))).length=z:=⟨_,rfl⟩
  rw [hL6] at hve
  subst hve
  clear e2 e3 hsc hSB h0 hv6 hL6
  have q:=ne_nilL
  go_wp2_with fail
  refine (con_KDecode (HG.out.below bel) HV6.out (byt_crSeal H.out HWf.out HSB.out)).mono ?_
  rintro e w5 ⟨hb,-,-,d3⟩
  obtain ⟨cc,rfl,hst⟩:=d3 _ _ (crSeal_parse H.out HSB.out).2 (crD_made H.out (fun g hg=>(HWf.out.2.2.2.1 g hg).1) HSB.out HSc.out.1 HSc.out.2)
  have HN4:Hid (w.heap.size + 1 < w4.heap.size):=B1.lt
  obtain ⟨NC,hNC⟩:∃ z,z=w4.heap.size:=⟨_,rfl⟩
  rw [← hNC] at hst HN4
  obtain ⟨C,hC⟩:∃ z:Cr,{ c with body:=bytesT (crBody c),sr:=r,ss:=s }=z:=⟨_,rfl⟩
  rw [hC] at hst
  have HCe:Hid ({ c with body:=bytesT (crBody c),sr:=r,ss:=s }=C):=hC
  have HSt:Hid (StN NC w5 (fun w9=>CrAt w9 C cc)):=hst
  have HL17:Hid (cc.length=17):=(hst _ (Agr.refl _ _)).len
  have HO17:Hid (OneC cc):=(hst _ (Agr.refl _ _)).ones
  have HS17:Hid (cc.toArray.size=17):=by show _=_;rw [List.size_toArray];exact HL17.out
  replace B0:=B0.later hb
  replace B1:=B1.later hb
  replace HBv:Hid (StN NB w5 (fun w9=>Bs w9 (.slice a5 L5 c5) (bytesT (crBody c)))):=HBv.out.below hb
  replace bel:=below_step bel hb
  clear hb d3 hst hNC hC q
  have hg5:w.heap.size + 1 < w5.heap.size:=B1.lt
  have hz:=zero_cr8.out
  have Cv:=Blk.new w5 cc 33 w5.heap.size rfl
  have hbx:=bal w5 (.cells cc.toArray 33)
  replace B0:=B0.later hbx
  replace B1:=B1.later hbx
  replace HBv:Hid (StN NB (w5.alloc (.cells cc.toArray 33)) (fun w9=>Bs w9 (.slice a5 L5 c5) (bytesT (crBody c)))):=HBv.out.below hbx
  replace HSt:Hid (StN NC (w5.alloc (.cells cc.toArray 33)) (fun w9=>CrAt w9 C cc)):=HSt.out.below hbx
  replace bel:=below_step bel hbx
  go_upto_region 12 with (first|((with_reducible show wpList _ _ _ ({ dst:=_,op:=.store _ _ _,type:=_,pos:=_,after:=_,guard:=_ } :: _) _ _);refine wpList_store_row rfl 33 _ _ rfl w5.heap.size cc.toArray rfl rfl 33 _ (heap_alloc_last _ _) (by rw [size_crU,HS17.out]) (by first|rfl|(rw [HS17.out];rfl)) HO17.out ?_;rw [World.setRow_alloc_new])|fail)
  clear hz hbx
  obtain ⟨gc,hgc⟩:∃ z,z=w5.heap.size:=⟨_,rfl⟩
  rw [← hgc] at Cv hg5 ⊢
  generalize w5.alloc (.cells cc.toArray 33)=V0 at *
  clear hgc
  have lNB:w.heap.size + 1 < NB:=HN2.out
  have lNC:w.heap.size + 1 < NC:=HN4.out
  have cj:=B0.cell 4 _ rfl
  have fj:=B0.frozen 4
  have lc:=B0.lt
  go_upto_region 13 with fail
  clear cj fj lc
  replace B0:Blk (V0.setCell ⟨w.heap.size,4,none⟩ (.slice a5 L5 c5)) w.heap.size [iv,.int .i64 fr,.int .i64 ti,gv,.slice a5 L5 c5,.int .u64 r0,.int .u64 r1,.int .u64 r2,.int .u64 r3,.int .u64 r4,.int .u64 r5,.int .u64 s0,.int .u64 s1,.int .u64 s2,.int .u64 s3,.int .u64 s4,.int .u64 s5]:=B0.set 4 _
  replace B1:Blk (V0.setCell ⟨w.heap.size,4,none⟩ (.slice a5 L5 c5)) (w.heap.size + 1) [.int .u64 x0,.int .u64 x1,.int .u64 x2,.int .u64 x3,.int .u64 x4,.int .u64 x5,.int .u64 y0,.int .u64 y1,.int .u64 y2,.int .u64 y3,.int .u64 y4,.int .u64 y5]:=B1.other ⟨w.heap.size,4,none⟩ (.slice a5 L5 c5) (show w.heap.size + 1≠w.heap.size by omega)
  replace Cv:Blk (V0.setCell ⟨w.heap.size,4,none⟩ (.slice a5 L5 c5)) gc cc:=Cv.other ⟨w.heap.size,4,none⟩ (.slice a5 L5 c5) (show gc≠w.heap.size by omega)
  replace bel:Below w.heap.size w (V0.setCell ⟨w.heap.size,4,none⟩ (.slice a5 L5 c5)):=bel.setCell (Nat.le_refl _) _
  replace HBv:Hid (StN NB (V0.setCell ⟨w.heap.size,4,none⟩ (.slice a5 L5 c5)) (fun w9=>Bs w9 (.slice a5 L5 c5) (bytesT (crBody c)))):=HBv.out.cell (show w.heap.size < NB by omega)
  replace HSt:Hid (StN NC (V0.setCell ⟨w.heap.size,4,none⟩ (.slice a5 L5 c5)) (fun w9=>CrAt w9 C cc)):=HSt.out.cell (show w.heap.size < NC by omega)
  generalize V0.setCell _ _=V1 at *
  have hth:V1.there w.heap.size 5 (#[.int .u64 x0,.int .u64 x1,.int .u64 x2,.int .u64 x3,.int .u64 x4,.int .u64 x5,.int .u64 y0,.int .u64 y1,.int .u64 y2,.int .u64 y3,.int .u64 y4,.int .u64 y5]:Array Value).size:=B0.there (by show 5 + 12≤17;omega)
  have lc:=B0.lt
  have hlt:=HLt.out _ B1
  have l1:=B1.lt
  go_upto_region 14 with (first|((with_reducible show wpList _ _ _ ({ dst:=_,op:=.load _ _,type:=_,pos:=_,after:=_,guard:=_ } :: _) _ _);refine wpList_load_run (by rfl) (by rfl) (by rfl) hlt ?_)|((with_reducible show wpList _ _ _ ({ dst:=_,op:=.store _ _ _,type:=_,pos:=_,after:=_,guard:=_ } :: _) _ _);refine wpList_store_mid rfl 31 _ _ rfl w.heap.size 5 #[.int .u64 x0,.int .u64 x1,.int .u64 x2,.int .u64 x3,.int .u64 x4,.int .u64 x5,.int .u64 y0,.int .u64 y1,.int .u64 y2,.int .u64 y3,.int .u64 y4,.int .u64 y5] rfl rfl hth (by rw [size_sg8];rfl) (by simp [Value.oneCell']) ?_)|fail)
  clear hth lc hlt l1
  replace B0:Blk (V1.setCells w.heap.size 5 (#[.int .u64 x0,.int .u64 x1,.int .u64 x2,.int .u64 x3,.int .u64 x4,.int .u64 x5,.int .u64 y0,.int .u64 y1,.int .u64 y2,.int .u64 y3,.int .u64 y4,.int .u64 y5]:Array Value).toList) w.heap.size [iv,.int .i64 fr,.int .i64 ti,gv,.slice a5 L5 c5,.int .u64 x0,.int .u64 x1,.int .u64 x2,.int .u64 x3,.int .u64 x4,.int .u64 x5,.int .u64 y0,.int .u64 y1,.int .u64 y2,.int .u64 y3,.int .u64 y4,.int .u64 y5]:=Blk.cellsL _ _ _ _ B0
  replace Cv:Blk (V1.setCells w.heap.size 5 (#[.int .u64 x0,.int .u64 x1,.int .u64 x2,.int .u64 x3,.int .u64 x4,.int .u64 x5,.int .u64 y0,.int .u64 y1,.int .u64 y2,.int .u64 y3,.int .u64 y4,.int .u64 y5]:Array Value).toList) gc cc:=Blk.cellsO (show gc≠w.heap.size by omega) (#[.int .u64 x0,.int .u64 x1,.int .u64 x2,.int .u64 x3,.int .u64 x4,.int .u64 x5,.int .u64 y0,.int .u64 y1,.int .u64 y2,.int .u64 y3,.int .u64 y4,.int .u64 y5]:Array Value).toList 5 V1 Cv
  replace bel:Below w.heap.size w (V1.setCells w.heap.size 5 (#[.int .u64 x0,.int .u64 x1,.int .u64 x2,.int .u64 x3,.int .u64 x4,.int .u64 x5,.int .u64 y0,.int .u64 y1,.int .u64 y2,.int .u64 y3,.int .u64 y4,.int .u64 y5]:Array Value).toList):=below_cells (Nat.le_refl _) _ _ _ bel
  replace HBv:Hid (StN NB (V1.setCells w.heap.size 5 (#[.int .u64 x0,.int .u64 x1,.int .u64 x2,.int .u64 x3,.int .u64 x4,.int .u64 x5,.int .u64 y0,.int .u64 y1,.int .u64 y2,.int .u64 y3,.int .u64 y4,.int .u64 y5]:Array Value).toList) (fun w9=>Bs w9 (.slice a5 L5 c5) (bytesT (crBody c)))):=HBv.out.step (agr_cells (show ¬ NB≤w.heap.size by omega) _ _ _ (Agr.refl _ _))
  replace HSt:Hid (StN NC (V1.setCells w.heap.size 5 (#[.int .u64 x0,.int .u64 x1,.int .u64 x2,.int .u64 x3,.int .u64 x4,.int .u64 x5,.int .u64 y0,.int .u64 y1,.int .u64 y2,.int .u64 y3,.int .u64 y4,.int .u64 y5]:Array Value).toList) (fun w9=>CrAt w9 C cc)):=HSt.out.step (agr_cells (show ¬ NC≤w.heap.size by omega) _ _ _ (Agr.refl _ _))
  generalize V1.setCells _ _ _=V2 at *
  clear B1
  have hld:(loadVar 33 ⟨w.heap.size,0,none⟩).run Tryz.prog V2=.ok (.agg #[iv,.int .i64 fr,.int .i64 ti,gv,.slice a5 L5 c5,.int .u64 x0,.int .u64 x1,.int .u64 x2,.int .u64 x3,.int .u64 x4,.int .u64 x5,.int .u64 y0,.int .u64 y1,.int .u64 y2,.int .u64 y3,.int .u64 y4,.int .u64 y5]) V2:=B0.load Tryz.underlying33 rfl size_crU rfl
  have hle:(loadVar 33 ⟨gc,0,none⟩).run Tryz.prog V2=.ok (.agg cc.toArray) V2:=Cv.load Tryz.underlying33 rfl size_crU HL17.out
  have l0:=B0.lt
  have lg:=Cv.lt
  have q2:=nil_eq8
  go_wp2_with (first|((with_reducible show wpList _ _ _ ({ dst:=_,op:=.load _ _,type:=_,pos:=_,after:=_,guard:=_ } :: _) _ _);refine wpList_load_run (by rfl) (by rfl) (by rfl) hld ?_)|((with_reducible show wpList _ _ _ ({ dst:=_,op:=.load _ _,type:=_,pos:=_,after:=_,guard:=_ } :: _) _ _);refine wpList_load_run (by rfl) (by rfl) (by rfl) hle ?_)|fail)
  have HF:Hid (CrAt V2 C [iv,.int .i64 fr,.int .i64 ti,gv,.slice a5 L5 c5,.int .u64 x0,.int .u64 x1,.int .u64 x2,.int .u64 x3,.int .u64 x4,.int .u64 x5,.int .u64 y0,.int .u64 y1,.int .u64 y2,.int .u64 y3,.int .u64 y4,.int .u64 y5]):=by
   show CrAt _ _ _
   rw [← HCe.out]
   exact ⟨iv,gv,.slice a5 L5 c5,[.int .u64 x0,.int .u64 x1,.int .u64 x2,.int .u64 x3,.int .u64 x4,.int .u64 x5],[.int .u64 y0,.int .u64 y1,.int .u64 y2,.int .u64 y3,.int .u64 y4,.int .u64 y5],by rw [← HFr.out,← HTi.out];rfl,HI.out.later bel,HGn.out.later bel,HBv.out V2 (Agr.refl _ _),HR.out,HS.out⟩
  have HWC:Hid (WfCr C):=by
   show WfCr _
   rw [← HCe.out]
   exact ⟨HWf.out.1,HWf.out.2.1,HWf.out.2.2.1,HWf.out.2.2.2.1,byt_crBody H.out HWf.out⟩
  refine (r18_SameY (HSt.out V2 (Agr.refl _ _)) HF.out HWC.out).mono ?_
  rintro e w6 ⟨rfl,hb⟩
  replace bel:=below_step bel hb
  clear hb hld hle l0 lg q2 B0 Cv
  go_wp2_with fail
  go_ret
  exact ⟨rfl,bel⟩
end Go.Proofs.YtohcdbifhnfcbaaGreatDoor
