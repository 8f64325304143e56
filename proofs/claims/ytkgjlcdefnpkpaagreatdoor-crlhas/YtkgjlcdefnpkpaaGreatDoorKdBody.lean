/- The document's Body. -/
import Derived.Test.YtkgjlcdefnpkpaaGreatDoorKdVer
import Derived.Test.YtkgjlcdefnpkpaaGreatDoorKrBdy
import Derived.Test.YtkgjlcdefnpkpaaGreatDoorCtSize
import Derived.Test.YtkgjlcdefnpkpaaGreatDoorKrEl
import Derived.Test.YtkgjlcdefnpkpaaGreatDoorCtOid
import Derived.Test.YtkgjlcdefnpkpaaGreatDoorCtMay
import Derived.Test.YtkgjlcdefnpkpaaGreatDoorDrWrite
import Derived.Test.YtkgjlcdefnpkpaaGreatDoorRows
import Derived.Deep.OwnRows
import Derived.Deep.AppendLies
import Derived.Great.BuildSlice
import Derived.Laws.Rows
import Derived.BigQuiet
import Derived.Deep.WholeRow
import Derived.Deep.RegionHeld3
import Derived.Deep.DeepCutAuto
import Derived.Deep.DeepFit
namespace Go.Proofs.YtkgjlcdefnpkpaaGreatDoor
open Go.RowKit
/-- what the document's Body tells -/
def BodyD8 (w:World) (c:Cr) (e:Ending) (w':World):Prop:=Below w.heap.size w w'∧(¬ MayR8 c→e=.returned (.tuple #[.slice none 0 0,.int .i64 1]))∧(MayR8 c→∃ v:Value,e=.returned (.tuple #[v,.int .i64 0])∧Bs w' v (bytesT (crBody c)))
theorem BodyD8.no {w w':World} {c:Cr} (h:¬ MayR8 c) (hb:Below w.heap.size w w'):BodyD8 w c (.returned (.tuple #[.slice none 0 0,.int .i64 1])) w':=⟨hb,fun _=>rfl,fun k=>absurd k h⟩
theorem BodyD8.yes {w w':World} {c:Cr} {v:Value} (h:MayR8 c) (hv:Bs w' v (bytesT (crBody c))) (hb:Below w.heap.size w w'):BodyD8 w c (.returned (.tuple #[v,.int .i64 0])) w':=⟨hb,fun k=>absurd h k,fun _=>⟨v,rfl,hv⟩⟩
theorem fill_25d {c0 c1 c2 c3 c4:List Value} (h0:c0.length=5) (h1:c1.length=5) (h2:c2.length=5) (h3:c3.length=5) (h4:c4.length=5):Instr.fill (fun i=>some (i * 5,5)) ((Array.range (5 * 5)).map ((Value.agg #[.int .i64 0,.int .i64 0,.bool false,.slice none 0 0,.slice none 0 0]).cells[· % (Value.agg #[.int .i64 0,.int .i64 0,.bool false,.slice none 0 0,.slice none 0 0]).cells.size]!)) [(0,.agg c0.toArray),(1,.agg c1.toArray),(2,.agg c2.toArray),(3,.agg c3.toArray),(4,.agg c4.toArray)]=some (c0++(c1++(c2++(c3++(c4++[]))))).toArray:=by
 obtain ⟨_,_,_,_,_,rfl⟩:=five h0
 obtain ⟨_,_,_,_,_,rfl⟩:=five h1
 obtain ⟨_,_,_,_,_,rfl⟩:=five h2
 obtain ⟨_,_,_,_,_,rfl⟩:=five h3
 obtain ⟨_,_,_,_,_,rfl⟩:=five h4
 kernel_rfl
/-- one that is revoked, as an element -/
noncomputable def gonD (g:Gn):Tl:=orT (goneO g)
theorem gonD_is {g:Gn} {a b:Tl} (h:serT g.1=some a) (k:timT g.2=some b):gonD g=listT [a,b]:=by unfold gonD;rw [goneO_yes h k];rfl
set_option linter.unusedSimpArgs false in
set_option maxRecDepth 100000 in
set_option maxHeartbeats 8000000 in
theorem r18_Body {c:Cr} {cs:List Value} {w:World} (h:CrAt w c cs) (wf:WfCr c):Calls Tryz.prog 11 #[.agg cs.toArray] w (BodyD8 w c):=by
 obtain ⟨wI,wF,wT,wG,-⟩:=wf
 have HWI:Hid (WfN c.issuer):=wI
 have HWG:Hid (WfG c.gone):=wG
 obtain ⟨iv,gv,bv,rs,zs,hl,q0,q1,q2,q3,q4,qk,hI,hG,-,-,-⟩:=h.open
 have HI:Hid (NmAt w iv c.issuer):=hI
 obtain ⟨ia,ic,hie,-,-,-⟩:=hI
 obtain ⟨ga,gc,hge,-,hgm,hgg⟩:=hG
 have HVc:Hid (0 < c.gone.length→∃ b o,ga=some ⟨b,o,none⟩∧b < w.heap.size∧∀ i g,c.gone[i]?=some g→∃ u,w.cell? ⟨b,o + i * 2,none⟩=some u∧Bs w u g.1∧w.cell? ⟨b,o + i * 2 + 1,none⟩=some (.int .i64 g.2)):=hgg
 obtain ⟨IL,hIL⟩:∃ z,c.issuer.length=z:=⟨_,rfl⟩
 obtain ⟨GL,hGL⟩:∃ z,c.gone.length=z:=⟨_,rfl⟩
 have HGL:Hid (c.gone.length=GL):=hGL
 rw [hIL] at hie
 rw [hGL] at hge HVc
 subst hie hge
 obtain ⟨fr,hfr⟩:∃ z,c.frm=z:=⟨_,rfl⟩
 obtain ⟨ti,hti⟩:∃ z,c.til=z:=⟨_,rfl⟩
 have Hfr:Hid (c.frm=fr):=hfr
 have Hti:Hid (c.til=ti):=hti
 rw [hfr] at q1
 rw [hti] at q2
 have HQ0:Hid _:=q0
 have HQ1:Hid _:=q1
 have HQ2:Hid _:=q2
 have HQ3:Hid _:=q3
 clear hIL hGL hfr hti q0 q1 q2 q3 q4 qk hgm hgg wI wG hl h
 have B0:=Blk.new w cs 32 w.heap.size rfl
 have bel:Below w.heap.size w (w.alloc (.cells cs.toArray 32)):=(Below.refl _ _).alloc (Nat.le_refl _) _
 go_enter Tryz.func11,Tryz.ntmps11
 go_upto_region 1 with fail
 generalize w.alloc (.cells cs.toArray 32)=W at *
 have lW:=bel.size
 have lB:=B0.lt
 obtain ⟨N0,hN0⟩:∃ n,n=W.heap.size:=⟨_,rfl⟩
 rw [← hN0] at lW lB
 have hs:N0≤W.heap.size:=by omega
 obtain ⟨jt,hjt,ht0,ht1,ht2⟩:=info_partsD info_tlv

 have eq:=B0.cell 1 _ HQ1.out
 have l0:=B0.lt
 go_wp2_with fail
 refine (k18_Time Hfr.out wF).mono ?_
 rintro e w1a ⟨es1,b1,rfl,hl5,ho5,hyes,hno,hb⟩
 clear eq l0
 replace B0:=B0.later hb
 have HL1:Hid (es1.length=5):=hl5
 have HO1:Hid (OneC es1):=ho5
 have HT1:Hid (b1=true→∃ T,timT c.frm=some T∧Dep (fun g=>N0≤g) w1a T es1):=fun h9=>by obtain ⟨T,h1,h2⟩:=hyes h9;exact ⟨T,h1,h2.next (Agr.refl _ _) (fun _ h _=>Nat.le_trans hs h)⟩
 have HN1:Hid (b1=false→timT c.frm=none):=hno
 replace bel:=below_step bel hb
 replace hs:N0≤w1a.heap.size:=Nat.le_trans hs hb.size
 clear hl5 ho5 hyes hno hb
 have HS5:Hid (es1.toArray.size=5):=by show _=_;rw [List.size_toArray];exact HL1.out
 have hz:=zero_tlv.out
 have hbx:Below w1a.heap.size w1a (w1a.alloc (.cells es1.toArray 60)):=(Below.refl _ _).alloc (Nat.le_refl _) _
 replace B0:=B0.later hbx
 replace HT1:Hid (b1=true→∃ T,timT c.frm=some T∧Dep (fun g=>N0≤g) (w1a.alloc (.cells es1.toArray 60)) T es1):=fun h9=>by obtain ⟨T,h1,h2⟩:=HT1.out h9;exact ⟨T,h1,h2.next (Agr.below hbx) (fun _ h _=>h)⟩
 replace hs:N0≤(w1a.alloc (.cells es1.toArray 60)).heap.size:=Nat.le_trans hs hbx.size
 replace bel:=below_step bel hbx
 have Q1:=Blk.new w1a es1 60 w1a.heap.size rfl
 go_upto_region 2 with (first|((with_reducible show wpList _ _ _ ({ dst:=_,op:=.store _ _ _,type:=_,pos:=_,after:=_,guard:=_ } :: _) _ _);refine wpList_store_row rfl 60 _ _ rfl w1a.heap.size es1.toArray rfl rfl 60 _ (heap_alloc_last _ _) (by rw [size_tlv,HS5.out]) (by rw [HS5.out];rfl) HO1.out ?_;rw [World.setRow_alloc_new])|fail)
 clear hz HS5 hbx
 obtain ⟨g1,hg1⟩:∃ g,g=w1a.heap.size:=⟨_,rfl⟩
 rw [← hg1] at Q1 ⊢
 generalize (w1a.alloc (.cells es1.toArray 60))=V1 at *
 clear hg1

 have eq:=B0.cell 2 _ HQ2.out
 have l0:=B0.lt
 go_wp2_with fail
 refine (k18_Time Hti.out wT).mono ?_
 rintro e w2a ⟨es2,b2,rfl,hl5,ho5,hyes,hno,hb⟩
 clear eq l0
 replace B0:=B0.later hb
 replace Q1:=Q1.later hb
 replace HT1:Hid (b1=true→∃ T,timT c.frm=some T∧Dep (fun g=>N0≤g) w2a T es1):=fun h9=>by obtain ⟨T,h1,h2⟩:=HT1.out h9;exact ⟨T,h1,h2.next (Agr.below hb) (fun _ h _=>h)⟩
 have HL2:Hid (es2.length=5):=hl5
 have HO2:Hid (OneC es2):=ho5
 have HT2:Hid (b2=true→∃ T,timT c.til=some T∧Dep (fun g=>N0≤g) w2a T es2):=fun h9=>by obtain ⟨T,h1,h2⟩:=hyes h9;exact ⟨T,h1,h2.next (Agr.refl _ _) (fun _ h _=>Nat.le_trans hs h)⟩
 have HN2:Hid (b2=false→timT c.til=none):=hno
 replace bel:=below_step bel hb
 replace hs:N0≤w2a.heap.size:=Nat.le_trans hs hb.size
 clear hl5 ho5 hyes hno hb
 have HS5:Hid (es2.toArray.size=5):=by show _=_;rw [List.size_toArray];exact HL2.out
 have hz:=zero_tlv.out
 have hbx:Below w2a.heap.size w2a (w2a.alloc (.cells es2.toArray 60)):=(Below.refl _ _).alloc (Nat.le_refl _) _
 replace B0:=B0.later hbx
 replace Q1:=Q1.later hbx
 replace HT1:Hid (b1=true→∃ T,timT c.frm=some T∧Dep (fun g=>N0≤g) (w2a.alloc (.cells es2.toArray 60)) T es1):=fun h9=>by obtain ⟨T,h1,h2⟩:=HT1.out h9;exact ⟨T,h1,h2.next (Agr.below hbx) (fun _ h _=>h)⟩
 replace HT2:Hid (b2=true→∃ T,timT c.til=some T∧Dep (fun g=>N0≤g) (w2a.alloc (.cells es2.toArray 60)) T es2):=fun h9=>by obtain ⟨T,h1,h2⟩:=HT2.out h9;exact ⟨T,h1,h2.next (Agr.below hbx) (fun _ h _=>h)⟩
 replace hs:N0≤(w2a.alloc (.cells es2.toArray 60)).heap.size:=Nat.le_trans hs hbx.size
 replace bel:=below_step bel hbx
 have Q2:=Blk.new w2a es2 60 w2a.heap.size rfl
 go_upto_region 3 with (first|((with_reducible show wpList _ _ _ ({ dst:=_,op:=.store _ _ _,type:=_,pos:=_,after:=_,guard:=_ } :: _) _ _);refine wpList_store_row rfl 60 _ _ rfl w2a.heap.size es2.toArray rfl rfl 60 _ (heap_alloc_last _ _) (by rw [size_tlv,HS5.out]) (by rw [HS5.out];rfl) HO2.out ?_;rw [World.setRow_alloc_new])|fail)
 clear hz HS5 hbx
 obtain ⟨g2,hg2⟩:∃ g,g=w2a.heap.size:=⟨_,rfl⟩
 rw [← hg2] at Q2 ⊢
 generalize (w2a.alloc (.cells es2.toArray 60))=V2 at *
 clear hg2

 have e0:=B0.cell 0 _ HQ0.out
 have l0:=B0.lt
 go_wp2_with fail
 refine (r16_May (HI.out.later bel) HWI.out).mono ?_
 rintro e w3 ⟨rfl,hb⟩
 clear e0 l0
 replace B0:=B0.later hb
 replace Q1:=Q1.later hb
 replace Q2:=Q2.later hb
 replace HT1:Hid (b1=true→∃ T,timT c.frm=some T∧Dep (fun g=>N0≤g) w3 T es1):=fun h9=>by obtain ⟨T,h1,h2⟩:=HT1.out h9;exact ⟨T,h1,h2.next (Agr.below hb) (fun _ h _=>h)⟩
 replace HT2:Hid (b2=true→∃ T,timT c.til=some T∧Dep (fun g=>N0≤g) w3 T es2):=fun h9=>by obtain ⟨T,h1,h2⟩:=HT2.out h9;exact ⟨T,h1,h2.next (Agr.below hb) (fun _ h _=>h)⟩
 replace bel:=below_step bel hb
 replace hs:N0≤w3.heap.size:=Nat.le_trans hs hb.size
 clear hb
 obtain ⟨bm,hbm⟩:∃ z,mayN c.issuer=z:=⟨_,rfl⟩
 have HM:Hid (mayN c.issuer=bm):=hbm
 rw [hbm]
 clear hbm
 go_upto_region 4 with fail
 have e3:=B0.cell 3 _ HQ3.out
 have l0:=B0.lt
 cases b1 with
 | false =>
  have H:Hid (¬ MayR8 c):=fun h=>by obtain ⟨T,hT⟩:=h.2.1;rw [HN1.out rfl] at hT;cases hT
  go_wp2_with fail
  refine bodyPost_ret (results_tmp2 rfl _ _ _) rfl ?_
  exact BodyD8.no H.out bel
 | true =>
 cases b2 with
 | false =>
  have H:Hid (¬ MayR8 c):=fun h=>by obtain ⟨T,hT⟩:=h.2.2.1;rw [HN2.out rfl] at hT;cases hT
  go_wp2_with fail
  refine bodyPost_ret (results_tmp2 rfl _ _ _) rfl ?_
  exact BodyD8.no H.out bel
 | true =>
 cases bm with
 | false =>
  have H:Hid (¬ MayR8 c):=fun h=>by have:=h.1;rw [HM.out] at this;cases this
  go_wp2_with fail
  refine bodyPost_ret (results_tmp2 rfl _ _ _) rfl ?_
  exact BodyD8.no H.out bel
 | true =>
 by_cases k64:64 < GL
 ·have g64:(64:Int) < (GL:Int):=by omega
  have H:Hid (¬ MayR8 c):=fun h=>by have:=h.2.2.2.1;rw [HGL.out] at this;omega
  clear k64
  go_wp2_with fail
  refine bodyPost_ret (results_tmp2 rfl _ _ _) rfl ?_
  exact BodyD8.no H.out bel
 have g64:¬ (64:Int) < (GL:Int):=by omega
 have HK64:Hid (GL≤64):=by show _≤_;omega
 clear k64
 obtain ⟨T1,hT1,hd1⟩:=HT1.out rfl
 obtain ⟨T2,hT2,hd2⟩:=HT2.out rfl
 have HX1:Hid (timT c.frm=some T1):=hT1
 have HX2:Hid (timT c.til=some T2):=hT2
 have HD1:Hid (Dep (fun g=>N0≤g) w3 T1 es1):=hd1
 have HD2:Hid (Dep (fun g=>N0≤g) w3 T2 es2):=hd2
 clear HT1 HT2 HN1 HN2 hT1 hT2 hd1 hd2
 go_upto_region 6 with fail
 clear g64 e3 l0
 have HBB:Hid (Blk w3 w.heap.size cs):=B0
 have HBel:Hid (Below w.heap.size w w3):=bel
 obtain ⟨S1,hS1,KB1,KI1,KD1,KL1,KA1⟩:∃ S:World→Prop,Hd S w3∧Hid (∀ wx,Hd S wx→Below w3.heap.size w3 wx)∧Hid (∀ wx,Below w3.heap.size w3 wx→Hd S wx)∧Hid (∀ wx,Hd S wx→Hd S wx.drew)∧Hid (∀ w1 w2,Hd S w1→Below w1.heap.size w1 w2→Hd S w2)∧Hid (∀ w1 o,Hd S w1→Hd S (w1.alloc o)):=⟨fun wx=>Below w3.heap.size w3 wx,Below.refl _ _,fun _ h=>h,fun _ h=>h,fun wx h=>Below.drew h,fun w1 w2 h hb=>below_step h hb,fun w1 o h=>Below.alloc h h.size o⟩
 have R1:Hid (∀ wx,Hd S1 wx→(loadVar 60 ⟨g1,0,none⟩).run Tryz.prog wx=.ok (.agg es1.toArray) wx):=fun wx h=>(Q1.later (KB1.out wx h)).load Tryz.underlying60 rfl size_tlv HL1.out
 have R2:Hid (∀ wx,Hd S1 wx→(loadVar 60 ⟨g2,0,none⟩).run Tryz.prog wx=.ok (.agg es2.toArray) wx):=fun wx h=>(Q2.later (KB1.out wx h)).load Tryz.underlying60 rfl size_tlv HL2.out
 have ra:∀ wx,Hd S1 wx→wx.cell? ⟨w.heap.size,0,none⟩=some (.slice ia IL ic):=fun wx h=>(HBB.out.later (KB1.out wx h)).cell 0 _ HQ0.out
 have rl:∀ wx,Hd S1 wx→w.heap.size < wx.heap.size:=fun wx h=>(HBB.out.later (KB1.out wx h)).lt
 have hszj:N0≤w3.heap.size:=hs
 clear B0 bel hs Q1 Q2
 refine wp_region_noPanic ?_
 refine wp_region_held_drew (S:=Hd S1) (by kernel_rfl) (KD1.out _ hS1) (fun hHeld=>?_)
 clear hS1
 generalize World.drew _=wd1 at *
 refine wpAnyH_take (i:=2) (v:=?_) rfl (by kernel_rfl) (by kernel_rfl) (by kernel_rfl) (fun _ _ _ h=>h) (Or.inl ⟨by rfl,?_⟩) (by assumption) ?_
 rotate_left
 ·intro w hSw
  go_simp
  with_reducible rfl
 try simp only [Act.put,List.getElem_toArray,List.getElem_cons_zero,List.getElem_cons_succ,List.setIfInBounds_toArray,List.set_cons_zero,List.set_cons_succ]
 refine wpAnyH_take (i:=3) (v:=?_) rfl (by kernel_rfl) (by kernel_rfl) (by kernel_rfl) (fun _ _ _ h=>h) (Or.inl ⟨by rfl,?_⟩) (by assumption) ?_
 rotate_left
 ·intro w hSw
  go_simp
  with_reducible rfl
 try simp only [Act.put,List.getElem_toArray,List.getElem_cons_zero,List.getElem_cons_succ,List.setIfInBounds_toArray,List.set_cons_zero,List.set_cons_succ]
 refine wpAnyH_take (i:=5) (v:=.agg es1.toArray) rfl (by kernel_rfl) (by kernel_rfl) (by kernel_rfl) (fun _ _ _ h=>h) (Or.inl ⟨by rfl,fun wx h=>exec_load rfl rfl (R1.out wx h)⟩) (by assumption) ?_
 try simp only [Act.put,List.getElem_toArray,List.getElem_cons_zero,List.getElem_cons_succ,List.setIfInBounds_toArray,List.set_cons_zero,List.set_cons_succ]
 refine wpAnyH_take (i:=6) (v:=.agg es2.toArray) rfl (by kernel_rfl) (by kernel_rfl) (by kernel_rfl) (fun _ _ _ h=>h) (Or.inl ⟨by rfl,fun wx h=>exec_load rfl rfl (R2.out wx h)⟩) (by assumption) ?_
 try simp only [Act.put,List.getElem_toArray,List.getElem_cons_zero,List.getElem_cons_succ,List.setIfInBounds_toArray,List.set_cons_zero,List.set_cons_succ]
 refine wpAnyH_ready (rs:=[0]) (by kernel_rfl) (by simp) ?_
 refine AllReadyH.cons rfl (fun K hK=>?_) ?_
 ·have HB0:Hid (Below w3.heap.size w3 wd1):=KB1.out _ hHeld
  go_simp
  refine r18_version.mono ?_
  rintro e z0 ⟨dv,rfl,hd,hb⟩
  refine hK.out _ _ ?_ (fun hHeld2=>?_)
  ·exact KL1.out _ _ hHeld hb
  ·clear hK K
   try clear hHeld
   have hHeld:=hHeld2
   clear hHeld2
   try simp only [Act.put,List.getElem_toArray,List.getElem_cons_zero,List.getElem_cons_succ,List.setIfInBounds_toArray,List.set_cons_zero,List.set_cons_succ]
   have hDv:Dep (fun g=>N0≤g) z0 (intT 1) dv:=hd.next (Agr.refl _ _) (fun b h _=>by have:=HB0.out.size;omega)
   clear hb hd HB0
   refine wpAnyH_ready (rs:=[1]) (by kernel_rfl) (by simp) ?_
   refine AllReadyH.cons rfl (fun K hK=>?_) ?_
   ·have HB0:Hid (Below w3.heap.size w3 z0):=KB1.out _ hHeld
    go_simp
    refine r16_Algorithm.mono ?_
    rintro e z1 ⟨da,rfl,hd,hb⟩
    refine hK.out _ _ ?_ (fun hHeld2=>?_)
    ·exact KL1.out _ _ hHeld hb
    ·clear hK K
     try clear hHeld
     have hHeld:=hHeld2
     clear hHeld2
     try simp only [Act.put,List.getElem_toArray,List.getElem_cons_zero,List.getElem_cons_succ,List.setIfInBounds_toArray,List.set_cons_zero,List.set_cons_succ]
     have hDa:Dep (fun g=>N0≤g) z1 (algT) da:=hd.next (Agr.refl _ _) (fun b h _=>by have:=HB0.out.size;omega)
     replace hDv:Dep (fun g=>N0≤g) z1 (intT 1) dv:=hDv.next (Agr.below hb) (fun _ h _=>h)
     clear hb hd HB0
     refine wpAnyH_ready (rs:=[4]) (by kernel_rfl) (by simp) ?_
     refine AllReadyH.cons rfl (fun K hK=>?_) ?_
     ·have HB0:Hid (Below w3.heap.size w3 z1):=KB1.out _ hHeld
      go_simp
      refine (k18_Element (HI.out.later (below_step HBel.out HB0.out)) HWI.out HM.out).mono ?_
      rintro e z4 ⟨de,rfl,hd,hb⟩
      refine hK.out _ _ ?_ (fun hHeld2=>?_)
      ·exact KL1.out _ _ hHeld hb
      ·clear hK K
       try clear hHeld
       have hHeld:=hHeld2
       clear hHeld2
       try simp only [Act.put,List.getElem_toArray,List.getElem_cons_zero,List.getElem_cons_succ,List.setIfInBounds_toArray,List.set_cons_zero,List.set_cons_succ]
       have hDe:Dep (fun g=>N0≤g) z4 (elemN c.issuer) de:=hd.next (Agr.refl _ _) (fun b h _=>by have:=HB0.out.size;omega)
       replace hDv:Dep (fun g=>N0≤g) z4 (intT 1) dv:=hDv.next (Agr.below hb) (fun _ h _=>h)
       replace hDa:Dep (fun g=>N0≤g) z4 (algT) da:=hDa.next (Agr.below hb) (fun _ h _=>h)
       clear hb hd HB0
       refine wpAnyH_ready (rs:=[7]) (by kernel_rfl) (by simp) ?_
       refine AllReadyH.cons rfl (fun K hK=>?_) ?_
       ·have HB0:Hid (Below w3.heap.size w3 z4):=KB1.out _ hHeld
        have hdv5:dv.length=5:=hDv.now.five
        have hda5:da.length=5:=hDa.now.five
        have hde5:de.length=5:=hDe.now.five
        rw [if_pos (by rfl)]
        refine wp_buildSlice 58 60 5 _ rfl (dv++(da++(de++(es1++(es2++[]))))).toArray jt _ Tryz.underlying58 hjt ht0 (by rw [ht1];decide) (by rw [ht1];decide) (by rw [ht1];refine (congrArg _ (?_:_=[(0,Value.agg dv.toArray),(1,.agg da.toArray),(2,.agg de.toArray),(3,.agg es1.toArray),(4,.agg es2.toArray)])).trans (fill_25d hdv5 hda5 hde5 HL1.out HL2.out);kernel_rfl) ?_
        refine hK.out _ _ ?_ (fun hHeld2=>?_)
        ·exact KA1.out _ _ hHeld
        ·clear hK K
         try clear hHeld
         have hHeld:=hHeld2
         clear hHeld2
         try simp only [Act.put,List.getElem_toArray,List.getElem_cons_zero,List.getElem_cons_succ,List.setIfInBounds_toArray,List.set_cons_zero,List.set_cons_succ]
         have hD9:RwS (fun g=>N0≤g) (z4.alloc (.cells (dv++(da++(de++(es1++(es2++[]))))).toArray 60)) (Value.slice (some ⟨z4.heap.size,0,none⟩) 5 5) [intT 1,algT,elemN c.issuer,T1,T2]:=RwS.lits (ks:=[intT 1,algT,elemN c.issuer,T1,T2]) (by simp [hdv5,hda5,hde5,HL1.out,HL2.out]) (by show 5≤maxLen;decide) (kc_c hDv hdv5 (kc_c hDa hda5 (kc_c hDe hde5 (kc_c (HD1.out.next (Agr.below HB0.out) (fun _ h _=>h)) HL1.out (kc_c (HD2.out.next (Agr.below HB0.out) (fun _ h _=>h)) HL2.out kc_n)))))
         have lg9:N0≤z4.heap.size:=Nat.le_trans hszj HB0.out.size
         obtain ⟨g9,hg9⟩:∃ g,g=z4.heap.size:=⟨_,rfl⟩
         rw [← hg9] at hD9 lg9 ⊢
         clear hg9 HB0 hDv hDa hDe
         generalize (z4.alloc (.cells (dv++(da++(de++(es1++(es2++[]))))).toArray 60))=z7 at *
         refine wpAnyH_ready (rs:=[8]) (by kernel_rfl) (by simp) ?_
         refine AllReadyH.cons rfl (fun K hK=>?_) ?_
         ·go_simp
          refine hK.out _ _ ?_ (fun hHeld2=>?_)
          ·exact hHeld
          ·clear hK K
           try clear hHeld
           have hHeld:=hHeld2
           clear hHeld2
           try simp only [Act.put,List.getElem_toArray,List.getElem_cons_zero,List.getElem_cons_succ,List.setIfInBounds_toArray,List.set_cons_zero,List.set_cons_succ]
           refine wpAnyH_done (by kernel_rfl) ?_ _
           refine NoPanic.normal ?_
           have st:=KB1.out _ hHeld
           have B0:=HBB.out.later st
           have bel:=below_step HBel.out st
           have hs:N0≤z7.heap.size:=Nat.le_trans hszj st.size
           clear st hHeld ra rl R1 R2
           have l9:=hD9.lt (b:=g9) rfl
           obtain ⟨N1,hN1⟩:∃ n,n=z7.heap.size:=⟨_,rfl⟩
           have HD9:Hid (RwS (fun b=>N0≤b∧b < N1) z7 (Value.slice (some ⟨g9,0,none⟩) 5 5) [intT 1,algT,elemN c.issuer,T1,T2]):=hD9.mono (fun b h hl=>⟨h,by omega⟩)
           have lg9:g9 < N1:=by omega
           have hs1:N1≤z7.heap.size:=by omega
           have h01:N0≤N1:=by omega
           clear hN1 hD9 l9 hs
           go_wp2_with fail
           go_loopw [10,11] (fun gvv iv wx=>∃ (i:Nat) (ka:Option Addr) (kc:Nat),i≤GL∧gvv=.slice ka i kc∧iv=.int .i64 (i:Int)∧Hid (RwT wx N1 (.slice ka i kc) ((c.gone.take i).map gonD))∧Hid (∀ g∈c.gone.take i,∃ T,goneO g=some T)∧Hid (RwS (fun b=>N0≤b∧b < N1) wx (Value.slice (some ⟨g9,0,none⟩) 5 5) [intT 1,algT,elemN c.issuer,T1,T2])∧Blk wx w.heap.size cs∧Below w.heap.size w wx∧N1≤wx.heap.size) (fun _ iv _=>GL - (intOf iv).toNat)
           case atStart=>exact ⟨0,none,0,by omega,rfl,rfl,by rw [List.take_zero,List.map_nil];exact RwT.nil0 _ _,fun l hl=>by simp at hl,HD9,B0,bel,hs1⟩
           case round =>
            clear HD9 B0 bel hs1
            obtain ⟨i,ka,kc,hi,rfl,rfl,HR,HA,HD9,B0,bel,hs1⟩:=hrel
            have h8:=HK64.out
            have HLi:Hid (((c.gone.take i).map gonD).length=i):=by show _=_;rw [List.length_map,List.length_take,HGL.out];omega
            have e3:=B0.cell 3 _ HQ3.out
            have l0:=B0.lt
            by_cases hil:i < GL
            rotate_left
            ·obtain rfl:i=GL:=by omega
             have g1:¬ (i:Int) < (i:Int):=by omega
             have H:Hid (MayR8 c):=⟨HM.out,⟨T1,HX1.out⟩,⟨T2,HX2.out⟩,by rw [HGL.out];exact h8,by have h:=HA.out;rw [List.take_of_length_le (by rw [HGL.out];omega)] at h;exact h⟩
             by_cases k0:i=0
             ·have HDl:Hid (Dep (fun b=>N0≤b) wr (listT [intT 1,algT,elemN c.issuer,T1,T2]) [.int .i64 0,.int .i64 16,.bool true,.slice none 0 0,.slice (some ⟨g9,0,none⟩) 5 5]):=HD9.out.dep 0 16 true (fun b h=>h.1) (fun g hg=>by simp only [Value.ownBlock,Option.some.injEq] at hg;omega)
              have d0:¬ (0:Int) < (i:Int):=by omega
              clear g1 HD9 HR HA
              go_wp2_with fail
              clear e3 l0
              refine r16_List.mono ?_
              rintro e wl ⟨rfl,hb⟩
              have HTl:Hid (TlAt wl (listT [intT 1,algT,elemN c.issuer,T1,T2]) [.int .i64 0,.int .i64 16,.bool true,.slice none 0 0,.slice (some ⟨g9,0,none⟩) 5 5]):=(HDl.out.next (S':=(fun b=>N0≤b)) (Agr.below hb) (fun _ h _=>h)).now
              replace bel:=below_step bel hb
              clear hb
              have HEq:Hid (crBody c=listT [intT 1,algT,elemN c.issuer,T1,T2]):=by show _=_;unfold crBody goneL;rw [if_neg (by rw [HGL.out];omega),HX1.out,HX2.out];rfl
              have HZ:Hid (Sm 6000 (crBody c)):=sm_crBody H.out
              have HW0:Hid (wrN (crBody c)=0):=wr_crBody H.out
              rw [HEq.out] at HZ HW0
              go_wp2_with fail
              refine (r12_Write (by have:=HZ.out.2;omega) (fun _=>by have:=HZ.out.1;omega) HTl.out).mono ?_
              rintro e wz ⟨v9,rfl,hw,-,hb⟩
              have own9:=hw HW0.out
              have HBz:Hid (Bs wz v9 (bytesT (crBody c))):=by rw [HEq.out];exact Bs.of_own own9
              replace bel:=below_step bel hb
              rw [HW0.out]
              clear hb hw own9 HTl HZ
              obtain ⟨va,vc,hve,-,-,-⟩:=id HBz.out
              obtain ⟨VL,hVL⟩:∃ z,(bytesT (crBody c)).length=z:=⟨_,rfl⟩
              rw [hVL] at hve
              subst hve
              clear hVL
              go_wp2_with fail
              refine bodyPost_ret (results_tmp2 rfl _ _ _) rfl ?_
              exact BodyD8.yes H.out HBz.out bel
             have d0:(0:Int) < (i:Int):=by omega
             have HKi:Hid (¬ i=0):=k0
             clear k0
             have HDg:Hid (Dep (fun b=>N1≤b) wr (listT (c.gone.map gonD)) [.int .i64 0,.int .i64 16,.bool true,.slice none 0 0,.slice ka i kc]):=by
              have h:=HR.out.dep 0 16 true
              rw [List.take_of_length_le (by rw [HGL.out];omega)] at h
              exact h
             clear g1 HA
             go_wp2_with fail
             clear e3 l0
             refine k16_ListL.mono ?_
             rintro e w5 ⟨cs5,rfl,hc5,hb⟩
             have HD5:Hid (Dep (fun b=>N1≤b) w5 (listT (c.gone.map gonD)) cs5):=by rw [hc5.out];exact HDg.out.next (Agr.below hb) (fun _ h _=>h)
             have HL5:Hid (cs5.length=5):=by rw [hc5.out];rfl
             have HO5:Hid (OneC cs5):=HD5.out.now.ones
             replace HD9:Hid (RwS (fun b=>N0≤b∧b < N1) w5 (Value.slice (some ⟨g9,0,none⟩) 5 5) [intT 1,algT,elemN c.issuer,T1,T2]):=HD9.out.later hb
             replace bel:=below_step bel hb
             replace hs1:N1≤w5.heap.size:=Nat.le_trans hs1 hb.size
             clear hb hc5 HDg HR B0
             have HF5:Hid _:=fill_5 HL5.out
             have hz:=zero_tlv.out
             have hbx:Below w5.heap.size w5 (w5.alloc (.cells cs5.toArray 60)):=(Below.refl _ _).alloc (Nat.le_refl _) _
             have B5:=Blk.new w5 cs5 60 w5.heap.size rfl
             replace HD5:Hid (Dep (fun b=>N1≤b) (w5.alloc (.cells cs5.toArray 60)) (listT (c.gone.map gonD)) cs5):=HD5.out.next (Agr.below hbx) (fun _ h _=>h)
             have HD9x:Hid (RwS (fun b=>N0≤b) (w5.alloc (.cells cs5.toArray 60)) (Value.slice (some ⟨g9,0,none⟩) 5 5) [intT 1,algT,elemN c.issuer,T1,T2]):=(HD9.out.later hbx).mono (fun b h _=>h.1)
             replace bel:=below_step bel hbx
             replace hs1:N1≤(w5.alloc (.cells cs5.toArray 60)).heap.size:=Nat.le_trans hs1 hbx.size
             clear hbx HD9
             go_wp2_with (first|((with_reducible show wpList _ _ _ ({ dst:=_,op:=.buildSlice _ _ _,type:=_,pos:=_,after:=_,guard:=_ } :: _) _ _);refine Go.wpList_buildSlice rfl 58 60 1 _ rfl cs5.toArray jt _ Tryz.underlying58 hjt ht0 (by rw [ht1];decide) (by rw [ht1];decide) (by rw [ht1];refine (congrArg _ (?_:_=[(0,Value.agg cs5.toArray)])).trans HF5.out;kernel_rfl) ?_)|(at_builtin;refine wpList_append_rws (by rfl) _ _ (by rfl) (fun b=>N0≤b) (Value.slice (some ⟨g9,0,none⟩) 5 5) [intT 1,algT,elemN c.issuer,T1,T2] (by rfl) HD9x.out w5.heap.size (by rfl) cs5 B5 HL5.out HO5.out (listT (c.gone.map gonD)) (HD5.out.next (Agr.refl _ _) (fun b h9 _=>⟨by show N0≤b;omega,fun e9=>by simp only [Value.ownBlock,Option.some.injEq] at e9;omega⟩)) (by show 5≤1000000;omega) ?_;intro kv9 w9 hr9 hgrow9 hat9;obtain ⟨ka9,kc9,hkv9⟩:=hr9.sl;replace hkv9:kv9=Value.slice ka9 6 kc9:=hkv9;subst hkv9)|fail)
             have hzb:=bel.size
             replace bel:=Below.grown bel hgrow9 hzb (fun k hk=>by simp only [Value.ownBlock,Option.some.injEq] at hk;omega)
             have HDl:Hid (Dep (fun b=>N0≤b) w9 (listT ([intT 1,algT,elemN c.issuer,T1,T2]++[listT (c.gone.map gonD)])) [.int .i64 0,.int .i64 16,.bool true,.slice none 0 0,.slice ka9 6 kc9]):=hr9.dep 0 16 true (fun b h=>h) (fun g hg=>by
              rcases hat9 with h|h
              ·rw [h] at hg
               simp only [Value.ownBlock,Option.some.injEq] at hg
               omega
              ·rw [h] at hg
               simp only [Option.some.injEq] at hg
               omega)
             clear hgrow9 hat9 hr9 HD5 HD9x B5 HF5 hz hzb
             go_wp2_with fail
             refine r16_List.mono ?_
             rintro e wl ⟨rfl,hb⟩
             have HTl:Hid (TlAt wl (listT ([intT 1,algT,elemN c.issuer,T1,T2]++[listT (c.gone.map gonD)])) [.int .i64 0,.int .i64 16,.bool true,.slice none 0 0,.slice ka9 6 kc9]):=(HDl.out.next (S':=(fun b=>N0≤b)) (Agr.below hb) (fun _ h _=>h)).now
             replace bel:=below_step bel hb
             clear hb
             have HEq:Hid (crBody c=listT ([intT 1,algT,elemN c.issuer,T1,T2]++[listT (c.gone.map gonD)])):=by show _=_;unfold crBody goneL;rw [if_pos (by rw [HGL.out];omega),HX1.out,HX2.out];rfl
             have HZ:Hid (Sm 6000 (crBody c)):=sm_crBody H.out
             have HW0:Hid (wrN (crBody c)=0):=wr_crBody H.out
             rw [HEq.out] at HZ HW0
             go_wp2_with fail
             refine (r12_Write (by have:=HZ.out.2;omega) (fun _=>by have:=HZ.out.1;omega) HTl.out).mono ?_
             rintro e wz ⟨v9,rfl,hw,-,hb⟩
             have own9:=hw HW0.out
             have HBz:Hid (Bs wz v9 (bytesT (crBody c))):=by rw [HEq.out];exact Bs.of_own own9
             replace bel:=below_step bel hb
             rw [HW0.out]
             clear hb hw own9 HTl HZ
             obtain ⟨va,vc,hve,-,-,-⟩:=id HBz.out
             obtain ⟨VL,hVL⟩:∃ z,(bytesT (crBody c)).length=z:=⟨_,rfl⟩
             rw [hVL] at hve
             subst hve
             clear hVL
             go_wp2_with fail
             refine bodyPost_ret (results_tmp2 rfl _ _ _) rfl ?_
             exact BodyD8.yes H.out HBz.out bel
            obtain ⟨x,hx⟩:∃ x,c.gone[i]?=some x:=⟨_,List.getElem?_eq_getElem (by rw [HGL.out];exact hil)⟩
            obtain ⟨ub,uo,hua,ult,ucl⟩:=HVc.out (by omega)
            subst hua
            have HX:Hid (c.gone[i]?=some x):=hx
            have HXw:Hid _:=HWG.out x (List.mem_of_getElem? hx)
            obtain ⟨y,c0,c1,c2⟩:=ucl i x hx
            have HUs:Hid (Bs w y x.1):=c1
            have HC0:Hid (w.cell? ⟨ub,uo + i * 2,none⟩=some y):=c0
            have HC2:Hid (w.cell? ⟨ub,uo + i * 2 + 1,none⟩=some (.int .i64 x.2)):=c2
            obtain ⟨ns,ta⟩:=x
            simp only at HUs HXw HC2
            obtain ⟨ya,yc,hye,-,-,-⟩:=id HUs.out
            obtain ⟨YL,hYL⟩:∃ z,ns.length=z:=⟨_,rfl⟩
            rw [hYL] at hye
            subst hye
            have HUlt:Hid (ub < w.heap.size):=ult
            clear hx ucl hYL c0 c1 c2 ult
            have x0:=cell_later HC0.out bel
            have ly:ub < wr.heap.size:=Nat.lt_of_lt_of_le HUlt.out bel.size
            have g1:(i:Int) < (GL:Int):=by omega
            have g2:(0:Int)≤(i:Int):=by omega
            have gi:IntKind.i64.wrap ((i:Int) + 1)=(i:Int) + 1:=by rw [IntKind.wrap_i64];omega
            obtain ⟨M,hM⟩:∃ n,n=wr.heap.size:=⟨_,rfl⟩
            have HM9:Hid (∀ b,(Value.slice ka i kc).ownBlock=some b→N1≤b∧b < M):=fun b h9=>by rw [hM];exact HR.out.ltE h9
            have hNM:N1≤M:=by omega
            have HMr:Hid (M≤wr.heap.size):=by show _≤_;omega
            clear hM
            go_wp2_with fail
            refine (k18_Serial (HUs.out.later bel) HXw.out.1).mono ?_
            rintro e w2 ⟨es,bs,rfl,hl5,ho5,hyes,hno,hb⟩
            clear x0 ly e3 l0
            replace B0:=B0.later hb
            replace HR:Hid (RwT w2 N1 (.slice ka i kc) ((c.gone.take i).map gonD)):=HR.out.later hb
            replace HD9:Hid (RwS (fun b=>N0≤b∧b < N1) w2 (Value.slice (some ⟨g9,0,none⟩) 5 5) [intT 1,algT,elemN c.issuer,T1,T2]):=HD9.out.later hb
            replace bel:=below_step bel hb
            have hs2:M≤w2.heap.size:=Nat.le_trans HMr.out hb.size
            have HLe:Hid (es.length=5):=hl5
            have HOe:Hid (OneC es):=ho5
            have HTe:Hid (bs=true→∃ T,serT ns=some T∧Dep (fun b=>M≤b) w2 T es):=fun h9=>by obtain ⟨T,h1,h2⟩:=hyes h9;exact ⟨T,h1,h2.next (Agr.refl _ _) (fun _ h _=>Nat.le_trans HMr.out h)⟩
            have HNe:Hid (bs=false→serT ns=none):=hno
            clear hl5 ho5 hyes hno hb
            have HS5:Hid (es.toArray.size=5):=by show _=_;rw [List.size_toArray];exact HLe.out
            have hz:=zero_tlv.out
            have hbx:Below w2.heap.size w2 (w2.alloc (.cells es.toArray 60)):=(Below.refl _ _).alloc (Nat.le_refl _) _
            replace B0:=B0.later hbx
            replace HR:Hid (RwT (w2.alloc (.cells es.toArray 60)) N1 (.slice ka i kc) ((c.gone.take i).map gonD)):=HR.out.later hbx
            replace HD9:Hid (RwS (fun b=>N0≤b∧b < N1) (w2.alloc (.cells es.toArray 60)) (Value.slice (some ⟨g9,0,none⟩) 5 5) [intT 1,algT,elemN c.issuer,T1,T2]):=HD9.out.later hbx
            replace HTe:Hid (bs=true→∃ T,serT ns=some T∧Dep (fun b=>M≤b) (w2.alloc (.cells es.toArray 60)) T es):=fun h9=>by obtain ⟨T,h1,h2⟩:=HTe.out h9;exact ⟨T,h1,h2.next (Agr.below hbx) (fun _ h _=>h)⟩
            replace hs2:M≤(w2.alloc (.cells es.toArray 60)).heap.size:=Nat.le_trans hs2 hbx.size
            replace bel:=below_step bel hbx
            have Qe:=Blk.new w2 es 60 w2.heap.size rfl
            go_upto_region 12 with (first|((with_reducible show wpList _ _ _ ({ dst:=_,op:=.store _ _ _,type:=_,pos:=_,after:=_,guard:=_ } :: _) _ _);refine wpList_store_row rfl 60 _ _ rfl w2.heap.size es.toArray rfl rfl 60 _ (heap_alloc_last _ _) (by rw [size_tlv,HS5.out]) (by rw [HS5.out];rfl) HOe.out ?_;rw [World.setRow_alloc_new])|fail)
            clear hz HS5 hbx
            obtain ⟨ge,hge⟩:∃ g,g=w2.heap.size:=⟨_,rfl⟩
            rw [← hge] at Qe ⊢
            generalize (w2.alloc (.cells es.toArray 60))=V2 at *
            clear hge

            have e3:=B0.cell 3 _ HQ3.out
            have l0:=B0.lt
            have x1:=cell_later HC2.out bel
            have ly:ub < V2.heap.size:=Nat.lt_of_lt_of_le HUlt.out bel.size
            go_wp2_with fail
            refine (k18_Time rfl HXw.out.2).mono ?_
            rintro e w4 ⟨fs,bt,rfl,hl5,ho5,hyes,hno,hb⟩
            clear x1 ly e3 l0
            replace B0:=B0.later hb
            replace HR:Hid (RwT w4 N1 (.slice ka i kc) ((c.gone.take i).map gonD)):=HR.out.later hb
            replace HD9:Hid (RwS (fun b=>N0≤b∧b < N1) w4 (Value.slice (some ⟨g9,0,none⟩) 5 5) [intT 1,algT,elemN c.issuer,T1,T2]):=HD9.out.later hb
            replace bel:=below_step bel hb
            replace Qe:=Qe.later hb
            replace HTe:Hid (bs=true→∃ T,serT ns=some T∧Dep (fun b=>M≤b) w4 T es):=fun h9=>by obtain ⟨T,h1,h2⟩:=HTe.out h9;exact ⟨T,h1,h2.next (Agr.below hb) (fun _ h _=>h)⟩
            have HLf:Hid (fs.length=5):=hl5
            have HOf:Hid (OneC fs):=ho5
            have HTf:Hid (bt=true→∃ T,timT ta=some T∧Dep (fun b=>M≤b) w4 T fs):=fun h9=>by obtain ⟨T,h1,h2⟩:=hyes h9;exact ⟨T,h1,h2.next (Agr.refl _ _) (fun _ h _=>Nat.le_trans hs2 h)⟩
            have HNf:Hid (bt=false→timT ta=none):=hno
            replace hs2:M≤w4.heap.size:=Nat.le_trans hs2 hb.size
            clear hl5 ho5 hyes hno hb
            have HS5:Hid (fs.toArray.size=5):=by show _=_;rw [List.size_toArray];exact HLf.out
            have hz:=zero_tlv.out
            have hbx:Below w4.heap.size w4 (w4.alloc (.cells fs.toArray 60)):=(Below.refl _ _).alloc (Nat.le_refl _) _
            replace B0:=B0.later hbx
            replace Qe:=Qe.later hbx
            replace HR:Hid (RwT (w4.alloc (.cells fs.toArray 60)) N1 (.slice ka i kc) ((c.gone.take i).map gonD)):=HR.out.later hbx
            replace HD9:Hid (RwS (fun b=>N0≤b∧b < N1) (w4.alloc (.cells fs.toArray 60)) (Value.slice (some ⟨g9,0,none⟩) 5 5) [intT 1,algT,elemN c.issuer,T1,T2]):=HD9.out.later hbx
            replace HTe:Hid (bs=true→∃ T,serT ns=some T∧Dep (fun b=>M≤b) (w4.alloc (.cells fs.toArray 60)) T es):=fun h9=>by obtain ⟨T,h1,h2⟩:=HTe.out h9;exact ⟨T,h1,h2.next (Agr.below hbx) (fun _ h _=>h)⟩
            replace HTf:Hid (bt=true→∃ T,timT ta=some T∧Dep (fun b=>M≤b) (w4.alloc (.cells fs.toArray 60)) T fs):=fun h9=>by obtain ⟨T,h1,h2⟩:=HTf.out h9;exact ⟨T,h1,h2.next (Agr.below hbx) (fun _ h _=>h)⟩
            replace hs2:M≤(w4.alloc (.cells fs.toArray 60)).heap.size:=Nat.le_trans hs2 hbx.size
            replace bel:=below_step bel hbx
            have Qf:=Blk.new w4 fs 60 w4.heap.size rfl
            go_upto_region 13 with (first|((with_reducible show wpList _ _ _ ({ dst:=_,op:=.store _ _ _,type:=_,pos:=_,after:=_,guard:=_ } :: _) _ _);refine wpList_store_row rfl 60 _ _ rfl w4.heap.size fs.toArray rfl rfl 60 _ (heap_alloc_last _ _) (by rw [size_tlv,HS5.out]) (by rw [HS5.out];rfl) HOf.out ?_;rw [World.setRow_alloc_new])|fail)
            clear hz HS5 hbx
            obtain ⟨gf,hgf⟩:∃ g,g=w4.heap.size:=⟨_,rfl⟩
            rw [← hgf] at Qf ⊢
            generalize (w4.alloc (.cells fs.toArray 60))=V4 at *
            clear hgf

            cases bs with
            | false =>
             have H:Hid (¬ MayR8 c):=fun h=>by obtain ⟨T,h2⟩:=h.2.2.2.2 (ns,ta) (List.mem_of_getElem? HX.out);rw [goneO_no (Or.inl (HNe.out rfl))] at h2;cases h2
             go_wp2_with fail
             refine bodyPost_ret (results_tmp2 rfl _ _ _) rfl ?_
             exact BodyD8.no H.out bel
            | true =>
            cases bt with
            | false =>
             have H:Hid (¬ MayR8 c):=fun h=>by obtain ⟨T,h2⟩:=h.2.2.2.2 (ns,ta) (List.mem_of_getElem? HX.out);rw [goneO_no (Or.inr (HNf.out rfl))] at h2;cases h2
             go_wp2_with fail
             refine bodyPost_ret (results_tmp2 rfl _ _ _) rfl ?_
             exact BodyD8.no H.out bel
            | true =>
            obtain ⟨T3,hT3,hd3⟩:=HTe.out rfl
            obtain ⟨T4,hT4,hd4⟩:=HTf.out rfl
            have HS1:Hid (serT ns=some T3):=hT3
            have HS2:Hid (timT ta=some T4):=hT4
            have HG9:Hid (gonD (ns,ta)=listT [T3,T4]):=gonD_is hT3 hT4
            have HD3:Hid (Dep (fun b=>M≤b) (V4.alloc (.cells (es++fs).toArray 60)) (gonD (ns,ta)) [.int .i64 0,.int .i64 16,.bool true,.slice none 0 0,.slice (some ⟨V4.heap.size,0,none⟩) 2 2]):=by rw [HG9.out];exact list_dep (ks:=[T3,T4]) (by rw [List.length_append,HLe.out,HLf.out];rfl) hs2 (by show 2≤maxLen;decide) (two_kids (P:=Dep (fun b=>M≤b) V4) hd3 hd4 HLe.out HLf.out) 0 16 true
            clear HTe HTf HNe HNf hT3 hT4 hd3 hd4
            have hlde:(loadVar 60 ⟨ge,0,none⟩).run Tryz.prog V4=.ok (.agg es.toArray) V4:=Qe.load Tryz.underlying60 rfl size_tlv HLe.out
            have hldf:(loadVar 60 ⟨gf,0,none⟩).run Tryz.prog V4=.ok (.agg fs.toArray) V4:=Qf.load Tryz.underlying60 rfl size_tlv HLf.out
            have le:=Qe.lt
            have lf:=Qf.lt
            have HF10:Hid _:=fill_10 HLe.out HLf.out
            have hz:=zero_tlv.out
            have hbx:Below V4.heap.size V4 (V4.alloc (.cells (es++fs).toArray 60)):=(Below.refl _ _).alloc (Nat.le_refl _) _
            replace B0:=B0.later hbx
            replace HR:Hid (RwT (V4.alloc (.cells (es++fs).toArray 60)) N1 (.slice ka i kc) ((c.gone.take i).map gonD)):=HR.out.later hbx
            replace HD9:Hid (RwS (fun b=>N0≤b∧b < N1) (V4.alloc (.cells (es++fs).toArray 60)) (Value.slice (some ⟨g9,0,none⟩) 5 5) [intT 1,algT,elemN c.issuer,T1,T2]):=HD9.out.later hbx
            replace bel:=below_step bel hbx
            replace hs2:M≤(V4.alloc (.cells (es++fs).toArray 60)).heap.size:=Nat.le_trans hs2 hbx.size
            clear hbx
            go_wp2_with (first|((with_reducible show wpList _ _ _ ({ dst:=_,op:=.load _ _,type:=_,pos:=_,after:=_,guard:=_ } :: _) _ _);refine wpList_load_run (by rfl) (by rfl) (by rfl) hlde ?_)|((with_reducible show wpList _ _ _ ({ dst:=_,op:=.load _ _,type:=_,pos:=_,after:=_,guard:=_ } :: _) _ _);refine wpList_load_run (by rfl) (by rfl) (by rfl) hldf ?_)|((with_reducible show wpList _ _ _ ({ dst:=_,op:=.buildSlice _ _ _,type:=_,pos:=_,after:=_,guard:=_ } :: _) _ _);refine Go.wpList_buildSlice rfl 58 60 2 _ rfl (es++fs).toArray jt _ Tryz.underlying58 hjt ht0 (by rw [ht1];decide) (by rw [ht1];decide) (by rw [ht1];refine (congrArg _ (?_:_=[(0,Value.agg es.toArray),(1,Value.agg fs.toArray)])).trans HF10.out;kernel_rfl) ?_)|fail)
            clear hlde hldf le lf HF10 hz Qe Qf
            obtain ⟨g3,hg3⟩:∃ g,g=V4.heap.size:=⟨_,rfl⟩
            rw [← hg3] at HD3 ⊢
            generalize (V4.alloc (.cells (es++fs).toArray 60))=V5 at *
            clear hg3
            refine k16_ListL.mono ?_
            rintro e w6 ⟨cs5,rfl,hc5,hb⟩
            have HD5:Hid (Dep (fun b=>M≤b) w6 (gonD (ns,ta)) cs5):=by rw [hc5.out];exact HD3.out.next (Agr.below hb) (fun _ h _=>h)
            have HL5:Hid (cs5.length=5):=by rw [hc5.out];rfl
            have HO5:Hid (OneC cs5):=HD5.out.now.ones
            replace B0:=B0.later hb
            replace HR:Hid (RwT w6 N1 (.slice ka i kc) ((c.gone.take i).map gonD)):=HR.out.later hb
            replace HD9:Hid (RwS (fun b=>N0≤b∧b < N1) w6 (Value.slice (some ⟨g9,0,none⟩) 5 5) [intT 1,algT,elemN c.issuer,T1,T2]):=HD9.out.later hb
            replace bel:=below_step bel hb
            replace hs2:M≤w6.heap.size:=Nat.le_trans hs2 hb.size
            clear hb hc5 HD3
            have HF5:Hid _:=fill_5 HL5.out
            have hz:=zero_tlv.out
            have hbx:Below w6.heap.size w6 (w6.alloc (.cells cs5.toArray 60)):=(Below.refl _ _).alloc (Nat.le_refl _) _
            have B5:=Blk.new w6 cs5 60 w6.heap.size rfl
            replace HD5:Hid (Dep (fun b=>M≤b) (w6.alloc (.cells cs5.toArray 60)) (gonD (ns,ta)) cs5):=HD5.out.next (Agr.below hbx) (fun _ h _=>h)
            replace B0:=B0.later hbx
            replace HR:Hid (RwT (w6.alloc (.cells cs5.toArray 60)) N1 (.slice ka i kc) ((c.gone.take i).map gonD)):=HR.out.later hbx
            replace HD9:Hid (RwS (fun b=>N0≤b∧b < N1) (w6.alloc (.cells cs5.toArray 60)) (Value.slice (some ⟨g9,0,none⟩) 5 5) [intT 1,algT,elemN c.issuer,T1,T2]):=HD9.out.later hbx
            replace bel:=below_step bel hbx
            replace hs2:M≤(w6.alloc (.cells cs5.toArray 60)).heap.size:=Nat.le_trans hs2 hbx.size
            clear hbx
            go_wp2_with (first|((with_reducible show wpList _ _ _ ({ dst:=_,op:=.buildSlice _ _ _,type:=_,pos:=_,after:=_,guard:=_ } :: _) _ _);refine Go.wpList_buildSlice rfl 58 60 1 _ rfl cs5.toArray jt _ Tryz.underlying58 hjt ht0 (by rw [ht1];decide) (by rw [ht1];decide) (by rw [ht1];refine (congrArg _ (?_:_=[(0,Value.agg cs5.toArray)])).trans HF5.out;kernel_rfl) ?_)|(at_builtin;refine wpList_append_tlv (by rfl) _ _ (by rfl) N1 (.slice ka i kc) ((c.gone.take i).map gonD) (by rfl) HR.out w6.heap.size (by rfl) cs5 B5 HL5.out HO5.out (gonD (ns,ta)) (HD5.out.next (Agr.refl _ _) (fun b h9 _=>⟨by omega,fun e9=>by have:=(HM9.out b e9).2;omega⟩)) (by rw [HLi.out];omega) (by omega) ?_;intro kv9 w9 hr9 hgrow9 hge9 hat9;obtain ⟨ka9,kc9,hkv9⟩:=hr9.sl;have HK9:(((c.gone.take i).map gonD)++[gonD (ns,ta)]).length=i + 1:=(by rw [List.length_append,HLi.out];rfl);rw [HK9] at hkv9;subst hkv9;clear HK9)|fail)

            have hzb:=bel.size
            replace B0:=B0.grown hgrow9 (fun k hk e=>by have:=hge9 k hk;omega)
            replace bel:=Below.grown bel hgrow9 hzb (fun k hk=>by have:=hge9 k hk;omega)
            replace HD9:Hid (RwS (fun b=>N0≤b∧b < N1) w9 (Value.slice (some ⟨g9,0,none⟩) 5 5) [intT 1,algT,elemN c.issuer,T1,T2]):=HD9.out.grown hgrow9 (fun k hk=>⟨fun h=>by have:=hge9 k hk;omega,fun e=>by simp only [Value.ownBlock,Option.some.injEq] at e;have:=hge9 k hk;omega⟩)
            have hs9:N1≤w9.heap.size:=Nat.le_trans (by omega) hgrow9.size
            have HNx:Hid (RwT w9 N1 (.slice ka9 (i + 1) kc9) ((c.gone.take (i + 1)).map gonD)):=by
             have h:=hr9
             rw [← map_next (f:=gonD) HX.out] at h
             exact h
            have HAn:Hid (∀ g∈c.gone.take (i + 1),∃ T,goneO g=some T):=take_mem HA.out HX.out ⟨_,goneO_yes HS1.out HS2.out⟩
            clear hgrow9 hge9 hat9 hr9 HR HA HD5 B5 HF5 hz hzb
            go_roundw
            case rel=>exact ⟨i + 1,ka9,kc9,by omega,by go_num,by go_num,HNx,HAn,HD9,B0,bel,hs9⟩
            case measure=>simp [intOf];omega
         exact AllReadyH.nil
       exact AllReadyH.nil
     exact AllReadyH.nil
   exact AllReadyH.nil
 exact AllReadyH.nil
end Go.Proofs.YtkgjlcdefnpkpaaGreatDoor
