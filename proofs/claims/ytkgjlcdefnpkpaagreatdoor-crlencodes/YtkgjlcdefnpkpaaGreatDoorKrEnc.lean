/- Encode: what the program answers. -/
import Derived.Test.YtkgjlcdefnpkpaaGreatDoorCtSig
import Derived.Test.YtkgjlcdefnpkpaaGreatDoorKrEl
import Derived.Test.YtkgjlcdefnpkpaaGreatDoorClWr
import Derived.Test.YtkgjlcdefnpkpaaGreatDoorDcG3
import Derived.Test.YtkgjlcdefnpkpaaGreatDoorEdEncode
import Derived.Test.YtkgjlcdefnpkpaaGreatDoorEdDecG
import Derived.Test.YtkgjlcdefnpkpaaGreatDoorNlSG
import Derived.Test.YtkgjlcdefnpkpaaGreatDoorDrTG
import Derived.Test.YtkgjlcdefnpkpaaGreatDoorDrDG
import Derived.Test.YtkgjlcdefnpkpaaGreatDoorCtRG
import Derived.Test.YtkgjlcdefnpkpaaGreatDoorRows
import Derived.Deep.OwnRows
import Derived.Deep.AppendLies
import Derived.Great.BuildSlice
import Derived.Laws.Rows
import Derived.BigQuiet
import Derived.Deep.WholeRow
import Derived.Deep.RegionHeld3
import Derived.Deep.DeepCutAuto
import Derived.Deep.DeepFit
namespace Go.Proofs.YtkgjlcdefnpkpaaGreatDoor
open Go.RowKit
set_option linter.unusedSimpArgs false in
set_option maxRecDepth 100000 in
set_option maxHeartbeats 4000000 in
theorem con_KEncode {v:Value} {B:List Int} {rs ss:List Value} {r s:Int} {w:World} (G:GlsO w) (hv:Bs w v B) (b:byt B) (hr:U6 rs r) (hs:U6 ss s) :
  Calls Tryz.prog 13 #[v,.agg (rs++ss).toArray] w (EncCR w B r s):=by
 have HG:Hid (GlsO w):=G
 have HY:Hid (byt B):=b
 have HV:Hid (Bs w v B):=hv
 have HR:Hid (U6 rs r):=hr
 have HS:Hid (U6 ss s):=hs
 obtain ⟨ts,hts⟩:∃ ts,rs++ss=ts:=⟨_,rfl⟩
 have HT:Hid (rs++ss=ts):=hts
 have HLt:Hid (ts.length=12):=by show _=_;rw [← hts,List.length_append,hr.len,hs.len]
 obtain ⟨ao,cap,rfl,h1,h2,h3⟩:=hv
 rw [hts]
 clear G b h1 h2 h3 hr hs hts
 have B0:=Blk.new w ts 30 w.heap.size rfl
 have bel:Below w.heap.size w (w.alloc (.cells ts.toArray 30)):=(Below.refl _ _).alloc (Nat.le_refl _) _
 go_enter Tryz.func13,Tryz.ntmps13
 go_upto_region 1 with fail
 generalize w.alloc (.cells ts.toArray 30)=W at *
 go_wp2_with fail
 refine (con_Parse (HV.out.later bel) HY.out).mono ?_
 rintro e w1 ⟨hok,hbad⟩
 cases hp:parseP B with
 | error q =>
  obtain ⟨c,p⟩:=q
  obtain ⟨cs,er,rfl,htl,her,hfr,hb⟩:=hbad c p hp
  have HP:Hid (parseP B=.error (c,p)):=hp
  have HL5:Hid (cs.length=5):=htl.five
  have HO5:Hid (OneC cs):=htl.ones
  clear hok hbad hp B0
  replace bel:=below_alloc (o:=.cells cs.toArray 60) (below_step bel hb)
  have HEr:Hid (ErAt (w1.alloc (.cells cs.toArray 60)) c p er):=her.later ((Below.refl _ _).alloc (Nat.le_refl _) _)
  have q3:=her.ne
  clear her htl hb hfr
  obtain ⟨ty,pv,hev⟩:∃ ty pv,er=.iface ty pv:=by rcases HEr.out with ⟨_,h⟩|⟨_,g,h,_⟩;exact ⟨_,_,h⟩;exact ⟨_,_,h⟩
  subst hev
  have HS5:Hid (cs.toArray.size=5):=by show _=_;rw [List.size_toArray];exact HL5.out
  have hz:=zero_tlv.out
  go_wp2_with (first|((with_reducible show wpList _ _ _ ({ dst:=_,op:=.store _ _ _,type:=_,pos:=_,after:=_,guard:=_ } :: _) _ _);refine wpList_store_row rfl 60 _ _ rfl w1.heap.size cs.toArray rfl rfl 60 _ (heap_alloc_last _ _) (by rw [size_tlv,HS5.out]) (by rw [HS5.out];rfl) HO5.out ?_;rw [World.setRow_alloc_new])|fail)
  refine bodyPost_ret (results_tmp2 rfl _ _ _) rfl ?_
  exact EncCR.bad HP.out HEr.out bel
 | ok T =>
  obtain ⟨cs,rfl,hd,hb⟩:=hok T hp
  have H:Hid (parseP B=.ok T):=hp
  obtain ⟨N0,hN0⟩:∃ n,n=W.heap.size:=⟨_,rfl⟩
  have HL5:Hid (cs.length=5):=hd.now.five
  have HO5:Hid (OneC cs):=hd.now.ones
  have hb1:Below w1.heap.size w1 (w1.alloc (.cells cs.toArray 60)):=(Below.refl _ _).alloc (Nat.le_refl _) _
  have HD1:Hid (Dep (fun g=>N0≤g) (w1.alloc (.cells cs.toArray 60)) T cs):=by rw [hN0];exact hd.next (Agr.below hb1) (fun _ h _=>h)
  have hs:N0≤(w1.alloc (.cells cs.toArray 60)).heap.size:=by rw [hN0];exact Nat.le_trans hb.size hb1.size
  replace B0:=(B0.later hb).later hb1
  replace bel:=below_step (below_step bel hb) hb1
  clear hok hbad hp hd hb hb1 hN0
  have B1:=Blk.new w1 cs 60 w1.heap.size rfl
  have HS5:Hid (cs.toArray.size=5):=by show _=_;rw [List.size_toArray];exact HL5.out
  have hz:=zero_tlv.out
  go_upto_region 2 with (first|((with_reducible show wpList _ _ _ ({ dst:=_,op:=.store _ _ _,type:=_,pos:=_,after:=_,guard:=_ } :: _) _ _);refine wpList_store_row rfl 60 _ _ rfl w1.heap.size cs.toArray rfl rfl 60 _ (heap_alloc_last _ _) (by rw [size_tlv,HS5.out]) (by rw [HS5.out];rfl) HO5.out ?_;rw [World.setRow_alloc_new])|fail)
  clear hz
  obtain ⟨gt,hgt⟩:∃ g,g=w1.heap.size:=⟨_,rfl⟩
  rw [← hgt] at B1 ⊢
  generalize w1.alloc (.cells cs.toArray 60)=V1 at *
  clear hgt HS5 HO5
  have q3:=ne_nilL
  have l0:=B0.lt
  have hld:(loadVar 30 ⟨w.heap.size,0,none⟩).run Tryz.prog V1=.ok (.agg ts.toArray) V1:=B0.load Tryz.underlying30 rfl size_sgL HLt.out
  go_wp2_with (first|((with_reducible show wpList _ _ _ ({ dst:=_,op:=.load _ _,type:=_,pos:=_,after:=_,guard:=_ } :: _) _ _);refine wpList_load_run (by rfl) (by rfl) (by rfl) hld ?_)|fail)
  refine (uEncT (HG.out.below bel) HR.out HS.out HT.out).mono ?_
  rintro e w2 he
  clear hld l0 B0
  by_cases hsc:isSc r∧isSc s
  rotate_left
  ·obtain ⟨xo,xc,rfl,hb⟩:=he.1 hsc
   have HX:Hid (¬ (isSc r∧isSc s)):=hsc
   replace bel:=below_step bel hb
   have q4:=ne_codeL 3
   clear he hsc hb
   unfold codeV
   go_wp2_with fail
   refine bodyPost_ret (results_tmp2 rfl _ _ _) rfl ?_
   exact EncCR.no H.out HX.out bel
  obtain ⟨sv,rfl,hsv,hb⟩:=he.2 hsc.1 hsc.2
  have HX:Hid (isSc r∧isSc s):=hsc
  obtain ⟨X,Y,x,y,hSB,lx,ly⟩:=sigB_some hsc
  have HSB:Hid (SigB r s X Y x y):=hSB
  have HSl0:=sig_len lx ly
  have HBs0:=hsv X Y x y hSB.1 hSB.2.1 hSB.2.2.1 hSB.2.2.2
  obtain ⟨sg,hsg⟩:∃ z,bytesT (sigT x y)=z:=⟨_,rfl⟩
  have HSg:Hid (bytesT (sigT x y)=sg):=hsg
  rw [hsg] at HSl0 HBs0
  have HSl:Hid (sg.length≤200):=HSl0
  have HBs:Hid (Bs w2 sv sg):=HBs0
  replace HD1:Hid (Dep (fun g=>N0≤g) w2 T cs):=HD1.out.next (Agr.below hb) (fun _ h _=>h)
  replace B1:=B1.later hb
  replace hs:N0≤w2.heap.size:=Nat.le_trans hs hb.size
  replace bel:=below_step bel hb
  obtain ⟨sa,sc,hsv2,-,-,-⟩:=id HBs0
  obtain ⟨SL,hSL⟩:∃ z,sg.length=z:=⟨_,rfl⟩
  rw [hSL] at hsv2
  subst hsv2
  clear he hsc hb hsv hSB lx ly HSl0 HBs0 hsg hSL
  go_upto_region 7 with fail
  obtain ⟨jt,hjt,ht0,ht1,ht2⟩:=info_partsD info_tlv
  obtain ⟨S1,hS1,KB1,KI1,KD1,KL1,KA1⟩:∃ S:World→Prop,Hd S w2∧Hid (∀ wx,Hd S wx→Below w2.heap.size w2 wx)∧Hid (∀ wx,Below w2.heap.size w2 wx→Hd S wx)∧Hid (∀ wx,Hd S wx→Hd S wx.drew)∧Hid (∀ w1 w2,Hd S w1→Below w1.heap.size w1 w2→Hd S w2)∧Hid (∀ w1 o,Hd S w1→Hd S (w1.alloc o)):=⟨fun wx=>Below w2.heap.size w2 wx,Below.refl _ _,fun _ h=>h,fun _ h=>h,fun wx h=>Below.drew h,fun w1 w2 h hb=>below_step h hb,fun w1 o h=>Below.alloc h h.size o⟩
  have R1:Hid (∀ wx,Hd S1 wx→(loadVar 60 ⟨gt,0,none⟩).run Tryz.prog wx=.ok (.agg cs.toArray) wx):=fun wx h=>(B1.later (KB1.out wx h)).load Tryz.underlying60 rfl size_tlv HL5.out
  have hz:=zero_tlv.out
  have HZ:Hid (Sm 1050000 (sealP false T sg)):=sm_seal HY.out H.out HSl.out
  refine wp_region_noPanic ?_
  refine wp_region_held_drew (S:=Hd S1) (by kernel_rfl) (KD1.out _ hS1) (fun hHeld=>?_)
  clear hS1
  generalize World.drew _=wd1 at *
  refine wpAnyH_take (i:=0) (v:=.agg cs.toArray) rfl (by kernel_rfl) (by kernel_rfl) (by kernel_rfl) (fun _ _ _ h=>h) (Or.inl ⟨by rfl,fun wx h=>exec_load rfl rfl (R1.out wx h)⟩) (by assumption) ?_
  try simp only [Act.put,List.getElem_toArray,List.getElem_cons_zero,List.getElem_cons_succ,List.setIfInBounds_toArray,List.set_cons_zero,List.set_cons_succ]
  refine wpAnyH_take (i:=2) (v:=?_) rfl (by kernel_rfl) (by kernel_rfl) (by kernel_rfl) (fun _ _ _ h=>h) (Or.inl ⟨by rfl,?_⟩) (by assumption) ?_
  rotate_left
  ·intro w hSw
   go_simp
   with_reducible rfl
  try simp only [Act.put,List.getElem_toArray,List.getElem_cons_zero,List.getElem_cons_succ,List.setIfInBounds_toArray,List.set_cons_zero,List.set_cons_succ]
  refine wpAnyH_ready (rs:=[1]) (by kernel_rfl) (by simp) ?_
  refine AllReadyH.cons rfl (fun K hK=>?_) ?_
  ·have HB0:Hid (Below w2.heap.size w2 wd1):=KB1.out _ hHeld
   go_simp
   refine c18_algorithm.mono ?_
   rintro e z1 ⟨da,rfl,hd,hb⟩
   refine hK.out _ _ ?_ (fun hHeld2=>?_)
   ·exact KL1.out _ _ hHeld hb
   ·clear hK K
    try clear hHeld
    have hHeld:=hHeld2
    clear hHeld2
    try simp only [Act.put,List.getElem_toArray,List.getElem_cons_zero,List.getElem_cons_succ,List.setIfInBounds_toArray,List.set_cons_zero,List.set_cons_succ]
    have hDa:Dep (fun g=>N0≤g) z1 (algT) da:=hd.next (Agr.refl _ _) (fun _ h _=>Nat.le_trans (Nat.le_trans hs HB0.out.size) h)
    have HLa:Hid (da.length=5):=hd.now.five
    clear hb hd HB0
    refine wpAnyH_ready (rs:=[3]) (by kernel_rfl) (by simp) ?_
    refine AllReadyH.cons rfl (fun K hK=>?_) ?_
    ·have HB0:Hid (Below w2.heap.size w2 z1):=KB1.out _ hHeld
     go_simp
     refine (c18_wholeBits (HBs.out.later HB0.out) (by have:=HSl.out;omega)).mono ?_
     rintro e z3 ⟨ds,rfl,hd,hb⟩
     refine hK.out _ _ ?_ (fun hHeld2=>?_)
     ·exact KL1.out _ _ hHeld hb
     ·clear hK K
      try clear hHeld
      have hHeld:=hHeld2
      clear hHeld2
      try simp only [Act.put,List.getElem_toArray,List.getElem_cons_zero,List.getElem_cons_succ,List.setIfInBounds_toArray,List.set_cons_zero,List.set_cons_succ]
      replace hDa:Dep (fun g=>N0≤g) z3 (algT) da:=hDa.next (Agr.below hb) (fun _ h _=>h)
      have hDs:Dep (fun g=>N0≤g) z3 (Tl.mk 0 3 false (0 :: sg) []) ds:=hd.next (Agr.refl _ _) (fun _ h _=>Nat.le_trans (Nat.le_trans hs HB0.out.size) h)
      have HLd:Hid (ds.length=5):=hd.now.five
      clear hb hd HB0
      refine wpAnyH_ready (rs:=[4]) (by kernel_rfl) (by simp) ?_
      refine AllReadyH.cons rfl (fun K hK=>?_) ?_
      ·have HB0:Hid (Below w2.heap.size w2 z3):=KB1.out _ hHeld
       rw [if_pos (by rfl)]
       refine wp_buildSlice 58 60 3 _ rfl (cs++(da++(ds++[]))).toArray jt _ Tryz.underlying58 hjt ht0 (by rw [ht1];decide) (by rw [ht1];decide) (by rw [ht1];refine (congrArg _ (?_:_=[(0,Value.agg cs.toArray),(1,.agg da.toArray),(2,.agg ds.toArray)])).trans (fill_15 HL5.out HLa.out HLd.out);kernel_rfl) ?_
       refine hK.out _ _ ?_ (fun hHeld2=>?_)
       ·exact KA1.out _ _ hHeld
       ·clear hK K
        try clear hHeld
        have hHeld:=hHeld2
        clear hHeld2
        try simp only [Act.put,List.getElem_toArray,List.getElem_cons_zero,List.getElem_cons_succ,List.setIfInBounds_toArray,List.set_cons_zero,List.set_cons_succ]
        have hD8:Dep (fun g=>N0≤g) (z3.alloc (.cells (cs++(da++(ds++[]))).toArray 60)) (sealP false T sg) [.int .i64 0,.int .i64 16,.bool true,.slice none 0 0,.slice (some ⟨z3.heap.size,0,none⟩) 3 3]:=list_dep (ks:=[T,algT,Tl.mk 0 3 false (0 :: sg) []]) (by simp [HL5.out,HLa.out,HLd.out]) (Nat.le_trans hs HB0.out.size) (by show 3≤maxLen;decide) (kc_c (HD1.out.next (Agr.below HB0.out) (fun _ h _=>h)) HL5.out (kc_c hDa HLa.out (kc_c hDs HLd.out kc_n))) 0 16 true
        obtain ⟨g8,hg9⟩:∃ g,g=z3.heap.size:=⟨_,rfl⟩
        rw [← hg9] at hD8 ⊢
        clear hg9 HB0 hDa hDs
        generalize (z3.alloc (.cells (cs++(da++(ds++[]))).toArray 60))=z4 at *
        refine wpAnyH_ready (rs:=[5]) (by kernel_rfl) (by simp) ?_
        refine AllReadyH.cons rfl (fun K hK=>?_) ?_
        ·go_simp
         refine c18_list.mono ?_
         rintro e z5 ⟨rfl,hb⟩
         refine hK.out _ _ ?_ (fun hHeld2=>?_)
         ·exact KL1.out _ _ hHeld hb
         ·clear hK K
          try clear hHeld
          have hHeld:=hHeld2
          clear hHeld2
          try simp only [Act.put,List.getElem_toArray,List.getElem_cons_zero,List.getElem_cons_succ,List.setIfInBounds_toArray,List.set_cons_zero,List.set_cons_succ]
          replace hD8:Dep (fun g=>N0≤g) z5 (sealP false T sg) [.int .i64 0,.int .i64 16,.bool true,.slice none 0 0,.slice (some ⟨g8,0,none⟩) 3 3]:=hD8.next (Agr.below hb) (fun _ h _=>h)
          clear hb
          refine wpAnyH_ready (rs:=[6]) (by kernel_rfl) (by simp) ?_
          refine AllReadyH.cons rfl (fun K hK=>?_) ?_
          ·go_simp
           refine (c17_Write hD8.now (by have:=HZ.out.1;omega)).mono ?_
           rintro e z6 ⟨v9,rfl,hv9,-,hb⟩
           refine hK.out _ _ ?_ (fun hHeld2=>?_)
           ·exact KL1.out _ _ hHeld hb
           ·clear hK K
            try clear hHeld
            have hHeld:=hHeld2
            clear hHeld2
            try simp only [Act.put,List.getElem_toArray,List.getElem_cons_zero,List.getElem_cons_succ,List.setIfInBounds_toArray,List.set_cons_zero,List.set_cons_succ]
            have HBd:Hid (Bs z6 v9 (wrB (sealP false T sg))):=hv9
            clear hb hv9 hD8
            obtain ⟨ER,hER⟩:∃ z,erN (wrN (sealP false T sg))=z:=⟨_,rfl⟩
            have HER:Hid (erN (wrN (sealP false T sg))=ER):=hER
            rw [hER]
            clear hER
            refine wpAnyH_take (i:=7) (v:=?_) rfl (by kernel_rfl) (by kernel_rfl) (by kernel_rfl) (fun _ _ _ h=>h) (Or.inl ⟨by rfl,?_⟩) (by assumption) ?_
            rotate_left
            ·intro w hSw
             go_simp
             with_reducible rfl
            try simp only [Act.put,List.getElem_toArray,List.getElem_cons_zero,List.getElem_cons_succ,List.setIfInBounds_toArray,List.set_cons_zero,List.set_cons_succ]
            refine wpAnyH_take (i:=8) (v:=?_) rfl (by kernel_rfl) (by kernel_rfl) (by kernel_rfl) (fun _ _ _ h=>h) (Or.inl ⟨by rfl,?_⟩) (by assumption) ?_
            rotate_left
            ·intro w hSw
             go_simp
             with_reducible rfl
            try simp only [Act.put,List.getElem_toArray,List.getElem_cons_zero,List.getElem_cons_succ,List.setIfInBounds_toArray,List.set_cons_zero,List.set_cons_succ]
            refine wpAnyH_ready (rs:=[9]) (by kernel_rfl) (by simp) ?_
            refine AllReadyH.cons rfl (fun K hK=>?_) ?_
            ·go_simp
             refine hK.out _ _ ?_ (fun hHeld2=>?_)
             ·exact hHeld
             ·clear hK K
              try clear hHeld
              have hHeld:=hHeld2
              clear hHeld2
              try simp only [Act.put,List.getElem_toArray,List.getElem_cons_zero,List.getElem_cons_succ,List.setIfInBounds_toArray,List.set_cons_zero,List.set_cons_succ]
              refine wpAnyH_ready (rs:=[10]) (by kernel_rfl) (by simp) ?_
              refine AllReadyH.cons rfl (fun K hK=>?_) ?_
              ·go_simp
               refine hK.out _ _ ?_ (fun hHeld2=>?_)
               ·exact hHeld
               ·clear hK K
                try clear hHeld
                have hHeld:=hHeld2
                clear hHeld2
                try simp only [Act.put,List.getElem_toArray,List.getElem_cons_zero,List.getElem_cons_succ,List.setIfInBounds_toArray,List.set_cons_zero,List.set_cons_succ]
                refine wpAnyH_done (by kernel_rfl) ?_ _
                refine NoPanic.normal ?_
                replace bel:=below_step bel (KB1.out _ hHeld)
                clear hHeld
                go_wp2_with fail
                refine bodyPost_ret (results_tmp2 rfl _ _ _) rfl ?_
                have HW9:Hid (ER=erN (wrN (sealP false T (bytesT (sigT x y))))):=by show _=_;rw [HSg.out];exact HER.out.symm
                rw [HW9.out]
                exact EncCR.yes H.out HX.out HSB.out (by rw [HSg.out];exact HBd.out) bel
              exact AllReadyH.nil
            exact AllReadyH.nil
          exact AllReadyH.nil
        exact AllReadyH.nil
      exact AllReadyH.nil
    exact AllReadyH.nil
  exact AllReadyH.nil
end Go.Proofs.YtkgjlcdefnpkpaaGreatDoor
