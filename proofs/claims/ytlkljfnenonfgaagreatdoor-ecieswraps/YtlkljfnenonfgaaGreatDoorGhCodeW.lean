/- The program's Whole. -/
import Derived.Test.YtlkljfnenonfgaaGreatDoorGhCodeA
import Derived.Test.YtlkljfnenonfgaaGreatDoorRows
import Derived.Deep.WholeRow
import Derived.Deep.RegionHeld3
import Derived.Deep.DeepCutAuto
import Derived.Deep.DeepFit
namespace Go.Proofs.YtlkljfnenonfgaaGreatDoor
open Go.RowKit
set_option linter.unusedSimpArgs false in
set_option maxRecDepth 100000 in
set_option maxHeartbeats 4000000 in
theorem con_Whole {H A B:List Int} {av bv:Value} {w:World} (lH:H.length=16) (bH:byt H) (ha:Bs w av A) (bA:byt A) (hb:Bs w bv B) (bB:byt B) (lA:A.length≤100000000000) (lB:B.length≤100000000000) :
  Calls Tryz.prog 62 #[.agg (u8s H).toArray,av,bv] w fun e w'=>e=.returned (.agg (u8s (wholeB H A B)).toArray)∧Below w.heap.size w w':=by
 have HHb:Hid (byt H∧H.length=16):=⟨bH,lH⟩
 have HAb:Hid (byt A):=bA
 have HBb:Hid (byt B):=bB
 have HLA:Hid (A.length≤100000000000):=lA
 have HLB:Hid (B.length≤100000000000):=lB
 have HVA:Hid (Bs w av A):=ha
 have HVB:Hid (Bs w bv B):=hb
 clear lH bH bA bB lA lB
 have hz:=zero_16.out
 rw [whole_add]
 obtain ⟨FH,hFH⟩:∃ F,u8s (H)=F:=⟨_,rfl⟩
 have FHh:Hid (u8s (H)=FH):=hFH
 have FHl:Hid (FH.length=16):=by show _=_;rw [← hFH,u8s,List.length_map];exact HHb.out.2
 have FHo:Hid (FH.toArray.all (·.oneCell')=true):=by rw [← hFH];exact u8_ones _
 clear hFH
 rw [FHh.out]
 obtain ⟨Y1,hY1⟩:∃ Y,addB H (List.replicate 16 0) A=Y:=⟨_,rfl⟩
 have HY1:Hid (byt Y1∧Y1.length=16):=by rw [← hY1];exact ⟨addB_byt (byt_zeros 16),addB_len List.length_replicate⟩
 have HY1e:Hid (addB H (List.replicate 16 0) A=Y1):=hY1
 rw [hY1]
 clear hY1
 obtain ⟨Y2,hY2⟩:∃ Y,addB H Y1 B=Y:=⟨_,rfl⟩
 have HY2:Hid (byt Y2∧Y2.length=16):=by rw [← hY2];exact ⟨addB_byt HY1.out.1,addB_len HY1.out.2⟩
 have HY2e:Hid (addB H Y1 B=Y2):=hY2
 rw [hY2]
 clear hY2
 obtain ⟨F1,hF1⟩:∃ F,u8s (Y1)=F:=⟨_,rfl⟩
 have F1h:Hid (u8s (Y1)=F1):=hF1
 have F1l:Hid (F1.length=16):=by show _=_;rw [← hF1,u8s,List.length_map];exact HY1.out.2
 have F1o:Hid (F1.toArray.all (·.oneCell')=true):=by rw [← hF1];exact u8_ones _
 clear hF1
 obtain ⟨F2,hF2⟩:∃ F,u8s (Y2)=F:=⟨_,rfl⟩
 have F2h:Hid (u8s (Y2)=F2):=hF2
 have F2l:Hid (F2.length=16):=by show _=_;rw [← hF2,u8s,List.length_map];exact HY2.out.2
 have F2o:Hid (F2.toArray.all (·.oneCell')=true):=by rw [← hF2];exact u8_ones _
 clear hF2
 obtain ⟨FL,hFL⟩:∃ F,u8s (wdsL (8 * A.length) (8 * B.length))=F:=⟨_,rfl⟩
 have FLh:Hid (u8s (wdsL (8 * A.length) (8 * B.length))=FL):=hFL
 have FLl:Hid (FL.length=16):=by show _=_;rw [← hFL,u8s,List.length_map];exact wdsL_len _ _
 have FLo:Hid (FL.toArray.all (·.oneCell')=true):=by rw [← hFL];exact u8_ones _
 clear hFL
 obtain ⟨FX,hFX⟩:∃ F,u8s (xkN Y2 (wdsL (8 * A.length) (8 * B.length)))=F:=⟨_,rfl⟩
 have FXh:Hid (u8s (xkN Y2 (wdsL (8 * A.length) (8 * B.length)))=FX):=hFX
 have FXl:Hid (FX.length=16):=by show _=_;rw [← hFX,u8s,List.length_map];exact xk_len _ _
 have FXo:Hid (FX.toArray.all (·.oneCell')=true):=by rw [← hFX];exact u8_ones _
 clear hFX
 obtain ⟨E,hE⟩:∃ F,u8s (mulB (xkN Y2 (wdsL (8 * A.length) (8 * B.length))) H)=F:=⟨_,rfl⟩
 have Eh:Hid (u8s (mulB (xkN Y2 (wdsL (8 * A.length) (8 * B.length))) H)=E):=hE
 have El:Hid (E.length=16):=by show _=_;rw [← hE,u8s,List.length_map];exact mulB_len _ _
 have Eo:Hid (E.toArray.all (·.oneCell')=true):=by rw [← hE];exact u8_ones _
 clear hE
 rw [Eh.out]
 have F1x:Hid (u8s (addB H (List.replicate 16 0) A)=F1):=by show _=_;rw [HY1e.out];exact F1h.out
 have F2x:Hid (u8s (addB H Y1 B)=F2):=by show _=_;rw [HY2e.out];exact F2h.out
 clear HY1e HY2e
 have B0:=(Blk.new w FH 91 w.heap.size rfl).alloc (.cells (u8s (List.replicate 16 0)).toArray 91)
 have R0:=Blk.new (w.alloc (.cells FH.toArray 91)) (u8s (List.replicate 16 0)) 91 (w.heap.size + 1) (by simp)
 have bel:Below w.heap.size w ((w.alloc (.cells FH.toArray 91)).alloc (.cells (u8s (List.replicate 16 0)).toArray 91)):=(((Below.refl _ _).alloc (Nat.le_refl _) _).alloc (by simp) _)
 obtain ⟨Z,hZ⟩:∃ Z,(u8s (List.replicate 16 0))=Z:=⟨_,rfl⟩
 have HZl:Hid (Z.length=16):=by rw [← hZ];rfl
 rw [hZ] at hz B0 R0 bel
 clear hZ
 obtain ⟨ao,ca,rfl,a1,a2,a3⟩:=ha
 clear a3
 unfold maxLen at a1
 obtain ⟨bo,cb,rfl,b1,b2,b3⟩:=hb
 clear b3
 unfold maxLen at b1
 go_enter Tryz.func62,Tryz.ntmps62
 go_upto_region 1 with fail
 have HZ0:Hid _:=hz
 clear hz
 generalize (w.alloc (.cells FH.toArray 91)).alloc (.cells Z.toArray 91)=W at *
 obtain ⟨S1,hS1,KL1,KA1,KD1,KS1,KQ1,KN1,KB1,KM1,KR1⟩:=held3 (w0:=w) (W:=W) [(w.heap.size,FH),(w.heap.size + 1,Z)] (by
  intro b X h
  simp only [List.mem_cons,List.not_mem_nil,or_false,Prod.mk.injEq] at h
  rcases h with ⟨rfl,rfl⟩|⟨rfl,rfl⟩
  ·exact B0
  ·exact R0) bel
 have rh:Hid (∀ wx,Hd S1 wx→(loadVar 91 ⟨w.heap.size,0,none⟩).run Tryz.prog wx=.ok (.agg FH.toArray) wx):=fun wx h=>(KM1.out wx _ _ h (List.Mem.head _)).load Tryz.underlying91 rfl size_16 FHl.out
 have lWR:w.heap.size + 1 < W.heap.size:=R0.lt
 clear KS1 KQ1 B0 R0 bel
 refine wp_region_noPanic ?_
 refine wp_region_held_drew (S:=Hd S1) (by kernel_rfl) (KD1.out _ hS1) (fun hHeld=>?_)
 clear hS1
 generalize World.drew _=wd at *
 refine wpAnyH_take (i:=0) (v:=.agg FH.toArray) rfl (by kernel_rfl) (by kernel_rfl) (by kernel_rfl) (fun _ _ _ h=>h) (Or.inl ⟨by rfl,fun wx h=>exec_load rfl rfl (rh.out wx h)⟩) (by assumption) ?_
 try simp only [Act.put,List.getElem_toArray,List.getElem_cons_zero,List.getElem_cons_succ,List.setIfInBounds_toArray,List.set_cons_zero,List.set_cons_succ]
 refine wpAnyH_take (i:=1) (v:=.agg FH.toArray) rfl (by kernel_rfl) (by kernel_rfl) (by kernel_rfl) (fun _ _ _ h=>h) (Or.inl ⟨by rfl,fun wx h=>exec_load rfl rfl (rh.out wx h)⟩) (by assumption) ?_
 try simp only [Act.put,List.getElem_toArray,List.getElem_cons_zero,List.getElem_cons_succ,List.setIfInBounds_toArray,List.set_cons_zero,List.set_cons_succ]
 refine wpAnyH_take (i:=2) (v:=?_) rfl (by kernel_rfl) (by kernel_rfl) (by kernel_rfl) (fun _ _ _ h=>h) (Or.inl ⟨by rfl,?_⟩) (by assumption) ?_
 rotate_left
 ·intro w hSw
  go_simp
  with_reducible rfl
 try simp only [Act.put,List.getElem_toArray,List.getElem_cons_zero,List.getElem_cons_succ,List.setIfInBounds_toArray,List.set_cons_zero,List.set_cons_succ]
 refine wpAnyH_take (i:=3) (v:=?_) rfl (by kernel_rfl) (by kernel_rfl) (by kernel_rfl) (fun _ _ _ h=>h) (Or.inl ⟨by rfl,?_⟩) (by assumption) ?_
 rotate_left
 ·intro w hSw
  go_simp
  with_reducible rfl
 try simp only [Act.put,List.getElem_toArray,List.getElem_cons_zero,List.getElem_cons_succ,List.setIfInBounds_toArray,List.set_cons_zero,List.set_cons_succ]
 refine wpAnyH_take (i:=5) (v:=?_) rfl (by kernel_rfl) (by kernel_rfl) (by kernel_rfl) (fun _ _ _ h=>h) (Or.inl ⟨by rfl,?_⟩) (by assumption) ?_
 rotate_left
 ·intro w hSw
  go_simp
  with_reducible rfl
 try simp only [Act.put,List.getElem_toArray,List.getElem_cons_zero,List.getElem_cons_succ,List.setIfInBounds_toArray,List.set_cons_zero,List.set_cons_succ]
 refine wpAnyH_ready (rs:=[4,7]) (by kernel_rfl) (by simp) ?_
 refine AllReadyH.cons rfl (fun K hK=>?_) ?_
 ·go_simp
  refine (con_addedL FHh.out (Y:=List.replicate 16 0) rfl F1x.out HHb.out.2 HHb.out.1 List.length_replicate (byt_zeros 16) (HVA.out.later (KB1.out _ hHeld)) HAb.out (by have:=HLA.out;omega)).mono ?_
  rintro e w4 ⟨rfl,hb⟩
  refine hK.out _ _ ?_ (fun hHeld2=>?_)
  ·exact KL1.out _ _ hHeld hb
  ·clear hK K hHeld
   have hHeld:=hHeld2
   clear hHeld2
   try simp only [Act.put,List.getElem_toArray,List.getElem_cons_zero,List.getElem_cons_succ,List.setIfInBounds_toArray,List.set_cons_zero,List.set_cons_succ]
   clear hb
   refine wpAnyH_ready (rs:=[6,7]) (by kernel_rfl) (by simp) ?_
   refine AllReadyH.cons rfl (fun K hK=>?_) ?_
   ·go_simp
    refine (con_addedL FHh.out F1h.out F2x.out HHb.out.2 HHb.out.1 HY1.out.2 HY1.out.1 (HVB.out.later (KB1.out _ hHeld)) HBb.out (by have:=HLB.out;omega)).mono ?_
    rintro e w6 ⟨rfl,hb⟩
    refine hK.out _ _ ?_ (fun hHeld2=>?_)
    ·exact KL1.out _ _ hHeld hb
    ·clear hK K hHeld
     have hHeld:=hHeld2
     clear hHeld2
     try simp only [Act.put,List.getElem_toArray,List.getElem_cons_zero,List.getElem_cons_succ,List.setIfInBounds_toArray,List.set_cons_zero,List.set_cons_succ]
     clear hb
     refine wpAnyH_ready (rs:=[7]) (by kernel_rfl) (by simp) ?_
     refine AllReadyH.cons rfl (fun K hK=>?_) ?_
     ·have hz:=HZ0.out
      have HSZ:Hid (W.heap.size≤w6.heap.size):=KN1.out _ hHeld
      go_simp
      refine hK.out _ _ ?_ (fun hHeld2=>?_)
      ·exact KA1.out _ _ hHeld
      ·clear hK K hHeld
       have hHeld:=hHeld2
       clear hHeld2
       try simp only [Act.put,List.getElem_toArray,List.getElem_cons_zero,List.getElem_cons_succ,List.setIfInBounds_toArray,List.set_cons_zero,List.set_cons_succ]
       clear hz
       have V:=Blk.new w6 Z 91 w6.heap.size rfl
       have lg:=V.lt
       obtain ⟨g,hg⟩:∃ g,g=w6.heap.size:=⟨_,rfl⟩
       rw [← hg] at V lg ⊢
       have gW:W.heap.size≤g:=by rw [hg];exact HSZ.out
       clear hg
       generalize w6.alloc (Obj.cells Z.toArray 91)=wa at *
       clear HSZ
       refine wpAnyH_ready (rs:=[8]) (by kernel_rfl) (by simp) ?_
       refine AllReadyH.cons rfl (fun K hK=>?_) ?_
       ·obtain ⟨tV,hV⟩:=V
        rw [if_pos (by rfl)]
        refine wp_store_row 91 _ _ rfl g F2.toArray rfl rfl tV Z.toArray hV (by rw [size_16,List.size_toArray,F2l.out]) (by rw [List.size_toArray,List.size_toArray,F2l.out,HZl.out]) F2o.out ?_
        refine hK.out _ _ ?_ (fun hHeld2=>?_)
        ·exact KR1.out _ _ _ hHeld (.inl gW) (by omega)
        ·clear hK K hHeld
         have hHeld:=hHeld2
         clear hHeld2
         try simp only [Act.put,List.getElem_toArray,List.getElem_cons_zero,List.getElem_cons_succ,List.setIfInBounds_toArray,List.set_cons_zero,List.set_cons_succ]
         have V2:Blk (World.setRow wa g F2.toArray) g F2:=⟨tV,setRow_heap _ _ _ _ _ _ hV⟩
         clear hV lg
         generalize World.setRow _ _ _=w8 at *
         refine wpAnyH_done (by kernel_rfl) ?_ _
         refine NoPanic.normal ?_
         have B0:=KM1.out _ _ _ hHeld (List.Mem.head _)
         have R0:=KM1.out _ _ _ hHeld (List.Mem.tail _ (List.Mem.head _))
         have bel:=KB1.out _ hHeld
         have lR:=R0.lt
         have l0:=B0.lt
         clear hHeld KL1 KM1 KB1 KR1 KD1 KA1 KN1 rh S1
         go_upto_region 2 with fail
         obtain ⟨S2,hS2,KL2,KA2,KD2,KS2,KQ2,KN2,KB2,KM2,KR2⟩:=held3 (w0:=w) (W:=w8) [(w.heap.size,FH),(g,F2)] (by
          intro b X h
          simp only [List.mem_cons,List.not_mem_nil,or_false,Prod.mk.injEq] at h
          rcases h with ⟨rfl,rfl⟩|⟨rfl,rfl⟩
          ·exact B0
          ·exact V2) bel
         have rh:Hid (∀ wx,Hd S2 wx→(loadVar 91 ⟨w.heap.size,0,none⟩).run Tryz.prog wx=.ok (.agg FH.toArray) wx):=fun wx h=>(KM2.out wx _ _ h (List.Mem.head _)).load Tryz.underlying91 rfl size_16 FHl.out
         have ry:Hid (∀ wx,Hd S2 wx→(loadVar 91 ⟨g,0,none⟩).run Tryz.prog wx=.ok (.agg F2.toArray) wx):=fun wx h=>(KM2.out wx _ _ h (List.Mem.tail _ (List.Mem.head _))).load Tryz.underlying91 rfl size_16 F2l.out
         clear KS2 KA2 KN2 KQ2 B0 V2 bel
         refine wp_region_noPanic ?_
         refine wp_region_held_drew (S:=Hd S2) (by kernel_rfl) (KD2.out _ hS2) (fun hHeld=>?_)
         clear hS2
         replace R0:=R0.drew
         generalize World.drew _=wd at *
         refine wpAnyH_take (i:=0) (v:=.agg F2.toArray) rfl (by kernel_rfl) (by kernel_rfl) (by kernel_rfl) (fun _ _ _ h=>h) (Or.inl ⟨by rfl,fun wx h=>exec_load rfl rfl (ry.out wx h)⟩) (by assumption) ?_
         try simp only [Act.put,List.getElem_toArray,List.getElem_cons_zero,List.getElem_cons_succ,List.setIfInBounds_toArray,List.set_cons_zero,List.set_cons_succ]
         refine wpAnyH_take (i:=1) (v:=?_) rfl (by kernel_rfl) (by kernel_rfl) (by kernel_rfl) (fun _ _ _ h=>h) (Or.inl ⟨by rfl,?_⟩) (by assumption) ?_
         rotate_left
         ·intro w hSw
          go_simp
          with_reducible rfl
         try simp only [Act.put,List.getElem_toArray,List.getElem_cons_zero,List.getElem_cons_succ,List.setIfInBounds_toArray,List.set_cons_zero,List.set_cons_succ]
         refine wpAnyH_take (i:=2) (v:=?_) rfl (by kernel_rfl) (by kernel_rfl) (by kernel_rfl) (fun _ _ _ h=>h) (Or.inl ⟨by rfl,?_⟩) (by assumption) ?_
         rotate_left
         ·intro w hSw
          go_simp
          with_reducible rfl
         try simp only [Act.put,List.getElem_toArray,List.getElem_cons_zero,List.getElem_cons_succ,List.setIfInBounds_toArray,List.set_cons_zero,List.set_cons_succ]
         refine wpAnyH_take (i:=3) (v:=?_) rfl (by kernel_rfl) (by kernel_rfl) (by kernel_rfl) (fun _ _ _ h=>h) (Or.inl ⟨by rfl,?_⟩) (by assumption) ?_
         rotate_left
         ·intro w hSw
          go_simp
          with_reducible rfl
         try simp only [Act.put,List.getElem_toArray,List.getElem_cons_zero,List.getElem_cons_succ,List.setIfInBounds_toArray,List.set_cons_zero,List.set_cons_succ]
         refine wpAnyH_take (i:=4) (v:=?_) rfl (by kernel_rfl) (by kernel_rfl) (by kernel_rfl) (fun _ _ _ h=>h) (Or.inl ⟨by rfl,?_⟩) (by assumption) ?_
         rotate_left
         ·intro w hSw
          go_simp
          with_reducible rfl
         try simp only [Act.put,List.getElem_toArray,List.getElem_cons_zero,List.getElem_cons_succ,List.setIfInBounds_toArray,List.set_cons_zero,List.set_cons_succ]
         refine wpAnyH_take (i:=7) (v:=.agg FH.toArray) rfl (by kernel_rfl) (by kernel_rfl) (by kernel_rfl) (fun _ _ _ h=>h) (Or.inl ⟨by rfl,fun wx h=>exec_load rfl rfl (rh.out wx h)⟩) (by assumption) ?_
         try simp only [Act.put,List.getElem_toArray,List.getElem_cons_zero,List.getElem_cons_succ,List.setIfInBounds_toArray,List.set_cons_zero,List.set_cons_succ]
         refine wpAnyH_ready (rs:=[5]) (by kernel_rfl) (by simp) ?_
         refine AllReadyH.cons rfl (fun K hK=>?_) ?_
         ·go_simp
          refine (con_lengths HLA.out HLB.out FLh.out).mono ?_
          rintro e wl ⟨rfl,hb⟩
          refine hK.out _ _ ?_ (fun hHeld2=>?_)
          ·exact KL2.out _ _ hHeld hb
          ·clear hK K hHeld
           have hHeld:=hHeld2
           clear hHeld2
           try simp only [Act.put,List.getElem_toArray,List.getElem_cons_zero,List.getElem_cons_succ,List.setIfInBounds_toArray,List.set_cons_zero,List.set_cons_succ]
           replace R0:=R0.later hb
           clear hb
           refine wpAnyH_ready (rs:=[6]) (by kernel_rfl) (by simp) ?_
           refine AllReadyH.cons rfl (fun K hK=>?_) ?_
           ·go_simp
            refine (con_gxoredL F2h.out FLh.out FXh.out HY2.out.2 (wdsL_len _ _)).mono ?_
            rintro e wx ⟨rfl,hb⟩
            refine hK.out _ _ ?_ (fun hHeld2=>?_)
            ·exact KL2.out _ _ hHeld hb
            ·clear hK K hHeld
             have hHeld:=hHeld2
             clear hHeld2
             try simp only [Act.put,List.getElem_toArray,List.getElem_cons_zero,List.getElem_cons_succ,List.setIfInBounds_toArray,List.set_cons_zero,List.set_cons_succ]
             replace R0:=R0.later hb
             clear hb
             refine wpAnyH_ready (rs:=[8]) (by kernel_rfl) (by simp) ?_
             refine AllReadyH.cons rfl (fun K hK=>?_) ?_
             ·go_simp
              refine (con_MulG FXh.out FHh.out Eh.out (xk_len _ _) (xkN_byt HY2.out.1 (wdsL_byt _ _)) HHb.out.2 HHb.out.1).mono ?_
              rintro e wm ⟨rfl,hb⟩
              refine hK.out _ _ ?_ (fun hHeld2=>?_)
              ·exact KL2.out _ _ hHeld hb
              ·clear hK K hHeld
               have hHeld:=hHeld2
               clear hHeld2
               try simp only [Act.put,List.getElem_toArray,List.getElem_cons_zero,List.getElem_cons_succ,List.setIfInBounds_toArray,List.set_cons_zero,List.set_cons_succ]
               replace R0:=R0.later hb
               clear hb
               refine wpAnyH_ready (rs:=[9]) (by kernel_rfl) (by simp) ?_
               refine AllReadyH.cons rfl (fun K hK=>?_) ?_
               ·obtain ⟨tR,hR⟩:=R0
                rw [if_pos (by rfl)]
                refine wp_store_row 91 _ _ rfl (w.heap.size + 1) E.toArray rfl rfl tR Z.toArray hR (by rw [size_16,List.size_toArray,El.out]) (by rw [List.size_toArray,List.size_toArray,El.out,HZl.out]) Eo.out ?_
                refine hK.out _ _ ?_ (fun hHeld2=>?_)
                ·exact KR2.out _ _ _ hHeld (.inr (by intro c X h;simp only [List.mem_cons,List.not_mem_nil,or_false,Prod.mk.injEq] at h;rcases h with ⟨rfl,rfl⟩|⟨rfl,rfl⟩<;>omega)) (by omega)
                ·clear hK K hHeld
                 have hHeld:=hHeld2
                 clear hHeld2
                 try simp only [Act.put,List.getElem_toArray,List.getElem_cons_zero,List.getElem_cons_succ,List.setIfInBounds_toArray,List.set_cons_zero,List.set_cons_succ]
                 refine wpAnyH_done (by kernel_rfl) ?_ _
                 refine NoPanic.normal ?_
                 have bel:=KB2.out _ hHeld
                 go_wp2_with fail
                 exact bodyPost_ret (results_cell_row Tryz.results62 _ _ (w.heap.size + 1) tR E.toArray (0,0) _ rfl (setRow_heap _ _ _ _ _ _ hR) Tryz.underlying91 rfl (by rw [size_16,List.size_toArray,El.out])) rfl ⟨rfl,bel⟩
               exact AllReadyH.nil
             exact AllReadyH.nil
           exact AllReadyH.nil
         exact AllReadyH.nil
       exact AllReadyH.nil
     exact AllReadyH.nil
   refine AllReadyH.cons rfl (fun K hK=>?_) ?_
   ·have hz:=HZ0.out
    have HSZ:Hid (W.heap.size≤w4.heap.size):=KN1.out _ hHeld
    go_simp
    refine hK.out _ _ ?_ (fun hHeld2=>?_)
    ·exact KA1.out _ _ hHeld
    ·clear hK K hHeld
     have hHeld:=hHeld2
     clear hHeld2
     try simp only [Act.put,List.getElem_toArray,List.getElem_cons_zero,List.getElem_cons_succ,List.setIfInBounds_toArray,List.set_cons_zero,List.set_cons_succ]
     clear hz
     have V:=Blk.new w4 Z 91 w4.heap.size rfl
     have lg:=V.lt
     obtain ⟨g,hg⟩:∃ g,g=w4.heap.size:=⟨_,rfl⟩
     rw [← hg] at V lg ⊢
     have gW:W.heap.size≤g:=by rw [hg];exact HSZ.out
     clear hg
     generalize w4.alloc (Obj.cells Z.toArray 91)=wa at *
     clear HSZ
     refine wpAnyH_ready (rs:=[6]) (by kernel_rfl) (by simp) ?_
     refine AllReadyH.cons rfl (fun K hK=>?_) ?_
     ·go_simp
      refine (con_addedL FHh.out F1h.out F2x.out HHb.out.2 HHb.out.1 HY1.out.2 HY1.out.1 (HVB.out.later (KB1.out _ hHeld)) HBb.out (by have:=HLB.out;omega)).mono ?_
      rintro e w6 ⟨rfl,hb⟩
      refine hK.out _ _ ?_ (fun hHeld2=>?_)
      ·exact KL1.out _ _ hHeld hb
      ·clear hK K hHeld
       have hHeld:=hHeld2
       clear hHeld2
       try simp only [Act.put,List.getElem_toArray,List.getElem_cons_zero,List.getElem_cons_succ,List.setIfInBounds_toArray,List.set_cons_zero,List.set_cons_succ]
       replace V:=V.later hb
       replace lg:=Nat.lt_of_lt_of_le lg hb.size
       clear hb
       refine wpAnyH_ready (rs:=[8]) (by kernel_rfl) (by simp) ?_
       refine AllReadyH.cons rfl (fun K hK=>?_) ?_
       ·obtain ⟨tV,hV⟩:=V
        rw [if_pos (by rfl)]
        refine wp_store_row 91 _ _ rfl g F2.toArray rfl rfl tV Z.toArray hV (by rw [size_16,List.size_toArray,F2l.out]) (by rw [List.size_toArray,List.size_toArray,F2l.out,HZl.out]) F2o.out ?_
        refine hK.out _ _ ?_ (fun hHeld2=>?_)
        ·exact KR1.out _ _ _ hHeld (.inl gW) (by omega)
        ·clear hK K hHeld
         have hHeld:=hHeld2
         clear hHeld2
         try simp only [Act.put,List.getElem_toArray,List.getElem_cons_zero,List.getElem_cons_succ,List.setIfInBounds_toArray,List.set_cons_zero,List.set_cons_succ]
         have V2:Blk (World.setRow w6 g F2.toArray) g F2:=⟨tV,setRow_heap _ _ _ _ _ _ hV⟩
         clear hV lg
         generalize World.setRow _ _ _=w8 at *
         refine wpAnyH_done (by kernel_rfl) ?_ _
         refine NoPanic.normal ?_
         have B0:=KM1.out _ _ _ hHeld (List.Mem.head _)
         have R0:=KM1.out _ _ _ hHeld (List.Mem.tail _ (List.Mem.head _))
         have bel:=KB1.out _ hHeld
         have lR:=R0.lt
         have l0:=B0.lt
         clear hHeld KL1 KM1 KB1 KR1 KD1 KA1 KN1 rh S1
         go_upto_region 2 with fail
         obtain ⟨S2,hS2,KL2,KA2,KD2,KS2,KQ2,KN2,KB2,KM2,KR2⟩:=held3 (w0:=w) (W:=w8) [(w.heap.size,FH),(g,F2)] (by
          intro b X h
          simp only [List.mem_cons,List.not_mem_nil,or_false,Prod.mk.injEq] at h
          rcases h with ⟨rfl,rfl⟩|⟨rfl,rfl⟩
          ·exact B0
          ·exact V2) bel
         have rh:Hid (∀ wx,Hd S2 wx→(loadVar 91 ⟨w.heap.size,0,none⟩).run Tryz.prog wx=.ok (.agg FH.toArray) wx):=fun wx h=>(KM2.out wx _ _ h (List.Mem.head _)).load Tryz.underlying91 rfl size_16 FHl.out
         have ry:Hid (∀ wx,Hd S2 wx→(loadVar 91 ⟨g,0,none⟩).run Tryz.prog wx=.ok (.agg F2.toArray) wx):=fun wx h=>(KM2.out wx _ _ h (List.Mem.tail _ (List.Mem.head _))).load Tryz.underlying91 rfl size_16 F2l.out
         clear KS2 KA2 KN2 KQ2 B0 V2 bel
         refine wp_region_noPanic ?_
         refine wp_region_held_drew (S:=Hd S2) (by kernel_rfl) (KD2.out _ hS2) (fun hHeld=>?_)
         clear hS2
         replace R0:=R0.drew
         generalize World.drew _=wd at *
         refine wpAnyH_take (i:=0) (v:=.agg F2.toArray) rfl (by kernel_rfl) (by kernel_rfl) (by kernel_rfl) (fun _ _ _ h=>h) (Or.inl ⟨by rfl,fun wx h=>exec_load rfl rfl (ry.out wx h)⟩) (by assumption) ?_
         try simp only [Act.put,List.getElem_toArray,List.getElem_cons_zero,List.getElem_cons_succ,List.setIfInBounds_toArray,List.set_cons_zero,List.set_cons_succ]
         refine wpAnyH_take (i:=1) (v:=?_) rfl (by kernel_rfl) (by kernel_rfl) (by kernel_rfl) (fun _ _ _ h=>h) (Or.inl ⟨by rfl,?_⟩) (by assumption) ?_
         rotate_left
         ·intro w hSw
          go_simp
          with_reducible rfl
         try simp only [Act.put,List.getElem_toArray,List.getElem_cons_zero,List.getElem_cons_succ,List.setIfInBounds_toArray,List.set_cons_zero,List.set_cons_succ]
         refine wpAnyH_take (i:=2) (v:=?_) rfl (by kernel_rfl) (by kernel_rfl) (by kernel_rfl) (fun _ _ _ h=>h) (Or.inl ⟨by rfl,?_⟩) (by assumption) ?_
         rotate_left
         ·intro w hSw
          go_simp
          with_reducible rfl
         try simp only [Act.put,List.getElem_toArray,List.getElem_cons_zero,List.getElem_cons_succ,List.setIfInBounds_toArray,List.set_cons_zero,List.set_cons_succ]
         refine wpAnyH_take (i:=3) (v:=?_) rfl (by kernel_rfl) (by kernel_rfl) (by kernel_rfl) (fun _ _ _ h=>h) (Or.inl ⟨by rfl,?_⟩) (by assumption) ?_
         rotate_left
         ·intro w hSw
          go_simp
          with_reducible rfl
         try simp only [Act.put,List.getElem_toArray,List.getElem_cons_zero,List.getElem_cons_succ,List.setIfInBounds_toArray,List.set_cons_zero,List.set_cons_succ]
         refine wpAnyH_take (i:=4) (v:=?_) rfl (by kernel_rfl) (by kernel_rfl) (by kernel_rfl) (fun _ _ _ h=>h) (Or.inl ⟨by rfl,?_⟩) (by assumption) ?_
         rotate_left
         ·intro w hSw
          go_simp
          with_reducible rfl
         try simp only [Act.put,List.getElem_toArray,List.getElem_cons_zero,List.getElem_cons_succ,List.setIfInBounds_toArray,List.set_cons_zero,List.set_cons_succ]
         refine wpAnyH_take (i:=7) (v:=.agg FH.toArray) rfl (by kernel_rfl) (by kernel_rfl) (by kernel_rfl) (fun _ _ _ h=>h) (Or.inl ⟨by rfl,fun wx h=>exec_load rfl rfl (rh.out wx h)⟩) (by assumption) ?_
         try simp only [Act.put,List.getElem_toArray,List.getElem_cons_zero,List.getElem_cons_succ,List.setIfInBounds_toArray,List.set_cons_zero,List.set_cons_succ]
         refine wpAnyH_ready (rs:=[5]) (by kernel_rfl) (by simp) ?_
         refine AllReadyH.cons rfl (fun K hK=>?_) ?_
         ·go_simp
          refine (con_lengths HLA.out HLB.out FLh.out).mono ?_
          rintro e wl ⟨rfl,hb⟩
          refine hK.out _ _ ?_ (fun hHeld2=>?_)
          ·exact KL2.out _ _ hHeld hb
          ·clear hK K hHeld
           have hHeld:=hHeld2
           clear hHeld2
           try simp only [Act.put,List.getElem_toArray,List.getElem_cons_zero,List.getElem_cons_succ,List.setIfInBounds_toArray,List.set_cons_zero,List.set_cons_succ]
           replace R0:=R0.later hb
           clear hb
           refine wpAnyH_ready (rs:=[6]) (by kernel_rfl) (by simp) ?_
           refine AllReadyH.cons rfl (fun K hK=>?_) ?_
           ·go_simp
            refine (con_gxoredL F2h.out FLh.out FXh.out HY2.out.2 (wdsL_len _ _)).mono ?_
            rintro e wx ⟨rfl,hb⟩
            refine hK.out _ _ ?_ (fun hHeld2=>?_)
            ·exact KL2.out _ _ hHeld hb
            ·clear hK K hHeld
             have hHeld:=hHeld2
             clear hHeld2
             try simp only [Act.put,List.getElem_toArray,List.getElem_cons_zero,List.getElem_cons_succ,List.setIfInBounds_toArray,List.set_cons_zero,List.set_cons_succ]
             replace R0:=R0.later hb
             clear hb
             refine wpAnyH_ready (rs:=[8]) (by kernel_rfl) (by simp) ?_
             refine AllReadyH.cons rfl (fun K hK=>?_) ?_
             ·go_simp
              refine (con_MulG FXh.out FHh.out Eh.out (xk_len _ _) (xkN_byt HY2.out.1 (wdsL_byt _ _)) HHb.out.2 HHb.out.1).mono ?_
              rintro e wm ⟨rfl,hb⟩
              refine hK.out _ _ ?_ (fun hHeld2=>?_)
              ·exact KL2.out _ _ hHeld hb
              ·clear hK K hHeld
               have hHeld:=hHeld2
               clear hHeld2
               try simp only [Act.put,List.getElem_toArray,List.getElem_cons_zero,List.getElem_cons_succ,List.setIfInBounds_toArray,List.set_cons_zero,List.set_cons_succ]
               replace R0:=R0.later hb
               clear hb
               refine wpAnyH_ready (rs:=[9]) (by kernel_rfl) (by simp) ?_
               refine AllReadyH.cons rfl (fun K hK=>?_) ?_
               ·obtain ⟨tR,hR⟩:=R0
                rw [if_pos (by rfl)]
                refine wp_store_row 91 _ _ rfl (w.heap.size + 1) E.toArray rfl rfl tR Z.toArray hR (by rw [size_16,List.size_toArray,El.out]) (by rw [List.size_toArray,List.size_toArray,El.out,HZl.out]) Eo.out ?_
                refine hK.out _ _ ?_ (fun hHeld2=>?_)
                ·exact KR2.out _ _ _ hHeld (.inr (by intro c X h;simp only [List.mem_cons,List.not_mem_nil,or_false,Prod.mk.injEq] at h;rcases h with ⟨rfl,rfl⟩|⟨rfl,rfl⟩<;>omega)) (by omega)
                ·clear hK K hHeld
                 have hHeld:=hHeld2
                 clear hHeld2
                 try simp only [Act.put,List.getElem_toArray,List.getElem_cons_zero,List.getElem_cons_succ,List.setIfInBounds_toArray,List.set_cons_zero,List.set_cons_succ]
                 refine wpAnyH_done (by kernel_rfl) ?_ _
                 refine NoPanic.normal ?_
                 have bel:=KB2.out _ hHeld
                 go_wp2_with fail
                 exact bodyPost_ret (results_cell_row Tryz.results62 _ _ (w.heap.size + 1) tR E.toArray (0,0) _ rfl (setRow_heap _ _ _ _ _ _ hR) Tryz.underlying91 rfl (by rw [size_16,List.size_toArray,El.out])) rfl ⟨rfl,bel⟩
               exact AllReadyH.nil
             exact AllReadyH.nil
           exact AllReadyH.nil
         exact AllReadyH.nil
       exact AllReadyH.nil
     exact AllReadyH.nil
   exact AllReadyH.nil
 refine AllReadyH.cons rfl (fun K hK=>?_) ?_
 ·have hz:=HZ0.out
  have HSZ:Hid (W.heap.size≤wd.heap.size):=KN1.out _ hHeld
  go_simp
  refine hK.out _ _ ?_ (fun hHeld2=>?_)
  ·exact KA1.out _ _ hHeld
  ·clear hK K hHeld
   have hHeld:=hHeld2
   clear hHeld2
   try simp only [Act.put,List.getElem_toArray,List.getElem_cons_zero,List.getElem_cons_succ,List.setIfInBounds_toArray,List.set_cons_zero,List.set_cons_succ]
   clear hz
   have V:=Blk.new wd Z 91 wd.heap.size rfl
   have lg:=V.lt
   obtain ⟨g,hg⟩:∃ g,g=wd.heap.size:=⟨_,rfl⟩
   rw [← hg] at V lg ⊢
   have gW:W.heap.size≤g:=by rw [hg];exact HSZ.out
   clear hg
   generalize wd.alloc (Obj.cells Z.toArray 91)=wa at *
   clear HSZ
   refine wpAnyH_ready (rs:=[4]) (by kernel_rfl) (by simp) ?_
   refine AllReadyH.cons rfl (fun K hK=>?_) ?_
   ·go_simp
    refine (con_addedL FHh.out (Y:=List.replicate 16 0) rfl F1x.out HHb.out.2 HHb.out.1 List.length_replicate (byt_zeros 16) (HVA.out.later (KB1.out _ hHeld)) HAb.out (by have:=HLA.out;omega)).mono ?_
    rintro e w4 ⟨rfl,hb⟩
    refine hK.out _ _ ?_ (fun hHeld2=>?_)
    ·exact KL1.out _ _ hHeld hb
    ·clear hK K hHeld
     have hHeld:=hHeld2
     clear hHeld2
     try simp only [Act.put,List.getElem_toArray,List.getElem_cons_zero,List.getElem_cons_succ,List.setIfInBounds_toArray,List.set_cons_zero,List.set_cons_succ]
     replace V:=V.later hb
     replace lg:=Nat.lt_of_lt_of_le lg hb.size
     clear hb
     refine wpAnyH_ready (rs:=[6]) (by kernel_rfl) (by simp) ?_
     refine AllReadyH.cons rfl (fun K hK=>?_) ?_
     ·go_simp
      refine (con_addedL FHh.out F1h.out F2x.out HHb.out.2 HHb.out.1 HY1.out.2 HY1.out.1 (HVB.out.later (KB1.out _ hHeld)) HBb.out (by have:=HLB.out;omega)).mono ?_
      rintro e w6 ⟨rfl,hb⟩
      refine hK.out _ _ ?_ (fun hHeld2=>?_)
      ·exact KL1.out _ _ hHeld hb
      ·clear hK K hHeld
       have hHeld:=hHeld2
       clear hHeld2
       try simp only [Act.put,List.getElem_toArray,List.getElem_cons_zero,List.getElem_cons_succ,List.setIfInBounds_toArray,List.set_cons_zero,List.set_cons_succ]
       replace V:=V.later hb
       replace lg:=Nat.lt_of_lt_of_le lg hb.size
       clear hb
       refine wpAnyH_ready (rs:=[8]) (by kernel_rfl) (by simp) ?_
       refine AllReadyH.cons rfl (fun K hK=>?_) ?_
       ·obtain ⟨tV,hV⟩:=V
        rw [if_pos (by rfl)]
        refine wp_store_row 91 _ _ rfl g F2.toArray rfl rfl tV Z.toArray hV (by rw [size_16,List.size_toArray,F2l.out]) (by rw [List.size_toArray,List.size_toArray,F2l.out,HZl.out]) F2o.out ?_
        refine hK.out _ _ ?_ (fun hHeld2=>?_)
        ·exact KR1.out _ _ _ hHeld (.inl gW) (by omega)
        ·clear hK K hHeld
         have hHeld:=hHeld2
         clear hHeld2
         try simp only [Act.put,List.getElem_toArray,List.getElem_cons_zero,List.getElem_cons_succ,List.setIfInBounds_toArray,List.set_cons_zero,List.set_cons_succ]
         have V2:Blk (World.setRow w6 g F2.toArray) g F2:=⟨tV,setRow_heap _ _ _ _ _ _ hV⟩
         clear hV lg
         generalize World.setRow _ _ _=w8 at *
         refine wpAnyH_done (by kernel_rfl) ?_ _
         refine NoPanic.normal ?_
         have B0:=KM1.out _ _ _ hHeld (List.Mem.head _)
         have R0:=KM1.out _ _ _ hHeld (List.Mem.tail _ (List.Mem.head _))
         have bel:=KB1.out _ hHeld
         have lR:=R0.lt
         have l0:=B0.lt
         clear hHeld KL1 KM1 KB1 KR1 KD1 KA1 KN1 rh S1
         go_upto_region 2 with fail
         obtain ⟨S2,hS2,KL2,KA2,KD2,KS2,KQ2,KN2,KB2,KM2,KR2⟩:=held3 (w0:=w) (W:=w8) [(w.heap.size,FH),(g,F2)] (by
          intro b X h
          simp only [List.mem_cons,List.not_mem_nil,or_false,Prod.mk.injEq] at h
          rcases h with ⟨rfl,rfl⟩|⟨rfl,rfl⟩
          ·exact B0
          ·exact V2) bel
         have rh:Hid (∀ wx,Hd S2 wx→(loadVar 91 ⟨w.heap.size,0,none⟩).run Tryz.prog wx=.ok (.agg FH.toArray) wx):=fun wx h=>(KM2.out wx _ _ h (List.Mem.head _)).load Tryz.underlying91 rfl size_16 FHl.out
         have ry:Hid (∀ wx,Hd S2 wx→(loadVar 91 ⟨g,0,none⟩).run Tryz.prog wx=.ok (.agg F2.toArray) wx):=fun wx h=>(KM2.out wx _ _ h (List.Mem.tail _ (List.Mem.head _))).load Tryz.underlying91 rfl size_16 F2l.out
         clear KS2 KA2 KN2 KQ2 B0 V2 bel
         refine wp_region_noPanic ?_
         refine wp_region_held_drew (S:=Hd S2) (by kernel_rfl) (KD2.out _ hS2) (fun hHeld=>?_)
         clear hS2
         replace R0:=R0.drew
         generalize World.drew _=wd at *
         refine wpAnyH_take (i:=0) (v:=.agg F2.toArray) rfl (by kernel_rfl) (by kernel_rfl) (by kernel_rfl) (fun _ _ _ h=>h) (Or.inl ⟨by rfl,fun wx h=>exec_load rfl rfl (ry.out wx h)⟩) (by assumption) ?_
         try simp only [Act.put,List.getElem_toArray,List.getElem_cons_zero,List.getElem_cons_succ,List.setIfInBounds_toArray,List.set_cons_zero,List.set_cons_succ]
         refine wpAnyH_take (i:=1) (v:=?_) rfl (by kernel_rfl) (by kernel_rfl) (by kernel_rfl) (fun _ _ _ h=>h) (Or.inl ⟨by rfl,?_⟩) (by assumption) ?_
         rotate_left
         ·intro w hSw
          go_simp
          with_reducible rfl
         try simp only [Act.put,List.getElem_toArray,List.getElem_cons_zero,List.getElem_cons_succ,List.setIfInBounds_toArray,List.set_cons_zero,List.set_cons_succ]
         refine wpAnyH_take (i:=2) (v:=?_) rfl (by kernel_rfl) (by kernel_rfl) (by kernel_rfl) (fun _ _ _ h=>h) (Or.inl ⟨by rfl,?_⟩) (by assumption) ?_
         rotate_left
         ·intro w hSw
          go_simp
          with_reducible rfl
         try simp only [Act.put,List.getElem_toArray,List.getElem_cons_zero,List.getElem_cons_succ,List.setIfInBounds_toArray,List.set_cons_zero,List.set_cons_succ]
         refine wpAnyH_take (i:=3) (v:=?_) rfl (by kernel_rfl) (by kernel_rfl) (by kernel_rfl) (fun _ _ _ h=>h) (Or.inl ⟨by rfl,?_⟩) (by assumption) ?_
         rotate_left
         ·intro w hSw
          go_simp
          with_reducible rfl
         try simp only [Act.put,List.getElem_toArray,List.getElem_cons_zero,List.getElem_cons_succ,List.setIfInBounds_toArray,List.set_cons_zero,List.set_cons_succ]
         refine wpAnyH_take (i:=4) (v:=?_) rfl (by kernel_rfl) (by kernel_rfl) (by kernel_rfl) (fun _ _ _ h=>h) (Or.inl ⟨by rfl,?_⟩) (by assumption) ?_
         rotate_left
         ·intro w hSw
          go_simp
          with_reducible rfl
         try simp only [Act.put,List.getElem_toArray,List.getElem_cons_zero,List.getElem_cons_succ,List.setIfInBounds_toArray,List.set_cons_zero,List.set_cons_succ]
         refine wpAnyH_take (i:=7) (v:=.agg FH.toArray) rfl (by kernel_rfl) (by kernel_rfl) (by kernel_rfl) (fun _ _ _ h=>h) (Or.inl ⟨by rfl,fun wx h=>exec_load rfl rfl (rh.out wx h)⟩) (by assumption) ?_
         try simp only [Act.put,List.getElem_toArray,List.getElem_cons_zero,List.getElem_cons_succ,List.setIfInBounds_toArray,List.set_cons_zero,List.set_cons_succ]
         refine wpAnyH_ready (rs:=[5]) (by kernel_rfl) (by simp) ?_
         refine AllReadyH.cons rfl (fun K hK=>?_) ?_
         ·go_simp
          refine (con_lengths HLA.out HLB.out FLh.out).mono ?_
          rintro e wl ⟨rfl,hb⟩
          refine hK.out _ _ ?_ (fun hHeld2=>?_)
          ·exact KL2.out _ _ hHeld hb
          ·clear hK K hHeld
           have hHeld:=hHeld2
           clear hHeld2
           try simp only [Act.put,List.getElem_toArray,List.getElem_cons_zero,List.getElem_cons_succ,List.setIfInBounds_toArray,List.set_cons_zero,List.set_cons_succ]
           replace R0:=R0.later hb
           clear hb
           refine wpAnyH_ready (rs:=[6]) (by kernel_rfl) (by simp) ?_
           refine AllReadyH.cons rfl (fun K hK=>?_) ?_
           ·go_simp
            refine (con_gxoredL F2h.out FLh.out FXh.out HY2.out.2 (wdsL_len _ _)).mono ?_
            rintro e wx ⟨rfl,hb⟩
            refine hK.out _ _ ?_ (fun hHeld2=>?_)
            ·exact KL2.out _ _ hHeld hb
            ·clear hK K hHeld
             have hHeld:=hHeld2
             clear hHeld2
             try simp only [Act.put,List.getElem_toArray,List.getElem_cons_zero,List.getElem_cons_succ,List.setIfInBounds_toArray,List.set_cons_zero,List.set_cons_succ]
             replace R0:=R0.later hb
             clear hb
             refine wpAnyH_ready (rs:=[8]) (by kernel_rfl) (by simp) ?_
             refine AllReadyH.cons rfl (fun K hK=>?_) ?_
             ·go_simp
              refine (con_MulG FXh.out FHh.out Eh.out (xk_len _ _) (xkN_byt HY2.out.1 (wdsL_byt _ _)) HHb.out.2 HHb.out.1).mono ?_
              rintro e wm ⟨rfl,hb⟩
              refine hK.out _ _ ?_ (fun hHeld2=>?_)
              ·exact KL2.out _ _ hHeld hb
              ·clear hK K hHeld
               have hHeld:=hHeld2
               clear hHeld2
               try simp only [Act.put,List.getElem_toArray,List.getElem_cons_zero,List.getElem_cons_succ,List.setIfInBounds_toArray,List.set_cons_zero,List.set_cons_succ]
               replace R0:=R0.later hb
               clear hb
               refine wpAnyH_ready (rs:=[9]) (by kernel_rfl) (by simp) ?_
               refine AllReadyH.cons rfl (fun K hK=>?_) ?_
               ·obtain ⟨tR,hR⟩:=R0
                rw [if_pos (by rfl)]
                refine wp_store_row 91 _ _ rfl (w.heap.size + 1) E.toArray rfl rfl tR Z.toArray hR (by rw [size_16,List.size_toArray,El.out]) (by rw [List.size_toArray,List.size_toArray,El.out,HZl.out]) Eo.out ?_
                refine hK.out _ _ ?_ (fun hHeld2=>?_)
                ·exact KR2.out _ _ _ hHeld (.inr (by intro c X h;simp only [List.mem_cons,List.not_mem_nil,or_false,Prod.mk.injEq] at h;rcases h with ⟨rfl,rfl⟩|⟨rfl,rfl⟩<;>omega)) (by omega)
                ·clear hK K hHeld
                 have hHeld:=hHeld2
                 clear hHeld2
                 try simp only [Act.put,List.getElem_toArray,List.getElem_cons_zero,List.getElem_cons_succ,List.setIfInBounds_toArray,List.set_cons_zero,List.set_cons_succ]
                 refine wpAnyH_done (by kernel_rfl) ?_ _
                 refine NoPanic.normal ?_
                 have bel:=KB2.out _ hHeld
                 go_wp2_with fail
                 exact bodyPost_ret (results_cell_row Tryz.results62 _ _ (w.heap.size + 1) tR E.toArray (0,0) _ rfl (setRow_heap _ _ _ _ _ _ hR) Tryz.underlying91 rfl (by rw [size_16,List.size_toArray,El.out])) rfl ⟨rfl,bel⟩
               exact AllReadyH.nil
             exact AllReadyH.nil
           exact AllReadyH.nil
         exact AllReadyH.nil
       exact AllReadyH.nil
     exact AllReadyH.nil
   exact AllReadyH.nil
 exact AllReadyH.nil
end Go.Proofs.YtlkljfnenonfgaaGreatDoor
