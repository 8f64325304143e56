/- The program's steps and Begin. -/
import Derived.Test.YtlkljfnenonfgaaGreatDoorSCodeT
import Derived.Test.YtlkljfnenonfgaaGreatDoorSSch0
import Derived.Test.YtlkljfnenonfgaaGreatDoorRows
import Derived.BigQuiet
import Derived.Deep.QuietTactic
import Derived.Deep.WholeRow
import Derived.Deep.RegionHeld3
import Derived.Deep.DeepCutAuto
import Derived.Deep.DeepFit
namespace Go.Proofs.YtlkljfnenonfgaaGreatDoor
open Go.RowKit
theorem con_stepL {h0 h1 h2 h3 h4 h5 h6 h7 y0 y1 y2 y3 y4 y5 y6 y7:Int} {v:Value} {B:List Int} {w:World} (G:GlsS w) (fH:fits [h0,h1,h2,h3,h4,h5,h6,h7]) (hv:Bs w v B) (hB:byt B) (l:B.length=128) (hy:stepN KS [h0,h1,h2,h3,h4,h5,h6,h7] B=[y0,y1,y2,y3,y4,y5,y6,y7]) :
  Calls Tryz.prog 117 #[.agg #[.int .u64 h0,.int .u64 h1,.int .u64 h2,.int .u64 h3,.int .u64 h4,.int .u64 h5,.int .u64 h6,.int .u64 h7],v] w fun e w'=>e=.returned (.agg #[.int .u64 y0,.int .u64 y1,.int .u64 y2,.int .u64 y3,.int .u64 y4,.int .u64 y5,.int .u64 y6,.int .u64 y7])∧Below w.heap.size w w':=by
 refine (con_step0 G fH hv hB l).mono ?_
 rintro e w' ⟨rfl,hb⟩
 rw [hy]
 exact ⟨rfl,hb⟩
theorem bs_sub {w wx:World} {b o k cap:Nat} {M:List Int} (hb0:b < w.heap.size) (hc:∀ j,j < M.length→w.cell? ⟨b,o + j,none⟩=some (.int .u8 (M.getD j 0))) (hb:Below w.heap.size w wx) (hl:128 * k + 128≤M.length) (h1:128≤cap) (h2:cap≤maxLen):Bs wx (.slice (some ⟨b,o + 128 * k,none⟩) 128 cap) ((M.drop (128 * k)).take 128):=by
 have e:=len_cut hl
 refine ⟨some ⟨b,o + 128 * k,none⟩,cap,by rw [e],h2,by rw [e];exact h1,fun _=>⟨b,o + 128 * k,rfl,Nat.lt_of_lt_of_le hb0 hb.size,fun j hj=>?_⟩⟩
 rw [e] at hj
 rw [Nat.add_assoc]
 have:=(hb.cell (p:=⟨b,o + (128 * k + j),none⟩) hb0).trans (hc (128 * k + j) (by omega))
 rw [this]
 congr 2
 rw [List.getD_eq_getElem?_getD,List.getD_eq_getElem?_getD,List.getElem?_take,if_pos hj,List.getElem?_drop]
set_option linter.unusedSimpArgs false in
set_option maxRecDepth 100000 in
set_option maxHeartbeats 4000000 in
theorem con_steps {h0 h1 h2 h3 h4 h5 h6 h7:Int} {v:Value} {M:List Int} {q:Nat} {w:World} (G:GlsS w) (fH:fits [h0,h1,h2,h3,h4,h5,h6,h7]) (hv:Bs w v M) (hB:byt M) (l:M.length=128 * q) :
  Calls Tryz.prog 100 #[.agg #[.int .u64 h0,.int .u64 h1,.int .u64 h2,.int .u64 h3,.int .u64 h4,.int .u64 h5,.int .u64 h6,.int .u64 h7],v] w fun e w'=>e=.returned (.agg (us (digN KS [h0,h1,h2,h3,h4,h5,h6,h7] M q)).toArray)∧Below w.heap.size w w':=by
 obtain ⟨ao,cap,rfl,q1,q2,q3⟩:=hv
 have HC:Hid _:=q3
 have HK:Hid (GlsS w):=G
 have HF:Hid (fits [h0,h1,h2,h3,h4,h5,h6,h7]):=fH
 have HB:Hid (byt M):=hB
 have HL:Hid (M.length=128 * q):=l
 clear q3 G fH hB
 rw [l] at q2 ⊢
 clear l
 unfold maxLen at q1
 have BV:=(Blk.new w [.int .u64 h0,.int .u64 h1,.int .u64 h2,.int .u64 h3,.int .u64 h4,.int .u64 h5,.int .u64 h6,.int .u64 h7] 145 (w.heap.size) rfl).alloc (.cells [.int .u64 0,.int .u64 0,.int .u64 0,.int .u64 0,.int .u64 0,.int .u64 0,.int .u64 0,.int .u64 0].toArray 145)
 have B1:=Blk.new (w.alloc (.cells [.int .u64 h0,.int .u64 h1,.int .u64 h2,.int .u64 h3,.int .u64 h4,.int .u64 h5,.int .u64 h6,.int .u64 h7].toArray 145)) [.int .u64 0,.int .u64 0,.int .u64 0,.int .u64 0,.int .u64 0,.int .u64 0,.int .u64 0,.int .u64 0] 145 (w.heap.size + 1) (by simp)
 have bel:Below w.heap.size w ((w.alloc (.cells [.int .u64 h0,.int .u64 h1,.int .u64 h2,.int .u64 h3,.int .u64 h4,.int .u64 h5,.int .u64 h6,.int .u64 h7].toArray 145)).alloc (.cells [.int .u64 0,.int .u64 0,.int .u64 0,.int .u64 0,.int .u64 0,.int .u64 0,.int .u64 0,.int .u64 0].toArray 145)):=(((Below.refl _ _).alloc (Nat.le_refl _) _).alloc (by simp) _)
 go_enter Tryz.func100,Tryz.ntmps100
 go_upto_region 1 with fail
 try simp only [us,List.map_cons,List.map_nil] at bel
 generalize ((w.alloc (Obj.cells #[.int .u64 h0,.int .u64 h1,.int .u64 h2,.int .u64 h3,.int .u64 h4,.int .u64 h5,.int .u64 h6,.int .u64 h7] 145)).alloc (Obj.cells #[.int .u64 0,.int .u64 0,.int .u64 0,.int .u64 0,.int .u64 0,.int .u64 0,.int .u64 0,.int .u64 0] 145))=W at *
 go_wp2_with fail
 go_loopw [5] (fun iv wx=>∃ k:Nat,k≤q∧iv=.int .i64 (128 * (k:Int))∧Blk wx w.heap.size (us (digN KS [h0,h1,h2,h3,h4,h5,h6,h7] M k))∧Blk wx (w.heap.size + 1) [.int .u64 0,.int .u64 0,.int .u64 0,.int .u64 0,.int .u64 0,.int .u64 0,.int .u64 0,.int .u64 0]∧Below w.heap.size w wx) (fun iv _=>128 * q - (intOf iv).toNat)
 case atStart=>exact ⟨0,by omega,by simp,BV,B1,bel⟩
 case round =>
  clear BV B1 bel
  obtain ⟨k,hk,rfl,BV,B1,bel⟩:=hrel
  obtain ⟨x0,x1,x2,x3,x4,x5,x6,x7,hx⟩:=eight (digN_len (K:=KS) (H:=[h0,h1,h2,h3,h4,h5,h6,h7]) (M:=M) rfl k)
  by_cases hlt:k < q
  ·have HS:Hid (digN KS [h0,h1,h2,h3,h4,h5,h6,h7] M (k + 1)=stepN KS (digN KS [h0,h1,h2,h3,h4,h5,h6,h7] M k) ((M.drop (128 * k)).take 128)):=rfl
   have FX:Hid (fits (digN KS [h0,h1,h2,h3,h4,h5,h6,h7] M k)):=digN_fits HF.out k
   rw [hx] at BV HS FX
   simp only [us,List.map_cons,List.map_nil] at BV
   clear hx
   obtain ⟨b,o,rfl,hb0,hc0⟩:=HC.out (by have:=HL.out;omega)
   have HC2:Hid _:=hc0
   clear hc0
   have g1:128 * (k:Int) < ((128 * q:Nat):Int):=by omega
   have g2:(0:Int)≤128 * (k:Int):=by omega
   have gk:IntKind.i64.wrap (128 * (k:Int) + 128)=128 * (k:Int) + 128:=by rw [IntKind.wrap_i64];omega
   have g3:128 * (k:Int)≤128 * (k:Int) + 128:=by omega
   have g4:128 * (k:Int) + 128≤(cap:Int):=by omega
   have ne1:¬ cap=128 * k:=by omega
   have g5:(128 * (k:Int)).toNat=128 * k:=by omega
   have g6:(128 * (k:Int) + 128).toNat=128 * k + 128:=by omega
   have g7:128 * k + 128 - 128 * k=128:=by omega
   obtain ⟨y0,y1,y2,y3,y4,y5,y6,y7,hy⟩:=eight (stepN_len KS [x0,x1,x2,x3,x4,x5,x6,x7] ((M.drop (128 * k)).take 128))
   rw [hy] at HS
   have HY:Hid (stepN KS [x0,x1,x2,x3,x4,x5,x6,x7] ((M.drop (128 * k)).take 128)=[y0,y1,y2,y3,y4,y5,y6,y7]):=hy
   clear hy
   go_upto_region 4 with fail
   obtain ⟨S1,hS1,KL1,KA1,KD1,KS1,KQ1,KN1,KB1,KM1,KR1⟩:=held3 (w0:=w) (W:=wr) [(w.heap.size + 1,[.int .u64 0,.int .u64 0,.int .u64 0,.int .u64 0,.int .u64 0,.int .u64 0,.int .u64 0,.int .u64 0])] (by
    intro b X h
    simp only [List.mem_cons,List.not_mem_nil,or_false,Prod.mk.injEq] at h
    obtain ⟨rfl,rfl⟩:=h
    exact B1) bel
   have mq:∀ c X,(c,X)∈[((w.heap.size + 1:Nat),([.int .u64 0,.int .u64 0,.int .u64 0,.int .u64 0,.int .u64 0,.int .u64 0,.int .u64 0,.int .u64 0]:List Value))]→c≠w.heap.size:=by
    intro c X h
    simp only [List.mem_cons,List.not_mem_nil,or_false,Prod.mk.injEq] at h
    omega
   have bsz:=bel.size
   clear B1 bel KS1 KR1 KA1 KN1
   refine wp_region_noPanic ?_
   refine wp_region_held_drew (S:=Hd S1) (by kernel_rfl) (KD1.out _ hS1) (fun hHeld=>?_)
   clear hS1
   replace BV:=BV.drew
   generalize World.drew _=wd at *
   refine wpAnyH_take (i:=1) (v:=?_) rfl (by kernel_rfl) (by kernel_rfl) (by kernel_rfl) (fun _ _ _ h=>h) (Or.inl ⟨by rfl,?_⟩) (by assumption) ?_
   rotate_left
   ·intro w hSw
    go_simp
    with_reducible rfl
   try simp only [Act.put,List.setIfInBounds_toArray,List.set_cons_zero,List.set_cons_succ]
   refine wpAnyH_take (i:=2) (v:=?_) rfl (by kernel_rfl) (by kernel_rfl) (by kernel_rfl) (fun _ _ _ h=>h) (Or.inl ⟨by rfl,?_⟩) (by assumption) ?_
   rotate_left
   ·intro w hSw
    go_simp
    with_reducible rfl
   try simp only [Act.put,List.setIfInBounds_toArray,List.set_cons_zero,List.set_cons_succ]
   refine wpAnyH_take (i:=3) (v:=?_) rfl (by kernel_rfl) (by kernel_rfl) (by kernel_rfl) (fun _ _ _ h=>h) (Or.inl ⟨by rfl,?_⟩) (by assumption) ?_
   rotate_left
   ·intro w hSw
    go_simp
    with_reducible rfl
   try simp only [Act.put,List.setIfInBounds_toArray,List.set_cons_zero,List.set_cons_succ]
   refine wpAnyH_take (i:=4) (v:=?_) rfl (by kernel_rfl) (by kernel_rfl) (by kernel_rfl) (fun _ _ _ h=>h) (Or.inl ⟨by rfl,?_⟩) (by assumption) ?_
   rotate_left
   ·intro w hSw
    go_simp
    with_reducible rfl
   try simp only [Act.put,List.setIfInBounds_toArray,List.set_cons_zero,List.set_cons_succ]
   refine wpAnyH_take (i:=5) (v:=?_) rfl (by kernel_rfl) (by kernel_rfl) (by kernel_rfl) (fun _ _ _ h=>h) (Or.inl ⟨by rfl,?_⟩) (by assumption) ?_
   rotate_left
   ·intro w hSw
    go_simp
    with_reducible rfl
   try simp only [Act.put,List.setIfInBounds_toArray,List.set_cons_zero,List.set_cons_succ]
   refine wpAnyH_ready (rs:=[0]) (by kernel_rfl) (by simp) ?_
   refine AllReadyH.cons rfl (fun K hK=>?_) ?_
   ·have lts:=BV.lt
    have e0:=BV.cell 0 _ rfl;have i0:=BV.frozen 0;have e1:=BV.cell 1 _ rfl;have i1:=BV.frozen 1;have e2:=BV.cell 2 _ rfl;have i2:=BV.frozen 2;have e3:=BV.cell 3 _ rfl;have i3:=BV.frozen 3;have e4:=BV.cell 4 _ rfl;have i4:=BV.frozen 4;have e5:=BV.cell 5 _ rfl;have i5:=BV.frozen 5;have e6:=BV.cell 6 _ rfl;have i6:=BV.frozen 6;have e7:=BV.cell 7 _ rfl;have i7:=BV.frozen 7
    go_simp
    refine hK.out _ _ ?_ (fun hHeld2=>?_)
    ·exact hHeld
    ·clear hK K hHeld
     have hHeld:=hHeld2
     clear hHeld2
     try simp only [Act.put,List.setIfInBounds_toArray,List.set_cons_zero,List.set_cons_succ]
     clear lts e0 i0 e1 i1 e2 i2 e3 i3 e4 i4 e5 i5 e6 i6 e7 i7
     refine wpAnyH_ready (rs:=[6]) (by kernel_rfl) (by simp) ?_
     refine AllReadyH.cons rfl (fun K hK=>?_) ?_
     ·go_simp
      go_fit (con_stepL (HK.out.below (KB1.out _ hHeld)) FX.out (bs_sub hb0 HC2.out (KB1.out _ hHeld) (by have:=HL.out;omega) (by omega) (by unfold maxLen;omega)) (byt_cut HB.out) (len_cut (by have:=HL.out;omega)) HY.out)
      rintro e w' ⟨rfl,hb⟩
      refine hK.out _ _ ?_ (fun hHeld2=>?_)
      ·exact KL1.out _ _ hHeld hb
      ·clear hK K hHeld
       have hHeld:=hHeld2
       clear hHeld2
       try simp only [Act.put,List.setIfInBounds_toArray,List.set_cons_zero,List.set_cons_succ]
       replace BV:=BV.later hb
       clear hb
       refine wpAnyH_ready (rs:=[7]) (by kernel_rfl) (by simp) ?_
       refine AllReadyH.cons rfl (fun K hK=>?_) ?_
       ·have lts:=BV.lt
        have e0:=BV.cell 0 _ rfl;have i0:=BV.frozen 0;have e1:=BV.cell 1 _ rfl;have i1:=BV.frozen 1;have e2:=BV.cell 2 _ rfl;have i2:=BV.frozen 2;have e3:=BV.cell 3 _ rfl;have i3:=BV.frozen 3;have e4:=BV.cell 4 _ rfl;have i4:=BV.frozen 4;have e5:=BV.cell 5 _ rfl;have i5:=BV.frozen 5;have e6:=BV.cell 6 _ rfl;have i6:=BV.frozen 6;have e7:=BV.cell 7 _ rfl;have i7:=BV.frozen 7
        go_simp
        refine hK.out _ _ ?_ (fun hHeld2=>?_)
        ·exact (KQ1.out _ _ _ _ (KQ1.out _ _ _ _ (KQ1.out _ _ _ _ (KQ1.out _ _ _ _ (KQ1.out _ _ _ _ (KQ1.out _ _ _ _ (KQ1.out _ _ _ _ (KQ1.out _ _ _ _ hHeld (Or.inr mq) (by omega)) (Or.inr mq) (by omega)) (Or.inr mq) (by omega)) (Or.inr mq) (by omega)) (Or.inr mq) (by omega)) (Or.inr mq) (by omega)) (Or.inr mq) (by omega)) (Or.inr mq) (by omega))
        ·clear hK K hHeld
         have hHeld:=hHeld2
         clear hHeld2
         try simp only [Act.put,List.setIfInBounds_toArray,List.set_cons_zero,List.set_cons_succ]
         clear lts e0 i0 e1 i1 e2 i2 e3 i3 e4 i4 e5 i5 e6 i6 e7 i7
         replace BV:=BV.on_put8 hHeld
         refine wpAnyH_done (by kernel_rfl) ?_ _
         refine NoPanic.normal ?_
         have B1:=KM1.out _ (w.heap.size + 1) _ hHeld (List.Mem.head _)
         have bel:=KB1.out _ hHeld
         clear hHeld mq KL1 KD1 KQ1 KB1 KM1
         generalize World.setCell _ _ _=w9 at *
         go_wp2_with fail
         go_roundw
         case rel=>exact ⟨k + 1,by omega,by go_num,by rw [HS.out];exact BV,B1,bel⟩
         case measure=>simp [intOf];omega
       exact AllReadyH.nil
     exact AllReadyH.nil
   exact AllReadyH.nil
  ·have HK2:Hid (k=q):=by show k=q;omega
   have HYS:Hid _:=hx
   rw [hx] at BV
   simp only [us,List.map_cons,List.map_nil] at BV
   clear hx
   have g1:¬ 128 * (k:Int) < ((128 * q:Nat):Int):=by omega
   have lv:=BV.lt
   have lr:=B1.lt
   have e0:=BV.cell 0 _ rfl
   have e1:=BV.cell 1 _ rfl
   have e2:=BV.cell 2 _ rfl
   have e3:=BV.cell 3 _ rfl
   have e4:=BV.cell 4 _ rfl
   have e5:=BV.cell 5 _ rfl
   have e6:=BV.cell 6 _ rfl
   have e7:=BV.cell 7 _ rfl
   have d0:=B1.cell 0 _ rfl;have f0:=B1.frozen 0;have d1:=B1.cell 1 _ rfl;have f1:=B1.frozen 1;have d2:=B1.cell 2 _ rfl;have f2:=B1.frozen 2;have d3:=B1.cell 3 _ rfl;have f3:=B1.frozen 3;have d4:=B1.cell 4 _ rfl;have f4:=B1.frozen 4;have d5:=B1.cell 5 _ rfl;have f5:=B1.frozen 5;have d6:=B1.cell 6 _ rfl;have f6:=B1.frozen 6;have d7:=B1.cell 7 _ rfl;have f7:=B1.frozen 7
   go_wp2_with fail
   exact bodyPost_ret (v:=.agg #[.int .u64 x0,.int .u64 x1,.int .u64 x2,.int .u64 x3,.int .u64 x4,.int .u64 x5,.int .u64 x6,.int .u64 x7]) (by simp [results,Tryz.results100,go_sem,d0,d1,d2,d3,d4,d5,d6,d7]) rfl ⟨by rw [← HK2.out,HYS.out];rfl,below_put8 bel (by omega)⟩
set_option linter.unusedSimpArgs false in
set_option maxRecDepth 100000 in
set_option maxHeartbeats 4000000 in
theorem con_Begin {w:World} (G:GlsS w) :
  Calls Tryz.prog 101 #[] w fun e w'=>e=.returned (.agg (us HS).toArray)∧Below w.heap.size w w':=by
 have B1:=Blk.new w [.int .u64 0,.int .u64 0,.int .u64 0,.int .u64 0,.int .u64 0,.int .u64 0,.int .u64 0,.int .u64 0] 145 w.heap.size rfl
 have bel:Below w.heap.size w (w.alloc (.cells [.int .u64 0,.int .u64 0,.int .u64 0,.int .u64 0,.int .u64 0,.int .u64 0,.int .u64 0,.int .u64 0].toArray 145)):=((Below.refl _ _).alloc (Nat.le_refl _) _)
 have c0:=cell_later (G.2 0 (by decide)) bel
 have c1:=cell_later (G.2 1 (by decide)) bel
 have c2:=cell_later (G.2 2 (by decide)) bel
 have c3:=cell_later (G.2 3 (by decide)) bel
 have c4:=cell_later (G.2 4 (by decide)) bel
 have c5:=cell_later (G.2 5 (by decide)) bel
 have c6:=cell_later (G.2 6 (by decide)) bel
 have c7:=cell_later (G.2 7 (by decide)) bel
 obtain ⟨y0,y1,y2,y3,y4,y5,y6,y7,hy⟩:=eight (show HS.length=8 from rfl)
 rw [hy] at c0 c1 c2 c3 c4 c5 c6 c7
 have HY:Hid _:=hy
 clear hy
 replace c0:(w.alloc (.cells [.int .u64 0,.int .u64 0,.int .u64 0,.int .u64 0,.int .u64 0,.int .u64 0,.int .u64 0,.int .u64 0].toArray 145)).cell? ⟨7,0,none⟩=some (.int .u64 y0):=c0
 replace c1:(w.alloc (.cells [.int .u64 0,.int .u64 0,.int .u64 0,.int .u64 0,.int .u64 0,.int .u64 0,.int .u64 0,.int .u64 0].toArray 145)).cell? ⟨7,1,none⟩=some (.int .u64 y1):=c1
 replace c2:(w.alloc (.cells [.int .u64 0,.int .u64 0,.int .u64 0,.int .u64 0,.int .u64 0,.int .u64 0,.int .u64 0,.int .u64 0].toArray 145)).cell? ⟨7,2,none⟩=some (.int .u64 y2):=c2
 replace c3:(w.alloc (.cells [.int .u64 0,.int .u64 0,.int .u64 0,.int .u64 0,.int .u64 0,.int .u64 0,.int .u64 0,.int .u64 0].toArray 145)).cell? ⟨7,3,none⟩=some (.int .u64 y3):=c3
 replace c4:(w.alloc (.cells [.int .u64 0,.int .u64 0,.int .u64 0,.int .u64 0,.int .u64 0,.int .u64 0,.int .u64 0,.int .u64 0].toArray 145)).cell? ⟨7,4,none⟩=some (.int .u64 y4):=c4
 replace c5:(w.alloc (.cells [.int .u64 0,.int .u64 0,.int .u64 0,.int .u64 0,.int .u64 0,.int .u64 0,.int .u64 0,.int .u64 0].toArray 145)).cell? ⟨7,5,none⟩=some (.int .u64 y5):=c5
 replace c6:(w.alloc (.cells [.int .u64 0,.int .u64 0,.int .u64 0,.int .u64 0,.int .u64 0,.int .u64 0,.int .u64 0,.int .u64 0].toArray 145)).cell? ⟨7,6,none⟩=some (.int .u64 y6):=c6
 replace c7:(w.alloc (.cells [.int .u64 0,.int .u64 0,.int .u64 0,.int .u64 0,.int .u64 0,.int .u64 0,.int .u64 0,.int .u64 0].toArray 145)).cell? ⟨7,7,none⟩=some (.int .u64 y7):=c7
 go_enter Tryz.func101,Tryz.ntmps101
 go_upto_region 1 with fail
 generalize (w.alloc (Obj.cells #[.int .u64 0,.int .u64 0,.int .u64 0,.int .u64 0,.int .u64 0,.int .u64 0,.int .u64 0,.int .u64 0] 145))=W at *
 have lt1:=B1.lt
 have d0:=B1.cell 0 _ rfl;have f0:=B1.frozen 0;have d1:=B1.cell 1 _ rfl;have f1:=B1.frozen 1;have d2:=B1.cell 2 _ rfl;have f2:=B1.frozen 2;have d3:=B1.cell 3 _ rfl;have f3:=B1.frozen 3;have d4:=B1.cell 4 _ rfl;have f4:=B1.frozen 4;have d5:=B1.cell 5 _ rfl;have f5:=B1.frozen 5;have d6:=B1.cell 6 _ rfl;have f6:=B1.frozen 6;have d7:=B1.cell 7 _ rfl;have f7:=B1.frozen 7
 go_wp2_with fail
 exact bodyPost_ret (v:=.agg #[.int .u64 y0,.int .u64 y1,.int .u64 y2,.int .u64 y3,.int .u64 y4,.int .u64 y5,.int .u64 y6,.int .u64 y7]) (by simp [results,Tryz.results101,go_sem,d0,d1,d2,d3,d4,d5,d6,d7]) rfl ⟨by rw [HY.out];rfl,below_put8 bel (Nat.le_refl _)⟩
end Go.Proofs.YtlkljfnenonfgaaGreatDoor
