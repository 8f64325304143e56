/- The program's step: a block's. -/
import Derived.Test.YtlkljfnenonfgaaGreatDoorSSch0
import Derived.Test.YtlkljfnenonfgaaGreatDoorAeNumG
import Derived.Test.YtlkljfnenonfgaaGreatDoorRows
import Derived.BigQuiet
import Derived.Deep.QuietTactic
import Derived.Deep.WholeRow
import Derived.Deep.RegionHeld3
import Derived.Deep.DeepCutAuto
import Derived.Deep.DeepFit
namespace Go.Proofs.YtlkljfnenonfgaaGreatDoor
open Go.RowKit
/-- sha's tables lie where they lay -/
def GlsS (w:World):Prop:=(∀ j,j < 80→w.cell? ⟨8,j,none⟩=some (.int .u64 (KS.getD j 0)))∧∀ j,j < 8→w.cell? ⟨7,j,none⟩=some (.int .u64 (HS.getD j 0))
theorem GlsS.below {w w':World} (G:GlsS w) (hb:Below w.heap.size w w'):GlsS w':=⟨fun j hj=>cell_later (G.1 j hj) hb,fun j hj=>cell_later (G.2 j hj) hb⟩
theorem fits_KS:fits KS:=by
 intro j
 by_cases h:j < 80
 ·have e:∀ i:Fin 80,0≤KS.getD i.1 0∧KS.getD i.1 0 < 18446744073709551616:=by decide +kernel
  exact e ⟨j,h⟩
 ·rw [List.getD_eq_getElem?_getD,List.getElem?_eq_none (by rw [show KS.length=80 by decide +kernel];omega)]
  exact ⟨by decide,by decide⟩
theorem roundN_fits {V:List Int} (h:V.length=8) (f:fits V) (k m:Int):fits (roundN V k m):=by
 obtain ⟨x0,x1,x2,x3,x4,x5,x6,x7,rfl⟩:=eight h
 have hm:∀ y:Int,0≤y % 18446744073709551616∧y % 18446744073709551616 < 18446744073709551616:=fun y=>by omega
 intro j
 match j with
 | 0=>exact hm _
 | 1=>exact f 0
 | 2=>exact f 1
 | 3=>exact f 2
 | 4=>exact hm _
 | 5=>exact f 4
 | 6=>exact f 5
 | 7=>exact f 6
 | _ + 8=>exact ⟨by simp [roundN],by simp [roundN]⟩
theorem rndsN_fits {K H W:List Int} (f:fits H) (l:H.length=8):∀ k,fits (rndsN K H W k)
 | 0=>f
 | k + 1=>roundN_fits (rndsN_len l k) (rndsN_fits f l k) _ _
theorem sumsN_swap (A H:List Int):sumsN A H 8=sumsN H A 8:=by
 unfold sumsN
 apply List.map_congr_left
 intro j hj
 have:=List.mem_range.1 hj
 rw [if_pos this,if_pos this,Int.add_comm]
theorem con_RoundL {v0 v1 v2 v3 v4 v5 v6 v7 y0 y1 y2 y3 y4 y5 y6 y7 k m:Int} {w:World} (fV:fits [v0,v1,v2,v3,v4,v5,v6,v7]) (hk:w64 k) (hm:w64 m) (h:roundN [v0,v1,v2,v3,v4,v5,v6,v7] k m=[y0,y1,y2,y3,y4,y5,y6,y7]) :
  Calls Tryz.prog 128 #[.agg #[.int .u64 v0,.int .u64 v1,.int .u64 v2,.int .u64 v3,.int .u64 v4,.int .u64 v5,.int .u64 v6,.int .u64 v7],.int .u64 k,.int .u64 m] w fun e w'=>e=.returned (.agg #[.int .u64 y0,.int .u64 y1,.int .u64 y2,.int .u64 y3,.int .u64 y4,.int .u64 y5,.int .u64 y6,.int .u64 y7])∧Below w.heap.size w w':=by
 refine (con_Round fV hk hm).mono ?_
 rintro e w' ⟨rfl,hb⟩
 rw [h]
 exact ⟨rfl,hb⟩
set_option linter.unusedSimpArgs false in
set_option maxRecDepth 100000 in
set_option maxHeartbeats 4000000 in
theorem con_step0 {h0 h1 h2 h3 h4 h5 h6 h7:Int} {v:Value} {B:List Int} {w:World} (G:GlsS w) (fH:fits [h0,h1,h2,h3,h4,h5,h6,h7]) (hv:Bs w v B) (hB:byt B) (l:B.length=128) :
    Calls Tryz.prog 117 #[.agg #[.int .u64 h0,.int .u64 h1,.int .u64 h2,.int .u64 h3,.int .u64 h4,.int .u64 h5,.int .u64 h6,.int .u64 h7],v] w fun e w'=>e=.returned (.agg (us (stepN KS [h0,h1,h2,h3,h4,h5,h6,h7] B)).toArray)∧Below w.heap.size w w':=by
  obtain ⟨W0,hW0⟩:∃ W,schN B 80=W:=⟨_,rfl⟩
  have HW:Hid (schN B 80=W0):=hW0
  have HWf:Hid (∀ j,w64 (W0.getD j 0)):=by rw [← hW0];exact schN_w64 hB 80
  have HWl:Hid (W0.length=80):=by rw [← hW0];exact schN_len B 80
  have HK:Hid (GlsS w):=G
  have HF:Hid (fits [h0,h1,h2,h3,h4,h5,h6,h7]):=fH
  clear G hW0 fH
  have B0:=(Blk.new w [.int .u64 h0,.int .u64 h1,.int .u64 h2,.int .u64 h3,.int .u64 h4,.int .u64 h5,.int .u64 h6,.int .u64 h7] 145 (w.heap.size) rfl).alloc (.cells [.int .u64 0,.int .u64 0,.int .u64 0,.int .u64 0,.int .u64 0,.int .u64 0,.int .u64 0,.int .u64 0].toArray 145)
  have B1:=Blk.new (w.alloc (.cells [.int .u64 h0,.int .u64 h1,.int .u64 h2,.int .u64 h3,.int .u64 h4,.int .u64 h5,.int .u64 h6,.int .u64 h7].toArray 145)) [.int .u64 0,.int .u64 0,.int .u64 0,.int .u64 0,.int .u64 0,.int .u64 0,.int .u64 0,.int .u64 0] 145 (w.heap.size + 1) (by simp)
  have bel:Below w.heap.size w ((w.alloc (.cells [.int .u64 h0,.int .u64 h1,.int .u64 h2,.int .u64 h3,.int .u64 h4,.int .u64 h5,.int .u64 h6,.int .u64 h7].toArray 145)).alloc (.cells [.int .u64 0,.int .u64 0,.int .u64 0,.int .u64 0,.int .u64 0,.int .u64 0,.int .u64 0,.int .u64 0].toArray 145)):=(((Below.refl _ _).alloc (Nat.le_refl _) _).alloc (by simp) _)
  go_enter Tryz.func117,Tryz.ntmps117
  go_upto_region 1 with fail
  try simp only [us,List.map_cons,List.map_nil] at bel
  generalize ((w.alloc (Obj.cells #[.int .u64 h0,.int .u64 h1,.int .u64 h2,.int .u64 h3,.int .u64 h4,.int .u64 h5,.int .u64 h6,.int .u64 h7] 145)).alloc (Obj.cells #[.int .u64 0,.int .u64 0,.int .u64 0,.int .u64 0,.int .u64 0,.int .u64 0,.int .u64 0,.int .u64 0] 145))=W at *
  replace hv:=hv.later bel
  go_wp2_with fail
  refine (con_sched0 hv hB l).mono ?_
  rintro e w1 ⟨rfl,hb⟩
  rw [HW.out]
  replace B0:=B0.later hb
  replace B1:=B1.later hb
  replace bel:=below_step bel hb
  clear hb hv
  obtain ⟨ds,hds⟩:∃ z,(us W0).toArray=z:=⟨_,rfl⟩
  have BG0:=Blk.new w1 (us W0) 172 w1.heap.size rfl
  have HS80:Hid (80=ds.size):=by rw [← hds];show 80=_;simp [HWl.out]
  have H1:Hid _:=us_ones W0
  rw [hds] at H1 BG0 ⊢
  clear hds
  have hz:=zero_80.out
  obtain ⟨cs,hcs⟩:∃ z,(us (List.replicate 80 (0:Int))).toArray=z:=⟨_,rfl⟩
  have HO:Hid (cs.size=ds.size):=by rw [← hcs];show _=_;rw [← HS80.out];rfl
  rw [hcs] at hz
  clear hcs
  go_upto_region 2 with (first
    | (refine wpList_store_row rfl 172 _ _ rfl w1.heap.size ds rfl rfl 172 cs (heap_alloc_last _ _) (by rw [size_80,HS80.out]) HO.out H1.out ?_;rw [World.setRow_alloc_new])
    | fail)
  clear hz HO H1 HS80
  replace B0:=B0.alloc (.cells ds 172)
  replace B1:=B1.alloc (.cells ds 172)
  replace bel:=below_alloc (o:=.cells ds 172) bel
  have lg:=BG0.lt
  have lw1:w.heap.size + 1 < w1.heap.size + 1:=by have:=B1.lt;simpa using this
  obtain ⟨g,hg⟩:∃ b,b=w1.heap.size:=⟨_,rfl⟩
  generalize w1.alloc (Obj.cells ds 172)=W1 at *
  rw [← hg] at BG0 lg lw1 ⊢
  clear hg
  have l0:=B0.lt
  have l1:=B1.lt
  have c0:=B0.cell 0 _ rfl
  have c1:=B0.cell 1 _ rfl
  have c2:=B0.cell 2 _ rfl
  have c3:=B0.cell 3 _ rfl
  have c4:=B0.cell 4 _ rfl
  have c5:=B0.cell 5 _ rfl
  have c6:=B0.cell 6 _ rfl
  have c7:=B0.cell 7 _ rfl
  replace B0:=B0.alloc (.cells [.int .u64 h0,.int .u64 h1,.int .u64 h2,.int .u64 h3,.int .u64 h4,.int .u64 h5,.int .u64 h6,.int .u64 h7].toArray 145)
  replace B1:=B1.alloc (.cells [.int .u64 h0,.int .u64 h1,.int .u64 h2,.int .u64 h3,.int .u64 h4,.int .u64 h5,.int .u64 h6,.int .u64 h7].toArray 145)
  replace BG0:=BG0.alloc (.cells [.int .u64 h0,.int .u64 h1,.int .u64 h2,.int .u64 h3,.int .u64 h4,.int .u64 h5,.int .u64 h6,.int .u64 h7].toArray 145)
  have BV:=Blk.new W1 [.int .u64 h0,.int .u64 h1,.int .u64 h2,.int .u64 h3,.int .u64 h4,.int .u64 h5,.int .u64 h6,.int .u64 h7] 145 W1.heap.size rfl
  replace bel:=below_alloc (o:=.cells [.int .u64 h0,.int .u64 h1,.int .u64 h2,.int .u64 h3,.int .u64 h4,.int .u64 h5,.int .u64 h6,.int .u64 h7].toArray 145) bel
  have lw:∀ z,z < W1.heap.size→z≠W1.heap.size:=fun z h=>Nat.ne_of_lt h
  go_wp2_with fail
  obtain ⟨bv,hbv⟩:∃ b,b=W1.heap.size:=⟨_,rfl⟩
  clear lw c0 c1 c2 c3 c4 c5 c6 c7
  generalize W1.alloc (Obj.cells #[.int .u64 h0,.int .u64 h1,.int .u64 h2,.int .u64 h3,.int .u64 h4,.int .u64 h5,.int .u64 h6,.int .u64 h7] 145)=W2 at *
  rw [← hbv] at BV l0 l1 lg ⊢
  clear hbv
  go_loopw [12] (fun iv wx=>∃ k:Nat,k≤80∧iv=.int .i64 k∧Blk wx bv (us (rndsN KS [h0,h1,h2,h3,h4,h5,h6,h7] W0 k))∧Blk wx w.heap.size [.int .u64 h0,.int .u64 h1,.int .u64 h2,.int .u64 h3,.int .u64 h4,.int .u64 h5,.int .u64 h6,.int .u64 h7]∧Blk wx (w.heap.size + 1) [.int .u64 0,.int .u64 0,.int .u64 0,.int .u64 0,.int .u64 0,.int .u64 0,.int .u64 0,.int .u64 0]∧Blk wx g (us W0)∧Below w.heap.size w wx) (fun iv _=>80 - (intOf iv).toNat)
  case atStart=>exact ⟨0,by omega,rfl,BV,B0,B1,BG0,bel⟩
  case round =>
    clear BV B0 B1 BG0 bel
    obtain ⟨k,hk,rfl,BV,B0,B1,BG,bel⟩:=hrel
    obtain ⟨x0,x1,x2,x3,x4,x5,x6,x7,hx⟩:=eight (rndsN_len (K:=KS) (H:=[h0,h1,h2,h3,h4,h5,h6,h7]) (W:=W0) rfl k)
    by_cases hlt:k < 80
    · have HS:Hid (rndsN KS [h0,h1,h2,h3,h4,h5,h6,h7] W0 (k + 1)=roundN (rndsN KS [h0,h1,h2,h3,h4,h5,h6,h7] W0 k) (KS.getD k 0) (W0.getD k 0)):=rfl
      have FX:Hid (fits (rndsN KS [h0,h1,h2,h3,h4,h5,h6,h7] W0 k)):=rndsN_fits HF.out rfl k
      rw [hx] at BV HS FX
      simp only [us,List.map_cons,List.map_nil] at BV
      clear hx
      have g1:(k:Int) < 80:=by omega
      have g2:(0:Int)≤(k:Int):=by omega
      have gk:IntKind.i64.wrap ((k:Int) + 1)=(k:Int) + 1:=by rw [IntKind.wrap_i64];omega
      have ck:=HK.out.1 k hlt
      have cw:=us_get W0 k (by rw [HWl.out];exact hlt)
      have FK:Hid (w64 (KS.getD k 0)):=fits_KS k
      have FW:Hid (w64 (W0.getD k 0)):=HWf.out k
      obtain ⟨kk,hkk⟩:∃ x,KS.getD k 0=x:=⟨_,rfl⟩
      obtain ⟨ww,hww⟩:∃ x,W0.getD k 0=x:=⟨_,rfl⟩
      rw [hkk] at ck HS FK
      rw [hww] at cw HS FW
      clear hkk hww
      obtain ⟨y0,y1,y2,y3,y4,y5,y6,y7,hy⟩:=eight (roundN_len (V:=[x0,x1,x2,x3,x4,x5,x6,x7]) rfl kk ww)
      rw [hy] at HS
      have HY:Hid (roundN [x0,x1,x2,x3,x4,x5,x6,x7] kk ww=[y0,y1,y2,y3,y4,y5,y6,y7]):=hy
      clear hy
      go_upto_region 6 with fail
      obtain ⟨S1,hS1,KL1,KA1,KD1,KS1,KQ1,KN1,KB1,KM1,KR1⟩:=held3 (w0:=w) (W:=wr) [(w.heap.size,[.int .u64 h0,.int .u64 h1,.int .u64 h2,.int .u64 h3,.int .u64 h4,.int .u64 h5,.int .u64 h6,.int .u64 h7]),(w.heap.size + 1,[.int .u64 0,.int .u64 0,.int .u64 0,.int .u64 0,.int .u64 0,.int .u64 0,.int .u64 0,.int .u64 0]),(g,us W0)] (by
        intro b X h
        simp only [List.mem_cons,List.not_mem_nil,or_false,Prod.mk.injEq] at h
        rcases h with ⟨rfl,rfl⟩|⟨rfl,rfl⟩|⟨rfl,rfl⟩
        · exact B0
        · exact B1
        · exact BG) bel
      have rk:∀ wx,Hd S1 wx→wx.cell? ⟨8,k,none⟩=some (.int .u64 kk):=fun wx h=>cell_later ck (KB1.out wx h)
      have rw_:∀ wx,Hd S1 wx→wx.cell? ⟨g,k,none⟩=some (.int .u64 ww):=fun wx h=>(KM1.out wx g _ h (List.Mem.tail _ (List.Mem.tail _ (List.Mem.head _)))).cell k _ cw
      have mq:∀ c X,(c,X)∈[((w.heap.size:Nat),([.int .u64 h0,.int .u64 h1,.int .u64 h2,.int .u64 h3,.int .u64 h4,.int .u64 h5,.int .u64 h6,.int .u64 h7]:List Value)),((w.heap.size + 1:Nat),([.int .u64 0,.int .u64 0,.int .u64 0,.int .u64 0,.int .u64 0,.int .u64 0,.int .u64 0,.int .u64 0]:List Value)),((g:Nat),(us W0:List Value))]→c≠bv:=by
        intro c X h
        simp only [List.mem_cons,List.not_mem_nil,or_false,Prod.mk.injEq] at h
        omega
      have bsz:=bel.size
      clear B0 B1 BG bel KS1 KR1 KA1 KN1
      refine wp_region_noPanic ?_
      refine wp_region_held_drew (S:=Hd S1) (by kernel_rfl) (KD1.out _ hS1) (fun hHeld=>?_)
      clear hS1
      replace BV:=BV.drew
      generalize World.drew _=wd at *
      refine wpAnyH_take (i:=1) (v:=?_) rfl (by kernel_rfl) (by kernel_rfl) (by kernel_rfl) (fun _ _ _ h=>h) (Or.inl ⟨by rfl,?_⟩) (by assumption) ?_
      rotate_left
      · intro w hSw
        go_simp
        with_reducible rfl
      try simp only [Act.put,List.setIfInBounds_toArray,List.set_cons_zero,List.set_cons_succ]
      refine wpAnyH_take (i:=2) (v:=?_) rfl (by kernel_rfl) (by kernel_rfl) (by kernel_rfl) (fun _ _ _ h=>h) (Or.inl ⟨by rfl,?_⟩) (by assumption) ?_
      rotate_left
      · intro w hSw
        go_simp
        with_reducible rfl
      try simp only [Act.put,List.setIfInBounds_toArray,List.set_cons_zero,List.set_cons_succ]
      refine wpAnyH_take (i:=3) (v:=?_) rfl (by kernel_rfl) (by kernel_rfl) (by kernel_rfl) (fun _ _ _ h=>h) (Or.inl ⟨by rfl,?_⟩) (by assumption) ?_
      rotate_left
      · intro w hSw
        go_simp
        with_reducible rfl
      try simp only [Act.put,List.setIfInBounds_toArray,List.set_cons_zero,List.set_cons_succ]
      refine wpAnyH_take (i:=4) (v:=?_) rfl (by kernel_rfl) (by kernel_rfl) (by kernel_rfl) (fun _ _ _ h=>h) (Or.inl ⟨by rfl,?_⟩) (by assumption) ?_
      rotate_left
      · intro w hSw
        go_simp
        with_reducible rfl
      try simp only [Act.put,List.setIfInBounds_toArray,List.set_cons_zero,List.set_cons_succ]
      refine wpAnyH_take (i:=5) (v:=?_) rfl (by kernel_rfl) (by kernel_rfl) (by kernel_rfl) (fun _ _ _ h=>h) (Or.inl ⟨by rfl,?_⟩) (by assumption) ?_
      rotate_left
      · intro w hSw
        go_simp
        with_reducible rfl
      try simp only [Act.put,List.setIfInBounds_toArray,List.set_cons_zero,List.set_cons_succ]
      refine wpAnyH_take (i:=6) (v:=?_) rfl (by kernel_rfl) (by kernel_rfl) (by kernel_rfl) (fun _ _ _ h=>h) (Or.inl ⟨by rfl,?_⟩) (by assumption) ?_
      rotate_left
      · intro w hSw
        go_simp
        with_reducible rfl
      try simp only [Act.put,List.setIfInBounds_toArray,List.set_cons_zero,List.set_cons_succ]
      clear rk rw_
      refine wpAnyH_ready (rs:=[0]) (by kernel_rfl) (by simp) ?_
      refine AllReadyH.cons rfl (fun K hK=>?_) ?_
      · have lts:=BV.lt
        have e0:=BV.cell 0 _ rfl;have i0:=BV.frozen 0;have e1:=BV.cell 1 _ rfl;have i1:=BV.frozen 1;have e2:=BV.cell 2 _ rfl;have i2:=BV.frozen 2;have e3:=BV.cell 3 _ rfl;have i3:=BV.frozen 3;have e4:=BV.cell 4 _ rfl;have i4:=BV.frozen 4;have e5:=BV.cell 5 _ rfl;have i5:=BV.frozen 5;have e6:=BV.cell 6 _ rfl;have i6:=BV.frozen 6;have e7:=BV.cell 7 _ rfl;have i7:=BV.frozen 7
        go_simp
        refine hK.out _ _ ?_ (fun hHeld2=>?_)
        · exact hHeld
        · clear hK K hHeld
          have hHeld:=hHeld2
          clear hHeld2
          try simp only [Act.put,List.setIfInBounds_toArray,List.set_cons_zero,List.set_cons_succ]
          clear lts e0 i0 e1 i1 e2 i2 e3 i3 e4 i4 e5 i5 e6 i6 e7 i7
          refine wpAnyH_ready (rs:=[7]) (by kernel_rfl) (by simp) ?_
          refine AllReadyH.cons rfl (fun K hK=>?_) ?_
          · go_simp
            go_fit (con_RoundL FX.out FK.out FW.out HY.out)
            rintro e w' ⟨rfl,hb⟩
            refine hK.out _ _ ?_ (fun hHeld2=>?_)
            · exact KL1.out _ _ hHeld hb
            · clear hK K hHeld
              have hHeld:=hHeld2
              clear hHeld2
              try simp only [Act.put,List.setIfInBounds_toArray,List.set_cons_zero,List.set_cons_succ]
              replace BV:=BV.later hb
              clear hb
              refine wpAnyH_ready (rs:=[8]) (by kernel_rfl) (by simp) ?_
              refine AllReadyH.cons rfl (fun K hK=>?_) ?_
              · have lts:=BV.lt
                have e0:=BV.cell 0 _ rfl;have i0:=BV.frozen 0;have e1:=BV.cell 1 _ rfl;have i1:=BV.frozen 1;have e2:=BV.cell 2 _ rfl;have i2:=BV.frozen 2;have e3:=BV.cell 3 _ rfl;have i3:=BV.frozen 3;have e4:=BV.cell 4 _ rfl;have i4:=BV.frozen 4;have e5:=BV.cell 5 _ rfl;have i5:=BV.frozen 5;have e6:=BV.cell 6 _ rfl;have i6:=BV.frozen 6;have e7:=BV.cell 7 _ rfl;have i7:=BV.frozen 7
                go_simp
                refine hK.out _ _ ?_ (fun hHeld2=>?_)
                · exact (KQ1.out _ _ _ _ (KQ1.out _ _ _ _ (KQ1.out _ _ _ _ (KQ1.out _ _ _ _ (KQ1.out _ _ _ _ (KQ1.out _ _ _ _ (KQ1.out _ _ _ _ (KQ1.out _ _ _ _ hHeld (Or.inr mq) (by omega)) (Or.inr mq) (by omega)) (Or.inr mq) (by omega)) (Or.inr mq) (by omega)) (Or.inr mq) (by omega)) (Or.inr mq) (by omega)) (Or.inr mq) (by omega)) (Or.inr mq) (by omega))
                · clear hK K hHeld
                  have hHeld:=hHeld2
                  clear hHeld2
                  try simp only [Act.put,List.setIfInBounds_toArray,List.set_cons_zero,List.set_cons_succ]
                  clear lts e0 i0 e1 i1 e2 i2 e3 i3 e4 i4 e5 i5 e6 i6 e7 i7
                  replace BV:=BV.on_put8 hHeld
                  refine wpAnyH_done (by kernel_rfl) ?_ _
                  refine NoPanic.normal ?_
                  have B0:=KM1.out _ (w.heap.size) _ hHeld (List.Mem.head _)
                  have B1:=KM1.out _ (w.heap.size + 1) _ hHeld (List.Mem.tail _ (List.Mem.head _))
                  have BG:=KM1.out _ g _ hHeld (List.Mem.tail _ (List.Mem.tail _ (List.Mem.head _)))
                  have bel:=KB1.out _ hHeld
                  clear hHeld mq KL1 KD1 KQ1 KB1 KM1
                  generalize World.setCell _ _ _=w9 at *
                  go_wp2_with fail
                  go_roundw
                  case rel=>exact ⟨k + 1,by omega,by go_num,by rw [HS.out];exact BV,B0,B1,BG,bel⟩
                  case measure=>simp [intOf];omega
              exact AllReadyH.nil
          exact AllReadyH.nil
      exact AllReadyH.nil
    · obtain rfl:k=80:=by omega
      clear hx
      obtain ⟨A,hA⟩:∃ A,rndsN KS [h0,h1,h2,h3,h4,h5,h6,h7] W0 80=A:=⟨_,rfl⟩
      have lA:A.length=8:=by rw [← hA];exact rndsN_len rfl 80
      have HA:Hid (sumsN [h0,h1,h2,h3,h4,h5,h6,h7] A 8=stepN KS [h0,h1,h2,h3,h4,h5,h6,h7] B):=by show _=_;unfold stepN;rw [HW.out,hA,sumsN_swap]
      rw [hA] at BV
      rw [show [.int .u64 h0,.int .u64 h1,.int .u64 h2,.int .u64 h3,.int .u64 h4,.int .u64 h5,.int .u64 h6,.int .u64 h7]=us [h0,h1,h2,h3,h4,h5,h6,h7] from rfl,← sumsN_0 (A:=[h0,h1,h2,h3,h4,h5,h6,h7]) (H:=A) rfl] at B0
      clear hA BG
      have g1:¬ ((80:Nat):Int) < 80:=by omega
      go_wp2_with fail
      go_loopw [24] (fun iv wx=>∃ i:Nat,i≤8∧iv=.int .i64 i∧Blk wx w.heap.size (us (sumsN [h0,h1,h2,h3,h4,h5,h6,h7] A i))∧Blk wx bv (us A)∧Blk wx (w.heap.size + 1) [.int .u64 0,.int .u64 0,.int .u64 0,.int .u64 0,.int .u64 0,.int .u64 0,.int .u64 0,.int .u64 0]∧Below w.heap.size w wx) (fun iv _=>8 - (intOf iv).toNat)
      case atStart=>exact ⟨0,by omega,rfl,B0,BV,B1,bel⟩
      case round =>
        clear BV B0 B1 bel
        obtain ⟨i,hi,rfl,B0,BV,B1,bel⟩:=hrel
        by_cases hil:i < 8
        · have g1:(i:Int) < 8:=by omega
          have g2:(0:Int)≤(i:Int):=by omega
          have g3:(i:Int).toNat=i:=by omega
          have gi:IntKind.i64.wrap ((i:Int) + 1)=(i:Int) + 1:=by rw [IntKind.wrap_i64];omega
          have cv:=B0.cell i _ (us_get _ i (by rw [sumsN_len];exact hil))
          rw [sumsN_get _ _ _ hil] at cv
          have fv:=B0.frozen i
          have chh:=BV.cell i _ (us_get A i (by omega))
          have HS:Hid _:=sumsN_set [h0,h1,h2,h3,h4,h5,h6,h7] A i
          obtain ⟨a,ha⟩:∃ x,([h0,h1,h2,h3,h4,h5,h6,h7]:List Int).getD i 0=x:=⟨_,rfl⟩
          obtain ⟨hh,hhh⟩:∃ x,A.getD i 0=x:=⟨_,rfl⟩
          rw [ha] at cv HS
          rw [hhh] at chh HS
          have wv:IntKind.u64.wrap (a + hh)=(a + hh) % 18446744073709551616:=IntKind.wrap_u64 _
          obtain ⟨z,hz⟩:∃ z,(a + hh) % 18446744073709551616=z:=⟨_,rfl⟩
          rw [hz] at wv HS
          clear ha hhh hz
          have lv:=B0.lt
          have lh:=BV.lt
          go_upto_region 11 with fail
          go_region
          all_goals go_wp2_with fail
          all_goals go_roundw
          case rel=>exact ⟨i + 1,by omega,by go_num,by have:=B0.setu i z;rw [HS.out] at this;exact this.drew,(BV.other _ _ (by show bv≠w.heap.size;omega)).drew,(B1.other _ _ (by show w.heap.size + 1≠w.heap.size;omega)).drew,(bel.setCell (by show w.heap.size≤w.heap.size;omega) _).drew⟩
          case measure=>simp [intOf];omega
        · have hi8:i=8:=by omega
          subst hi8
          rw [HA.out] at B0
          have ls:=stepN_len KS [h0,h1,h2,h3,h4,h5,h6,h7] B
          obtain ⟨y0,y1,y2,y3,y4,y5,y6,y7,hy⟩:=eight ls
          rw [hy] at B0
          have HYS:Hid _:=hy
          simp only [us,List.map_cons,List.map_nil] at B0
          clear ls hy
          have g1:¬ ((8:Nat):Int) < 8:=by omega
          have lv:=B0.lt
          have lr:=B1.lt
          have e0:=B0.cell 0 _ rfl
          have e1:=B0.cell 1 _ rfl
          have e2:=B0.cell 2 _ rfl
          have e3:=B0.cell 3 _ rfl
          have e4:=B0.cell 4 _ rfl
          have e5:=B0.cell 5 _ rfl
          have e6:=B0.cell 6 _ rfl
          have e7:=B0.cell 7 _ rfl
          have d0:=B1.cell 0 _ rfl;have f0:=B1.frozen 0;have d1:=B1.cell 1 _ rfl;have f1:=B1.frozen 1;have d2:=B1.cell 2 _ rfl;have f2:=B1.frozen 2;have d3:=B1.cell 3 _ rfl;have f3:=B1.frozen 3;have d4:=B1.cell 4 _ rfl;have f4:=B1.frozen 4;have d5:=B1.cell 5 _ rfl;have f5:=B1.frozen 5;have d6:=B1.cell 6 _ rfl;have f6:=B1.frozen 6;have d7:=B1.cell 7 _ rfl;have f7:=B1.frozen 7
          go_wp2_with fail
          exact bodyPost_ret (v:=.agg #[.int .u64 y0,.int .u64 y1,.int .u64 y2,.int .u64 y3,.int .u64 y4,.int .u64 y5,.int .u64 y6,.int .u64 y7]) (by simp [results,Tryz.results117,go_sem,d0,d1,d2,d3,d4,d5,d6,d7]) rfl ⟨by rw [HYS.out];rfl,below_put8 bel (by omega)⟩
end Go.Proofs.YtlkljfnenonfgaaGreatDoor
