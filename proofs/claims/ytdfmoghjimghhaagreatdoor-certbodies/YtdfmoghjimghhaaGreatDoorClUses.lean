import Derived.Test.YtdfmoghjimghhaaGreatDoorClExE
import Derived.Test.YtdfmoghjimghhaaGreatDoorClEl
import Derived.Test.YtdfmoghjimghhaaGreatDoorClCa
import Derived.Test.YtdfmoghjimghhaaGreatDoorPrOidOf
import Derived.Test.YtdfmoghjimghhaaGreatDoorNlSG
import Derived.Test.YtdfmoghjimghhaaGreatDoorRows
import Derived.Deep.OwnRows
import Derived.Deep.AppendLies
import Derived.Great.BuildSlice
import Derived.Laws.Rows
import Derived.BigQuiet
import Derived.Deep.WholeRow
import Derived.Deep.RegionHeld3
import Derived.Deep.DeepCutAuto
import Derived.Deep.DeepFit
namespace Go.Proofs.YtdfmoghjimghhaaGreatDoor
open Go.RowKit
noncomputable def Zd4 (c:Ct):Option Tl:=open Classical in if c.uses.length≤8∧∀ l∈c.uses,∃ b,ZaD l=.ok b then some (Zak (c.uses.map ZaV)) else none
theorem ZiM {c:Ct} (h:¬ (c.uses.length≤8∧∀ l∈c.uses,∃ b,ZaD l=.ok b)):Zd4 c=none:=by unfold Zd4;rw[if_neg h]
theorem Zhe {c:Ct} (h:c.uses.length≤8) (k:∀ l∈c.uses,∃ b,ZaD l=.ok b):Zd4 c=some (Zak (c.uses.map ZaV)):=by unfold Zd4;rw[if_pos ⟨h,k⟩]
theorem ZkU {l b:List Int} (h:ZaD l=.ok b):ZaV l=.mk 0 6 false b []:=by unfold ZaV;rw[h];rfl
set_option linter.unusedSimpArgs false in
set_option maxRecDepth 100000 in
set_option maxHeartbeats 4000000 in
theorem ZeR {c:Ct} {cs:List Value} {w:World} (h:Zds w c cs) (wf:WfC c):Calls Tryz.prog 114 #[.agg cs.toArray] w (ElR w (Zd4 c)):=by
 have HW:Hid (∀ l∈c.uses,wrd l):=wf.2.2.2.2.2.2.2.1;clear wf;have HC:Hid (Zds w c cs):=h;obtain ⟨sv,iv,jv,xs,ys,uv,pv,ev,bv,rs,zs,hl,q0,q1,q2,q3,q4,q17,q18,q19,q20,q21,q22,q23,q24,-,qk,-,hS,hI,hJ,hX,hY,hU,hP,hE,-,-,-⟩:=h.open;have HL38:Hid (cs.length=38):=hl;clear h hl;have B0:=(Blk.new w cs 35 w.heap.size rfl).alloc (.cells #[.int .i64 0,.int .i64 0,.bool false,.slice none 0 0,.slice none 0 0] 57);have R0:=Blk.new (w.alloc (.cells cs.toArray 35)) [.int .i64 0,.int .i64 0,.bool false,.slice none 0 0,.slice none 0 0] 57 (w.heap.size+1) (by simp);have bel:Below w.heap.size w ((w.alloc (.cells cs.toArray 35)).alloc (.cells #[.int .i64 0,.int .i64 0,.bool false,.slice none 0 0,.slice none 0 0] 57)):=((Below.refl _ _).alloc (Nat.le_refl _) _).alloc (by simp) _;have hz:=Zad.out;go_enter Tryz.func114,Tryz.ntmps114;go_upto_region 1 with fail;have lW:=bel.size;generalize (w.alloc (.cells cs.toArray 35)).alloc (.cells #[.int .i64 0,.int .i64 0,.bool false,.slice none 0 0,.slice none 0 0] 57)=W at *;have lR:=R0.lt;obtain ⟨N0,hN0⟩:∃ n,n=W.heap.size:=⟨_,rfl⟩;rw[← hN0] at lR lW;have hs:N0≤W.heap.size:=by omega
 clear hz;obtain ⟨jt,hjt,ht0,ht1,ht2⟩:=Zap ZaI

 obtain⟨vs,hvl,hvs,hvp⟩:=hU.vals;have HVl:Hid (vs.length=c.uses.length):=hvl;obtain ⟨ua,uc,hue,hu1,hu2,hu3⟩:=hvs;have HVc:Hid (0<vs.length→∃ b o,ua=some ⟨b,o,none⟩∧b<w.heap.size∧∀ i y,vs[i]?=some y→w.cell? ⟨b,o+i,none⟩=some y):=hu3;have HVp:Hid (∀ (i:Nat) (x:List Int) (y:Value),c.uses[i]?=some x→vs[i]?=some y→Us w y x):=hvp;obtain ⟨LN,hLN⟩:∃ z,vs.length=z:=⟨_,rfl⟩;have HLN:Hid (c.uses.length=LN):=by rw[← hLN,hvl];rfl
 have HLV:Hid (vs.length=LN):=hLN;rw[hLN] at hue hu1 HVc;subst hue;have l0:=B0.lt;have HQ21:Hid _:=q21;have e21:=B0.cell 21 _ q21;unfold maxLen at hu2;clear hvl hvp hu3 hLN q0 q1 q2 q3 q4 q17 q18 q19 q20 q21 q22 q23 q24 qk hS hI hJ hX hY hP hE hU
 by_cases k1:8<LN
 ·have H:Hid (Zd4 c=none):=ZiM (fun h=>by have:=h.1;rw[HLN.out] at this;omega)
  have g1:(8:Int)<(LN:Int):=by omega
  clear k1;have hz:=Zad.out;obtain ⟨tR,hR⟩:=R0;have HR1:Hid _:=hR;clear hR;go_wp2_with (first|((with_reducible show wpList _ _ _ ({ dst:=_,op:=.store _ _ _,type:=_,pos:=_,after:=_,guard:=_ } :: _) _ _);refine wpList_store_row rfl 57 _ _ rfl (w.heap.size+1) #[.int .i64 0,.int .i64 0,.bool false,.slice none 0 0,.slice none 0 0] rfl rfl tR _ HR1.out (by rw[Zab];rfl) rfl (by simp[Value.oneCell']) ?_)|fail);refine bodyPost_ret (Zag rfl _ _ (w.heap.size+1) tR #[.int .i64 0,.int .i64 0,.bool false,.slice none 0 0,.slice none 0 0] (0,0) _ rfl (setRow_heap _ _ _ _ _ _ HR1.out) Tryz.underlying57 rfl (by rw[Zab];rfl)) rfl ?_;exact ElR.bad H.out (below_setRow bel (by omega) _)
 have g1:¬ (8:Int)<(LN:Int):=by omega
 have HL8:Hid (LN≤8):=by show _≤_;omega
 clear k1;go_wp2_with fail;refine Zbd.mono ?_;rintro e w1 ⟨rfl,hb⟩;replace R0:=R0.later hb;replace B0:=B0.later hb;replace bel:=Zaa bel hb;have lt1:w.heap.size+1<w1.heap.size:=R0.lt;clear hb e21 l0 g1;have hz:=Zad.out;have Bv:=Blk.new w1 [.int .i64 0,.int .i64 16,.bool true,.slice none 0 0,.slice none 0 0] 57 w1.heap.size rfl;replace R0:=R0.alloc (.cells #[.int .i64 0,.int .i64 16,.bool true,.slice none 0 0,.slice none 0 0] 57);replace B0:=B0.alloc (.cells #[.int .i64 0,.int .i64 16,.bool true,.slice none 0 0,.slice none 0 0] 57);replace bel:=Zaf (o:=.cells #[.int .i64 0,.int .i64 16,.bool true,.slice none 0 0,.slice none 0 0] 57) bel;go_upto_region 4 with (first|((with_reducible show wpList _ _ _ ({ dst:=_,op:=.store _ _ _,type:=_,pos:=_,after:=_,guard:=_ } :: _) _ _);refine wpList_store_row rfl 57 _ _ rfl w1.heap.size #[.int .i64 0,.int .i64 16,.bool true,.slice none 0 0,.slice none 0 0] rfl rfl 57 _ (heap_alloc_last _ _) (by rw[Zab];rfl) rfl (by simp[Value.oneCell']) ?_;rw[World.setRow_alloc_new])|fail);clear hz;obtain ⟨gt,hgt⟩:∃ g,g=w1.heap.size:=⟨_,rfl⟩;rw[← hgt] at Bv lt1 ⊢;have ltv:gt<(w1.alloc (.cells #[.int .i64 0,.int .i64 16,.bool true,.slice none 0 0,.slice none 0 0] 57)).heap.size:=Bv.lt;generalize w1.alloc (.cells #[.int .i64 0,.int .i64 16,.bool true,.slice none 0 0,.slice none 0 0] 57)=V1 at *;clear hgt;have l0:=B0.lt;have e21:=B0.cell 21 _ HQ21.out;go_wp2_with fail;clear l0 e21 B0;obtain ⟨N1,hN1⟩:∃ n,n=V1.heap.size:=⟨_,rfl⟩;rw[← hN1] at ltv;have hs1:N1≤V1.heap.size:=by omega
 clear hN1;go_loopw [19] (fun iv wx=>∃ (i:Nat) (ka:Option Addr) (kc:Nat),i≤LN∧iv=.int .i64 (i:Int)∧Blk wx gt [.int .i64 0,.int .i64 16,.bool true,.slice none 0 0,Value.slice ka i kc]∧Hid (RwT wx N1 (.slice ka i kc) ((c.uses.take i).map ZaV))∧Hid (∀ l∈c.uses.take i,∃ b,ZaD l=.ok b)∧Blk wx (w.heap.size+1) [.int .i64 0,.int .i64 0,.bool false,.slice none 0 0,.slice none 0 0]∧Below w.heap.size w wx∧N1≤wx.heap.size) (fun iv _=>LN-(intOf iv).toNat)
 case atStart=>exact ⟨0,none,0,by omega,rfl,Bv,by rw[List.take_zero,List.map_nil];exact RwT.nil0 _ _,fun l hl=>by simp at hl,R0,bel,hs1⟩
 case round =>
  clear Bv R0 bel hs1;obtain ⟨i,ka,kc,hi,rfl,Bv,HR,HA,R0,bel,hs1⟩:=hrel;have h8:=HL8.out;have HLi:Hid (((c.uses.take i).map ZaV).length=i):=by show _=_;rw[List.length_map,List.length_take,HLN.out];omega
  by_cases hil:i<LN
  rotate_left
  ·obtain rfl:i=LN:=by omega
   have HD:Hid (Dep (fun b=>N1≤b) wr (Zak (c.uses.map ZaV)) [.int .i64 0,.int .i64 16,.bool true,.slice none 0 0,.slice ka i kc]):=by
    have h:=HR.out.dep 0 16 true;rw[List.take_of_length_le (by rw[HLN.out];omega)] at h;exact h
   have H:Hid (Zd4 c=some (Zak (c.uses.map ZaV))):=Zhe (by rw[HLN.out];exact h8) (by have h:=HA.out;rw[List.take_of_length_le (by rw[HLN.out];omega)] at h;exact h);clear HA HLi HR;have g1:¬ (i:Int)<(i:Int):=by omega
   have hld:(loadVar 57 ⟨gt,0,none⟩).run Tryz.prog wr=.ok (.agg #[.int .i64 0,.int .i64 16,.bool true,.slice none 0 0,.slice ka i kc]) wr:=Bv.load Tryz.underlying57 rfl Zab rfl;have l0:=Bv.lt;obtain ⟨tR,hR⟩:=R0;have HR1:Hid _:=hR;clear hR;go_wp2_with (first|((with_reducible show wpList _ _ _ ({ dst:=_,op:=.load _ _,type:=_,pos:=_,after:=_,guard:=_ } :: _) _ _);refine Zae (by rfl) (by rfl) (by rfl) hld ?_)|((with_reducible show wpList _ _ _ ({ dst:=_,op:=.store _ _ _,type:=_,pos:=_,after:=_,guard:=_ } :: _) _ _);refine wpList_store_row rfl 57 _ _ rfl (w.heap.size+1) #[.int .i64 0,.int .i64 16,.bool true,.slice none 0 0,.slice ka i kc] rfl rfl tR _ HR1.out (by rw[Zab];rfl) rfl (by simp[Value.oneCell']) ?_)|fail);refine bodyPost_ret (Zag rfl _ _ (w.heap.size+1) tR #[.int .i64 0,.int .i64 16,.bool true,.slice none 0 0,.slice ka i kc] (0,0) _ rfl (setRow_heap _ _ _ _ _ _ HR1.out) Tryz.underlying57 rfl (by rw[Zab];rfl)) rfl ?_;exact ElR.ok (cs:=[.int .i64 0,.int .i64 16,.bool true,.slice none 0 0,.slice ka i kc]) H.out (ZaB HD.out (by omega) (by omega)) (below_setRow bel (by omega) _)
  obtain⟨x,hx⟩:∃ x,c.uses[i]?=some x:=⟨_,List.getElem?_eq_getElem (by rw[HLN.out];exact hil)⟩;obtain ⟨y,hy⟩:∃ y,vs[i]?=some y:=⟨_,List.getElem?_eq_getElem (by rw[HLV.out];exact hil)⟩;obtain ⟨ub,uo,hua,ult,ucl⟩:=HVc.out (by omega);subst hua;have HX:Hid (c.uses[i]?=some x):=hx;have HXw:Hid (wrd x):=HW.out x (List.mem_of_getElem? hx);have HUs:Hid (Us w y x):=HVp.out i x y hx hy;have ey:=Zah (ucl i y hy) bel;have ly:ub<wr.heap.size:=Nat.lt_of_lt_of_le ult bel.size;obtain ⟨ya,yc,hye,-,-,-⟩:=id HUs.out;obtain ⟨YL,hYL⟩:∃ z,x.length=z:=⟨_,rfl⟩;rw[hYL] at hye;subst hye;clear hx hy ucl ult hYL;have g1:(i:Int)<(LN:Int):=by omega
  have g2:(0:Int)≤(i:Int):=by omega
  have gi:IntKind.i64.wrap ((i:Int)+1)=(i:Int)+1:=by rw[IntKind.wrap_i64];omega
  go_wp2_with fail;refine (ZgD (HUs.out.later bel) HXw.out).mono ?_;rintro e w2 ⟨hok,hbad⟩;clear ey ly
  cases ht:ZaD x with
  | error c9 =>
   obtain⟨va,vc,rfl,hb⟩:=hbad c9 ht;have H:Hid (Zd4 c=none):=ZiM (fun h=>by obtain ⟨b,h2⟩:=h.2 x (List.mem_of_getElem? HX.out);rw[ht] at h2;cases h2);replace R0:=R0.later hb;replace bel:=Zaa bel hb;clear hok hbad hb ht HR Bv;have q:=ZaE (c9:Int);have hz:=Zad.out;obtain ⟨tR,hR⟩:=R0;have HR1:Hid _:=hR;clear hR;go_wp2_with (first|((with_reducible show wpList _ _ _ ({ dst:=_,op:=.store _ _ _,type:=_,pos:=_,after:=_,guard:=_ } :: _) _ _);refine wpList_store_row rfl 57 _ _ rfl (w.heap.size+1) #[.int .i64 0,.int .i64 0,.bool false,.slice none 0 0,.slice none 0 0] rfl rfl tR _ HR1.out (by rw[Zab];rfl) rfl (by simp[Value.oneCell']) ?_)|fail);refine bodyPost_ret (Zag rfl _ _ (w.heap.size+1) tR #[.int .i64 0,.int .i64 0,.bool false,.slice none 0 0,.slice none 0 0] (0,0) _ rfl (setRow_heap _ _ _ _ _ _ HR1.out) Tryz.underlying57 rfl (by rw[Zab];rfl)) rfl ?_;exact ElR.bad H.out (below_setRow bel (by omega) _)
  | ok X =>
   obtain⟨v2,rfl,hv2,hn2,hb⟩:=hok X ht;have HTm:Hid (ZaD x=.ok X):=ht;have HB2:Hid (Bs w2 v2 X):=hv2;obtain ⟨M,hM⟩:∃ n,n=wr.heap.size:=⟨_,rfl⟩;have HN2:Hid (∀ a m c,v2=.slice (some a) m c→0<m→M≤a.block):=by rw[hM];exact hn2
   have HM:Hid (∀ b,(Value.slice ka i kc).ownBlock=some b→b<M):=fun b h9=>by rw[hM];exact (HR.out.ltE h9).2
   have hs:M≤w2.heap.size:=by rw[hM];exact hb.size
   have hNM:N1≤M:=by omega
   clear hM hok hbad ht hn2;obtain ⟨va,vc,hv3,-,-,-⟩:=id hv2;obtain ⟨L2,hL2⟩:∃ z,X.length=z:=⟨_,rfl⟩;rw[hL2] at hv3;subst hv3;replace Bv:=Bv.later hb;replace R0:=R0.later hb;replace HR:=Zbx HR hb;replace bel:=Zaa bel hb;clear hb hv2 hL2;have q:=ZaS;go_upto_region 10 with fail;clear q;obtain ⟨S1,hS1,KT1⟩:∃ S:World→Prop,Hd S w2∧Hid (∀ wx,Hd S wx):=⟨fun _=>True,trivial,fun _=>trivial⟩;refine wp_region_noPanic ?_;have hdr:Below w2.heap.size w2 w2.drew:=Below.drew (Below.refl _ _);replace Bv:=Bv.later hdr;replace R0:=R0.later hdr;replace HR:=Zbx HR hdr;replace HB2:=BsL HB2 hdr;replace bel:=Zaa bel hdr;replace hs:=hsl hs hdr

   clear hdr;refine wp_region_held_drew (S:=Hd S1) (by kernel_rfl) (KT1.out _) (fun hHeld=>?_);clear hS1;generalize World.drew _=wd1 at *;refine wpAnyH_take (i:=0) (v:=?_) rfl (by kernel_rfl) (by kernel_rfl) (by kernel_rfl) (fun _ _ _ h=>h) (Or.inl ⟨by rfl,?_⟩) (by assumption) ?_;rotate_left
   ·intro w hSw
    go_simp
    with_reducible rfl
   refine wpAnyH_take (i:=2) (v:=?_) rfl (by kernel_rfl) (by kernel_rfl) (by kernel_rfl) (fun _ _ _ h=>h) (Or.inl ⟨by rfl,?_⟩) (by assumption) ?_;rotate_left
   ·intro w hSw
    go_simp
    with_reducible rfl
   apply Zdh (T:=∀ (wz:World) (g5:Nat) (cs5:List Value),Hd S1 wz→Blk wz gt [.int .i64 0,.int .i64 16,.bool true,.slice none 0 0,Value.slice ka i kc]→Blk wz (w.heap.size+1) [.int .i64 0,.int .i64 0,.bool false,.slice none 0 0,.slice none 0 0]→Hid (RwT wz N1 (Value.slice ka i kc) (((c.uses.take i).map ZaV)))→Below w.heap.size w wz→M≤wz.heap.size→Blk wz g5 cs5→Hid (Dep (fun b=>M≤b) wz (ZaV x) cs5)→Hid (cs5.length=5)→Hid (Zbp cs5)→wpAnyH _ _ _ _ _ _ _ _ wz)
   case main =>
    intro k5;refine wpAnyH_ready (rs:=[1,3]) (by kernel_rfl) (by simp) ?_;refine AllReadyH.cons rfl (fun K hK=>?_) ?_
    ·have e4:=Bv.cell 4 _ rfl
     have l4:=Bv.lt;go_simp;refine hK.out _ _ ?_ (fun hHeld2=>?_)
     ·exact hHeld
     ·clear hK K
      try clear hHeld
      have hHeld:=hHeld2;clear hHeld2;clear e4 l4;refine wpAnyH_ready (rs:=[3]) (by kernel_rfl) (by simp) ?_;refine AllReadyH.cons rfl (fun K hK=>?_) ?_
      ·have HBz:Hid (Bs wd1 (.slice va L2 vc) X):=HB2.out
       go_simp;refine (Zb6 (N:=M) HBz.out HN2.out).mono ?_;rintro e z4 ⟨cs5,rfl,hd5,hb⟩;refine hK.out _ _ ?_ (fun hHeld2=>?_)
       ·exact KT1.out _
       ·clear hK K
        try clear hHeld
        have hHeld:=hHeld2;clear hHeld2;replace Bv:=Bv.later hb;replace R0:=R0.later hb;replace HR:=Zbx HR hb;replace bel:=Zaa bel hb;replace hs:=hsl hs hb;have HD5:Hid (Dep (fun b=>M≤b) z4 (ZaV x) cs5):=by rw[ZkU HTm.out];exact hd5
        have HL5:Hid (cs5.length=5):=hd5.now.five;have HO5:Hid (Zbp cs5):=hd5.now.ones;clear hd5 HBz;clear hb;refine wpAnyH_ready (rs:=[4]) (by kernel_rfl) (by simp) ?_;refine AllReadyH.cons rfl (fun K hK=>?_) ?_
        ·rw[if_pos (by rfl)]
         refine wp_buildSlice 55 57 1 _ rfl cs5.toArray jt _ Tryz.underlying55 hjt ht0 (by rw[ht1];decide) (by rw[ht1];decide) (by rw[ht1];refine (congrArg _ (?_:_=[(0,Value.agg cs5.toArray)])).trans (Zay HL5.out);kernel_rfl) ?_;refine hK.out _ _ ?_ (fun hHeld2=>?_)
         ·exact KT1.out _
         ·clear hK K
          try clear hHeld
          have hHeld:=hHeld2;clear hHeld2;have hb:=bal z4 (.cells cs5.toArray 57);replace Bv:=Bv.later hb;replace R0:=R0.later hb;replace HR:=Zbx HR hb;replace bel:=Zaa bel hb;replace hs:=hsl hs hb;replace HD5:=dpl HD5 hb;have B5:=Blk.new z4 cs5 57 z4.heap.size rfl;obtain ⟨g5,hg9⟩:∃ g,g=z4.heap.size:=⟨_,rfl⟩;rw[← hg9] at B5 ⊢;clear hg9 hb;generalize (z4.alloc (.cells cs5.toArray 57))=zb at *;exact k5 zb g5 cs5 hHeld Bv R0 HR bel hs B5 HD5 HL5 HO5
        exact AllReadyH.nil
      exact AllReadyH.nil
    refine AllReadyH.cons rfl (fun K hK=>?_) ?_
    ·have HBz:Hid (Bs wd1 (.slice va L2 vc) X):=HB2.out
     go_simp;refine (Zb6 (N:=M) HBz.out HN2.out).mono ?_;rintro e z4 ⟨cs5,rfl,hd5,hb⟩;refine hK.out _ _ ?_ (fun hHeld2=>?_)
     ·exact KT1.out _
     ·clear hK K
      try clear hHeld
      have hHeld:=hHeld2;clear hHeld2;replace Bv:=Bv.later hb;replace R0:=R0.later hb;replace HR:=Zbx HR hb;replace bel:=Zaa bel hb;replace hs:=hsl hs hb;have HD5:Hid (Dep (fun b=>M≤b) z4 (ZaV x) cs5):=by rw[ZkU HTm.out];exact hd5
      have HL5:Hid (cs5.length=5):=hd5.now.five;have HO5:Hid (Zbp cs5):=hd5.now.ones;clear hd5 HBz;clear hb;refine wpAnyH_ready (rs:=[1,4]) (by kernel_rfl) (by simp) ?_;refine AllReadyH.cons rfl (fun K hK=>?_) ?_
      ·have e4:=Bv.cell 4 _ rfl
       have l4:=Bv.lt;go_simp;refine hK.out _ _ ?_ (fun hHeld2=>?_)
       ·exact hHeld
       ·clear hK K
        try clear hHeld
        have hHeld:=hHeld2;clear hHeld2;clear e4 l4;refine wpAnyH_ready (rs:=[4]) (by kernel_rfl) (by simp) ?_;refine AllReadyH.cons rfl (fun K hK=>?_) ?_
        ·rw[if_pos (by rfl)]
         refine wp_buildSlice 55 57 1 _ rfl cs5.toArray jt _ Tryz.underlying55 hjt ht0 (by rw[ht1];decide) (by rw[ht1];decide) (by rw[ht1];refine (congrArg _ (?_:_=[(0,Value.agg cs5.toArray)])).trans (Zay HL5.out);kernel_rfl) ?_;refine hK.out _ _ ?_ (fun hHeld2=>?_)
         ·exact KT1.out _
         ·clear hK K
          try clear hHeld
          have hHeld:=hHeld2;clear hHeld2;have hb:=bal z4 (.cells cs5.toArray 57);replace Bv:=Bv.later hb;replace R0:=R0.later hb;replace HR:=Zbx HR hb;replace bel:=Zaa bel hb;replace hs:=hsl hs hb;replace HD5:=dpl HD5 hb;have B5:=Blk.new z4 cs5 57 z4.heap.size rfl;obtain ⟨g5,hg9⟩:∃ g,g=z4.heap.size:=⟨_,rfl⟩;rw[← hg9] at B5 ⊢;clear hg9 hb;generalize (z4.alloc (.cells cs5.toArray 57))=zb at *;exact k5 zb g5 cs5 hHeld Bv R0 HR bel hs B5 HD5 HL5 HO5
        exact AllReadyH.nil
      refine AllReadyH.cons rfl (fun K hK=>?_) ?_
      ·rw[if_pos (by rfl)]
       refine wp_buildSlice 55 57 1 _ rfl cs5.toArray jt _ Tryz.underlying55 hjt ht0 (by rw[ht1];decide) (by rw[ht1];decide) (by rw[ht1];refine (congrArg _ (?_:_=[(0,Value.agg cs5.toArray)])).trans (Zay HL5.out);kernel_rfl) ?_;refine hK.out _ _ ?_ (fun hHeld2=>?_)
       ·exact KT1.out _
       ·clear hK K
        try clear hHeld
        have hHeld:=hHeld2;clear hHeld2;have hb:=bal z4 (.cells cs5.toArray 57);replace Bv:=Bv.later hb;replace R0:=R0.later hb;replace HR:=Zbx HR hb;replace bel:=Zaa bel hb;replace hs:=hsl hs hb;replace HD5:=dpl HD5 hb;have B5:=Blk.new z4 cs5 57 z4.heap.size rfl;obtain ⟨g5,hg9⟩:∃ g,g=z4.heap.size:=⟨_,rfl⟩;rw[← hg9] at B5 ⊢;clear hg9 hb;generalize (z4.alloc (.cells cs5.toArray 57))=zb at *;refine wpAnyH_ready (rs:=[1]) (by kernel_rfl) (by simp) ?_;refine AllReadyH.cons rfl (fun K hK=>?_) ?_
        ·have e4:=Bv.cell 4 _ rfl
         have l4:=Bv.lt;go_simp;refine hK.out _ _ ?_ (fun hHeld2=>?_)
         ·exact hHeld
         ·clear hK K
          try clear hHeld
          have hHeld:=hHeld2;clear hHeld2;clear e4 l4;exact k5 zb g5 cs5 hHeld Bv R0 HR bel hs B5 HD5 HL5 HO5
        exact AllReadyH.nil
      exact AllReadyH.nil
    exact AllReadyH.nil
   case kp =>
    intro wz g5 cs5 hHeld Bv R0 HR bel hs B5 HD5 HL5 HO5;refine wpAnyH_ready (rs:=[5]) (by kernel_rfl) (by simp) ?_;refine AllReadyH.cons rfl (fun K hK=>?_) ?_
    ·have HM9:Hid (∀ b,(Value.slice ka i kc).ownBlock=some b→b<M):=HM
     rw[if_pos (show Region.wanted _ _=true from rfl)];refine Zb9 (ops:=#[]) rfl ?_;refine Zal (by rfl) _ _ (by rfl) N1 (Value.slice ka i kc) (((c.uses.take i).map ZaV)) (by rfl) HR.out g5 (by rfl) cs5 B5 HL5.out HO5.out (ZaV x) (HD5.out.next (Agr.refl _ _) (fun b h9 _=>⟨by omega,fun e9=>by have:=HM9.out b e9;omega⟩)) (by rw[HLi.out];omega) (by omega) ?_;intro kv9 w9 hr9 hgrow9 hge9 hat9;obtain ⟨ka9,kc9,hkv9⟩:=hr9.sl;obtain ⟨K9,hK9⟩:∃ z,(((c.uses.take i).map ZaV)++[ZaV x]).length=z:=⟨_,rfl⟩;have HK9:Hid ((((c.uses.take i).map ZaV)++[ZaV x]).length=K9):=hK9;rw[hK9] at hkv9;subst hkv9;clear hK9;have hzb:=bel.size;have hsz9:=hgrow9.size;replace Bv:=Bv.grown hgrow9 (fun k hk e=>by have:=hge9 k hk;omega);replace R0:=R0.grown hgrow9 (fun k hk e=>by have:=hge9 k hk;omega);replace bel:=Below.grown bel hgrow9 hzb (fun k hk=>by have:=hge9 k hk;omega);replace HR:Hid (RwT w9 N1 (Value.slice ka9 K9 kc9) (((c.uses.take i).map ZaV)++[ZaV x])):=hr9;clear hgrow9 hge9 hat9 hr9 hzb;refine ⟨rfl,?_⟩;refine hK.out _ _ ?_ (fun hHeld2=>?_)
     ·exact KT1.out _
     ·clear hK K
      try clear hHeld
      have hHeld:=hHeld2;clear hHeld2;clear B5 HD5;refine wpAnyH_take (i:=6) (v:=?_) rfl (by kernel_rfl) (by kernel_rfl) (by kernel_rfl) (fun _ _ _ h=>h) (Or.inl ⟨by rfl,?_⟩) (by assumption) ?_;rotate_left
      ·intro w hSw
       go_simp
       with_reducible rfl
      refine wpAnyH_ready (rs:=[7]) (by kernel_rfl) (by simp) ?_;refine AllReadyH.cons rfl (fun K hK=>?_) ?_
      ·have e4:=Bv.cell 4 _ rfl
       have l4:=Bv.lt;have f4:=Bv.frozen 4;go_simp;refine hK.out _ _ ?_ (fun hHeld2=>?_)
       ·exact KT1.out _
       ·clear hK K
        try clear hHeld
        have hHeld:=hHeld2;clear hHeld2;clear e4 l4 f4;replace Bv:Blk (w9.setCell ⟨gt,4,none⟩ (Value.slice ka9 K9 kc9)) gt [.int .i64 0,.int .i64 16,.bool true,.slice none 0 0,Value.slice ka9 K9 kc9]:=Bv.set 4 _;replace HR:Hid (RwT (w9.setCell ⟨gt,4,none⟩ (Value.slice ka9 K9 kc9)) N1 (Value.slice ka9 K9 kc9) (((c.uses.take i).map ZaV)++[ZaV x])):=HR.out.cell (by omega);replace R0:=R0.other ⟨gt,4,none⟩ (Value.slice ka9 K9 kc9) (by show _≠gt;omega);replace bel:Below w.heap.size w (w9.setCell ⟨gt,4,none⟩ (Value.slice ka9 K9 kc9)):=bel.setCell (by show _≤gt;omega) _;replace hsz9:M≤(w9.setCell ⟨gt,4,none⟩ (Value.slice ka9 K9 kc9)).heap.size:=Nat.le_trans (show M≤w9.heap.size by omega) ((Below.refl 0 w9).setCell (Nat.zero_le _) (Value.slice ka9 K9 kc9)).size;generalize (w9.setCell ⟨gt,4,none⟩ (Value.slice ka9 K9 kc9))=w10 at *;refine wpAnyH_done (by kernel_rfl) ?_ _;refine NoPanic.normal ?_
        try clear hHeld
        have HNx:Hid (RwT w10 N1 (.slice ka9 K9 kc9) ((c.uses.take (i+1)).map ZaV)):=by
         have h:=HR.out;rw[← Ziq HX.out] at h;exact h
        obtain rfl:K9=i+1:=by rw[← HK9.out,List.length_append,HLi.out];rfl
        have HAn:Hid (∀ l∈c.uses.take (i+1),∃ b,ZaD l=.ok b):=ZiK HA.out HX.out ⟨X,HTm.out⟩;go_wp2_with fail;go_roundw
        case rel=>exact ⟨i+1,ka9,kc9,by omega,by go_num,Bv,HNx,HAn,R0,bel,by omega⟩
        case measure=>simp[intOf];omega
      exact AllReadyH.nil
    exact AllReadyH.nil
end Go.Proofs.YtdfmoghjimghhaaGreatDoor
