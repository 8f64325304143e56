import Derived.Test.YtdfmoghjimghhaaGreatDoorClExE
import Derived.Test.YtdfmoghjimghhaaGreatDoorClEl
import Derived.Test.YtdfmoghjimghhaaGreatDoorClCa
import Derived.Test.YtdfmoghjimghhaaGreatDoorPrTimeOf
import Derived.Test.YtdfmoghjimghhaaGreatDoorNlSG
import Derived.Test.YtdfmoghjimghhaaGreatDoorRows
import Derived.Deep.OwnRows
import Derived.Deep.AppendLies
import Derived.Great.BuildSlice
import Derived.Laws.Rows
import Derived.BigQuiet
import Derived.Deep.WholeRow
import Derived.Deep.RegionHeld3
import Derived.Deep.DeepCutAuto
import Derived.Deep.DeepFit
namespace Go.Proofs.YtdfmoghjimghhaaGreatDoor
open Go.RowKit
set_option linter.unusedSimpArgs false in
set_option maxRecDepth 100000 in
set_option maxHeartbeats 4000000 in
theorem Zev {f t:Int} {w:World} (hf:-9223372036854775808≤f∧f≤9223372036854775807) (ht:-9223372036854775808≤t∧t≤9223372036854775807):Calls Tryz.prog 55 #[.int .i64 f,.int .i64 t] w (ElR w (ZjA f t)):=by
 have HF:Hid (-9223372036854775808≤f∧f≤9223372036854775807):=hf;have HT:Hid (-9223372036854775808≤t∧t≤9223372036854775807):=ht;clear hf ht;have R0:=Blk.new w [.int .i64 0,.int .i64 0,.bool false,.slice none 0 0,.slice none 0 0] 57 w.heap.size rfl;have bel:=bal w (.cells #[.int .i64 0,.int .i64 0,.bool false,.slice none 0 0,.slice none 0 0] 57);have hz:=Zad.out;go_enter Tryz.func55,Tryz.ntmps55;go_upto_region 1 with fail;have lW:=bel.size;generalize w.alloc (.cells #[.int .i64 0,.int .i64 0,.bool false,.slice none 0 0,.slice none 0 0] 57)=W at *;clear hz;obtain ⟨jt,hjt,ht0,ht1,ht2⟩:=Zap ZaI

 go_wp2_with fail;refine Zbd.mono ?_;rintro e w1 ⟨rfl,hb⟩;replace R0:=R0.later hb;replace bel:=Zaa bel hb;clear hb;have hz:=Zad.out;have Bv:=Blk.new w1 [.int .i64 0,.int .i64 16,.bool true,.slice none 0 0,.slice none 0 0] 57 w1.heap.size rfl;have lt1:w.heap.size<w1.heap.size:=R0.lt;replace R0:=R0.alloc (.cells #[.int .i64 0,.int .i64 16,.bool true,.slice none 0 0,.slice none 0 0] 57);replace bel:=Zaf (o:=.cells #[.int .i64 0,.int .i64 16,.bool true,.slice none 0 0,.slice none 0 0] 57) bel;go_upto_region 2 with (first|((with_reducible show wpList _ _ _ ({ dst:=_,op:=.store _ _ _,type:=_,pos:=_,after:=_,guard:=_ } :: _) _ _);refine wpList_store_row rfl 57 _ _ rfl w1.heap.size #[.int .i64 0,.int .i64 16,.bool true,.slice none 0 0,.slice none 0 0] rfl rfl 57 _ (heap_alloc_last _ _) (by rw[Zab];rfl) rfl (by simp[Value.oneCell']) ?_;rw[World.setRow_alloc_new])|fail);clear hz;obtain ⟨gt,hgt⟩:∃ g,g=w1.heap.size:=⟨_,rfl⟩;rw[← hgt] at Bv lt1 ⊢;have lt2:gt<(w1.alloc (.cells #[.int .i64 0,.int .i64 16,.bool true,.slice none 0 0,.slice none 0 0] 57)).heap.size:=Bv.lt;generalize w1.alloc (.cells #[.int .i64 0,.int .i64 16,.bool true,.slice none 0 0,.slice none 0 0] 57)=V1 at *;clear hgt;have Bl:=Blk.new V1 [.int .i64 f,.int .i64 t] 2 V1.heap.size rfl;replace R0:=R0.alloc (.cells #[.int .i64 f,.int .i64 t] 2);replace Bv:=Bv.alloc (.cells #[.int .i64 f,.int .i64 t] 2);replace bel:=Zaf (o:=.cells #[.int .i64 f,.int .i64 t] 2) bel;go_wp2_with fail;obtain ⟨gl,hgl⟩:∃ g,g=V1.heap.size:=⟨_,rfl⟩;rw[← hgl] at Bl lt2 ⊢;have lt3:gl<(V1.alloc (.cells #[.int .i64 f,.int .i64 t] 2)).heap.size:=Bl.lt;generalize V1.alloc (.cells #[.int .i64 f,.int .i64 t] 2)=V2 at *;clear hgl;obtain ⟨N1,hN1⟩:∃ n,n=V2.heap.size:=⟨_,rfl⟩;rw[← hN1] at lt3;have hs1:N1≤V2.heap.size:=by omega
 clear hN1;obtain ⟨TT,hTT⟩:∃ z,z=[orT (ZcI f),orT (ZcI t)]:=⟨_,rfl⟩;have HTT:Hid (TT=[orT (ZcI f),orT (ZcI t)]):=hTT;clear hTT;go_loopw [17] (fun iv wx=>∃ (i:Nat) (ka:Option Addr) (kc:Nat),i≤2∧iv=.int .i64 (i:Int)∧Blk wx gt [.int .i64 0,.int .i64 16,.bool true,.slice none 0 0,.slice ka i kc]∧Hid (RwT wx N1 (.slice ka i kc) (TT.take i))∧Hid (∀ j,j<i→∃ T,ZcI (if j=0 then f else t)=some T)∧Blk wx gl [.int .i64 f,.int .i64 t]∧Blk wx w.heap.size [.int .i64 0,.int .i64 0,.bool false,.slice none 0 0,.slice none 0 0]∧Below w.heap.size w wx∧N1≤wx.heap.size) (fun iv _=>2-(intOf iv).toNat)
 case atStart=>exact ⟨0,none,0,by omega,rfl,Bv,by rw[List.take_zero];exact RwT.nil0 _ _,fun j hj=>absurd hj (by omega),Bl,R0,bel,hs1⟩
 case round =>
  clear Bv Bl R0 bel hs1;obtain ⟨i,ka,kc,hi,rfl,Bv,HR,HA,Bl,R0,bel,hs1⟩:=hrel;have HLi:Hid ((TT.take i).length=i):=by show _=_;rw[List.length_take,HTT.out];simp;omega
  by_cases hil:i<2
  rotate_left
  ·obtain rfl:i=2:=by omega
   obtain⟨T1,h1⟩:=HA.out 0 (by omega);obtain ⟨T2,h2⟩:=HA.out 1 (by omega);rw[if_pos rfl] at h1;rw[if_neg (by omega)] at h2;have H:Hid (ZjA f t=some (Zak [T1,T2])):=ZiL h1 h2;have HD:Hid (Dep (fun b=>N1≤b) wr (Zak [T1,T2]) [.int .i64 0,.int .i64 16,.bool true,.slice none 0 0,.slice ka 2 kc]):=by
    have h:=HR.out.dep 0 16 true;rw[HTT.out,h1,h2] at h;exact h
   clear h1 h2 HA HLi HR HTT;have hld:(loadVar 57 ⟨gt,0,none⟩).run Tryz.prog wr=.ok (.agg #[.int .i64 0,.int .i64 16,.bool true,.slice none 0 0,.slice ka 2 kc]) wr:=Bv.load Tryz.underlying57 rfl Zab rfl;have l0:=Bv.lt;obtain ⟨tR,hR⟩:=R0;have HR1:Hid _:=hR;clear hR;go_wp2_with (first|((with_reducible show wpList _ _ _ ({ dst:=_,op:=.load _ _,type:=_,pos:=_,after:=_,guard:=_ } :: _) _ _);refine Zae (by rfl) (by rfl) (by rfl) hld ?_)|((with_reducible show wpList _ _ _ ({ dst:=_,op:=.store _ _ _,type:=_,pos:=_,after:=_,guard:=_ } :: _) _ _);refine wpList_store_row rfl 57 _ _ rfl (w.heap.size) #[.int .i64 0,.int .i64 16,.bool true,.slice none 0 0,.slice ka 2 kc] rfl rfl tR _ HR1.out (by rw[Zab];rfl) rfl (by simp[Value.oneCell']) ?_)|fail);refine bodyPost_ret (Zag rfl _ _ (w.heap.size) tR #[.int .i64 0,.int .i64 16,.bool true,.slice none 0 0,.slice ka 2 kc] (0,0) _ rfl (setRow_heap _ _ _ _ _ _ HR1.out) Tryz.underlying57 rfl (by rw[Zab];rfl)) rfl ?_;exact ElR.ok (cs:=[.int .i64 0,.int .i64 16,.bool true,.slice none 0 0,.slice ka 2 kc]) H.out (ZaB HD.out (by omega) (by omega)) (below_setRow bel (by omega) _)
  obtain⟨x,hx⟩:∃ z,(if i=0 then f else t)=z:=⟨_,rfl⟩;have HX:Hid ((if i=0 then f else t)=x):=hx;have hxb:-9223372036854775808≤x∧x≤9223372036854775807:=by rw[← hx];split;exact HF.out;exact HT.out
  have ei:=Bl.cell i (.int .i64 x) (by rw[← hx];match i,hil with|0,_=>rfl|1,_=>rfl);have li:=Bl.lt;clear hx;have g1:(i:Int)<2:=by omega
  have g2:(0:Int)≤(i:Int):=by omega
  have gi:IntKind.i64.wrap ((i:Int)+1)=(i:Int)+1:=by rw[IntKind.wrap_i64];omega
  go_wp2_with fail;refine (Zja hxb).mono ?_;rintro e w2 ⟨hok,hbad⟩;clear ei li hxb
  cases ht:ZaQ x with
  | error c =>
   obtain⟨va,vc,rfl,hb⟩:=hbad c ht;have H:Hid (ZjA f t=none):=Zo6 (by have h:=Zo5 ht;rw[← HX.out] at h;split at h;exact .inl h;exact .inr h);replace R0:=R0.later hb;replace bel:=Zaa bel hb;clear hok hbad hb ht HR Bv Bl;have q:=ZaE (c:Int);have hz:=Zad.out;obtain ⟨tR,hR⟩:=R0;have HR1:Hid _:=hR;clear hR;go_wp2_with (first|((with_reducible show wpList _ _ _ ({ dst:=_,op:=.store _ _ _,type:=_,pos:=_,after:=_,guard:=_ } :: _) _ _);refine wpList_store_row rfl 57 _ _ rfl (w.heap.size) #[.int .i64 0,.int .i64 0,.bool false,.slice none 0 0,.slice none 0 0] rfl rfl tR _ HR1.out (by rw[Zab];rfl) rfl (by simp[Value.oneCell']) ?_)|fail);refine bodyPost_ret (Zag rfl _ _ (w.heap.size) tR #[.int .i64 0,.int .i64 0,.bool false,.slice none 0 0,.slice none 0 0] (0,0) _ rfl (setRow_heap _ _ _ _ _ _ HR1.out) Tryz.underlying57 rfl (by rw[Zab];rfl)) rfl ?_;exact ElR.bad H.out (below_setRow bel (by omega) _)
  | ok q9 =>
   obtain⟨a9,X⟩:=q9;obtain ⟨v2,rfl,hv2,hn2,hb⟩:=hok a9 X ht;have HTm:Hid (ZcI x=some (.mk 0 a9 false X [])):=ZnJ ht;have HB2:Hid (Bs w2 v2 X):=hv2;obtain ⟨M,hM⟩:∃ n,n=wr.heap.size:=⟨_,rfl⟩;have HN2:Hid (∀ a m c,v2=.slice (some a) m c→0<m→M≤a.block):=by rw[hM];exact hn2
   have HM:Hid (∀ b,(Value.slice ka i kc).ownBlock=some b→b<M):=fun b h9=>by rw[hM];exact (HR.out.ltE h9).2
   have hs:M≤w2.heap.size:=by rw[hM];exact hb.size
   have hNM:N1≤M:=by omega
   clear hM hok hbad ht hn2;obtain ⟨va,vc,hv3,-,-,-⟩:=id hv2;obtain ⟨L2,hL2⟩:∃ z,X.length=z:=⟨_,rfl⟩;rw[hL2] at hv3;subst hv3;replace Bv:=Bv.later hb;replace Bl:=Bl.later hb;replace R0:=R0.later hb;replace HR:=Zbx HR hb;replace bel:=Zaa bel hb;clear hb hv2 hL2;have q:=ZaS;go_upto_region 8 with fail;clear q;obtain ⟨S1,hS1,KT1⟩:∃ S:World→Prop,Hd S w2∧Hid (∀ wx,Hd S wx):=⟨fun _=>True,trivial,fun _=>trivial⟩;refine wp_region_noPanic ?_;have hdr:Below w2.heap.size w2 w2.drew:=Below.drew (Below.refl _ _);replace Bv:=Bv.later hdr;replace R0:=R0.later hdr;replace Bl:=Bl.later hdr;replace HR:=Zbx HR hdr;replace HB2:=BsL HB2 hdr;replace bel:=Zaa bel hdr;replace hs:=hsl hs hdr

   clear hdr;refine wp_region_held_drew (S:=Hd S1) (by kernel_rfl) (KT1.out _) (fun hHeld=>?_);clear hS1;generalize World.drew _=wd1 at *;refine wpAnyH_take (i:=0) (v:=?_) rfl (by kernel_rfl) (by kernel_rfl) (by kernel_rfl) (fun _ _ _ h=>h) (Or.inl ⟨by rfl,?_⟩) (by assumption) ?_;rotate_left
   ·intro w hSw
    go_simp
    with_reducible rfl
   refine wpAnyH_take (i:=2) (v:=?_) rfl (by kernel_rfl) (by kernel_rfl) (by kernel_rfl) (fun _ _ _ h=>h) (Or.inl ⟨by rfl,?_⟩) (by assumption) ?_;rotate_left
   ·intro w hSw
    go_simp
    with_reducible rfl
   refine wpAnyH_take (i:=3) (v:=?_) rfl (by kernel_rfl) (by kernel_rfl) (by kernel_rfl) (fun _ _ _ h=>h) (Or.inl ⟨by rfl,?_⟩) (by assumption) ?_;rotate_left
   ·intro w hSw
    go_simp
    with_reducible rfl
   apply Zdh (T:=∀ (wz:World) (g5:Nat) (cs5:List Value),Hd S1 wz→Blk wz gt [.int .i64 0,.int .i64 16,.bool true,.slice none 0 0,Value.slice ka i kc]→Blk wz (w.heap.size) [.int .i64 0,.int .i64 0,.bool false,.slice none 0 0,.slice none 0 0]→Hid (RwT wz N1 (Value.slice ka i kc) ((TT.take i)))→Below w.heap.size w wz→M≤wz.heap.size→Blk wz g5 cs5→Hid (Dep (fun b=>M≤b) wz (Tl.mk 0 a9 false X []) cs5)→Hid (cs5.length=5)→Hid (Zbp cs5)→Blk wz gl [.int .i64 f,.int .i64 t]→wpAnyH _ _ _ _ _ _ _ _ wz)
   case main =>
    intro k5;refine wpAnyH_ready (rs:=[1,4]) (by kernel_rfl) (by simp) ?_;refine AllReadyH.cons rfl (fun K hK=>?_) ?_
    ·have e4:=Bv.cell 4 _ rfl
     have l4:=Bv.lt;go_simp;refine hK.out _ _ ?_ (fun hHeld2=>?_)
     ·exact hHeld
     ·clear hK K
      try clear hHeld
      have hHeld:=hHeld2;clear hHeld2;clear e4 l4;refine wpAnyH_ready (rs:=[4]) (by kernel_rfl) (by simp) ?_;refine AllReadyH.cons rfl (fun K hK=>?_) ?_
      ·have HBz:Hid (Bs wd1 (.slice va L2 vc) X):=HB2.out
       go_simp;refine (Zb6 (N:=M) HBz.out HN2.out).mono ?_;rintro e z4 ⟨cs5,rfl,hd5,hb⟩;refine hK.out _ _ ?_ (fun hHeld2=>?_)
       ·exact KT1.out _
       ·clear hK K
        try clear hHeld
        have hHeld:=hHeld2;clear hHeld2;replace Bv:=Bv.later hb;replace R0:=R0.later hb;replace Bl:=Bl.later hb;replace HR:=Zbx HR hb;replace bel:=Zaa bel hb;replace hs:=hsl hs hb;have HD5:Hid (Dep (fun b=>M≤b) z4 (.mk 0 a9 false X []) cs5):=hd5;have HL5:Hid (cs5.length=5):=hd5.now.five;have HO5:Hid (Zbp cs5):=hd5.now.ones;clear hd5 HBz;clear hb;refine wpAnyH_ready (rs:=[5]) (by kernel_rfl) (by simp) ?_;refine AllReadyH.cons rfl (fun K hK=>?_) ?_
        ·rw[if_pos (by rfl)]
         refine wp_buildSlice 55 57 1 _ rfl cs5.toArray jt _ Tryz.underlying55 hjt ht0 (by rw[ht1];decide) (by rw[ht1];decide) (by rw[ht1];refine (congrArg _ (?_:_=[(0,Value.agg cs5.toArray)])).trans (Zay HL5.out);kernel_rfl) ?_;refine hK.out _ _ ?_ (fun hHeld2=>?_)
         ·exact KT1.out _
         ·clear hK K
          try clear hHeld
          have hHeld:=hHeld2;clear hHeld2;have hb:=bal z4 (.cells cs5.toArray 57);replace Bv:=Bv.later hb;replace R0:=R0.later hb;replace Bl:=Bl.later hb;replace HR:=Zbx HR hb;replace bel:=Zaa bel hb;replace hs:=hsl hs hb;replace HD5:=dpl HD5 hb;have B5:=Blk.new z4 cs5 57 z4.heap.size rfl;obtain ⟨g5,hg9⟩:∃ g,g=z4.heap.size:=⟨_,rfl⟩;rw[← hg9] at B5 ⊢;clear hg9 hb;generalize (z4.alloc (.cells cs5.toArray 57))=zb at *;exact k5 zb g5 cs5 hHeld Bv R0 HR bel hs B5 HD5 HL5 HO5 Bl
        exact AllReadyH.nil
      exact AllReadyH.nil
    refine AllReadyH.cons rfl (fun K hK=>?_) ?_
    ·have HBz:Hid (Bs wd1 (.slice va L2 vc) X):=HB2.out
     go_simp;refine (Zb6 (N:=M) HBz.out HN2.out).mono ?_;rintro e z4 ⟨cs5,rfl,hd5,hb⟩;refine hK.out _ _ ?_ (fun hHeld2=>?_)
     ·exact KT1.out _
     ·clear hK K
      try clear hHeld
      have hHeld:=hHeld2;clear hHeld2;replace Bv:=Bv.later hb;replace R0:=R0.later hb;replace Bl:=Bl.later hb;replace HR:=Zbx HR hb;replace bel:=Zaa bel hb;replace hs:=hsl hs hb;have HD5:Hid (Dep (fun b=>M≤b) z4 (.mk 0 a9 false X []) cs5):=hd5;have HL5:Hid (cs5.length=5):=hd5.now.five;have HO5:Hid (Zbp cs5):=hd5.now.ones;clear hd5 HBz;clear hb;refine wpAnyH_ready (rs:=[1,5]) (by kernel_rfl) (by simp) ?_;refine AllReadyH.cons rfl (fun K hK=>?_) ?_
      ·have e4:=Bv.cell 4 _ rfl
       have l4:=Bv.lt;go_simp;refine hK.out _ _ ?_ (fun hHeld2=>?_)
       ·exact hHeld
       ·clear hK K
        try clear hHeld
        have hHeld:=hHeld2;clear hHeld2;clear e4 l4;refine wpAnyH_ready (rs:=[5]) (by kernel_rfl) (by simp) ?_;refine AllReadyH.cons rfl (fun K hK=>?_) ?_
        ·rw[if_pos (by rfl)]
         refine wp_buildSlice 55 57 1 _ rfl cs5.toArray jt _ Tryz.underlying55 hjt ht0 (by rw[ht1];decide) (by rw[ht1];decide) (by rw[ht1];refine (congrArg _ (?_:_=[(0,Value.agg cs5.toArray)])).trans (Zay HL5.out);kernel_rfl) ?_;refine hK.out _ _ ?_ (fun hHeld2=>?_)
         ·exact KT1.out _
         ·clear hK K
          try clear hHeld
          have hHeld:=hHeld2;clear hHeld2;have hb:=bal z4 (.cells cs5.toArray 57);replace Bv:=Bv.later hb;replace R0:=R0.later hb;replace Bl:=Bl.later hb;replace HR:=Zbx HR hb;replace bel:=Zaa bel hb;replace hs:=hsl hs hb;replace HD5:=dpl HD5 hb;have B5:=Blk.new z4 cs5 57 z4.heap.size rfl;obtain ⟨g5,hg9⟩:∃ g,g=z4.heap.size:=⟨_,rfl⟩;rw[← hg9] at B5 ⊢;clear hg9 hb;generalize (z4.alloc (.cells cs5.toArray 57))=zb at *;exact k5 zb g5 cs5 hHeld Bv R0 HR bel hs B5 HD5 HL5 HO5 Bl
        exact AllReadyH.nil
      refine AllReadyH.cons rfl (fun K hK=>?_) ?_
      ·rw[if_pos (by rfl)]
       refine wp_buildSlice 55 57 1 _ rfl cs5.toArray jt _ Tryz.underlying55 hjt ht0 (by rw[ht1];decide) (by rw[ht1];decide) (by rw[ht1];refine (congrArg _ (?_:_=[(0,Value.agg cs5.toArray)])).trans (Zay HL5.out);kernel_rfl) ?_;refine hK.out _ _ ?_ (fun hHeld2=>?_)
       ·exact KT1.out _
       ·clear hK K
        try clear hHeld
        have hHeld:=hHeld2;clear hHeld2;have hb:=bal z4 (.cells cs5.toArray 57);replace Bv:=Bv.later hb;replace R0:=R0.later hb;replace Bl:=Bl.later hb;replace HR:=Zbx HR hb;replace bel:=Zaa bel hb;replace hs:=hsl hs hb;replace HD5:=dpl HD5 hb;have B5:=Blk.new z4 cs5 57 z4.heap.size rfl;obtain ⟨g5,hg9⟩:∃ g,g=z4.heap.size:=⟨_,rfl⟩;rw[← hg9] at B5 ⊢;clear hg9 hb;generalize (z4.alloc (.cells cs5.toArray 57))=zb at *;refine wpAnyH_ready (rs:=[1]) (by kernel_rfl) (by simp) ?_;refine AllReadyH.cons rfl (fun K hK=>?_) ?_
        ·have e4:=Bv.cell 4 _ rfl
         have l4:=Bv.lt;go_simp;refine hK.out _ _ ?_ (fun hHeld2=>?_)
         ·exact hHeld
         ·clear hK K
          try clear hHeld
          have hHeld:=hHeld2;clear hHeld2;clear e4 l4;exact k5 zb g5 cs5 hHeld Bv R0 HR bel hs B5 HD5 HL5 HO5 Bl
        exact AllReadyH.nil
      exact AllReadyH.nil
    exact AllReadyH.nil
   case kp =>
    intro wz g5 cs5 hHeld Bv R0 HR bel hs B5 HD5 HL5 HO5 Bl;refine wpAnyH_ready (rs:=[6]) (by kernel_rfl) (by simp) ?_;refine AllReadyH.cons rfl (fun K hK=>?_) ?_
    ·have HM9:Hid (∀ b,(Value.slice ka i kc).ownBlock=some b→b<M):=HM
     rw[if_pos (show Region.wanted _ _=true from rfl)];refine Zb9 (ops:=#[]) rfl ?_;refine Zal (by rfl) _ _ (by rfl) N1 (Value.slice ka i kc) ((TT.take i)) (by rfl) HR.out g5 (by rfl) cs5 B5 HL5.out HO5.out (Tl.mk 0 a9 false X []) (HD5.out.next (Agr.refl _ _) (fun b h9 _=>⟨by omega,fun e9=>by have:=HM9.out b e9;omega⟩)) (by rw[HLi.out];omega) (by omega) ?_;intro kv9 w9 hr9 hgrow9 hge9 hat9;obtain ⟨ka9,kc9,hkv9⟩:=hr9.sl;obtain ⟨K9,hK9⟩:∃ z,((TT.take i)++[Tl.mk 0 a9 false X []]).length=z:=⟨_,rfl⟩;have HK9:Hid (((TT.take i)++[Tl.mk 0 a9 false X []]).length=K9):=hK9;rw[hK9] at hkv9;subst hkv9;clear hK9;have hzb:=bel.size;have hsz9:=hgrow9.size;replace Bv:=Bv.grown hgrow9 (fun k hk e=>by have:=hge9 k hk;omega);replace R0:=R0.grown hgrow9 (fun k hk e=>by have:=hge9 k hk;omega);replace Bl:=Bl.grown hgrow9 (fun k hk e=>by have:=hge9 k hk;omega);replace bel:=Below.grown bel hgrow9 hzb (fun k hk=>by have:=hge9 k hk;omega);replace HR:Hid (RwT w9 N1 (Value.slice ka9 K9 kc9) ((TT.take i)++[Tl.mk 0 a9 false X []])):=hr9;clear hgrow9 hge9 hat9 hr9 hzb;refine ⟨rfl,?_⟩;refine hK.out _ _ ?_ (fun hHeld2=>?_)
     ·exact KT1.out _
     ·clear hK K
      try clear hHeld
      have hHeld:=hHeld2;clear hHeld2;clear B5 HD5;refine wpAnyH_take (i:=7) (v:=?_) rfl (by kernel_rfl) (by kernel_rfl) (by kernel_rfl) (fun _ _ _ h=>h) (Or.inl ⟨by rfl,?_⟩) (by assumption) ?_;rotate_left
      ·intro w hSw
       go_simp
       with_reducible rfl
      refine wpAnyH_ready (rs:=[8]) (by kernel_rfl) (by simp) ?_;refine AllReadyH.cons rfl (fun K hK=>?_) ?_
      ·have e4:=Bv.cell 4 _ rfl
       have l4:=Bv.lt;have f4:=Bv.frozen 4;go_simp;refine hK.out _ _ ?_ (fun hHeld2=>?_)
       ·exact KT1.out _
       ·clear hK K
        try clear hHeld
        have hHeld:=hHeld2;clear hHeld2;clear e4 l4 f4;replace Bv:Blk (w9.setCell ⟨gt,4,none⟩ (Value.slice ka9 K9 kc9)) gt [.int .i64 0,.int .i64 16,.bool true,.slice none 0 0,Value.slice ka9 K9 kc9]:=Bv.set 4 _;replace HR:Hid (RwT (w9.setCell ⟨gt,4,none⟩ (Value.slice ka9 K9 kc9)) N1 (Value.slice ka9 K9 kc9) ((TT.take i)++[Tl.mk 0 a9 false X []])):=HR.out.cell (by omega);replace R0:=R0.other ⟨gt,4,none⟩ (Value.slice ka9 K9 kc9) (by show _≠gt;omega);replace Bl:=Bl.other ⟨gt,4,none⟩ (Value.slice ka9 K9 kc9) (by show _≠gt;omega);replace bel:Below w.heap.size w (w9.setCell ⟨gt,4,none⟩ (Value.slice ka9 K9 kc9)):=bel.setCell (by show _≤gt;omega) _;replace hsz9:M≤(w9.setCell ⟨gt,4,none⟩ (Value.slice ka9 K9 kc9)).heap.size:=Nat.le_trans (show M≤w9.heap.size by omega) ((Below.refl 0 w9).setCell (Nat.zero_le _) (Value.slice ka9 K9 kc9)).size;generalize (w9.setCell ⟨gt,4,none⟩ (Value.slice ka9 K9 kc9))=w10 at *;refine wpAnyH_done (by kernel_rfl) ?_ _;refine NoPanic.normal ?_
        try clear hHeld
        have HNx:Hid (RwT w10 N1 (.slice ka9 K9 kc9) (TT.take (i+1))):=by
         have h:=HR.out;rw[show TT.take i++[.mk 0 a9 false X []]=TT.take (i+1) from by rw[HTT.out];have h2:=HTm.out;rw[← HX.out] at h2;match i,hil,h2 with|0,_,h2=>(rw[if_pos rfl] at h2;rw[h2];rfl)|1,_,h2=>(rw[if_neg (by omega)] at h2;rw[h2];rfl)] at h;exact h
        obtain rfl:K9=i+1:=by rw[← HK9.out,List.length_append,HLi.out];rfl
        have HAn:Hid (∀ j,j<i+1→∃ T,ZcI (if j=0 then f else t)=some T):=fun j hj=>by
         by_cases e:j<i
         ·exact HA.out j e
         ·obtain rfl:j=i:=by omega
          rw[HX.out];exact ⟨_,HTm.out⟩
        go_wp2_with fail;go_roundw
        case rel=>exact ⟨i+1,ka9,kc9,by omega,by go_num,Bv,HNx,HAn,Bl,R0,bel,by omega⟩
        case measure=>simp[intOf];omega
      exact AllReadyH.nil
    exact AllReadyH.nil
end Go.Proofs.YtdfmoghjimghhaaGreatDoor
