import Derived.Test.YtdfmoghjimghhaaGreatDoorClUses
import Derived.Test.YtdfmoghjimghhaaGreatDoorNlElem
import Derived.Test.YtdfmoghjimghhaaGreatDoorCtSize
import Derived.Test.YtdfmoghjimghhaaGreatDoorRows
import Derived.Deep.OwnRows
import Derived.Deep.AppendLies
import Derived.Great.BuildSlice
import Derived.Laws.Rows
import Derived.BigQuiet
import Derived.Deep.WholeRow
import Derived.Deep.RegionHeld3
import Derived.Deep.DeepCutAuto
import Derived.Deep.DeepFit
namespace Go.Proofs.YtdfmoghjimghhaaGreatDoor
open Go.RowKit
theorem Zc6 {ka:Option Addr} {n kc:Nat} {w:World}:Calls Tryz.prog 48 #[.slice ka n kc] w fun e w'=>∃ cs:List Value,e=.returned (.agg cs.toArray)∧Hid (cs=[.int .i64 0,.int .i64 16,.bool true,.slice none 0 0,.slice ka n kc])∧Below w.heap.size w w':=Zbd.mono (fun _ _ ⟨h,hb⟩=>⟨_,h,rfl,hb⟩)
def okN (l:List (List Pn)):Prop:=l.length≤8∧∀ n∈l,Zcl n=true
noncomputable def mnO (tag:Int) (l:List (List Pn)):Option Tl:=open Classical in if okN l then some (ZaA tag l) else none
theorem Zir {tag:Int} {l:List (List Pn)} (h:¬ okN l):mnO tag l=none:=by unfold mnO;rw[if_neg h]
theorem ZhI {tag:Int} {l:List (List Pn)} (h:okN l):mnO tag l=some (ZaA tag l):=by unfold mnO;rw[if_pos h]
def unN (n:List Pn):Tl:=Zak [Zbf 4 [ZaH n]]
set_option linter.unusedSimpArgs false in
set_option maxRecDepth 100000 in
set_option maxHeartbeats 4000000 in
theorem Zc7 {mk:Int} {v:Value} {L:List (List Pn)} {w:World} (hU:ZcY w v L) (wf:∀ n∈L,WfN n):Calls Tryz.prog 178 #[.int .i64 mk,v] w (ElR w (mnO mk L)):=by
 have HWn:Hid (∀ n∈L,WfN n):=wf;clear wf;obtain ⟨vs,hvl,hvs,hvp⟩:=hU.vals;have HVl:Hid (vs.length=L.length):=hvl;obtain ⟨ua,uc,hue,hu1,hu2,hu3⟩:=hvs;have HVc:Hid (0<vs.length→∃ b o,ua=some ⟨b,o,none⟩∧b<w.heap.size∧∀ i y,vs[i]?=some y→w.cell? ⟨b,o+i,none⟩=some y):=hu3;have HVp:Hid (∀ (i:Nat) (x:List Pn) (y:Value),L[i]?=some x→vs[i]?=some y→Zb3 w y x):=hvp;obtain ⟨LN,hLN⟩:∃ z,vs.length=z:=⟨_,rfl⟩;have HLN:Hid (L.length=LN):=by rw[← hLN,hvl];rfl
 have HLV:Hid (vs.length=LN):=hLN;rw[hLN] at hue hu1 HVc;subst hue;unfold maxLen at hu2;clear hvl hvp hu3 hLN hU;have R0:=Blk.new w [.int .i64 0,.int .i64 0,.bool false,.slice none 0 0,.slice none 0 0] 57 w.heap.size rfl;have bel:=bal w (.cells #[.int .i64 0,.int .i64 0,.bool false,.slice none 0 0,.slice none 0 0] 57);have hz:=Zad.out;go_enter Tryz.func178,Tryz.ntmps178;go_upto_region 1 with fail;have lW:=bel.size;generalize w.alloc (.cells #[.int .i64 0,.int .i64 0,.bool false,.slice none 0 0,.slice none 0 0] 57)=W at *;clear hz;obtain ⟨jt,hjt,ht0,ht1,ht2⟩:=Zap ZaI

 by_cases k1:8<LN
 ·have H:Hid (mnO mk L=none):=Zir (fun h=>by have:=h.1;rw[HLN.out] at this;omega)
  have g1:(8:Int)<(LN:Int):=by omega
  clear k1;have hz:=Zad.out;obtain ⟨tR,hR⟩:=R0;have HR1:Hid _:=hR;clear hR;go_wp2_with (first|((with_reducible show wpList _ _ _ ({ dst:=_,op:=.store _ _ _,type:=_,pos:=_,after:=_,guard:=_ } :: _) _ _);refine wpList_store_row rfl 57 _ _ rfl (w.heap.size) #[.int .i64 0,.int .i64 0,.bool false,.slice none 0 0,.slice none 0 0] rfl rfl tR _ HR1.out (by rw[Zab];rfl) rfl (by simp[Value.oneCell']) ?_)|fail);refine bodyPost_ret (Zag rfl _ _ (w.heap.size) tR #[.int .i64 0,.int .i64 0,.bool false,.slice none 0 0,.slice none 0 0] (0,0) _ rfl (setRow_heap _ _ _ _ _ _ HR1.out) Tryz.underlying57 rfl (by rw[Zab];rfl)) rfl ?_;exact ElR.bad H.out (below_setRow bel (by omega) _)
 have g1:¬ (8:Int)<(LN:Int):=by omega
 have HL8:Hid (LN≤8):=by show _≤_;omega
 clear k1;go_wp2_with fail;refine Zb5.mono ?_;rintro e w1 ⟨rfl,hb⟩;replace R0:=R0.later hb;replace bel:=Zaa bel hb;have lt1:w.heap.size<w1.heap.size:=R0.lt;clear hb g1;have hz:=Zad.out;have Bv:=Blk.new w1 [.int .i64 2,.int .i64 mk,.bool true,.slice none 0 0,.slice none 0 0] 57 w1.heap.size rfl;replace R0:=R0.alloc (.cells #[.int .i64 2,.int .i64 mk,.bool true,.slice none 0 0,.slice none 0 0] 57);replace bel:=Zaf (o:=.cells #[.int .i64 2,.int .i64 mk,.bool true,.slice none 0 0,.slice none 0 0] 57) bel;go_upto_region 4 with (first|((with_reducible show wpList _ _ _ ({ dst:=_,op:=.store _ _ _,type:=_,pos:=_,after:=_,guard:=_ } :: _) _ _);refine wpList_store_row rfl 57 _ _ rfl w1.heap.size #[.int .i64 2,.int .i64 mk,.bool true,.slice none 0 0,.slice none 0 0] rfl rfl 57 _ (heap_alloc_last _ _) (by rw[Zab];rfl) rfl (by simp[Value.oneCell']) ?_;rw[World.setRow_alloc_new])|fail);clear hz;obtain ⟨gt,hgt⟩:∃ g,g=w1.heap.size:=⟨_,rfl⟩;rw[← hgt] at Bv lt1 ⊢;have ltv:gt<(w1.alloc (.cells #[.int .i64 2,.int .i64 mk,.bool true,.slice none 0 0,.slice none 0 0] 57)).heap.size:=Bv.lt;generalize w1.alloc (.cells #[.int .i64 2,.int .i64 mk,.bool true,.slice none 0 0,.slice none 0 0] 57)=V1 at *;clear hgt;go_wp2_with fail;obtain ⟨N1,hN1⟩:∃ n,n=V1.heap.size:=⟨_,rfl⟩;rw[← hN1] at ltv;have hs1:N1≤V1.heap.size:=by omega
 clear hN1;go_loopw [20] (fun iv wx=>∃ (i:Nat) (ka:Option Addr) (kc:Nat),i≤LN∧iv=.int .i64 (i:Int)∧Blk wx gt [.int .i64 2,.int .i64 mk,.bool true,.slice none 0 0,Value.slice ka i kc]∧Hid (RwT wx N1 (.slice ka i kc) ((L.take i).map unN))∧Hid (∀ n∈L.take i,Zcl n=true)∧Blk wx w.heap.size [.int .i64 0,.int .i64 0,.bool false,.slice none 0 0,.slice none 0 0]∧Below w.heap.size w wx∧N1≤wx.heap.size) (fun iv _=>LN-(intOf iv).toNat)
 case atStart=>exact ⟨0,none,0,by omega,rfl,Bv,by rw[List.take_zero,List.map_nil];exact RwT.nil0 _ _,fun l hl=>by simp at hl,R0,bel,hs1⟩
 case round =>
  clear Bv R0 bel hs1;obtain ⟨i,ka,kc,hi,rfl,Bv,HR,HA,R0,bel,hs1⟩:=hrel;have h8:=HL8.out;have HLi:Hid (((L.take i).map unN).length=i):=by show _=_;rw[List.length_map,List.length_take,HLN.out];omega
  by_cases hil:i<LN
  rotate_left
  ·obtain rfl:i=LN:=by omega
   have HD:Hid (Dep (fun b=>N1≤b) wr (ZaA mk L) [.int .i64 2,.int .i64 mk,.bool true,.slice none 0 0,.slice ka i kc]):=by
    have h:=HR.out.dep 2 mk true;rw[List.take_of_length_le (by rw[HLN.out];omega)] at h;exact h
   have H:Hid (mnO mk L=some (ZaA mk L)):=ZhI ⟨by rw[HLN.out];exact h8,by have h:=HA.out;rw[List.take_of_length_le (by rw[HLN.out];omega)] at h;exact h⟩;clear HA HLi HR;have g1:¬ (i:Int)<(i:Int):=by omega
   have hld:(loadVar 57 ⟨gt,0,none⟩).run Tryz.prog wr=.ok (.agg #[.int .i64 2,.int .i64 mk,.bool true,.slice none 0 0,.slice ka i kc]) wr:=Bv.load Tryz.underlying57 rfl Zab rfl;have l0:=Bv.lt;obtain ⟨tR,hR⟩:=R0;have HR1:Hid _:=hR;clear hR;go_wp2_with (first|((with_reducible show wpList _ _ _ ({ dst:=_,op:=.load _ _,type:=_,pos:=_,after:=_,guard:=_ } :: _) _ _);refine Zae (by rfl) (by rfl) (by rfl) hld ?_)|((with_reducible show wpList _ _ _ ({ dst:=_,op:=.store _ _ _,type:=_,pos:=_,after:=_,guard:=_ } :: _) _ _);refine wpList_store_row rfl 57 _ _ rfl (w.heap.size) #[.int .i64 2,.int .i64 mk,.bool true,.slice none 0 0,.slice ka i kc] rfl rfl tR _ HR1.out (by rw[Zab];rfl) rfl (by simp[Value.oneCell']) ?_)|fail);refine bodyPost_ret (Zag rfl _ _ (w.heap.size) tR #[.int .i64 2,.int .i64 mk,.bool true,.slice none 0 0,.slice ka i kc] (0,0) _ rfl (setRow_heap _ _ _ _ _ _ HR1.out) Tryz.underlying57 rfl (by rw[Zab];rfl)) rfl ?_;exact ElR.ok (cs:=[.int .i64 2,.int .i64 mk,.bool true,.slice none 0 0,.slice ka i kc]) H.out (ZaB HD.out (by omega) (by omega)) (below_setRow bel (by omega) _)
  obtain⟨x,hx⟩:∃ x,L[i]?=some x:=⟨_,List.getElem?_eq_getElem (by rw[HLN.out];exact hil)⟩;obtain ⟨y,hy⟩:∃ y,vs[i]?=some y:=⟨_,List.getElem?_eq_getElem (by rw[HLV.out];exact hil)⟩;obtain ⟨ub,uo,hua,ult,ucl⟩:=HVc.out (by omega);subst hua;have HX:Hid (L[i]?=some x):=hx;have HXw:Hid (WfN x):=HWn.out x (List.mem_of_getElem? hx);have HUs:Hid (Zb3 w y x):=HVp.out i x y hx hy;have ey:=Zah (ucl i y hy) bel;have ly:ub<wr.heap.size:=Nat.lt_of_lt_of_le ult bel.size;obtain ⟨ya,yc,hye,-,-,-⟩:=id HUs.out;obtain ⟨YL,hYL⟩:∃ z,x.length=z:=⟨_,rfl⟩;rw[hYL] at hye;subst hye;clear hx hy ucl ult hYL;have g1:(i:Int)<(LN:Int):=by omega
  have g2:(0:Int)≤(i:Int):=by omega
  have gi:IntKind.i64.wrap ((i:Int)+1)=(i:Int)+1:=by rw[IntKind.wrap_i64];omega
  go_wp2_with fail;refine (Zeb (HUs.out.later bel) HXw.out).mono ?_;rintro e w2 ⟨hb,hbad,hok⟩;clear ey ly
  cases ht:Zcl x with
  | false =>
   obtain⟨c9,rfl⟩:=hbad (by unfold ZcZ;rw[ht];simp);have H:Hid (mnO mk L=none):=Zir (fun h=>by have h2:=h.2 x (List.mem_of_getElem? HX.out);rw[ht] at h2;cases h2);replace R0:=R0.later hb;replace bel:=Zaa bel hb;clear hok hbad hb ht HR Bv;have q:=ZaE c9;have hz:=Zad.out;replace R0:=R0.alloc (.cells #[.int .i64 0,.int .i64 0,.bool false,.slice none 0 0,.slice none 0 0] 57);replace bel:=Zaf (o:=.cells #[.int .i64 0,.int .i64 0,.bool false,.slice none 0 0,.slice none 0 0] 57) bel;go_upto_region 8 with (first|((with_reducible show wpList _ _ _ ({ dst:=_,op:=.store _ _ _,type:=_,pos:=_,after:=_,guard:=_ } :: _) _ _);refine wpList_store_row rfl 57 _ _ rfl w2.heap.size #[.int .i64 0,.int .i64 0,.bool false,.slice none 0 0,.slice none 0 0] rfl rfl 57 _ (heap_alloc_last _ _) (by rw[Zab];rfl) rfl (by simp[Value.oneCell']) ?_;rw[World.setRow_alloc_new])|fail);generalize w2.alloc (.cells #[.int .i64 0,.int .i64 0,.bool false,.slice none 0 0,.slice none 0 0] 57)=V9 at *;clear hz;have hz:=Zad.out;obtain ⟨tR,hR⟩:=R0;have HR1:Hid _:=hR;clear hR;go_wp2_with (first|((with_reducible show wpList _ _ _ ({ dst:=_,op:=.store _ _ _,type:=_,pos:=_,after:=_,guard:=_ } :: _) _ _);refine wpList_store_row rfl 57 _ _ rfl (w.heap.size) #[.int .i64 0,.int .i64 0,.bool false,.slice none 0 0,.slice none 0 0] rfl rfl tR _ HR1.out (by rw[Zab];rfl) rfl (by simp[Value.oneCell']) ?_)|fail);refine bodyPost_ret (Zag rfl _ _ (w.heap.size) tR #[.int .i64 0,.int .i64 0,.bool false,.slice none 0 0,.slice none 0 0] (0,0) _ rfl (setRow_heap _ _ _ _ _ _ HR1.out) Tryz.underlying57 rfl (by rw[Zab];rfl)) rfl ?_;exact ElR.bad H.out (below_setRow bel (by omega) _)
  | true =>
   obtain⟨es,rfl,hde⟩:=hok (ZaH x) (by unfold ZcZ;rw[ht];simp);have HTm:Hid (Zcl x=true):=ht;obtain ⟨M,hM⟩:∃ n,n=wr.heap.size:=⟨_,rfl⟩;have HDe:Hid (Dep (fun b=>M≤b) w2 (ZaH x) es):=by rw[hM];exact hde
   have HLe:Hid (es.length=5):=hde.now.five;have HOe:Hid (Zbp es):=hde.now.ones;have HM:Hid (∀ b,(Value.slice ka i kc).ownBlock=some b→b<M):=fun b h9=>by rw[hM];exact (HR.out.ltE h9).2
   have hs:M≤w2.heap.size:=by rw[hM];exact hb.size
   have hNM:N1≤M:=by omega
   clear hM hok hbad ht hde;replace Bv:=Bv.later hb;replace R0:=R0.later hb;replace HR:=Zbx HR hb;replace bel:=Zaa bel hb;clear hb;have lge:M≤w2.heap.size:=hs;have HS5e:Hid (es.toArray.size=5):=by show _=_;rw[List.size_toArray];exact HLe.out
   have hz:=Zad.out;have hbx:=bal w2 (.cells es.toArray 57);replace Bv:=Bv.later hbx;replace R0:=R0.later hbx;replace bel:=Zaa bel hbx;replace HDe:=dpl HDe hbx;replace HR:=Zbx HR hbx;replace hs:=hsl hs hbx;have BE:=Blk.new w2 es 57 w2.heap.size rfl;go_upto_region 8 with (first|((with_reducible show wpList _ _ _ ({ dst:=_,op:=.store _ _ _,type:=_,pos:=_,after:=_,guard:=_ } :: _) _ _);refine wpList_store_row rfl 57 _ _ rfl w2.heap.size es.toArray rfl rfl 57 _ (heap_alloc_last _ _) (by rw[Zab,HS5e.out]) (by rw[HS5e.out];rfl) HOe.out ?_;rw[World.setRow_alloc_new])|fail);clear hz HS5e hbx;obtain ⟨ge,hge⟩:∃ g,g=w2.heap.size:=⟨_,rfl⟩;rw[← hge] at BE lge ⊢;generalize w2.alloc (.cells es.toArray 57)=V2 at *;clear hge;have q:=ZaS;go_upto_region 10 with fail;clear q;obtain ⟨S1,hS1,KB1,KI1⟩:∃ S:World→Prop,Hd S V2∧Hid (∀ wx,Hd S wx→Blk wx ge es)∧Hid (∀ wx,Blk wx ge es→Hd S wx):=⟨fun wx=>Blk wx ge es,BE,fun _ h=>h,fun _ h=>h⟩;refine wp_region_noPanic ?_;have hdr:Below V2.heap.size V2 V2.drew:=Below.drew (Below.refl _ _);replace Bv:=Bv.later hdr;replace R0:=R0.later hdr;replace HR:=Zbx HR hdr;replace HDe:=dpl HDe hdr;replace BE:=BE.later hdr;replace bel:=Zaa bel hdr;replace hs:=hsl hs hdr

   clear hdr;refine wp_region_held_drew (S:=Hd S1) (by kernel_rfl) (KI1.out _ BE) (fun hHeld=>?_);clear hS1;generalize World.drew _=wd1 at *;have rt:Hid (∀ wx,Hd S1 wx→(loadVar 57 ⟨ge,0,none⟩).run Tryz.prog wx=.ok (.agg es.toArray) wx):=fun wx h=>(KB1.out wx h).load Tryz.underlying57 rfl Zab HLe.out;refine wpAnyH_take (i:=0) (v:=?_) rfl (by kernel_rfl) (by kernel_rfl) (by kernel_rfl) (fun _ _ _ h=>h) (Or.inl ⟨by rfl,?_⟩) (by assumption) ?_;rotate_left
   ·intro w hSw
    go_simp
    with_reducible rfl
   refine wpAnyH_take (i:=2) (v:=.agg es.toArray) rfl (by kernel_rfl) (by kernel_rfl) (by kernel_rfl) (fun _ _ _ h=>h) (Or.inl ⟨by rfl,fun wx h=>Za3 rfl rfl (rt.out wx h)⟩) (by assumption) ?_;apply Zdh (T:=∀ (wz:World) (g5:Nat) (cs5:List Value) (g3 g6:Nat),Hd S1 wz→Blk wz gt [.int .i64 2,.int .i64 mk,.bool true,.slice none 0 0,Value.slice ka i kc]→Blk wz (w.heap.size) [.int .i64 0,.int .i64 0,.bool false,.slice none 0 0,.slice none 0 0]→Hid (RwT wz N1 (Value.slice ka i kc) (((L.take i).map unN)))→Below w.heap.size w wz→M≤wz.heap.size→Blk wz g5 cs5→Hid (Dep (fun b=>M≤b) wz (unN x) cs5)→Hid (cs5.length=5)→Hid (Zbp cs5)→wpAnyH _ _ _ _ _ _ _ _ wz)
   case main =>
    intro k5;refine wpAnyH_ready (rs:=[1,3]) (by kernel_rfl) (by simp) ?_;refine AllReadyH.cons rfl (fun K hK=>?_) ?_
    ·have e4:=Bv.cell 4 _ rfl
     have l4:=Bv.lt;go_simp;refine hK.out _ _ ?_ (fun hHeld2=>?_)
     ·exact hHeld
     ·clear hK K
      try clear hHeld
      have hHeld:=hHeld2;clear hHeld2;clear e4 l4;refine wpAnyH_ready (rs:=[3]) (by kernel_rfl) (by simp) ?_;refine AllReadyH.cons rfl (fun K hK=>?_) ?_
      ·have HS3:Hid (M≤wd1.heap.size):=hs
       rw[if_pos (by rfl)];refine wp_buildSlice 55 57 1 _ rfl es.toArray jt _ Tryz.underlying55 hjt ht0 (by rw[ht1];decide) (by rw[ht1];decide) (by rw[ht1];refine (congrArg _ (?_:_=[(0,Value.agg es.toArray)])).trans (Zay HLe.out);kernel_rfl) ?_;refine hK.out _ _ ?_ (fun hHeld2=>?_)
       ·exact KI1.out _ ((KB1.out _ hHeld).alloc _)
       ·clear hK K
        try clear hHeld
        have hHeld:=hHeld2;clear hHeld2;have hb:=bal wd1 (.cells es.toArray 57);replace Bv:=Bv.later hb;replace R0:=R0.later hb;replace HR:=Zbx HR hb;replace bel:=Zaa bel hb;replace hs:=hsl hs hb;have HD3:Hid (Dep (fun b=>M≤b) (wd1.alloc (.cells es.toArray 57)) (Zbf 4 [ZaH x]) [.int .i64 2,.int .i64 4,.bool true,.slice none 0 0,.slice (some ⟨wd1.heap.size,0,none⟩) 1 1]):=Zav (ks:=[ZaH x]) HLe.out HS3.out (by show 1≤maxLen;decide) (ZaY (P:=Dep (fun b=>M≤b) wd1) HDe.out HLe.out) 2 4 true;obtain ⟨g3,hg9⟩:∃ g,g=wd1.heap.size:=⟨_,rfl⟩;rw[← hg9] at HD3 ⊢;clear hg9 HS3;clear hb;generalize (wd1.alloc (.cells es.toArray 57))=z3 at *;refine wpAnyH_ready (rs:=[4]) (by kernel_rfl) (by simp) ?_;refine AllReadyH.cons rfl (fun K hK=>?_) ?_
        ·go_simp
         refine Zb5.mono ?_;rintro e z4 ⟨rfl,hb⟩;refine hK.out _ _ ?_ (fun hHeld2=>?_)
         ·exact KI1.out _ ((KB1.out _ hHeld).later hb)
         ·clear hK K
          try clear hHeld
          have hHeld:=hHeld2;clear hHeld2;replace Bv:=Bv.later hb;replace R0:=R0.later hb;replace HR:=Zbx HR hb;replace bel:=Zaa bel hb;replace hs:=hsl hs hb;replace HD3:=dpl HD3 hb;clear hb;refine wpAnyH_ready (rs:=[5]) (by kernel_rfl) (by simp) ?_;refine AllReadyH.cons rfl (fun K hK=>?_) ?_
          ·have HS3:Hid (M≤z4.heap.size):=hs
           rw[if_pos (by rfl)];refine wp_buildSlice 55 57 1 _ rfl #[.int .i64 2,.int .i64 4,.bool true,.slice none 0 0,.slice (some ⟨g3,0,none⟩) 1 1] jt _ Tryz.underlying55 hjt ht0 (by rw[ht1];decide) (by rw[ht1];decide) (by rw[ht1];refine (congrArg _ (?_:_=[(0,Value.agg #[.int .i64 2,.int .i64 4,.bool true,.slice none 0 0,.slice (some ⟨g3,0,none⟩) 1 1])])).trans (Zay (cs:=[.int .i64 2,.int .i64 4,.bool true,.slice none 0 0,.slice (some ⟨g3,0,none⟩) 1 1]) rfl);kernel_rfl) ?_;refine hK.out _ _ ?_ (fun hHeld2=>?_)
           ·exact KI1.out _ ((KB1.out _ hHeld).alloc _)
           ·clear hK K
            try clear hHeld
            have hHeld:=hHeld2;clear hHeld2;have hb:=bal z4 (.cells #[.int .i64 2,.int .i64 4,.bool true,.slice none 0 0,.slice (some ⟨g3,0,none⟩) 1 1] 57);replace Bv:=Bv.later hb;replace R0:=R0.later hb;replace HR:=Zbx HR hb;replace bel:=Zaa bel hb;replace hs:=hsl hs hb;have HD6:Hid (Dep (fun b=>M≤b) (z4.alloc (.cells #[.int .i64 2,.int .i64 4,.bool true,.slice none 0 0,.slice (some ⟨g3,0,none⟩) 1 1] 57)) (unN x) [.int .i64 0,.int .i64 16,.bool true,.slice none 0 0,.slice (some ⟨z4.heap.size,0,none⟩) 1 1]):=Zav (ks:=[Zbf 4 [ZaH x]]) rfl HS3.out (by show 1≤maxLen;decide) (ZaY (P:=Dep (fun b=>M≤b) z4) HD3.out rfl) 0 16 true;obtain ⟨g6,hg9⟩:∃ g,g=z4.heap.size:=⟨_,rfl⟩;rw[← hg9] at HD6 ⊢;clear hg9 HS3 HD3;clear hb;generalize (z4.alloc (.cells #[.int .i64 2,.int .i64 4,.bool true,.slice none 0 0,.slice (some ⟨g3,0,none⟩) 1 1] 57))=z5 at *;refine wpAnyH_ready (rs:=[6]) (by kernel_rfl) (by simp) ?_;refine AllReadyH.cons rfl (fun K hK=>?_) ?_
            ·go_simp
             refine Zc6.mono ?_;rintro e z6 ⟨cs5,rfl,hc5,hb⟩;refine hK.out _ _ ?_ (fun hHeld2=>?_)
             ·exact KI1.out _ ((KB1.out _ hHeld).later hb)
             ·clear hK K
              try clear hHeld
              have hHeld:=hHeld2;clear hHeld2;replace Bv:=Bv.later hb;replace R0:=R0.later hb;replace HR:=Zbx HR hb;replace bel:=Zaa bel hb;replace hs:=hsl hs hb;have HD5:Hid (Dep (fun b=>M≤b) z6 (unN x) cs5):=by rw[hc5.out];exact HD6.out.next (Agr.below hb) (fun _ h _=>h)
              have HL5:Hid (cs5.length=5):=by rw[hc5.out];rfl
              have HO5:Hid (Zbp cs5):=HD5.out.now.ones;clear hc5 HD6;clear hb;refine wpAnyH_ready (rs:=[7]) (by kernel_rfl) (by simp) ?_;refine AllReadyH.cons rfl (fun K hK=>?_) ?_
              ·rw[if_pos (by rfl)]
               refine wp_buildSlice 55 57 1 _ rfl cs5.toArray jt _ Tryz.underlying55 hjt ht0 (by rw[ht1];decide) (by rw[ht1];decide) (by rw[ht1];refine (congrArg _ (?_:_=[(0,Value.agg cs5.toArray)])).trans (Zay HL5.out);kernel_rfl) ?_;refine hK.out _ _ ?_ (fun hHeld2=>?_)
               ·exact KI1.out _ ((KB1.out _ hHeld).alloc _)
               ·clear hK K
                try clear hHeld
                have hHeld:=hHeld2;clear hHeld2;have hb:=bal z6 (.cells cs5.toArray 57);replace Bv:=Bv.later hb;replace R0:=R0.later hb;replace HR:=Zbx HR hb;replace bel:=Zaa bel hb;replace hs:=hsl hs hb;replace HD5:=dpl HD5 hb;have B5:=Blk.new z6 cs5 57 z6.heap.size rfl;obtain ⟨g5,hg9⟩:∃ g,g=z6.heap.size:=⟨_,rfl⟩;rw[← hg9] at B5 ⊢;clear hg9 hb;generalize (z6.alloc (.cells cs5.toArray 57))=zb at *;exact k5 zb g5 cs5 g3 g6 hHeld Bv R0 HR bel hs B5 HD5 HL5 HO5
              exact AllReadyH.nil
            exact AllReadyH.nil
          exact AllReadyH.nil
        exact AllReadyH.nil
      exact AllReadyH.nil
    refine AllReadyH.cons rfl (fun K hK=>?_) ?_
    ·have HS3:Hid (M≤wd1.heap.size):=hs
     rw[if_pos (by rfl)];refine wp_buildSlice 55 57 1 _ rfl es.toArray jt _ Tryz.underlying55 hjt ht0 (by rw[ht1];decide) (by rw[ht1];decide) (by rw[ht1];refine (congrArg _ (?_:_=[(0,Value.agg es.toArray)])).trans (Zay HLe.out);kernel_rfl) ?_;refine hK.out _ _ ?_ (fun hHeld2=>?_)
     ·exact KI1.out _ ((KB1.out _ hHeld).alloc _)
     ·clear hK K
      try clear hHeld
      have hHeld:=hHeld2;clear hHeld2;have hb:=bal wd1 (.cells es.toArray 57);replace Bv:=Bv.later hb;replace R0:=R0.later hb;replace HR:=Zbx HR hb;replace bel:=Zaa bel hb;replace hs:=hsl hs hb;have HD3:Hid (Dep (fun b=>M≤b) (wd1.alloc (.cells es.toArray 57)) (Zbf 4 [ZaH x]) [.int .i64 2,.int .i64 4,.bool true,.slice none 0 0,.slice (some ⟨wd1.heap.size,0,none⟩) 1 1]):=Zav (ks:=[ZaH x]) HLe.out HS3.out (by show 1≤maxLen;decide) (ZaY (P:=Dep (fun b=>M≤b) wd1) HDe.out HLe.out) 2 4 true;obtain ⟨g3,hg9⟩:∃ g,g=wd1.heap.size:=⟨_,rfl⟩;rw[← hg9] at HD3 ⊢;clear hg9 HS3;clear hb;generalize (wd1.alloc (.cells es.toArray 57))=z3 at *;refine wpAnyH_ready (rs:=[1,4]) (by kernel_rfl) (by simp) ?_;refine AllReadyH.cons rfl (fun K hK=>?_) ?_
      ·have e4:=Bv.cell 4 _ rfl
       have l4:=Bv.lt;go_simp;refine hK.out _ _ ?_ (fun hHeld2=>?_)
       ·exact hHeld
       ·clear hK K
        try clear hHeld
        have hHeld:=hHeld2;clear hHeld2;clear e4 l4;refine wpAnyH_ready (rs:=[4]) (by kernel_rfl) (by simp) ?_;refine AllReadyH.cons rfl (fun K hK=>?_) ?_
        ·go_simp
         refine Zb5.mono ?_;rintro e z4 ⟨rfl,hb⟩;refine hK.out _ _ ?_ (fun hHeld2=>?_)
         ·exact KI1.out _ ((KB1.out _ hHeld).later hb)
         ·clear hK K
          try clear hHeld
          have hHeld:=hHeld2;clear hHeld2;replace Bv:=Bv.later hb;replace R0:=R0.later hb;replace HR:=Zbx HR hb;replace bel:=Zaa bel hb;replace hs:=hsl hs hb;replace HD3:=dpl HD3 hb;clear hb;refine wpAnyH_ready (rs:=[5]) (by kernel_rfl) (by simp) ?_;refine AllReadyH.cons rfl (fun K hK=>?_) ?_
          ·have HS3:Hid (M≤z4.heap.size):=hs
           rw[if_pos (by rfl)];refine wp_buildSlice 55 57 1 _ rfl #[.int .i64 2,.int .i64 4,.bool true,.slice none 0 0,.slice (some ⟨g3,0,none⟩) 1 1] jt _ Tryz.underlying55 hjt ht0 (by rw[ht1];decide) (by rw[ht1];decide) (by rw[ht1];refine (congrArg _ (?_:_=[(0,Value.agg #[.int .i64 2,.int .i64 4,.bool true,.slice none 0 0,.slice (some ⟨g3,0,none⟩) 1 1])])).trans (Zay (cs:=[.int .i64 2,.int .i64 4,.bool true,.slice none 0 0,.slice (some ⟨g3,0,none⟩) 1 1]) rfl);kernel_rfl) ?_;refine hK.out _ _ ?_ (fun hHeld2=>?_)
           ·exact KI1.out _ ((KB1.out _ hHeld).alloc _)
           ·clear hK K
            try clear hHeld
            have hHeld:=hHeld2;clear hHeld2;have hb:=bal z4 (.cells #[.int .i64 2,.int .i64 4,.bool true,.slice none 0 0,.slice (some ⟨g3,0,none⟩) 1 1] 57);replace Bv:=Bv.later hb;replace R0:=R0.later hb;replace HR:=Zbx HR hb;replace bel:=Zaa bel hb;replace hs:=hsl hs hb;have HD6:Hid (Dep (fun b=>M≤b) (z4.alloc (.cells #[.int .i64 2,.int .i64 4,.bool true,.slice none 0 0,.slice (some ⟨g3,0,none⟩) 1 1] 57)) (unN x) [.int .i64 0,.int .i64 16,.bool true,.slice none 0 0,.slice (some ⟨z4.heap.size,0,none⟩) 1 1]):=Zav (ks:=[Zbf 4 [ZaH x]]) rfl HS3.out (by show 1≤maxLen;decide) (ZaY (P:=Dep (fun b=>M≤b) z4) HD3.out rfl) 0 16 true;obtain ⟨g6,hg9⟩:∃ g,g=z4.heap.size:=⟨_,rfl⟩;rw[← hg9] at HD6 ⊢;clear hg9 HS3 HD3;clear hb;generalize (z4.alloc (.cells #[.int .i64 2,.int .i64 4,.bool true,.slice none 0 0,.slice (some ⟨g3,0,none⟩) 1 1] 57))=z5 at *;refine wpAnyH_ready (rs:=[6]) (by kernel_rfl) (by simp) ?_;refine AllReadyH.cons rfl (fun K hK=>?_) ?_
            ·go_simp
             refine Zc6.mono ?_;rintro e z6 ⟨cs5,rfl,hc5,hb⟩;refine hK.out _ _ ?_ (fun hHeld2=>?_)
             ·exact KI1.out _ ((KB1.out _ hHeld).later hb)
             ·clear hK K
              try clear hHeld
              have hHeld:=hHeld2;clear hHeld2;replace Bv:=Bv.later hb;replace R0:=R0.later hb;replace HR:=Zbx HR hb;replace bel:=Zaa bel hb;replace hs:=hsl hs hb;have HD5:Hid (Dep (fun b=>M≤b) z6 (unN x) cs5):=by rw[hc5.out];exact HD6.out.next (Agr.below hb) (fun _ h _=>h)
              have HL5:Hid (cs5.length=5):=by rw[hc5.out];rfl
              have HO5:Hid (Zbp cs5):=HD5.out.now.ones;clear hc5 HD6;clear hb;refine wpAnyH_ready (rs:=[7]) (by kernel_rfl) (by simp) ?_;refine AllReadyH.cons rfl (fun K hK=>?_) ?_
              ·rw[if_pos (by rfl)]
               refine wp_buildSlice 55 57 1 _ rfl cs5.toArray jt _ Tryz.underlying55 hjt ht0 (by rw[ht1];decide) (by rw[ht1];decide) (by rw[ht1];refine (congrArg _ (?_:_=[(0,Value.agg cs5.toArray)])).trans (Zay HL5.out);kernel_rfl) ?_;refine hK.out _ _ ?_ (fun hHeld2=>?_)
               ·exact KI1.out _ ((KB1.out _ hHeld).alloc _)
               ·clear hK K
                try clear hHeld
                have hHeld:=hHeld2;clear hHeld2;have hb:=bal z6 (.cells cs5.toArray 57);replace Bv:=Bv.later hb;replace R0:=R0.later hb;replace HR:=Zbx HR hb;replace bel:=Zaa bel hb;replace hs:=hsl hs hb;replace HD5:=dpl HD5 hb;have B5:=Blk.new z6 cs5 57 z6.heap.size rfl;obtain ⟨g5,hg9⟩:∃ g,g=z6.heap.size:=⟨_,rfl⟩;rw[← hg9] at B5 ⊢;clear hg9 hb;generalize (z6.alloc (.cells cs5.toArray 57))=zb at *;exact k5 zb g5 cs5 g3 g6 hHeld Bv R0 HR bel hs B5 HD5 HL5 HO5
              exact AllReadyH.nil
            exact AllReadyH.nil
          exact AllReadyH.nil
        exact AllReadyH.nil
      refine AllReadyH.cons rfl (fun K hK=>?_) ?_
      ·go_simp
       refine Zb5.mono ?_;rintro e z4 ⟨rfl,hb⟩;refine hK.out _ _ ?_ (fun hHeld2=>?_)
       ·exact KI1.out _ ((KB1.out _ hHeld).later hb)
       ·clear hK K
        try clear hHeld
        have hHeld:=hHeld2;clear hHeld2;replace Bv:=Bv.later hb;replace R0:=R0.later hb;replace HR:=Zbx HR hb;replace bel:=Zaa bel hb;replace hs:=hsl hs hb;replace HD3:=dpl HD3 hb;clear hb;refine wpAnyH_ready (rs:=[1,5]) (by kernel_rfl) (by simp) ?_;refine AllReadyH.cons rfl (fun K hK=>?_) ?_
        ·have e4:=Bv.cell 4 _ rfl
         have l4:=Bv.lt;go_simp;refine hK.out _ _ ?_ (fun hHeld2=>?_)
         ·exact hHeld
         ·clear hK K
          try clear hHeld
          have hHeld:=hHeld2;clear hHeld2;clear e4 l4;refine wpAnyH_ready (rs:=[5]) (by kernel_rfl) (by simp) ?_;refine AllReadyH.cons rfl (fun K hK=>?_) ?_
          ·have HS3:Hid (M≤z4.heap.size):=hs
           rw[if_pos (by rfl)];refine wp_buildSlice 55 57 1 _ rfl #[.int .i64 2,.int .i64 4,.bool true,.slice none 0 0,.slice (some ⟨g3,0,none⟩) 1 1] jt _ Tryz.underlying55 hjt ht0 (by rw[ht1];decide) (by rw[ht1];decide) (by rw[ht1];refine (congrArg _ (?_:_=[(0,Value.agg #[.int .i64 2,.int .i64 4,.bool true,.slice none 0 0,.slice (some ⟨g3,0,none⟩) 1 1])])).trans (Zay (cs:=[.int .i64 2,.int .i64 4,.bool true,.slice none 0 0,.slice (some ⟨g3,0,none⟩) 1 1]) rfl);kernel_rfl) ?_;refine hK.out _ _ ?_ (fun hHeld2=>?_)
           ·exact KI1.out _ ((KB1.out _ hHeld).alloc _)
           ·clear hK K
            try clear hHeld
            have hHeld:=hHeld2;clear hHeld2;have hb:=bal z4 (.cells #[.int .i64 2,.int .i64 4,.bool true,.slice none 0 0,.slice (some ⟨g3,0,none⟩) 1 1] 57);replace Bv:=Bv.later hb;replace R0:=R0.later hb;replace HR:=Zbx HR hb;replace bel:=Zaa bel hb;replace hs:=hsl hs hb;have HD6:Hid (Dep (fun b=>M≤b) (z4.alloc (.cells #[.int .i64 2,.int .i64 4,.bool true,.slice none 0 0,.slice (some ⟨g3,0,none⟩) 1 1] 57)) (unN x) [.int .i64 0,.int .i64 16,.bool true,.slice none 0 0,.slice (some ⟨z4.heap.size,0,none⟩) 1 1]):=Zav (ks:=[Zbf 4 [ZaH x]]) rfl HS3.out (by show 1≤maxLen;decide) (ZaY (P:=Dep (fun b=>M≤b) z4) HD3.out rfl) 0 16 true;obtain ⟨g6,hg9⟩:∃ g,g=z4.heap.size:=⟨_,rfl⟩;rw[← hg9] at HD6 ⊢;clear hg9 HS3 HD3;clear hb;generalize (z4.alloc (.cells #[.int .i64 2,.int .i64 4,.bool true,.slice none 0 0,.slice (some ⟨g3,0,none⟩) 1 1] 57))=z5 at *;refine wpAnyH_ready (rs:=[6]) (by kernel_rfl) (by simp) ?_;refine AllReadyH.cons rfl (fun K hK=>?_) ?_
            ·go_simp
             refine Zc6.mono ?_;rintro e z6 ⟨cs5,rfl,hc5,hb⟩;refine hK.out _ _ ?_ (fun hHeld2=>?_)
             ·exact KI1.out _ ((KB1.out _ hHeld).later hb)
             ·clear hK K
              try clear hHeld
              have hHeld:=hHeld2;clear hHeld2;replace Bv:=Bv.later hb;replace R0:=R0.later hb;replace HR:=Zbx HR hb;replace bel:=Zaa bel hb;replace hs:=hsl hs hb;have HD5:Hid (Dep (fun b=>M≤b) z6 (unN x) cs5):=by rw[hc5.out];exact HD6.out.next (Agr.below hb) (fun _ h _=>h)
              have HL5:Hid (cs5.length=5):=by rw[hc5.out];rfl
              have HO5:Hid (Zbp cs5):=HD5.out.now.ones;clear hc5 HD6;clear hb;refine wpAnyH_ready (rs:=[7]) (by kernel_rfl) (by simp) ?_;refine AllReadyH.cons rfl (fun K hK=>?_) ?_
              ·rw[if_pos (by rfl)]
               refine wp_buildSlice 55 57 1 _ rfl cs5.toArray jt _ Tryz.underlying55 hjt ht0 (by rw[ht1];decide) (by rw[ht1];decide) (by rw[ht1];refine (congrArg _ (?_:_=[(0,Value.agg cs5.toArray)])).trans (Zay HL5.out);kernel_rfl) ?_;refine hK.out _ _ ?_ (fun hHeld2=>?_)
               ·exact KI1.out _ ((KB1.out _ hHeld).alloc _)
               ·clear hK K
                try clear hHeld
                have hHeld:=hHeld2;clear hHeld2;have hb:=bal z6 (.cells cs5.toArray 57);replace Bv:=Bv.later hb;replace R0:=R0.later hb;replace HR:=Zbx HR hb;replace bel:=Zaa bel hb;replace hs:=hsl hs hb;replace HD5:=dpl HD5 hb;have B5:=Blk.new z6 cs5 57 z6.heap.size rfl;obtain ⟨g5,hg9⟩:∃ g,g=z6.heap.size:=⟨_,rfl⟩;rw[← hg9] at B5 ⊢;clear hg9 hb;generalize (z6.alloc (.cells cs5.toArray 57))=zb at *;exact k5 zb g5 cs5 g3 g6 hHeld Bv R0 HR bel hs B5 HD5 HL5 HO5
              exact AllReadyH.nil
            exact AllReadyH.nil
          exact AllReadyH.nil
        refine AllReadyH.cons rfl (fun K hK=>?_) ?_
        ·have HS3:Hid (M≤z4.heap.size):=hs
         rw[if_pos (by rfl)];refine wp_buildSlice 55 57 1 _ rfl #[.int .i64 2,.int .i64 4,.bool true,.slice none 0 0,.slice (some ⟨g3,0,none⟩) 1 1] jt _ Tryz.underlying55 hjt ht0 (by rw[ht1];decide) (by rw[ht1];decide) (by rw[ht1];refine (congrArg _ (?_:_=[(0,Value.agg #[.int .i64 2,.int .i64 4,.bool true,.slice none 0 0,.slice (some ⟨g3,0,none⟩) 1 1])])).trans (Zay (cs:=[.int .i64 2,.int .i64 4,.bool true,.slice none 0 0,.slice (some ⟨g3,0,none⟩) 1 1]) rfl);kernel_rfl) ?_;refine hK.out _ _ ?_ (fun hHeld2=>?_)
         ·exact KI1.out _ ((KB1.out _ hHeld).alloc _)
         ·clear hK K
          try clear hHeld
          have hHeld:=hHeld2;clear hHeld2;have hb:=bal z4 (.cells #[.int .i64 2,.int .i64 4,.bool true,.slice none 0 0,.slice (some ⟨g3,0,none⟩) 1 1] 57);replace Bv:=Bv.later hb;replace R0:=R0.later hb;replace HR:=Zbx HR hb;replace bel:=Zaa bel hb;replace hs:=hsl hs hb;have HD6:Hid (Dep (fun b=>M≤b) (z4.alloc (.cells #[.int .i64 2,.int .i64 4,.bool true,.slice none 0 0,.slice (some ⟨g3,0,none⟩) 1 1] 57)) (unN x) [.int .i64 0,.int .i64 16,.bool true,.slice none 0 0,.slice (some ⟨z4.heap.size,0,none⟩) 1 1]):=Zav (ks:=[Zbf 4 [ZaH x]]) rfl HS3.out (by show 1≤maxLen;decide) (ZaY (P:=Dep (fun b=>M≤b) z4) HD3.out rfl) 0 16 true;obtain ⟨g6,hg9⟩:∃ g,g=z4.heap.size:=⟨_,rfl⟩;rw[← hg9] at HD6 ⊢;clear hg9 HS3 HD3;clear hb;generalize (z4.alloc (.cells #[.int .i64 2,.int .i64 4,.bool true,.slice none 0 0,.slice (some ⟨g3,0,none⟩) 1 1] 57))=z5 at *;refine wpAnyH_ready (rs:=[1,6]) (by kernel_rfl) (by simp) ?_;refine AllReadyH.cons rfl (fun K hK=>?_) ?_
          ·have e4:=Bv.cell 4 _ rfl
           have l4:=Bv.lt;go_simp;refine hK.out _ _ ?_ (fun hHeld2=>?_)
           ·exact hHeld
           ·clear hK K
            try clear hHeld
            have hHeld:=hHeld2;clear hHeld2;clear e4 l4;refine wpAnyH_ready (rs:=[6]) (by kernel_rfl) (by simp) ?_;refine AllReadyH.cons rfl (fun K hK=>?_) ?_
            ·go_simp
             refine Zc6.mono ?_;rintro e z6 ⟨cs5,rfl,hc5,hb⟩;refine hK.out _ _ ?_ (fun hHeld2=>?_)
             ·exact KI1.out _ ((KB1.out _ hHeld).later hb)
             ·clear hK K
              try clear hHeld
              have hHeld:=hHeld2;clear hHeld2;replace Bv:=Bv.later hb;replace R0:=R0.later hb;replace HR:=Zbx HR hb;replace bel:=Zaa bel hb;replace hs:=hsl hs hb;have HD5:Hid (Dep (fun b=>M≤b) z6 (unN x) cs5):=by rw[hc5.out];exact HD6.out.next (Agr.below hb) (fun _ h _=>h)
              have HL5:Hid (cs5.length=5):=by rw[hc5.out];rfl
              have HO5:Hid (Zbp cs5):=HD5.out.now.ones;clear hc5 HD6;clear hb;refine wpAnyH_ready (rs:=[7]) (by kernel_rfl) (by simp) ?_;refine AllReadyH.cons rfl (fun K hK=>?_) ?_
              ·rw[if_pos (by rfl)]
               refine wp_buildSlice 55 57 1 _ rfl cs5.toArray jt _ Tryz.underlying55 hjt ht0 (by rw[ht1];decide) (by rw[ht1];decide) (by rw[ht1];refine (congrArg _ (?_:_=[(0,Value.agg cs5.toArray)])).trans (Zay HL5.out);kernel_rfl) ?_;refine hK.out _ _ ?_ (fun hHeld2=>?_)
               ·exact KI1.out _ ((KB1.out _ hHeld).alloc _)
               ·clear hK K
                try clear hHeld
                have hHeld:=hHeld2;clear hHeld2;have hb:=bal z6 (.cells cs5.toArray 57);replace Bv:=Bv.later hb;replace R0:=R0.later hb;replace HR:=Zbx HR hb;replace bel:=Zaa bel hb;replace hs:=hsl hs hb;replace HD5:=dpl HD5 hb;have B5:=Blk.new z6 cs5 57 z6.heap.size rfl;obtain ⟨g5,hg9⟩:∃ g,g=z6.heap.size:=⟨_,rfl⟩;rw[← hg9] at B5 ⊢;clear hg9 hb;generalize (z6.alloc (.cells cs5.toArray 57))=zb at *;exact k5 zb g5 cs5 g3 g6 hHeld Bv R0 HR bel hs B5 HD5 HL5 HO5
              exact AllReadyH.nil
            exact AllReadyH.nil
          refine AllReadyH.cons rfl (fun K hK=>?_) ?_
          ·go_simp
           refine Zc6.mono ?_;rintro e z6 ⟨cs5,rfl,hc5,hb⟩;refine hK.out _ _ ?_ (fun hHeld2=>?_)
           ·exact KI1.out _ ((KB1.out _ hHeld).later hb)
           ·clear hK K
            try clear hHeld
            have hHeld:=hHeld2;clear hHeld2;replace Bv:=Bv.later hb;replace R0:=R0.later hb;replace HR:=Zbx HR hb;replace bel:=Zaa bel hb;replace hs:=hsl hs hb;have HD5:Hid (Dep (fun b=>M≤b) z6 (unN x) cs5):=by rw[hc5.out];exact HD6.out.next (Agr.below hb) (fun _ h _=>h)
            have HL5:Hid (cs5.length=5):=by rw[hc5.out];rfl
            have HO5:Hid (Zbp cs5):=HD5.out.now.ones;clear hc5 HD6;clear hb;refine wpAnyH_ready (rs:=[1,7]) (by kernel_rfl) (by simp) ?_;refine AllReadyH.cons rfl (fun K hK=>?_) ?_
            ·have e4:=Bv.cell 4 _ rfl
             have l4:=Bv.lt;go_simp;refine hK.out _ _ ?_ (fun hHeld2=>?_)
             ·exact hHeld
             ·clear hK K
              try clear hHeld
              have hHeld:=hHeld2;clear hHeld2;clear e4 l4;refine wpAnyH_ready (rs:=[7]) (by kernel_rfl) (by simp) ?_;refine AllReadyH.cons rfl (fun K hK=>?_) ?_
              ·rw[if_pos (by rfl)]
               refine wp_buildSlice 55 57 1 _ rfl cs5.toArray jt _ Tryz.underlying55 hjt ht0 (by rw[ht1];decide) (by rw[ht1];decide) (by rw[ht1];refine (congrArg _ (?_:_=[(0,Value.agg cs5.toArray)])).trans (Zay HL5.out);kernel_rfl) ?_;refine hK.out _ _ ?_ (fun hHeld2=>?_)
               ·exact KI1.out _ ((KB1.out _ hHeld).alloc _)
               ·clear hK K
                try clear hHeld
                have hHeld:=hHeld2;clear hHeld2;have hb:=bal z6 (.cells cs5.toArray 57);replace Bv:=Bv.later hb;replace R0:=R0.later hb;replace HR:=Zbx HR hb;replace bel:=Zaa bel hb;replace hs:=hsl hs hb;replace HD5:=dpl HD5 hb;have B5:=Blk.new z6 cs5 57 z6.heap.size rfl;obtain ⟨g5,hg9⟩:∃ g,g=z6.heap.size:=⟨_,rfl⟩;rw[← hg9] at B5 ⊢;clear hg9 hb;generalize (z6.alloc (.cells cs5.toArray 57))=zb at *;exact k5 zb g5 cs5 g3 g6 hHeld Bv R0 HR bel hs B5 HD5 HL5 HO5
              exact AllReadyH.nil
            refine AllReadyH.cons rfl (fun K hK=>?_) ?_
            ·rw[if_pos (by rfl)]
             refine wp_buildSlice 55 57 1 _ rfl cs5.toArray jt _ Tryz.underlying55 hjt ht0 (by rw[ht1];decide) (by rw[ht1];decide) (by rw[ht1];refine (congrArg _ (?_:_=[(0,Value.agg cs5.toArray)])).trans (Zay HL5.out);kernel_rfl) ?_;refine hK.out _ _ ?_ (fun hHeld2=>?_)
             ·exact KI1.out _ ((KB1.out _ hHeld).alloc _)
             ·clear hK K
              try clear hHeld
              have hHeld:=hHeld2;clear hHeld2;have hb:=bal z6 (.cells cs5.toArray 57);replace Bv:=Bv.later hb;replace R0:=R0.later hb;replace HR:=Zbx HR hb;replace bel:=Zaa bel hb;replace hs:=hsl hs hb;replace HD5:=dpl HD5 hb;have B5:=Blk.new z6 cs5 57 z6.heap.size rfl;obtain ⟨g5,hg9⟩:∃ g,g=z6.heap.size:=⟨_,rfl⟩;rw[← hg9] at B5 ⊢;clear hg9 hb;generalize (z6.alloc (.cells cs5.toArray 57))=zb at *;refine wpAnyH_ready (rs:=[1]) (by kernel_rfl) (by simp) ?_;refine AllReadyH.cons rfl (fun K hK=>?_) ?_
              ·have e4:=Bv.cell 4 _ rfl
               have l4:=Bv.lt;go_simp;refine hK.out _ _ ?_ (fun hHeld2=>?_)
               ·exact hHeld
               ·clear hK K
                try clear hHeld
                have hHeld:=hHeld2;clear hHeld2;clear e4 l4;exact k5 zb g5 cs5 g3 g6 hHeld Bv R0 HR bel hs B5 HD5 HL5 HO5
              exact AllReadyH.nil
            exact AllReadyH.nil
          exact AllReadyH.nil
        exact AllReadyH.nil
      exact AllReadyH.nil
    exact AllReadyH.nil
   case kp =>
    intro wz g5 cs5 g3 g6 hHeld Bv R0 HR bel hs B5 HD5 HL5 HO5;refine wpAnyH_ready (rs:=[8]) (by kernel_rfl) (by simp) ?_;refine AllReadyH.cons rfl (fun K hK=>?_) ?_
    ·have HM9:Hid (∀ b,(Value.slice ka i kc).ownBlock=some b→b<M):=HM
     rw[if_pos (show Region.wanted _ _=true from rfl)];refine Zb9 (ops:=#[]) rfl ?_;refine Zal (by rfl) _ _ (by rfl) N1 (Value.slice ka i kc) (((L.take i).map unN)) (by rfl) HR.out g5 (by rfl) cs5 B5 HL5.out HO5.out (unN x) (HD5.out.next (Agr.refl _ _) (fun b h9 _=>⟨by omega,fun e9=>by have:=HM9.out b e9;omega⟩)) (by rw[HLi.out];omega) (by omega) ?_;intro kv9 w9 hr9 hgrow9 hge9 hat9;obtain ⟨ka9,kc9,hkv9⟩:=hr9.sl;obtain ⟨K9,hK9⟩:∃ z,(((L.take i).map unN)++[unN x]).length=z:=⟨_,rfl⟩;have HK9:Hid ((((L.take i).map unN)++[unN x]).length=K9):=hK9;rw[hK9] at hkv9;subst hkv9;clear hK9;have hzb:=bel.size;have hsz9:=hgrow9.size;replace Bv:=Bv.grown hgrow9 (fun k hk e=>by have:=hge9 k hk;omega);replace R0:=R0.grown hgrow9 (fun k hk e=>by have:=hge9 k hk;omega);have HBE9:Hid (Blk w9 ge es):=(KB1.out _ hHeld).grown hgrow9 (fun k hk e=>by have:=HM9.out k hk;omega);replace bel:=Below.grown bel hgrow9 hzb (fun k hk=>by have:=hge9 k hk;omega);replace HR:Hid (RwT w9 N1 (Value.slice ka9 K9 kc9) (((L.take i).map unN)++[unN x])):=hr9;clear hgrow9 hge9 hat9 hr9 hzb;refine ⟨rfl,?_⟩;refine hK.out _ _ ?_ (fun hHeld2=>?_)
     ·exact KI1.out _ (HBE9.out)
     ·clear hK K
      try clear hHeld
      have hHeld:=hHeld2;clear hHeld2;clear B5 HD5;refine wpAnyH_take (i:=9) (v:=?_) rfl (by kernel_rfl) (by kernel_rfl) (by kernel_rfl) (fun _ _ _ h=>h) (Or.inl ⟨by rfl,?_⟩) (by assumption) ?_;rotate_left
      ·intro w hSw
       go_simp
       with_reducible rfl
      refine wpAnyH_ready (rs:=[10]) (by kernel_rfl) (by simp) ?_;refine AllReadyH.cons rfl (fun K hK=>?_) ?_
      ·have e4:=Bv.cell 4 _ rfl
       have l4:=Bv.lt;have f4:=Bv.frozen 4;go_simp;refine hK.out _ _ ?_ (fun hHeld2=>?_)
       ·exact KI1.out _ ((KB1.out _ hHeld).other _ _ (by show _≠gt;omega))
       ·clear hK K
        try clear hHeld
        have hHeld:=hHeld2;clear hHeld2;clear e4 l4 f4;replace Bv:Blk (w9.setCell ⟨gt,4,none⟩ (Value.slice ka9 K9 kc9)) gt [.int .i64 2,.int .i64 mk,.bool true,.slice none 0 0,Value.slice ka9 K9 kc9]:=Bv.set 4 _;replace HR:Hid (RwT (w9.setCell ⟨gt,4,none⟩ (Value.slice ka9 K9 kc9)) N1 (Value.slice ka9 K9 kc9) (((L.take i).map unN)++[unN x])):=HR.out.cell (by omega);replace R0:=R0.other ⟨gt,4,none⟩ (Value.slice ka9 K9 kc9) (by show _≠gt;omega);replace bel:Below w.heap.size w (w9.setCell ⟨gt,4,none⟩ (Value.slice ka9 K9 kc9)):=bel.setCell (by show _≤gt;omega) _;replace hsz9:M≤(w9.setCell ⟨gt,4,none⟩ (Value.slice ka9 K9 kc9)).heap.size:=Nat.le_trans (show M≤w9.heap.size by omega) ((Below.refl 0 w9).setCell (Nat.zero_le _) (Value.slice ka9 K9 kc9)).size;generalize (w9.setCell ⟨gt,4,none⟩ (Value.slice ka9 K9 kc9))=w10 at *;refine wpAnyH_done (by kernel_rfl) ?_ _;refine NoPanic.normal ?_
        try clear hHeld
        have HNx:Hid (RwT w10 N1 (.slice ka9 K9 kc9) ((L.take (i+1)).map unN)):=by
         have h:=HR.out;rw[← Ziq HX.out] at h;exact h
        obtain rfl:K9=i+1:=by rw[← HK9.out,List.length_append,HLi.out];rfl
        have HAn:Hid (∀ n∈L.take (i+1),Zcl n=true):=ZiK HA.out HX.out HTm.out;go_wp2_with fail;go_roundw
        case rel=>exact ⟨i+1,ka9,kc9,by omega,by go_num,Bv,HNx,HAn,R0,bel,by omega⟩
        case measure=>simp[intOf];omega
      exact AllReadyH.nil
    exact AllReadyH.nil
end Go.Proofs.YtdfmoghjimghhaaGreatDoor
