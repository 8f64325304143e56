import Derived.Test.YtohcdbifhnfcbaaGreatDoorPmNG
import Derived.Test.YtohcdbifhnfcbaaGreatDoorDrTG
import Derived.Test.YtohcdbifhnfcbaaGreatDoorNlSG
import Derived.Test.YtohcdbifhnfcbaaGreatDoorDrDG
import Derived.Laws.BytesArg
import Derived.Lib.Strings
import Derived.Test.YtohcdbifhnfcbaaGreatDoorRows
import Derived.Deep.WholeRow
import Derived.Deep.RegionHeld3
import Derived.Deep.DeepCutAuto
import Derived.Deep.DeepFit
import Derived.Deep.OwnRows
import Derived.Deep.AppendLies
import Derived.Great.BuildSlice
import Derived.Laws.Rows
import Derived.BigQuiet
namespace Go.Proofs.YtohcdbifhnfcbaaGreatDoor
open Go.RowKit
set_option linter.unusedSimpArgs false
set_option maxRecDepth 100000
set_option maxHeartbeats 4000000
theorem ZjK:∀ {A B:List Int},byt A→byt B→(A.map fun n=>UInt8.ofNat n.toNat)=(B.map fun n=>UInt8.ofNat n.toNat)→A=B
 | [],[],_,_,_=>rfl
 | [],_::_,_,_,h=>by simp at h
 | _::_,[],_,_,h=>by simp at h
 | a::A,b::B,ha,hb,h=>by
  simp only[List.map_cons,List.cons.injEq] at h;have a0:0≤a∧a<256:=ha 0;have b0:0≤b∧b<256:=hb 0;have e:=congrArg UInt8.toNat h.1;rw[UInt8.toNat_ofNat_of_lt' (show a.toNat<256 by omega),UInt8.toNat_ofNat_of_lt' (show b.toNat<256 by omega)] at e;have t:=ZjK (fun j=>ha (j+1)) (fun j=>hb (j+1)) h.2;rw[t,show a=b by omega]
theorem ZiW {A B:List Int} (ha:byt A) (hb:byt B):((strOfNums A).toList == (strOfNums B).toList)=decide (A=B):=by
 have e:∀ X:List Int,(strOfNums X).toList=X.map fun n=>UInt8.ofNat n.toNat:=fun X=>by
  rw[Lib.toList_data]
  rfl
 rw[e,e]
 by_cases h:A=B
 ·subst h
  simp
 ·rw[decide_eq_false h]
  apply beq_eq_false_iff_ne.2;intro e;exact h (ZjK ha hb e)
noncomputable def ZcW (a b:Tl):Bool:=@decide (a=b) (Classical.propDecidable _)
theorem ZbB {a b:Tl} (h:a=b):ZcW a b=true:=@decide_eq_true _ (Classical.propDecidable _) h
theorem ZaY {a b:Tl} (h:¬ a=b):ZcW a b=false:=@decide_eq_false _ (Classical.propDecidable _) h
theorem ZhQ {xs ys:List Tl} (l:xs.length=ys.length) (h:∀ (i:Nat) (a b:Tl),xs[i]?=some a→ys[i]?=some b→a=b):xs=ys:=by
 apply List.ext_getElem?;intro i
 by_cases hi:i<xs.length
 ·rw[List.getElem?_eq_getElem hi,List.getElem?_eq_getElem (by omega)]
  exact congrArg some (h i _ _ (List.getElem?_eq_getElem hi) (List.getElem?_eq_getElem (by omega)))
 ·rw[List.getElem?_eq_none (by omega),List.getElem?_eq_none (by omega)]
theorem Zfl (n:Nat):∀ (T U:Tl) (w:World) (cs ds:List Value),szT T≤n→WfT T→WfT U→Zav w T cs→Zav w U ds →
  Calls Tryz.prog 46 #[.agg cs.toArray,.agg ds.toArray] w fun e w'=>e=.returned (.bool (ZcW T U))∧Below w.heap.size w w':=by
 induction n with
 | zero=>intro T U w cs ds hz;have:=ZcN T;omega
 | succ n IH =>
  intro T U w cs ds hz wT wU h k;obtain ⟨c,t,m,b,ks⟩:=T;obtain ⟨c',t',m',b',ls⟩:=U;rw[Zav] at h k;rw[WfT] at wT wU;have HWb:Hid (byt b∧byt b'):=⟨wT.2.2.1,wU.2.2.1⟩;have HWk:Hid (WfL ks∧WfL ls):=⟨wT.2.2.2,wU.2.2.2⟩;clear wT wU;obtain ⟨bv,ao,cap,rfl,hbv,hk1,hk2,hk3⟩:=h;obtain ⟨bv',ao',cap',rfl,hbv',hl1,hl2,hl3⟩:=k;have HK:Hid (0<ks.length→∃ g o,ao=some ⟨g,o,none⟩∧Zap w ks g o):=hk3;have HL:Hid (0<ls.length→∃ g o,ao'=some ⟨g,o,none⟩∧Zap w ls g o):=hl3;clear hk3 hl3;unfold maxLen at hk2 hl2;rw[szT] at hz;have B0:=(Blk.new w [.int .i64 c,.int .i64 t,.bool m,bv,.slice ao ks.length cap] 53 w.heap.size rfl).alloc (.cells #[.int .i64 c',.int .i64 t',.bool m',bv',.slice ao' ls.length cap'] 53);have B1:=Blk.new (w.alloc (.cells #[.int .i64 c,.int .i64 t,.bool m,bv,.slice ao ks.length cap] 53)) [.int .i64 c',.int .i64 t',.bool m',bv',.slice ao' ls.length cap'] 53 (w.heap.size+1) (by simp);have bel:Below w.heap.size w ((w.alloc (.cells #[.int .i64 c,.int .i64 t,.bool m,bv,.slice ao ks.length cap] 53)).alloc (.cells #[.int .i64 c',.int .i64 t',.bool m',bv',.slice ao' ls.length cap'] 53)):=(((Below.refl _ _).alloc (Nat.le_refl _) _).alloc (by simp) _);have x1:=Zbq (hbv.later bel);have x2:=Zbq (hbv'.later bel);go_enter Tryz.func46,Tryz.ntmps46;go_upto_region 1 with fail;generalize (w.alloc (Obj.cells #[.int .i64 c,.int .i64 t,.bool m,bv,.slice ao ks.length cap] 53)).alloc (Obj.cells #[.int .i64 c',.int .i64 t',.bool m',bv',.slice ao' ls.length cap'] 53)=W at *;have e0:=B0.cell 0 _ rfl;have f0:=B1.cell 0 _ rfl;have e1:=B0.cell 1 _ rfl;have f1:=B1.cell 1 _ rfl;have e2:=B0.cell 2 _ rfl;have f2:=B1.cell 2 _ rfl;have e3:=B0.cell 3 _ rfl;have f3:=B1.cell 3 _ rfl;have e4:=B0.cell 4 _ rfl;have f4:=B1.cell 4 _ rfl;have lt0:=B0.lt;have lt1:=B1.lt
  by_cases q1:c=c'
  rotate_left
  ·go_wp2_with fail
   go_ret;exact ⟨by rw[ZaY (by intro h;simp only[Tl.mk.injEq] at h;exact q1 h.1)];rfl,bel⟩
  by_cases q2:t=t'
  rotate_left
  ·subst q1
   go_wp2_with fail;go_ret;exact ⟨by rw[ZaY (by intro h;simp only[Tl.mk.injEq] at h;exact q2 h.2.1)];rfl,bel⟩
  by_cases q3:m=m'
  rotate_left
  ·subst q1 q2
   have HQ:Hid (¬ m=m'):=q3
   cases m<;>cases m'<;>first|exact absurd rfl HQ.out|(go_wp2_with fail;go_ret;exact ⟨by rw[ZaY (by intro h;simp only[Tl.mk.injEq] at h;exact HQ.out h.2.2.1)];rfl,bel⟩)
  by_cases q4:b=b'
  rotate_left
  ·subst q1 q2 q3
   have HQ:Hid (¬ b=b'):=q4;have sq:((strOfNums b).toList == (strOfNums b').toList)=false:=by rw[ZiW HWb.out.1 HWb.out.2,decide_eq_false q4]
   clear q4;go_wp2_with fail;go_ret;exact ⟨by rw[ZaY (by intro h;simp only[Tl.mk.injEq] at h;exact HQ.out h.2.2.2.1)];rfl,bel⟩
  by_cases q5:ks.length=ls.length
  rotate_left
  ·subst q1 q2 q3 q4
   have HQ:Hid (¬ ks.length=ls.length):=q5;have q5i:¬ (ks.length:Int)=(ls.length:Int):=by omega
   go_wp2_with fail;go_ret;exact ⟨by rw[ZaY (by intro h;simp only[Tl.mk.injEq] at h;exact HQ.out (by rw[h.2.2.2.2]))];rfl,bel⟩
  subst q1 q2 q3 q4;have HLn:Hid (ks.length=ls.length):=q5;obtain ⟨N,hN⟩:∃ N,ks.length=N:=⟨_,rfl⟩;rw[hN] at hk1 B0 e4 HK q5 ⊢;rw[← q5] at hl1 B1 f4 HL ⊢;have HNk:Hid (ks.length=N):=hN;have HNl:Hid (ls.length=N):=q5.symm;clear q5 hN;go_wp2_with fail;clear x1 x2 hbv hbv';go_loopw [5] (fun iv wx=>∃ i:Nat,i≤N∧iv=.int .i64 i∧Hid (∀ j,j<i→∀ a b,ks[j]?=some a→ls[j]?=some b→a=b)∧Blk wx w.heap.size [.int .i64 c,.int .i64 t,.bool m,bv,.slice ao N cap]∧Blk wx (w.heap.size+1) [.int .i64 c,.int .i64 t,.bool m,bv',.slice ao' N cap']∧Below w.heap.size w wx) (fun iv _=>N-(intOf iv).toNat)
  case atStart=>exact ⟨0,by omega,rfl,fun j hj=>absurd hj (by omega),B0,B1,bel⟩
  case round =>
   clear B0 B1 bel lt0 lt1 e0 e1 e2 e3 e4 f0 f1 f2 f3 f4;obtain ⟨i,hi,rfl,HS,B0,B1,bel⟩:=hrel;have e4:=B0.cell 4 _ rfl;have lt0:=B0.lt
   by_cases hil:i<N
   ·have g1:(i:Int)<(N:Int):=by omega
    have g2:(0:Int)≤(i:Int):=by omega
    have gi:IntKind.i64.wrap ((i:Int)+1)=(i:Int)+1:=by rw[IntKind.wrap_i64];omega
    obtain⟨k,hkk⟩:=ZbI (ks:=ks) (i:=i) (by rw[HNk.out];exact hil);obtain ⟨l,hll⟩:=ZbI (ks:=ls) (i:=i) (by rw[HNl.out];exact hil);obtain ⟨g,o,hao,hks⟩:=HK.out (by omega);obtain ⟨g',o',hao',hls⟩:=HL.out (by omega);obtain ⟨cs,hcs,hkt⟩:=hks.get hkk;obtain ⟨ds,hds,hlt⟩:=hls.get hll;have hsz:=ZcM hkk;have HWk2:=HWk.out.1.get hkk;have HWl2:=HWk.out.2.get hll;have HKK:Hid (ks[i]?=some k):=hkk;have HLL:Hid (ls[i]?=some l):=hll;clear hkk hll;subst hao hao';have H5k:=hkt.five;have H5l:=hlt.five;replace hcs:=hcs.later bel;replace hds:=hds.later bel;replace hkt:=hkt.later bel;replace hlt:=hlt.later bel;have hN1:=bel.size;go_upto_region 6 with fail;obtain ⟨S1,hS1,KL1,KA1,KD1,KS1,KQ1,KN1,KB1,KM1,KR1⟩:=Zow (w0:=w) (W:=wr) [(w.heap.size,[.int .i64 c,.int .i64 t,.bool m,bv,.slice (some ⟨g,o,none⟩) N cap]),(w.heap.size+1,[.int .i64 c,.int .i64 t,.bool m,bv',.slice (some ⟨g',o',none⟩) N cap'])] (by
     intro b X h;simp only[List.mem_cons,List.not_mem_nil,or_false,Prod.mk.injEq] at h;rcases h with ⟨rfl,rfl⟩|⟨rfl,rfl⟩
     ·exact B0
     ·exact B1) bel
    have ra:∀ wx,Hd S1 wx→wx.cell? ⟨w.heap.size,4,none⟩=some (.slice (some ⟨g,o,none⟩) N cap):=fun wx h=>(KM1.out wx _ _ h (List.Mem.head _)).cell 4 _ rfl;have rb:∀ wx,Hd S1 wx→wx.cell? ⟨w.heap.size+1,4,none⟩=some (.slice (some ⟨g',o',none⟩) N cap'):=fun wx h=>(KM1.out wx _ _ h (List.Mem.tail _ (List.Mem.head _))).cell 4 _ rfl;have HB0:Hid (Below w.heap.size w wr):=bel;clear KS1 KA1 KN1 KQ1 KR1 B0 B1 bel e4 lt0;obtain ⟨S2,hS2,KS2,KB2,KD2,KL2⟩:∃ S:World→Prop,Hd S wr∧Hid (∀ wx,Hd S wx→Hd S1 wx)∧Hid (∀ wx,Hd S wx→Below wr.heap.size wr wx)∧Hid (∀ wx,Hd S wx→Hd S wx.drew)∧Hid (∀ w1 w2,Hd S w1→Below w1.heap.size w1 w2→Hd S w2):=⟨fun wx=>Hd S1 wx∧Below wr.heap.size wr wx,⟨hS1,Below.refl _ _⟩,fun _ h=>h.1,fun _ h=>h.2,fun wx h=>⟨KD1.out wx h.1,h.2.drew⟩,fun w1 w2 h hb=>⟨KL1.out w1 w2 h.1 hb,Zar h.2 hb⟩⟩;replace ra:∀ wx,Hd S2 wx→wx.cell? ⟨w.heap.size,4,none⟩=some (.slice (some ⟨g,o,none⟩) N cap):=fun wx h=>ra wx (KS2.out wx h);replace rb:∀ wx,Hd S2 wx→wx.cell? ⟨w.heap.size+1,4,none⟩=some (.slice (some ⟨g',o',none⟩) N cap'):=fun wx h=>rb wx (KS2.out wx h);have rk:Hid (∀ wx,Hd S2 wx→(loadVar 53 ⟨g,o+i*5,none⟩).run Tryz.prog wx=.ok (.agg cs.toArray) wx):=fun wx h=>Zat (by rw[Nat.mul_comm];exact hcs.later (KB2.out wx h)) H5k;have rl:Hid (∀ wx,Hd S2 wx→(loadVar 53 ⟨g',o'+i*5,none⟩).run Tryz.prog wx=.ok (.agg ds.toArray) wx):=fun wx h=>Zat (by rw[Nat.mul_comm];exact hds.later (KB2.out wx h)) H5l;refine wp_region_noPanic ?_;refine wp_region_held_drew (S:=Hd S2) (by kernel_rfl) (KD2.out _ hS2) (fun hHeld=>?_);clear hS1 hS2;generalize World.drew _=wd at *;refine tkA 0 ?_;refine tkA 1 ?_;refine tkA 2 ?_;refine tkA 3 ?_;refine trA 4 (.agg cs.toArray) rk.out ?_;refine tkA 5 ?_;refine tkA 6 ?_;refine tkA 7 ?_;refine tkA 8 ?_;refine trA 9 (.agg ds.toArray) rl.out ?_;refine wpAnyH_ready (rs:=[10]) (by kernel_rfl) (by simp) ?_;refine AllReadyH.cons rfl (fun K hK=>?_) ?_
    ·go_simp
     have hHb:=KB2.out _ hHeld;refine (IH k l _ _ _ (by omega) HWk2 HWl2 (hkt.later hHb) (hlt.later hHb)).mono ?_;rintro e w2 ⟨rfl,hb⟩;refine hK.out _ _ ?_ (fun hHeld2=>?_)
     ·exact KL2.out _ _ hHeld hb
     ·clear hK K hHeld
      have hHeld:=hHeld2;clear hHeld2;clear hb;refine wpAnyH_ready (rs:=[11]) (by kernel_rfl) (by simp) ?_;refine AllReadyH.cons rfl (fun K hK=>?_) ?_
      ·go_simp
       refine hK.out _ _ ?_ (fun hHeld2=>?_)
       ·exact hHeld
       ·clear hK K hHeld
        have hHeld:=hHeld2;clear hHeld2;refine wpAnyH_done (by kernel_rfl) ?_ _;refine NoPanic.normal ?_;have B0:=KM1.out _ _ _ (KS2.out _ hHeld) (List.Mem.head _);have B1:=KM1.out _ _ _ (KS2.out _ hHeld) (List.Mem.tail _ (List.Mem.head _));have bel:=KB1.out _ (KS2.out _ hHeld);clear hHeld ra rb rk rl
        by_cases hkl:k=l
        ·rw[ZbB hkl]
         have HSn:Hid (∀ j,j<i+1→∀ a b,ks[j]?=some a→ls[j]?=some b→a=b):=fun j hj a b ha hb=>by
          by_cases e:j<i
          ·exact HS.out j e a b ha hb
          ·obtain rfl:j=i:=by omega
           have ea:=HKK.out;have eb:=HLL.out;rw[ea] at ha;rw[eb] at hb;simp only[Option.some.injEq] at ha hb;rw[← ha,← hb,hkl]
         clear hkl;go_wp2_with fail;go_roundw
         case rel=>exact ⟨i+1,by omega,by go_num,HSn,B0,B1,bel⟩
         case measure=>simp[intOf];omega
        ·rw[ZaY hkl]
         have HQ:Hid (¬ k=l):=hkl;clear hkl;go_wp2_with fail;go_ret;exact ⟨by rw[ZaY (by intro h;simp only[Tl.mk.injEq] at h;have e1:=HKK.out;rw[h.2.2.2.2,HLL.out] at e1;exact HQ.out (by simpa using e1.symm))];rfl,bel⟩
      exact AllReadyH.nil
    exact AllReadyH.nil
   ·have HI:Hid (i=N):=by show i=N;omega
    have g1:¬ (i:Int)<(N:Int):=by omega
    go_wp2_with fail;go_ret;exact ⟨by rw[ZbB (by rw[show ks=ls from ZhQ HLn.out (fun j a b ha hb=>HS.out j (by rw[HI.out,← HNk.out];exact (List.getElem?_eq_some_iff.1 ha).1) a b ha hb)])];rfl,bel⟩
theorem ZhA {v u:Value} {A B:List Int} {w:World} (hv:Bs w v A) (hu:Bs w u B) (bA:byt A) (bB:byt B):Calls Tryz.prog 71 #[v,u] w fun e w'=>e=.returned (.bool (decide (A=B)))∧w'=w:=by
 have x1:=Zbq hv;have x2:=Zbq hu;have HE:Hid (((strOfNums A).toList == (strOfNums B).toList)=decide (A=B)):=ZiW bA bB;obtain ⟨b,hb⟩:∃ b:Bool,decide (A=B)=b:=⟨_,rfl⟩;have sq:((strOfNums A).toList == (strOfNums B).toList)=b:=by rw[← hb];exact HE.out
 rw[hb];obtain ⟨a1,c1,rfl,-,-,-⟩:=hv;obtain ⟨a2,c2,rfl,-,-,-⟩:=hu;obtain ⟨Z1,hZ1⟩:∃ z,strOfNums A=z:=⟨_,rfl⟩;obtain ⟨Z2,hZ2⟩:∃ z,strOfNums B=z:=⟨_,rfl⟩;obtain ⟨L1,hL1⟩:∃ z,A.length=z:=⟨_,rfl⟩;obtain ⟨L2,hL2⟩:∃ z,B.length=z:=⟨_,rfl⟩;rw[hZ1] at x1 sq;rw[hZ2] at x2 sq;rw[hL1] at x1 ⊢;rw[hL2] at x2 ⊢;clear hb HE hZ1 hZ2 hL1 hL2;go_enter Tryz.func71,Tryz.ntmps71;go_wp2_with fail;go_ret;exact ⟨rfl,rfl⟩
noncomputable def Zhb (a b:List Tl):Bool:=@decide (a=b) (Classical.propDecidable _)
theorem Zh9 {a b:List Tl} (h:a=b):Zhb a b=true:=@decide_eq_true _ (Classical.propDecidable _) h
theorem Zhc {a b:List Tl} (h:¬ a=b):Zhb a b=false:=@decide_eq_false _ (Classical.propDecidable _) h
theorem Zpq {c t:Int} {m:Bool} {b:List Int} {ks ls:List Tl}:ZcW (.mk c t m b ks) (.mk c t m b ls)=Zhb ks ls:=by
 by_cases h:ks=ls
 ·rw[Zh9 h,ZbB (by rw[h])]
 ·rw[Zhc h,ZaY (fun e=>h (by cases e;rfl))]
theorem Zog {n:Nat} (IH:∀ (T U:Tl) (w:World) (cs ds:List Value),szT T≤n→WfT T→WfT U→Zav w T cs→Zav w U ds→Calls Tryz.prog 38 #[.agg cs.toArray,.agg ds.toArray] w fun e w'=>e=.returned (.bool (ZcW T U))∧Below w.heap.size w w') {ks ls:List Tl} {ao ao':Option Addr} {kc kc':Nat} {w:World} (hz:szL ks≤n) (wk:WfL ks) (wl:WfL ls) (b1:ks.length≤kc) (b2:kc≤maxLen) (b3:ls.length≤kc') (_b4:kc'≤maxLen) (hk:0<ks.length→∃ g o,ao=some ⟨g,o,none⟩∧Zap w ks g o) (hl:0<ls.length→∃ g o,ao'=some ⟨g,o,none⟩∧Zap w ls g o) :
  Calls Tryz.prog 72 #[.slice ao ks.length kc,.slice ao' ls.length kc',.func (.func 38) #[] #[]] w fun e w'=>e=.returned (.bool (Zhb ks ls))∧Below w.heap.size w w':=by
 have HK:Hid (0<ks.length→∃ g o,ao=some ⟨g,o,none⟩∧Zap w ks g o):=hk;have HL:Hid (0<ls.length→∃ g o,ao'=some ⟨g,o,none⟩∧Zap w ls g o):=hl;have HW:Hid (WfL ks∧WfL ls):=⟨wk,wl⟩;have HZ:Hid (szL ks≤n):=hz;clear hk hl wk wl hz;unfold maxLen at b2
 by_cases q5:ks.length=ls.length
 rotate_left
 ·have HQ:Hid (¬ ks.length=ls.length):=q5
  have q5i:¬ (ks.length:Int)=(ls.length:Int):=by omega
  go_enter Tryz.func72,Tryz.ntmps72;go_wp2_with fail;go_ret;exact ⟨by rw[Zhc (fun e=>HQ.out (by rw[e]))];rfl,Below.refl _ _⟩
 obtain⟨N,hN⟩:∃ N,ks.length=N:=⟨_,rfl⟩;have HNk:Hid (ks.length=N):=hN;have HNl:Hid (ls.length=N):=q5.symm.trans hN;rw[hN] at b1 HK ⊢;rw[← q5,hN] at b3 HL ⊢;clear q5 hN;go_enter Tryz.func72,Tryz.ntmps72;go_wp2_with fail;have bel:=Below.refl w.heap.size w;go_loopw [17] (fun iv wx=>∃ i:Nat,i≤N∧iv=.int .i64 (i:Int)∧Hid (∀ j,j<i→∀ a b,ks[j]?=some a→ls[j]?=some b→a=b)∧Below w.heap.size w wx) (fun iv _=>N-(intOf iv).toNat)
 case atStart=>exact ⟨0,by omega,rfl,fun j hj=>absurd hj (by omega),bel⟩
 case round =>
  clear bel;obtain ⟨i,hi,rfl,HS,bel⟩:=hrel
  by_cases hil:i<N
  rotate_left
  ·obtain rfl:i=N:=by omega
   have g1:¬ (i:Int)<(i:Int):=by omega
   have H:Hid (Zhb ks ls=true):=Zh9 (ZhQ (by rw[HNk.out,HNl.out]) (fun j a b ha hb=>by have hj:=(List.getElem?_eq_some_iff.1 ha).1;exact HS.out j (by rw[HNk.out] at hj;exact hj) a b ha hb));clear HS;go_wp2_with fail;go_ret;exact ⟨by rw[H.out];rfl,bel⟩
  have g1:(i:Int)<(N:Int):=by omega
  have g2:(0:Int)≤(i:Int):=by omega
  have gi:IntKind.i64.wrap ((i:Int)+1)=(i:Int)+1:=by rw[IntKind.wrap_i64];omega
  obtain⟨k,hkk⟩:=ZbI (ks:=ks) (i:=i) (by rw[HNk.out];exact hil);obtain ⟨l,hll⟩:=ZbI (ks:=ls) (i:=i) (by rw[HNl.out];exact hil);obtain ⟨g,o,hao,hks⟩:=HK.out (by omega);obtain ⟨g',o',hao',hls⟩:=HL.out (by omega);obtain ⟨cs,hcs,hkt⟩:=hks.get hkk;obtain ⟨ds,hds,hlt⟩:=hls.get hll;have HZk:Hid (szT k≤n):=Nat.le_trans (ZcM hkk) HZ.out;have HWk:Hid (WfT k∧WfT l):=⟨HW.out.1.get hkk,HW.out.2.get hll⟩;have HKK:Hid (ks[i]?=some k):=hkk;have HLL:Hid (ls[i]?=some l):=hll;subst hao hao';have HK5:Hid (cs.length=5):=hkt.five;have HL5:Hid (ds.length=5):=hlt.five;have HKO:Hid (Zca cs):=hkt.ones;have HLO:Hid (Zca ds):=hlt.ones;have HTk:Hid (Zav w k cs):=hkt;have HTl:Hid (Zav w l ds):=hlt;have HCd:Hid (ZdX w g' (o'+5*i) ds):=hds;clear hkk hll hks hls hkt hlt hds;have hld:(loadVar 53 ⟨g,o+i*5,none⟩).run Tryz.prog wr=.ok (.agg cs.toArray) wr:=Zat (by rw[Nat.mul_comm];exact hcs.later bel) HK5.out;have lg:g<wr.heap.size:=(hcs.later bel).1;clear hcs;go_upto_region 5 with fail;have HS5:Hid (cs.toArray.size=5):=by show _=_;rw[List.size_toArray];exact HK5.out
  have hz:=Zaj.out;have hbx:=bal wr (.cells cs.toArray 53);replace bel:=Zaa bel hbx;have Bk:=Blk.new wr cs 53 wr.heap.size rfl;go_upto_region 6 with (first|((with_reducible show wpList _ _ _ (⟨_,.load _ _,_,_,_,_⟩::_) _ _);refine Zab (by rfl) (by rfl) (by rfl) hld ?_)|((with_reducible show wpList _ _ _ (⟨_,.store _ _ _,_,_,_,_⟩::_) _ _);refine wpList_store_row rfl 53 _ _ rfl wr.heap.size cs.toArray rfl rfl 53 _ (heap_alloc_last _ _) (by rw[Zae,HS5.out]) (by rw[HS5.out];rfl) HKO.out ?_;rw[World.setRow_alloc_new])|fail);clear hz HS5 hbx hld;obtain ⟨gk,hgk⟩:∃ g,g=wr.heap.size:=⟨_,rfl⟩;rw[← hgk] at Bk ⊢;generalize (wr.alloc (.cells cs.toArray 53))=V1 at *;clear hgk;clear lg;have hle:(loadVar 53 ⟨g',o'+i*5,none⟩).run Tryz.prog V1=.ok (.agg ds.toArray) V1:=Zat (by rw[Nat.mul_comm];exact HCd.out.later bel) HL5.out;have lg:g'<V1.heap.size:=(HCd.out.later bel).1;have HS5:Hid (ds.toArray.size=5):=by show _=_;rw[List.size_toArray];exact HL5.out
  have hz:=Zaj.out;have hbx:=bal V1 (.cells ds.toArray 53);replace Bk:=Bk.later hbx;replace bel:=Zaa bel hbx;have Bl:=Blk.new V1 ds 53 V1.heap.size rfl;go_upto_region 7 with (first|((with_reducible show wpList _ _ _ (⟨_,.load _ _,_,_,_,_⟩::_) _ _);refine Zab (by rfl) (by rfl) (by rfl) hle ?_)|((with_reducible show wpList _ _ _ (⟨_,.store _ _ _,_,_,_,_⟩::_) _ _);refine wpList_store_row rfl 53 _ _ rfl V1.heap.size ds.toArray rfl rfl 53 _ (heap_alloc_last _ _) (by rw[Zae,HS5.out]) (by rw[HS5.out];rfl) HLO.out ?_;rw[World.setRow_alloc_new])|fail);clear hz HS5 hbx hle;obtain ⟨gl,hgl⟩:∃ g,g=V1.heap.size:=⟨_,rfl⟩;rw[← hgl] at Bl ⊢;generalize (V1.alloc (.cells ds.toArray 53))=V2 at *;clear hgl;clear lg;have hl1:(loadVar 53 ⟨gk,0,none⟩).run Tryz.prog V2=.ok (.agg cs.toArray) V2:=Bk.load Tryz.underlying53 rfl Zae HK5.out;have hl2:(loadVar 53 ⟨gl,0,none⟩).run Tryz.prog V2=.ok (.agg ds.toArray) V2:=Bl.load Tryz.underlying53 rfl Zae HL5.out;have l1:=Bk.lt;have l2:=Bl.lt;go_wp2_with (first|((with_reducible show wpList _ _ _ (⟨_,.load _ _,_,_,_,_⟩::_) _ _);refine Zab (by rfl) (by rfl) (by rfl) hl1 ?_)|((with_reducible show wpList _ _ _ (⟨_,.load _ _,_,_,_,_⟩::_) _ _);refine Zab (by rfl) (by rfl) (by rfl) hl2 ?_)|fail);refine (IH k l _ cs ds HZk.out HWk.out.1 HWk.out.2 (HTk.out.later bel) (HTl.out.later bel)).mono ?_;rintro e w3 ⟨rfl,hb⟩;replace bel:=Zaa bel hb;clear hb hl1 hl2 l1 l2 Bk Bl
  by_cases hq:k=l
  ·rw[ZbB hq]
   have HSn:Hid (∀ j,j<i+1→∀ a b,ks[j]?=some a→ls[j]?=some b→a=b):=fun j hj a b ha hb=>by
    by_cases e:j<i
    ·exact HS.out j e a b ha hb
    ·obtain rfl:j=i:=by omega
     rw[HKK.out] at ha;rw[HLL.out] at hb
     cases ha
     cases hb
     exact hq
   clear HS;go_wp2_with fail;go_roundw
   case rel=>exact ⟨i+1,by omega,by go_num,HSn,bel⟩
   case measure=>simp[intOf];omega
  ·rw[ZaY hq]
   have H:Hid (Zhb ks ls=false):=Zhc (fun e=>hq (by have h1:=HKK.out;have h2:=HLL.out;rw[e,h2] at h1;cases h1;rfl));clear HS hq;go_wp2_with fail;go_ret;exact ⟨by rw[H.out];rfl,bel⟩
theorem Zoh (n:Nat):∀ (T U:Tl) (w:World) (cs ds:List Value),szT T≤n→WfT T→WfT U→Zav w T cs→Zav w U ds→Calls Tryz.prog 38 #[.agg cs.toArray,.agg ds.toArray] w fun e w'=>e=.returned (.bool (ZcW T U))∧Below w.heap.size w w':=by
 induction n with
 | zero=>intro T U w cs ds hz;have:=ZcN T;omega
 | succ n IH =>
  intro T U w cs ds hz wT wU h k;obtain ⟨c,t,m,b,ks⟩:=T;obtain ⟨c',t',m',b',ls⟩:=U;rw[Zav] at h k;rw[WfT] at wT wU;have HWb:Hid (byt b∧byt b'):=⟨wT.2.2.1,wU.2.2.1⟩;have HWk:Hid (WfL ks∧WfL ls):=⟨wT.2.2.2,wU.2.2.2⟩;clear wT wU;obtain ⟨bv,ao,cap,rfl,hbv,hk1,hk2,hk3⟩:=h;obtain ⟨bv',ao',cap',rfl,hbv',hl1,hl2,hl3⟩:=k;have HK:Hid (0<ks.length→∃ g o,ao=some ⟨g,o,none⟩∧Zap w ks g o):=hk3;have HL:Hid (0<ls.length→∃ g o,ao'=some ⟨g,o,none⟩∧Zap w ls g o):=hl3;have HB1:Hid (Bs w bv b):=hbv;have HB2:Hid (Bs w bv' b'):=hbv';obtain ⟨ba,bc,rfl,-,-,-⟩:=hbv;obtain ⟨ba',bc',rfl,-,-,-⟩:=hbv';have HC1:Hid (ks.length≤cap∧cap≤maxLen∧ls.length≤cap'∧cap'≤maxLen):=⟨hk1,hk2,hl1,hl2⟩;have HZ:Hid (szL ks≤n):=by show _≤_;rw[szT] at hz;omega
  clear hk3 hl3 hk1 hk2 hl1 hl2 hz;have B0:=(Blk.new w [.int .i64 c,.int .i64 t,.bool m,.slice ba b.length bc,.slice ao ks.length cap] 53 w.heap.size rfl).alloc (.cells #[.int .i64 c',.int .i64 t',.bool m',.slice ba' b'.length bc',.slice ao' ls.length cap'] 53);have B1:=Blk.new (w.alloc (.cells #[.int .i64 c,.int .i64 t,.bool m,.slice ba b.length bc,.slice ao ks.length cap] 53)) [.int .i64 c',.int .i64 t',.bool m',.slice ba' b'.length bc',.slice ao' ls.length cap'] 53 (w.heap.size+1) (by simp);have bel:Below w.heap.size w ((w.alloc (.cells #[.int .i64 c,.int .i64 t,.bool m,.slice ba b.length bc,.slice ao ks.length cap] 53)).alloc (.cells #[.int .i64 c',.int .i64 t',.bool m',.slice ba' b'.length bc',.slice ao' ls.length cap'] 53)):=(((Below.refl _ _).alloc (Nat.le_refl _) _).alloc (by simp) _);go_enter Tryz.func38,Tryz.ntmps38;go_upto_region 1 with fail;generalize (w.alloc (.cells #[.int .i64 c,.int .i64 t,.bool m,.slice ba b.length bc,.slice ao ks.length cap] 53)).alloc (.cells #[.int .i64 c',.int .i64 t',.bool m',.slice ba' b'.length bc',.slice ao' ls.length cap'] 53)=W at *;have e0:=B0.cell 0 _ rfl;have f0:=B1.cell 0 _ rfl;have e1:=B0.cell 1 _ rfl;have f1:=B1.cell 1 _ rfl;have e2:=B0.cell 2 _ rfl;have f2:=B1.cell 2 _ rfl;have e3:=B0.cell 3 _ rfl;have f3:=B1.cell 3 _ rfl;have e4:=B0.cell 4 _ rfl;have f4:=B1.cell 4 _ rfl;have lt0:=B0.lt;have lt1:=B1.lt
  by_cases q1:c=c'
  rotate_left
  ·have d1:(c == c')=false:=by rw[beq_eq_false_iff_ne];exact q1
   have H:Hid (ZcW (.mk c t m b ks) (.mk c' t' m' b' ls)=false):=ZaY (by intro h;simp only[Tl.mk.injEq] at h;exact q1 h.1);clear q1;go_wp2_with fail;go_ret;exact ⟨by rw[H.out];rfl,bel⟩
  subst q1;have d1:(c == c)=true:=beq_self_eq_true _
  by_cases q2:t=t'
  rotate_left
  ·have d2:(t == t')=false:=by rw[beq_eq_false_iff_ne];exact q2
   have H:Hid (ZcW (.mk c t m b ks) (.mk c t' m' b' ls)=false):=ZaY (by intro h;simp only[Tl.mk.injEq] at h;exact q2 h.2.1);clear q2;go_wp2_with fail;go_ret;exact ⟨by rw[H.out];rfl,bel⟩
  subst q2;have d2:(t == t)=true:=beq_self_eq_true _
  by_cases q3:m=m'
  rotate_left
  ·have d3:(m == m')=false:=by rw[beq_eq_false_iff_ne];exact q3
   have H:Hid (ZcW (.mk c t m b ks) (.mk c t m' b' ls)=false):=ZaY (by intro h;simp only[Tl.mk.injEq] at h;exact q3 h.2.2.1);clear q3;go_wp2_with fail;go_ret;exact ⟨by rw[H.out];rfl,bel⟩
  subst q3;have d3:(m == m)=true:=beq_self_eq_true _;go_wp2_with fail;refine (ZhA (HB1.out.later bel) (HB2.out.later bel) HWb.out.1 HWb.out.2).mono ?_;rintro e w1 ⟨rfl,hw⟩;rw[hw];clear hw w1
  by_cases q4:b=b'
  rotate_left
  ·have H:Hid (ZcW (.mk c t m b ks) (.mk c t m b' ls)=false):=ZaY (by intro h;simp only[Tl.mk.injEq] at h;exact q4 h.2.2.2.1)
   rw[decide_eq_false q4];clear q4;go_wp2_with fail;go_ret;exact ⟨by rw[H.out];rfl,bel⟩
  subst q4;rw[decide_eq_true (rfl:b=b)];go_wp2_with fail;refine (Zog IH HZ.out HWk.out.1 HWk.out.2 HC1.out.1 HC1.out.2.1 HC1.out.2.2.1 HC1.out.2.2.2 (fun h0=>by obtain ⟨g,o,e,hk⟩:=HK.out h0;exact ⟨g,o,e,hk.later bel⟩) (fun h0=>by obtain ⟨g,o,e,hk⟩:=HL.out h0;exact ⟨g,o,e,hk.later bel⟩)).mono ?_;rintro e w2 ⟨rfl,hb⟩;replace bel:=Zaa bel hb;clear hb e0 e1 e2 e3 e4 f0 f1 f2 f3 f4 lt0 lt1 B0 B1;have H:Hid (ZcW (.mk c t m b ks) (.mk c t m b ls)=Zhb ks ls):=Zpq;obtain ⟨bb,hbb⟩:∃ z,Zhb ks ls=z:=⟨_,rfl⟩;have HBB:Hid (Zhb ks ls=bb):=hbb;rw[hbb];clear hbb;go_wp2_with fail;go_ret;exact ⟨by rw[H.out,HBB.out];rfl,bel⟩
end Go.Proofs.YtohcdbifhnfcbaaGreatDoor
