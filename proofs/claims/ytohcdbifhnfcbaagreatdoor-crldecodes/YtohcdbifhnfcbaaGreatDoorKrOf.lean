import Derived.Test.YtohcdbifhnfcbaaGreatDoorBase
import Derived.Test.YtohcdbifhnfcbaaGreatDoorDrDG
import Derived.Test.YtohcdbifhnfcbaaGreatDoorKrSgn
import Derived.Test.YtohcdbifhnfcbaaGreatDoorKrSig
import Derived.Test.YtohcdbifhnfcbaaGreatDoorKrEl
import Derived.Test.YtohcdbifhnfcbaaGreatDoorRows
import Derived.Deep.MidRow
import Derived.Deep.OwnRows
import Derived.Deep.AppendLies
import Derived.Great.BuildSlice
import Derived.Laws.Rows
import Derived.BigQuiet
import Derived.Deep.WholeRow
import Derived.Deep.RegionHeld3
import Derived.Deep.DeepCutAuto
import Derived.Deep.DeepFit
namespace Go.Proofs.YtohcdbifhnfcbaaGreatDoor
open Go.RowKit
theorem Blk.cellsO {c g:Nat} {X:List Value} (hne:c≠g):∀ (vs:List Value) (o:Nat) (w:World),Blk w c X→Blk (w.setCells g o vs) c X
 | [],_,_,h=>h
 | v::vs,o,w,h=>Blk.cellsO hne vs (o+1) (w.setCell ⟨g,o,none⟩ v) (h.other _ _ hne)
theorem Blk.cellsS {g:Nat}:∀ (vs:List Value) (o:Nat) (w:World) (X:List Value),Blk w g X→∃ Y,Blk (w.setCells g o vs) g Y∧Y.length=X.length
 | [],_,_,X,h=>⟨X,h,rfl⟩
 | v::vs,o,w,X,h=>by
  obtain⟨Y,h1,h2⟩:=Blk.cellsS vs (o+1) (w.setCell ⟨g,o,none⟩ v) (X.set o v) (h.set o v);exact ⟨Y,h1,by rw[h2,List.length_set]⟩
def setL:List Value→Nat→List Value→List Value
 | xs,_,[]=>xs
 | xs,o,v::vs=>setL (xs.set o v) (o+1) vs
theorem Blk.cellsL {g:Nat}:∀ (vs:List Value) (o:Nat) (w:World) (X:List Value),Blk w g X→Blk (w.setCells g o vs) g (setL X o vs)
 | [],_,_,_,h=>h
 | v::vs,o,w,X,h=>Blk.cellsL vs (o+1) (w.setCell ⟨g,o,none⟩ v) (X.set o v) (h.set o v)
theorem ZdY {B g:Nat} {a:World} (hg:B≤g):∀ (vs:List Value) (o:Nat) (w:World),Below B a w→Below B a (w.setCells g o vs)
 | [],_,_,h=>h
 | v::vs,o,w,h=>ZdY hg vs (o+1) (w.setCell ⟨g,o,none⟩ v) (h.setCell hg v)
theorem Zfq {S:Nat→Prop} {g:Nat} {a:World} (hg:¬ S g):∀ (vs:List Value) (o:Nat) (w:World),Agr S a w→Agr S a (w.setCells g o vs)
 | [],_,_,h=>h
 | v::vs,o,w,h=>Zfq hg vs (o+1) (w.setCell ⟨g,o,none⟩ v) (h.cell hg)
theorem Blk.there {w:World} {g:Nat} {X:List Value} (h:Blk w g X) {o n:Nat} (hl:o+n≤X.length):w.there g o n:=fun j hj =>
 ⟨by rw[h.cell (o+j) _ (List.getElem?_eq_getElem (by omega))];rfl,h.frozen _⟩
open Classical in
theorem ZfC {c t:Int} {m:Bool} {b:List Int} {x a s:Tl}:crD (.mk c t m b [x,a,s])=if (c=0∧t=16∧m=true)∧a=ZbR then (Zas x).bind fun C=>((ZdZ s).bind ZcX).bind fun q=>some { C with body:=Zak x,sr:=q.1,ss:=q.2 } else none:=rfl
theorem ZlR {c t:Int} {m:Bool} {b:List Int} {ks:List Tl} (h:¬ ks.length=3):crD (.mk c t m b ks)=none:=by
 match ks,h with
 | [],_=>rfl
 | [_],_=>rfl
 | [_,_],_=>rfl
 | [_,_,_],h=>exact absurd rfl h
 | _::_::_::_::_,_=>rfl
theorem crD_no {c t:Int} {m:Bool} {b:List Int} {ks:List Tl} (h:¬ (c=0∧t=16∧m=true)):crD (.mk c t m b ks)=none:=by
 by_cases k:ks.length=3
 ·obtain ⟨x,a,s,rfl⟩:∃ x a s,ks=[x,a,s]:=by
   match ks,k with
   | [x,a,s],_=>exact ⟨x,a,s,rfl⟩
  rw[ZfC,if_neg (fun q=>h q.1)]
 ·exact ZlR k
theorem Zla {T:Tl} {cs:List Value} {w:World} (h:Zav w T cs) (gd:GdT T):Calls Tryz.prog 39 #[.agg cs.toArray] w (CrO w (Zas T)):=by
 obtain⟨c,t,m,b,ks⟩:=T;exact Zhy h gd
theorem Zrt {T:Tl} {cs:List Value} {w:World} (G:Zex w) (h:Zav w T cs) (gd:GdT T):Calls Tryz.prog 40 #[.agg cs.toArray] w (ZdO w ((ZdZ T).bind ZcX)):=by
 obtain⟨c,t,m,b,ks⟩:=T;exact ZlH G h gd.wf (by have:=gd.body;omega)
theorem Zrr {T:Tl} {cs:List Value} {w:World} (h:Zav w T cs) (gd:GdT T):Calls Tryz.prog 22 #[.agg cs.toArray] w fun e w'=>∃ v:Value,e=.returned (.tuple #[v,.nilIface])∧Bs w' v (Zak T)∧Zbg w v∧Below w.heap.size w w':=by
 refine(Zhw h (by have:=gd.2.2.1;omega)).mono ?_;rintro e w' ⟨v,rfl,hv,hn,hb⟩;rw[gd.wr,Zos];refine ⟨v,rfl,?_,hn,hb⟩;have h2:=hv;unfold wrB at h2;rw[if_pos gd.wr] at h2;exact h2
set_option linter.unusedSimpArgs false in
set_option maxRecDepth 100000 in
set_option maxHeartbeats 8000000 in
theorem ZlG {c t:Int} {m:Bool} {b:List Int} {ks:List Tl} {cs:List Value} {w:World} (G:Zex w) (h:Zav w (.mk c t m b ks) cs) (gd:GdT (.mk c t m b ks)):Calls Tryz.prog 15 #[.agg cs.toArray] w (CrO w (crD (.mk c t m b ks))):=by
 have HG:Hid (Zex w):=G;have HGd:Hid (GdT (.mk c t m b ks)):=gd;clear gd G;have hz:=Zam.out;have HT9:Hid (Zav w (.mk c t m b ks) cs):=h;rw[Zav] at h;obtain ⟨bv,ao,kc,hcs,hbv,-,hkm,hkk⟩:=h;have HBv:Hid (Bs w bv b):=hbv;obtain ⟨ba,bc,rfl,-,-,-⟩:=hbv;have HK:Hid (0<ks.length→∃ g o,ao=some ⟨g,o,none⟩∧Zap w ks g o):=hkk;obtain ⟨BL,hBL⟩:∃ z,b.length=z:=⟨_,rfl⟩;obtain ⟨KL,hKL⟩:∃ z,ks.length=z:=⟨_,rfl⟩;have HBL:Hid (b.length=BL):=hBL;have HKL:Hid (ks.length=KL):=hKL;have HKM:Hid (kc≤maxLen):=hkm;rw[hBL] at hcs HBv;rw[hKL] at hcs HK;clear hBL hKL hkk hkm;subst hcs;have B0:=(Blk.new w [.int .i64 c,.int .i64 t,.bool m,.slice ba BL bc,.slice ao KL kc] 53 w.heap.size rfl).alloc (.cells z8.toArray 33);have R0:=Blk.new (w.alloc (.cells #[.int .i64 c,.int .i64 t,.bool m,.slice ba BL bc,.slice ao KL kc] 53)) z8 33 (w.heap.size+1) (by simp);have bel:Below w.heap.size w ((w.alloc (.cells #[.int .i64 c,.int .i64 t,.bool m,.slice ba BL bc,.slice ao KL kc] 53)).alloc (.cells z8.toArray 33)):=((Below.refl _ _).alloc (Nat.le_refl _) _).alloc (by simp) _;go_enter Tryz.func15,Tryz.ntmps15;go_upto_region 1 with fail;generalize (w.alloc (.cells #[.int .i64 c,.int .i64 t,.bool m,.slice ba BL bc,.slice ao KL kc] 53)).alloc (.cells z8.toArray 33)=W at *;clear hz;obtain ⟨S1,hS1,KB1,KI1,KD1,KL1,KA1⟩:∃ S:World→Prop,Hd S W∧Hid (∀ wx,Hd S wx→Below W.heap.size W wx)∧Hid (∀ wx,Below W.heap.size W wx→Hd S wx)∧Hid (∀ wx,Hd S wx→Hd S wx.drew)∧Hid (∀ w1 w2,Hd S w1→Below w1.heap.size w1 w2→Hd S w2)∧Hid (∀ w1 o,Hd S w1→Hd S (w1.alloc o)):=⟨fun wx=>Below W.heap.size W wx,Below.refl _ _,fun _ h=>h,fun _ h=>h,fun wx h=>Below.drew h,fun w1 w2 h hb=>Zaa h hb,fun w1 o h=>Below.alloc h h.size o⟩;have HB0:Hid (Blk W w.heap.size [.int .i64 c,.int .i64 t,.bool m,.slice ba BL bc,.slice ao KL kc]):=B0;have HR0:Hid (Blk W (w.heap.size+1) z8):=R0;have HBel:Hid (Below w.heap.size w W):=bel;have RT0:Hid (∀ wx,Hd S1 wx→(loadVar 53 ⟨w.heap.size,0,none⟩).run Tryz.prog wx=.ok (.agg #[.int .i64 c,.int .i64 t,.bool m,.slice ba BL bc,.slice ao KL kc]) wx):=fun wx h=>(HB0.out.later (KB1.out wx h)).load Tryz.underlying53 rfl Zae rfl;have ra:∀ wx,Hd S1 wx→wx.cell? ⟨w.heap.size,4,none⟩=some (.slice ao KL kc):=fun wx h=>(HB0.out.later (KB1.out wx h)).cell 4 _ rfl;have rl:∀ wx,Hd S1 wx→w.heap.size<wx.heap.size:=fun wx h=>(HB0.out.later (KB1.out wx h)).lt;clear B0 R0 bel;refine wp_region_noPanic ?_;refine wp_region_held_drew (S:=Hd S1) (by kernel_rfl) (KD1.out _ hS1) (fun hHeld=>?_);clear hS1;generalize World.drew _=wd1 at *;refine trA 0 (.agg #[.int .i64 c,.int .i64 t,.bool m,.slice ba BL bc,.slice ao KL kc]) RT0.out ?_;refine wpAnyH_ready (rs:=[1]) (by kernel_rfl) (by simp) ?_;refine AllReadyH.cons rfl (fun K hK=>?_) ?_
 ·have hbz:Below w.heap.size w wd1:=Zaa HBel.out (KB1.out _ hHeld)
  go_simp;refine (ZcS (HT9.out.later hbz)).mono ?_;rintro e z1 ⟨rfl,hb⟩;refine hK.out _ _ ?_ (fun hHeld2=>?_)
  ·exact KL1.out _ _ hHeld hb
  ·clear hK K
   try clear hHeld
   have hHeld:=hHeld2;clear hHeld2
   try simp only[Act.put,List.getElem_toArray,List.getElem_cons_zero,List.getElem_cons_succ,List.setIfInBounds_toArray,List.set_cons_zero,List.set_cons_succ]
   clear hb hbz
   by_cases hp:c=0∧t=16∧m=true
   rotate_left
   ·have H:Hid (crD (.mk c t m b ks)=none):=crD_no hp
    rw[Zdt,decide_eq_false hp];clear hp;refine tkA 2 ?_;refine tkA 3 ?_;refine skA 4 ?_;refine skA 5 ?_;refine skA 6 ?_;refine skA 7 ?_;refine tkA 8 ?_;refine tkA 9 ?_;refine skA 10 ?_;refine skA 11 ?_;refine skA 12 ?_;refine skA 13 ?_;refine skA 14 ?_;refine skA 15 ?_;refine skA 16 ?_;refine tkA 17 ?_;refine wpAnyH_done (by kernel_rfl) ?_ _;refine NoPanic.normal ?_;have st:=KB1.out _ hHeld;have R0:=HR0.out.later st;have B0:=HB0.out.later st;have bel:=Zaa HBel.out st;clear hHeld ra rl RT0 st;clear B0;have hz:=Zam.out;obtain ⟨tR,hR⟩:=R0;have HR1:Hid _:=hR;clear hR;go_wp2_with (first|((with_reducible show wpList _ _ _ (⟨_,.store _ _ _,_,_,_,_⟩::_) _ _);refine wpList_store_row rfl 33 _ _ rfl (w.heap.size+1) z8.toArray rfl rfl tR _ HR1.out (by rw[Zaf,Zai]) (by first|rfl|(rw[Zai];rfl)) Zaw ?_)|fail);refine bodyPost_ret (Zac rfl _ _ (w.heap.size+1) tR z8.toArray (0,0) _ rfl (setRow_heap _ _ _ _ _ _ HR1.out) Tryz.underlying33 rfl (by rw[Zaf,Zai])) rfl ?_;exact CrO.bad H.out (ZaA 7) (below_setRow bel (by omega) _)
   rw[Zdt,decide_eq_true hp];have HP:Hid (c=0∧t=16∧m=true):=hp;clear hp
   by_cases k3:KL=3
   rotate_left
   ·have H0:Hid (¬ ks.length=3):=by show ¬ _;rw[HKL.out];exact k3
    have H:Hid (crD (.mk c t m b ks)=none):=ZlR H0.out;have d1:((KL:Int) == 3)=false:=by rw[beq_eq_false_iff_ne];omega
    have d2:((KL:Int) != 3)=true:=by rw[bne,d1];rfl
    clear k3;refine tkA 2 ?_;refine tkA 3 ?_;refine tkA 4 ?_;refine tkA 5 ?_;refine tkA 6 ?_;refine tkA 7 ?_;refine tkA 8 ?_;refine tkA 9 ?_;refine skA 10 ?_;refine skA 11 ?_;refine skA 12 ?_;refine skA 13 ?_;refine skA 14 ?_;refine skA 15 ?_;refine skA 16 ?_;refine tkA 17 ?_;refine wpAnyH_done (by kernel_rfl) ?_ _;refine NoPanic.normal ?_;have st:=KB1.out _ hHeld;have R0:=HR0.out.later st;have B0:=HB0.out.later st;have bel:=Zaa HBel.out st;clear hHeld ra rl RT0 st;clear B0;have hz:=Zam.out;obtain ⟨tR,hR⟩:=R0;have HR1:Hid _:=hR;clear hR;go_wp2_with (first|((with_reducible show wpList _ _ _ (⟨_,.store _ _ _,_,_,_,_⟩::_) _ _);refine wpList_store_row rfl 33 _ _ rfl (w.heap.size+1) z8.toArray rfl rfl tR _ HR1.out (by rw[Zaf,Zai]) (by first|rfl|(rw[Zai];rfl)) Zaw ?_)|fail);refine bodyPost_ret (Zac rfl _ _ (w.heap.size+1) tR z8.toArray (0,0) _ rfl (setRow_heap _ _ _ _ _ _ HR1.out) Tryz.underlying33 rfl (by rw[Zaf,Zai])) rfl ?_;exact CrO.bad H.out (ZaA 7) (below_setRow bel (by omega) _)
   have d1:((KL:Int) != 3)=false:=by rw[k3];rfl
   subst k3;obtain ⟨k0,k1,k2,hks⟩:∃ x a s,ks=[x,a,s]:=by
    have h:=HKL.out
    match ks,h with
    | [x,a,s],_=>exact ⟨x,a,s,rfl⟩
   subst hks;obtain ⟨g,o,hao,hkk⟩:=HK.out (by omega);subst hao;obtain ⟨cs0,hc0,ht0⟩:=hkk.get (i:=0) rfl;have HC0:Hid (ZdX w g (o+0) cs0):=hc0;have HT0:Hid (Zav w _ cs0):=ht0;have H50:Hid (cs0.length=5):=ht0.five;have HG0:Hid (GdT _):=HGd.out.kid (i:=0) rfl;clear hc0 ht0;obtain ⟨cs1,hc1,ht1⟩:=hkk.get (i:=1) rfl;have HC1:Hid (ZdX w g (o+5) cs1):=hc1;have HT1:Hid (Zav w _ cs1):=ht1;have H51:Hid (cs1.length=5):=ht1.five;have HG1:Hid (GdT _):=HGd.out.kid (i:=1) rfl;clear hc1 ht1;obtain ⟨cs2,hc2,ht2⟩:=hkk.get (i:=2) rfl;have HC2:Hid (ZdX w g (o+10) cs2):=hc2;have HT2:Hid (Zav w _ cs2):=ht2;have H52:Hid (cs2.length=5):=ht2.five;have HG2:Hid (GdT _):=HGd.out.kid (i:=2) rfl;clear hc2 ht2;clear hkk;have RK1:Hid (∀ wx,Hd S1 wx→(loadVar 53 ⟨g,o+5,none⟩).run Tryz.prog wx=.ok (.agg cs1.toArray) wx):=fun wx h=>Zat (HC1.out.later (Zaa HBel.out (KB1.out wx h))) H51.out;refine tkA 2 ?_;refine tkA 3 ?_;refine tkA 4 ?_;refine tkA 5 ?_;refine tkA 6 ?_;refine tkA 7 ?_;refine tkA 8 ?_;refine tkA 9 ?_;refine tkA 10 ?_;refine tkA 11 ?_;refine tkA 12 ?_;refine trA 13 (.agg cs1.toArray) RK1.out ?_;clear d1;refine wpAnyH_ready (rs:=[14]) (by kernel_rfl) (by simp) ?_;refine AllReadyH.cons rfl (fun K hK=>?_) ?_
   ·go_simp
    refine ZbZ.mono ?_;rintro e z14 ⟨da,rfl,hd,hb⟩;refine hK.out _ _ ?_ (fun hHeld2=>?_)
    ·exact KL1.out _ _ hHeld hb
    ·clear hK K
     try clear hHeld
     have hHeld:=hHeld2;clear hHeld2
     try simp only[Act.put,List.getElem_toArray,List.getElem_cons_zero,List.getElem_cons_succ,List.setIfInBounds_toArray,List.set_cons_zero,List.set_cons_succ]
     have hDa:=hd;clear hb hd;refine wpAnyH_ready (rs:=[15]) (by kernel_rfl) (by simp) ?_;refine AllReadyH.cons rfl (fun K hK=>?_) ?_
     ·have hbz:Below w.heap.size w z14:=Zaa HBel.out (KB1.out _ hHeld)
      go_simp;refine (ZnD (HT1.out.later hbz) hDa.now HG1.out.wf ZnG).mono ?_;rintro e zc ⟨rfl,hb⟩;refine hK.out _ _ ?_ (fun hHeld2=>?_)
      ·exact KL1.out _ _ hHeld hb
      ·clear hK K
       try clear hHeld
       have hHeld:=hHeld2;clear hHeld2
       try simp only[Act.put,List.getElem_toArray,List.getElem_cons_zero,List.getElem_cons_succ,List.setIfInBounds_toArray,List.set_cons_zero,List.set_cons_succ]
       clear hb hbz hDa
       by_cases hq:k1=ZbR
       rotate_left
       ·have H:Hid (crD (.mk c t m b [k0,k1,k2])=none):=by show _=_;rw[ZfC,if_neg (fun h=>hq h.2)]
        rw[ZaY hq];clear hq;refine tkA 16 ?_;refine tkA 17 ?_;refine wpAnyH_done (by kernel_rfl) ?_ _;refine NoPanic.normal ?_;have st:=KB1.out _ hHeld;have R0:=HR0.out.later st;have B0:=HB0.out.later st;have bel:=Zaa HBel.out st;clear hHeld ra rl RT0 st;clear B0;have hz:=Zam.out;obtain ⟨tR,hR⟩:=R0;have HR1:Hid _:=hR;clear hR;go_wp2_with (first|((with_reducible show wpList _ _ _ (⟨_,.store _ _ _,_,_,_,_⟩::_) _ _);refine wpList_store_row rfl 33 _ _ rfl (w.heap.size+1) z8.toArray rfl rfl tR _ HR1.out (by rw[Zaf,Zai]) (by first|rfl|(rw[Zai];rfl)) Zaw ?_)|fail);refine bodyPost_ret (Zac rfl _ _ (w.heap.size+1) tR z8.toArray (0,0) _ rfl (setRow_heap _ _ _ _ _ _ HR1.out) Tryz.underlying33 rfl (by rw[Zaf,Zai])) rfl ?_;exact CrO.bad H.out (ZaA 7) (below_setRow bel (by omega) _)
       rw[ZbB hq];have HQ1:Hid (k1=ZbR):=hq;clear hq;refine tkA 16 ?_;refine tkA 17 ?_;refine wpAnyH_done (by kernel_rfl) ?_ _;refine NoPanic.normal ?_;have st:=KB1.out _ hHeld;have R0:=HR0.out.later st;have B0:=HB0.out.later st;have bel:=Zaa HBel.out st;clear hHeld ra rl RT0 st;clear RK1;obtain ⟨w2,hw2⟩:∃ z,z=zc:=⟨_,rfl⟩;rw[← hw2] at R0 B0 bel ⊢;clear hw2;have e4:=B0.cell 4 _ rfl;have l0:=B0.lt;have hld:(loadVar 53 ⟨g,o,none⟩).run Tryz.prog w2=.ok (.agg cs0.toArray) w2:=Zat (HC0.out.later bel) H50.out;have lg:g<w2.heap.size:=(HC0.out.later bel).1;have HS2:Hid (w.heap.size+1<w2.heap.size):=R0.lt;go_wp2_with (first|((with_reducible show wpList _ _ _ (⟨_,.load _ _,_,_,_,_⟩::_) _ _);refine Zab (by rfl) (by rfl) (by rfl) hld ?_)|fail);refine (Zla (HT0.out.later bel) HG0.out).mono ?_;rintro e w3 ⟨hb,hbad,hok⟩;clear hld lg e4 l0;replace R0:=R0.later hb;replace B0:=B0.later hb;replace bel:=Zaa bel hb
       cases hx:Zas k0 with
       | none =>
        obtain⟨er,her,rfl⟩:=hbad hx;have H:Hid (crD (.mk c t m b [k0,k1,k2])=none):=by
         show _=_;rw[ZfC,if_pos ⟨HP.out,HQ1.out⟩,hx]
         rfl
        have HEr:Hid (Zf3 er):=her;obtain ⟨ty,pv,rfl⟩:=her.1;clear hok hbad hx her hb B0;have hz:=Zam.out;have Cv:=Blk.new w3 z8 33 w3.heap.size rfl;replace R0:=R0.alloc (.cells z8.toArray 33);replace bel:=Zah (o:=.cells z8.toArray 33) bel;go_upto_region 4 with (first|((with_reducible show wpList _ _ _ (⟨_,.store _ _ _,_,_,_,_⟩::_) _ _);refine wpList_store_row rfl 33 _ _ rfl w3.heap.size z8.toArray rfl rfl 33 _ (heap_alloc_last _ _) (by rw[Zaf,Zai]) (by first|rfl|(rw[Zai];rfl)) Zaw ?_;rw[World.setRow_alloc_new])|fail);generalize w3.alloc (.cells z8.toArray 33)=V9 at *;clear Cv hz;have q:=HEr.out.2;have hz:=Zam.out;obtain ⟨tR,hR⟩:=R0;have HR1:Hid _:=hR;clear hR;go_wp2_with (first|((with_reducible show wpList _ _ _ (⟨_,.store _ _ _,_,_,_,_⟩::_) _ _);refine wpList_store_row rfl 33 _ _ rfl (w.heap.size+1) z8.toArray rfl rfl tR _ HR1.out (by rw[Zaf,Zai]) (by first|rfl|(rw[Zai];rfl)) Zaw ?_)|fail);refine bodyPost_ret (Zac rfl _ _ (w.heap.size+1) tR z8.toArray (0,0) _ rfl (setRow_heap _ _ _ _ _ _ HR1.out) Tryz.underlying33 rfl (by rw[Zaf,Zai])) rfl ?_;exact CrO.bad H.out (HEr.out) (below_setRow bel (by omega) _)
       | some C =>
        obtain⟨cc,rfl,hst⟩:=hok C hx;have HX:Hid (Zas k0=some C):=hx;obtain ⟨NC,hNC⟩:∃ z,z=w2.heap.size:=⟨_,rfl⟩;rw[← hNC] at hst HS2;have lNC:w.heap.size+1<NC:=HS2.out;have hNw:NC≤w3.heap.size:=by rw[hNC];exact hb.size
        obtain⟨iv,gv,bv0,rs0,zs0,hcc,-,-,-,u1,u2⟩:=id (hst _ (Agr.refl _ _));obtain ⟨r0,r1,r2,r3,r4,r5,hr,-,-⟩:=u1;obtain ⟨s0,s1,s2,s3,s4,s5,hs,-,-⟩:=u2;subst hr hs;have HSt:Hid (StS (fun b=>NC≤b∧b≠w3.heap.size) w3 (fun w9=>Zcq w9 iv C.issuer∧Zfc w9 gv C.gone)):=by
         have h1:StN NC w3 (fun w9=>Zcq w9 iv C.issuer∧Zfc w9 gv C.gone):=fun w9 h9=>by
          obtain⟨iv',gv',bv',rs',zs',e,n1,n2,-,-,-⟩:=hst w9 h9;rw[hcc] at e;unfold ZlS at e;simp only[List.cons_append,List.nil_append,List.cons.injEq] at e;obtain ⟨e1,-,-,e4,-⟩:=e;rw[e1,e4];exact ⟨n1,n2⟩
         exact h1.but (Nat.le_refl _)
        replace hcc:cc=[iv,.int .i64 C.frm,.int .i64 C.til,gv,bv0,.int .u64 r0,.int .u64 r1,.int .u64 r2,.int .u64 r3,.int .u64 r4,.int .u64 r5,.int .u64 s0,.int .u64 s1,.int .u64 s2,.int .u64 s3,.int .u64 s4,.int .u64 s5]:=hcc;have HO17:Hid (Zca cc):=(hst _ (Agr.refl _ _)).ones;subst hcc;clear hok hbad hx hst hNC;replace R0:=R0;have hz:=Zam.out;have Cv:=Blk.new w3 [iv,.int .i64 C.frm,.int .i64 C.til,gv,bv0,.int .u64 r0,.int .u64 r1,.int .u64 r2,.int .u64 r3,.int .u64 r4,.int .u64 r5,.int .u64 s0,.int .u64 s1,.int .u64 s2,.int .u64 s3,.int .u64 s4,.int .u64 s5] 33 w3.heap.size rfl;have hbx:Below w3.heap.size w3 (w3.alloc (.cells #[iv,.int .i64 C.frm,.int .i64 C.til,gv,bv0,.int .u64 r0,.int .u64 r1,.int .u64 r2,.int .u64 r3,.int .u64 r4,.int .u64 r5,.int .u64 s0,.int .u64 s1,.int .u64 s2,.int .u64 s3,.int .u64 s4,.int .u64 s5] 33)):=(Below.refl _ _).alloc (Nat.le_refl _) _;replace R0:=R0.later hbx;replace B0:=B0.later hbx;replace HSt:Hid (StS (fun b=>NC≤b∧b≠w3.heap.size) (w3.alloc (.cells #[iv,.int .i64 C.frm,.int .i64 C.til,gv,bv0,.int .u64 r0,.int .u64 r1,.int .u64 r2,.int .u64 r3,.int .u64 r4,.int .u64 r5,.int .u64 s0,.int .u64 s1,.int .u64 s2,.int .u64 s3,.int .u64 s4,.int .u64 s5] 33)) (fun w9=>Zcq w9 iv C.issuer∧Zfc w9 gv C.gone)):=HSt.out.below hbx;replace bel:=Zaa bel hbx;clear hbx hb;go_upto_region 4 with (first|((with_reducible show wpList _ _ _ (⟨_,.store _ _ _,_,_,_,_⟩::_) _ _);refine wpList_store_row rfl 33 _ _ rfl w3.heap.size #[iv,.int .i64 C.frm,.int .i64 C.til,gv,bv0,.int .u64 r0,.int .u64 r1,.int .u64 r2,.int .u64 r3,.int .u64 r4,.int .u64 r5,.int .u64 s0,.int .u64 s1,.int .u64 s2,.int .u64 s3,.int .u64 s4,.int .u64 s5] rfl rfl 33 _ (heap_alloc_last _ _) (by rw[Zaf];rfl) rfl HO17.out ?_;rw[World.setRow_alloc_new])|fail);clear hz;obtain ⟨gc,hgc⟩:∃ z,z=w3.heap.size:=⟨_,rfl⟩;rw[← hgc] at Cv hNw HSt ⊢;generalize w3.alloc (.cells #[iv,.int .i64 C.frm,.int .i64 C.til,gv,bv0,.int .u64 r0,.int .u64 r1,.int .u64 r2,.int .u64 r3,.int .u64 r4,.int .u64 r5,.int .u64 s0,.int .u64 s1,.int .u64 s2,.int .u64 s3,.int .u64 s4,.int .u64 s5] 33)=V0 at *;clear hgc;have q:=ZaU;have e4:=B0.cell 4 _ rfl;have l0:=B0.lt;have hld:(loadVar 53 ⟨g,o,none⟩).run Tryz.prog V0=.ok (.agg cs0.toArray) V0:=Zat (HC0.out.later bel) H50.out;have lg:g<V0.heap.size:=(HC0.out.later bel).1;have lcv:=Cv.lt;have cj:=Cv.cell 4 _ rfl;have fj:=Cv.frozen 4;go_wp2_with (first|((with_reducible show wpList _ _ _ (⟨_,.load _ _,_,_,_,_⟩::_) _ _);refine Zab (by rfl) (by rfl) (by rfl) hld ?_)|fail);refine (Zrr (HT0.out.later bel) HG0.out).mono ?_;rintro e w4 ⟨bv,rfl,hbv,hbn,hb⟩;clear hld lg e4 l0 q cj fj;replace R0:=R0.later hb;replace B0:=B0.later hb;replace Cv:=Cv.later hb;replace HSt:Hid (StS (fun b=>NC≤b∧b≠gc) w4 (fun w9=>Zcq w9 iv C.issuer∧Zfc w9 gv C.gone)):=HSt.out.below hb;obtain ⟨NB,hNB⟩:∃ z,z=V0.heap.size:=⟨_,rfl⟩;have lNB:gc<NB:=by rw[hNB];exact lcv
        have HBv:Hid (StN NB w4 (fun w9=>Bs w9 bv (Zak k0))):=fun w9 h9=>Zcn hbv (fun a m c e h=>by rw[hNB];exact hbn a m c e h) h9;obtain ⟨ba2,bc2,hbe,-,-,-⟩:=id hbv;obtain ⟨BL2,hBL2⟩:∃ z,(Zak k0).length=z:=⟨_,rfl⟩;rw[hBL2] at hbe;subst hbe;replace bel:=Zaa bel hb;clear hb hbv hbn hNB hBL2 lcv;have cj:=Cv.cell 4 _ rfl;have fj:=Cv.frozen 4;have lc:=Cv.lt;go_upto_region 7 with fail;clear cj fj lc;replace Cv:Blk (w4.setCell ⟨gc,4,none⟩ (.slice ba2 BL2 bc2)) gc [iv,.int .i64 C.frm,.int .i64 C.til,gv,.slice ba2 BL2 bc2,.int .u64 r0,.int .u64 r1,.int .u64 r2,.int .u64 r3,.int .u64 r4,.int .u64 r5,.int .u64 s0,.int .u64 s1,.int .u64 s2,.int .u64 s3,.int .u64 s4,.int .u64 s5]:=Cv.set 4 _;replace R0:=R0.other ⟨gc,4,none⟩ (.slice ba2 BL2 bc2) (by show _≠gc;omega);replace B0:=B0.other ⟨gc,4,none⟩ (.slice ba2 BL2 bc2) (by show _≠gc;omega);replace bel:Below w.heap.size w (w4.setCell ⟨gc,4,none⟩ (.slice ba2 BL2 bc2)):=bel.setCell (by show _≤gc;omega) _;replace HBv:Hid (StN NB (w4.setCell ⟨gc,4,none⟩ (.slice ba2 BL2 bc2)) (fun w9=>Bs w9 (.slice ba2 BL2 bc2) (Zak k0))):=HBv.out.cell lNB;replace HSt:Hid (StS (fun b=>NC≤b∧b≠gc) (w4.setCell ⟨gc,4,none⟩ (.slice ba2 BL2 bc2)) (fun w9=>Zcq w9 iv C.issuer∧Zfc w9 gv C.gone)):=HSt.out.step ((Agr.refl _ _).cell (fun h=>h.2 rfl));generalize w4.setCell _ _=V1 at *;have q:=ZaU;have e4:=B0.cell 4 _ rfl;have l0:=B0.lt;have hld:(loadVar 53 ⟨g,o+10,none⟩).run Tryz.prog V1=.ok (.agg cs2.toArray) V1:=Zat (HC2.out.later bel) H52.out;have lg:g<V1.heap.size:=(HC2.out.later bel).1;have gk9:(2:Int)<3:=by omega
        go_wp2_with (first|((with_reducible show wpList _ _ _ (⟨_,.load _ _,_,_,_,_⟩::_) _ _);refine Zab (by rfl) (by rfl) (by rfl) hld ?_)|fail);refine (Zrt (HG.out.below bel) (HT2.out.later bel) HG2.out).mono ?_;rintro e w5 ⟨hb,hbad,hok⟩;clear hld lg e4 l0 q gk9;replace R0:=R0.later hb;replace Cv:=Cv.later hb;replace HSt:Hid (StS (fun b=>NC≤b∧b≠gc) w5 (fun w9=>Zcq w9 iv C.issuer∧Zfc w9 gv C.gone)):=HSt.out.below hb;replace HBv:Hid (StN NB w5 (fun w9=>Bs w9 (.slice ba2 BL2 bc2) (Zak k0))):=HBv.out.below hb;replace bel:=Zaa bel hb;clear hb B0
        cases hy:(ZdZ k2).bind ZcX with
        | none =>
         obtain⟨er,her,rfl⟩:=hbad hy;have H:Hid (crD (.mk c t m b [k0,k1,k2])=none):=by
          show _=_;rw[ZfC,if_pos ⟨HP.out,HQ1.out⟩,HX.out,hy]
          rfl
         have HEr:Hid (Zf3 er):=her;obtain ⟨ty,pv,rfl⟩:=her.1;clear hok hbad hy her;have hth:w5.there gc 5 (#[.int .u64 0,.int .u64 0,.int .u64 0,.int .u64 0,.int .u64 0,.int .u64 0,.int .u64 0,.int .u64 0,.int .u64 0,.int .u64 0,.int .u64 0,.int .u64 0]:Array Value).size:=Cv.there (by show 5+12≤17;omega);have lc:=Cv.lt;go_upto_region 10 with (first|((with_reducible show wpList _ _ _ (⟨_,.store _ _ _,_,_,_,_⟩::_) _ _);refine wpList_store_mid rfl 31 _ _ rfl gc 5 #[.int .u64 0,.int .u64 0,.int .u64 0,.int .u64 0,.int .u64 0,.int .u64 0,.int .u64 0,.int .u64 0,.int .u64 0,.int .u64 0,.int .u64 0,.int .u64 0] rfl rfl hth (by rw[ZbA];rfl) (by simp[Value.oneCell']) ?_)|fail);clear hth lc;replace Cv:Blk (w5.setCells gc 5 (#[.int .u64 0,.int .u64 0,.int .u64 0,.int .u64 0,.int .u64 0,.int .u64 0,.int .u64 0,.int .u64 0,.int .u64 0,.int .u64 0,.int .u64 0,.int .u64 0]:Array Value).toList) gc [iv,.int .i64 C.frm,.int .i64 C.til,gv,.slice ba2 BL2 bc2,.int .u64 0,.int .u64 0,.int .u64 0,.int .u64 0,.int .u64 0,.int .u64 0,.int .u64 0,.int .u64 0,.int .u64 0,.int .u64 0,.int .u64 0,.int .u64 0]:=Blk.cellsL _ _ _ _ Cv;replace R0:Blk (w5.setCells gc 5 (#[.int .u64 0,.int .u64 0,.int .u64 0,.int .u64 0,.int .u64 0,.int .u64 0,.int .u64 0,.int .u64 0,.int .u64 0,.int .u64 0,.int .u64 0,.int .u64 0]:Array Value).toList) (w.heap.size+1) z8:=Blk.cellsO (show w.heap.size+1≠gc by omega) (#[.int .u64 0,.int .u64 0,.int .u64 0,.int .u64 0,.int .u64 0,.int .u64 0,.int .u64 0,.int .u64 0,.int .u64 0,.int .u64 0,.int .u64 0,.int .u64 0]:Array Value).toList 5 w5 R0;replace bel:Below w.heap.size w (w5.setCells gc 5 (#[.int .u64 0,.int .u64 0,.int .u64 0,.int .u64 0,.int .u64 0,.int .u64 0,.int .u64 0,.int .u64 0,.int .u64 0,.int .u64 0,.int .u64 0,.int .u64 0]:Array Value).toList):=ZdY (by omega) _ _ _ bel;generalize w5.setCells _ _ _=V9 at *;clear Cv HSt HBv;have q:=HEr.out.2;have hz:=Zam.out;obtain ⟨tR,hR⟩:=R0;have HR1:Hid _:=hR;clear hR;go_wp2_with (first|((with_reducible show wpList _ _ _ (⟨_,.store _ _ _,_,_,_,_⟩::_) _ _);refine wpList_store_row rfl 33 _ _ rfl (w.heap.size+1) z8.toArray rfl rfl tR _ HR1.out (by rw[Zaf,Zai]) (by first|rfl|(rw[Zai];rfl)) Zaw ?_)|fail);refine bodyPost_ret (Zac rfl _ _ (w.heap.size+1) tR z8.toArray (0,0) _ rfl (setRow_heap _ _ _ _ _ _ HR1.out) Tryz.underlying33 rfl (by rw[Zaf,Zai])) rfl ?_;exact CrO.bad H.out (HEr.out) (below_setRow bel (by omega) _)
        | some q9 =>
         obtain⟨sx,sy⟩:=q9;obtain ⟨rs,ss,rfl,u1,u2⟩:=hok sx sy hy;have H:Hid (crD (.mk c t m b [k0,k1,k2])=some { C with body:=Zak k0,sr:=sx,ss:=sy }):=by
          show _=_;rw[ZfC,if_pos ⟨HP.out,HQ1.out⟩,HX.out,Option.bind_some,hy]
          rfl
         have HU1:Hid (U6 rs sx):=u1;have HU2:Hid (U6 ss sy):=u2;obtain ⟨x0,x1,x2,x3,x4,x5,hr,-,-⟩:=u1;obtain ⟨y0,y1,y2,y3,y4,y5,hs,-,-⟩:=u2;subst hr hs;clear hok hbad hy;have hth:w5.there gc 5 (#[.int .u64 x0,.int .u64 x1,.int .u64 x2,.int .u64 x3,.int .u64 x4,.int .u64 x5,.int .u64 y0,.int .u64 y1,.int .u64 y2,.int .u64 y3,.int .u64 y4,.int .u64 y5]:Array Value).size:=Cv.there (by show 5+12≤17;omega);have lc:=Cv.lt;go_upto_region 10 with (first|((with_reducible show wpList _ _ _ (⟨_,.store _ _ _,_,_,_,_⟩::_) _ _);refine wpList_store_mid rfl 31 _ _ rfl gc 5 #[.int .u64 x0,.int .u64 x1,.int .u64 x2,.int .u64 x3,.int .u64 x4,.int .u64 x5,.int .u64 y0,.int .u64 y1,.int .u64 y2,.int .u64 y3,.int .u64 y4,.int .u64 y5] rfl rfl hth (by rw[ZbA];rfl) (by simp[Value.oneCell']) ?_)|fail);clear hth lc;replace Cv:Blk (w5.setCells gc 5 (#[.int .u64 x0,.int .u64 x1,.int .u64 x2,.int .u64 x3,.int .u64 x4,.int .u64 x5,.int .u64 y0,.int .u64 y1,.int .u64 y2,.int .u64 y3,.int .u64 y4,.int .u64 y5]:Array Value).toList) gc [iv,.int .i64 C.frm,.int .i64 C.til,gv,.slice ba2 BL2 bc2,.int .u64 x0,.int .u64 x1,.int .u64 x2,.int .u64 x3,.int .u64 x4,.int .u64 x5,.int .u64 y0,.int .u64 y1,.int .u64 y2,.int .u64 y3,.int .u64 y4,.int .u64 y5]:=Blk.cellsL _ _ _ _ Cv;replace R0:Blk (w5.setCells gc 5 (#[.int .u64 x0,.int .u64 x1,.int .u64 x2,.int .u64 x3,.int .u64 x4,.int .u64 x5,.int .u64 y0,.int .u64 y1,.int .u64 y2,.int .u64 y3,.int .u64 y4,.int .u64 y5]:Array Value).toList) (w.heap.size+1) z8:=Blk.cellsO (show w.heap.size+1≠gc by omega) (#[.int .u64 x0,.int .u64 x1,.int .u64 x2,.int .u64 x3,.int .u64 x4,.int .u64 x5,.int .u64 y0,.int .u64 y1,.int .u64 y2,.int .u64 y3,.int .u64 y4,.int .u64 y5]:Array Value).toList 5 w5 R0;replace bel:Below w.heap.size w (w5.setCells gc 5 (#[.int .u64 x0,.int .u64 x1,.int .u64 x2,.int .u64 x3,.int .u64 x4,.int .u64 x5,.int .u64 y0,.int .u64 y1,.int .u64 y2,.int .u64 y3,.int .u64 y4,.int .u64 y5]:Array Value).toList):=ZdY (by omega) _ _ _ bel;replace HSt:Hid (StS (fun b=>NC≤b∧b≠gc) (w5.setCells gc 5 (#[.int .u64 x0,.int .u64 x1,.int .u64 x2,.int .u64 x3,.int .u64 x4,.int .u64 x5,.int .u64 y0,.int .u64 y1,.int .u64 y2,.int .u64 y3,.int .u64 y4,.int .u64 y5]:Array Value).toList) (fun w9=>Zcq w9 iv C.issuer∧Zfc w9 gv C.gone)):=HSt.out.step (Zfq (fun h=>h.2 rfl) _ _ _ (Agr.refl _ _));replace HBv:Hid (StN NB (w5.setCells gc 5 (#[.int .u64 x0,.int .u64 x1,.int .u64 x2,.int .u64 x3,.int .u64 x4,.int .u64 x5,.int .u64 y0,.int .u64 y1,.int .u64 y2,.int .u64 y3,.int .u64 y4,.int .u64 y5]:Array Value).toList) (fun w9=>Bs w9 (.slice ba2 BL2 bc2) (Zak k0))):=HBv.out.step (Zfq (by omega) _ _ _ (Agr.refl _ _));generalize w5.setCells _ _ _=V2 at *;have q:=ZaU;have hldc:(loadVar 33 ⟨gc,0,none⟩).run Tryz.prog V2=.ok (.agg #[iv,.int .i64 C.frm,.int .i64 C.til,gv,.slice ba2 BL2 bc2,.int .u64 x0,.int .u64 x1,.int .u64 x2,.int .u64 x3,.int .u64 x4,.int .u64 x5,.int .u64 y0,.int .u64 y1,.int .u64 y2,.int .u64 y3,.int .u64 y4,.int .u64 y5]) V2:=Cv.load Tryz.underlying33 rfl Zaf rfl;have lc:=Cv.lt;obtain ⟨tR,hR⟩:=R0;have HR1:Hid _:=hR;clear hR;go_wp2_with (first|((with_reducible show wpList _ _ _ (⟨_,.load _ _,_,_,_,_⟩::_) _ _);refine Zab (by rfl) (by rfl) (by rfl) hldc ?_)|((with_reducible show wpList _ _ _ (⟨_,.store _ _ _,_,_,_,_⟩::_) _ _);refine wpList_store_row rfl 33 _ _ rfl (w.heap.size+1) #[iv,.int .i64 C.frm,.int .i64 C.til,gv,.slice ba2 BL2 bc2,.int .u64 x0,.int .u64 x1,.int .u64 x2,.int .u64 x3,.int .u64 x4,.int .u64 x5,.int .u64 y0,.int .u64 y1,.int .u64 y2,.int .u64 y3,.int .u64 y4,.int .u64 y5] rfl rfl tR _ HR1.out (by rw[Zaf];rfl) rfl (by have h:=HO17.out;simp[Zca,Value.oneCell'] at h ⊢;exact ⟨h.1,h.2.1⟩) ?_)|fail);refine bodyPost_ret (Zac rfl _ _ (w.heap.size+1) tR #[iv,.int .i64 C.frm,.int .i64 C.til,gv,.slice ba2 BL2 bc2,.int .u64 x0,.int .u64 x1,.int .u64 x2,.int .u64 x3,.int .u64 x4,.int .u64 x5,.int .u64 y0,.int .u64 y1,.int .u64 y2,.int .u64 y3,.int .u64 y4,.int .u64 y5] (0,0) _ rfl (setRow_heap _ _ _ _ _ _ HR1.out) Tryz.underlying33 rfl (by rw[Zaf];rfl)) rfl ?_;exact CrO.ok (cs:=[iv,.int .i64 C.frm,.int .i64 C.til,gv,.slice ba2 BL2 bc2,.int .u64 x0,.int .u64 x1,.int .u64 x2,.int .u64 x3,.int .u64 x4,.int .u64 x5,.int .u64 y0,.int .u64 y1,.int .u64 y2,.int .u64 y3,.int .u64 y4,.int .u64 y5]) H.out (fun w9 h9=>by
          obtain⟨p1,p2⟩:=(HSt.out.step ((Agr.refl _ _).row (fun h=>by have:=h.1;omega))).to (M:=w.heap.size) (by omega) w9 h9;exact ⟨_,_,_,_,_,rfl,p1,p2,(HBv.out.row (by omega)).less (by omega) w9 h9,HU1.out,HU2.out⟩) (below_setRow bel (by omega) _)
     exact AllReadyH.nil
   exact AllReadyH.nil
 exact AllReadyH.nil
end Go.Proofs.YtohcdbifhnfcbaaGreatDoor
