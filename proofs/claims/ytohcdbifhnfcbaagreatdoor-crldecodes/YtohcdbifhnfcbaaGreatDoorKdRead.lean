import Derived.Test.YtohcdbifhnfcbaaGreatDoorKrOf
import Derived.Test.YtohcdbifhnfcbaaGreatDoorKrGnO
import Derived.Test.YtohcdbifhnfcbaaGreatDoorRdOpn
import Derived.Test.YtohcdbifhnfcbaaGreatDoorRdOf
import Derived.Test.YtohcdbifhnfcbaaGreatDoorRdRef
import Derived.Test.YtohcdbifhnfcbaaGreatDoorKdBody0
import Derived.Test.YtohcdbifhnfcbaaGreatDoorKrRg
import Derived.Test.YtohcdbifhnfcbaaGreatDoorKrUp9
import Derived.Test.YtohcdbifhnfcbaaGreatDoorRows
import Derived.Deep.OwnRows
import Derived.Deep.AppendLies
import Derived.Great.BuildSlice
import Derived.Laws.Rows
import Derived.BigQuiet
import Derived.Deep.MidRow
import Derived.Deep.WholeRow
import Derived.Deep.RegionHeld3
import Derived.Deep.DeepCutAuto
import Derived.Deep.DeepFit
namespace Go.Proofs.YtohcdbifhnfcbaaGreatDoor
open Go.RowKit
theorem RwG.cell {w:World} {base c k:Nat} {v gv:Value} {L:List Gn} (h:RwG w base gv L) (hc:c<base):RwG (w.setCell ⟨c,k,none⟩ v) base gv L:=by
 obtain⟨xs,h1,h2⟩:=h;refine ⟨xs,Za7 (S:=fun b=>base≤b) h1 ((Agr.refl _ _).cell (by omega)) (fun g hg=>(ZaB h1 hg).1),fun i g hg=>?_⟩;obtain ⟨u,k1,k2,k3⟩:=h2 i g hg;exact ⟨u,k1,k2,k3.next ((Agr.refl _ _).cell (fun h=>by have:=h.1;omega)) (fun _ h _=>h)⟩
theorem gd_nil:GdT (.mk 0 0 false [] []):=⟨by rfl,by rw[Zct,Zb7];decide,by decide,by rw[WfT,WfL];exact ⟨by decide,by decide,ZgJ,trivial⟩⟩
theorem gd_of {T U:Tl} (h:GdT T) (k:U=.mk 0 0 false [] []∨∃ i:Nat,(ZgU T)[i]?=some U):GdT U:=by
 rcases k with rfl|⟨i,hi⟩
 ·exact gd_nil
 ·obtain ⟨c,t,m,b,ks⟩:=T
  exact h.kid hi
theorem Za4 (T:Tl):crD T=(Zg1 false T).bind fun p=>(Zas p.1).bind fun C=>some { C with body:=Zak p.1,sr:=p.2.1,ss:=p.2.2 }:=by
 obtain⟨c,t,m,b,ks⟩:=T
 by_cases h:c=0∧t=16∧m=true
 ·obtain ⟨rfl,rfl,rfl⟩:=h
  by_cases h3:ks.length=3
  ·obtain ⟨x,a,s,rfl⟩:∃ x a s,ks=[x,a,s]:=by
    match ks,h3 with
    | [x,a,s],_=>exact ⟨x,a,s,rfl⟩
   rw[ZkK,ZfC]
   by_cases ha:a=ZbR
   ·rw[if_pos ⟨⟨rfl,rfl,rfl⟩,ha⟩,if_pos ha]
    cases h1:Zas x with
    | none =>
     cases h2:(ZdZ s).bind ZcX with
     | none=>rfl
     | some q=>simp[h1]
    | some C =>
     cases h2:(ZdZ s).bind ZcX with
     | none=>rfl
     | some q=>simp[h1]
   ·rw[if_neg (fun h=>ha h.2),if_neg ha]
    rfl
  ·rw[ZqX h3]
   match ks,h3 with
   | [],_=>rfl
   | [_],_=>rfl
   | [_,_],_=>rfl
   | [_,_,_],h3=>exact absurd rfl h3
   | _::_::_::_::_,_=>rfl
 ·rw[ZmA h]
  by_cases h3:ks.length=3
  ·obtain ⟨x,a,s,rfl⟩:∃ x a s,ks=[x,a,s]:=by
    match ks,h3 with
    | [x,a,s],_=>exact ⟨x,a,s,rfl⟩
   rw[ZfC,if_neg (fun k=>h k.1)]
   rfl
  ·match ks,h3 with
   | [],_=>rfl
   | [_],_=>rfl
   | [_,_],_=>rfl
   | [_,_,_],h3=>exact absurd rfl h3
   | _::_::_::_::_,_=>rfl
theorem Zlc.u {w w':World} {r:Option Int} {e:Ending} (h:Zlc w r e w'):Below w.heap.size w w'∧∃ (x:Int) (bb:Bool),e=.returned (.tuple #[.int .i64 x,.bool bb])∧Hid (bb=true→r=some x)∧Hid (bb=false→r=none):=by
 obtain⟨hb,h1,h2⟩:=h
 cases hr:r with
 | none =>
  obtain⟨x,e1⟩:=h1 hr;exact ⟨hb,x,false,e1,fun q=>(by cases q),fun _=>rfl⟩
 | some x=>exact ⟨hb,x,true,h2 x hr,fun _=>rfl,fun q=>(by cases q)⟩
theorem OfB.u {w w':World} {r:Option (List Pn)} {e:Ending} (h:OfB w r e w'):Below w.heap.size w w'∧∃ (ao:Option Addr) (n k:Nat) (m:List Pn) (bb:Bool),e=.returned (.tuple #[.slice ao n k,.bool bb])∧Hid (bb=true→r=some m∧m.length=n∧Zey w w' (.slice ao n k) m)∧Hid (bb=false→r=none):=by
 obtain⟨hb,h1,h2⟩:=h
 cases hr:r with
 | none =>
  obtain⟨ao,n,k,e1⟩:=h1 hr;exact ⟨hb,ao,n,k,[],false,e1,fun q=>(by cases q),fun _=>rfl⟩
 | some m =>
  obtain⟨ao,k,e1,e2⟩:=h2 m hr;exact ⟨hb,ao,_,k,m,true,e1,fun _=>⟨rfl,rfl,e2⟩,fun q=>(by cases q)⟩
theorem Zhm.u {w w':World} {r:Option (List Int)} {e:Ending} (h:Zhm w r e w'):Below w.heap.size w w'∧∃ (ao:Option Addr) (n k:Nat) (nb:List Int) (bb:Bool),e=.returned (.tuple #[.slice ao n k,.bool bb])∧Hid (Bs w' (.slice ao n k) nb)∧Hid (Zbg w (.slice ao n k))∧Hid (bb=true→r=some nb)∧Hid (bb=false→r=none):=by
 obtain⟨hb,ao,n,k,nb,h1,-,-,h3,h4,h5⟩:=h
 cases hr:r with
 | none=>exact ⟨hb,ao,n,k,nb,false,h4 hr,h1,h3,fun q=>(by cases q),fun _=>rfl⟩
 | some b =>
  obtain⟨rfl,e1⟩:=h5 b hr;exact ⟨hb,ao,n,k,b,true,e1,h1,h3,fun _=>rfl,fun q=>(by cases q)⟩
theorem u_Of16 {T:Tl} {cs:List Value} {w:World} (h:Zav w T cs) (gd:GdT T):Calls Tryz.prog 44 #[.agg cs.toArray] w (OfB w (okO (Zcz T))):=r16_Of h gd.wf gd.1 gd.sz
theorem Zhj {T:Tl} {cs:List Value} {w:World} (h:Zav w T cs) (gd:GdT T):Calls Tryz.prog 45 #[.agg cs.toArray] w (Zlc w (ZdW T)):=by
 obtain⟨c,t,m,b,ks⟩:=T;exact Zpc h gd.wf (by have:=gd.body;omega)
theorem Zk8 {T:Tl} {cs:List Value} {w:World} (h:Zav w T cs) (gd:GdT T):Calls Tryz.prog 47 #[.agg cs.toArray] w (Zhm w (Ze0 T)):=by
 obtain⟨c,t,m,b,ks⟩:=T;exact ZkS h gd.wf (by have:=gd.body;omega)
theorem Zeb {N M:Nat} {w w':World} (h:Agr (fun b=>N≤b) w w') (hm:N≤M):Agr (fun b=>M≤b) w w':=⟨h.1,fun b hb hl=>h.2 b (Nat.le_trans hm hb) hl⟩
def CrB (w:World) (r:Option Cr) (e:Ending) (w':World):Prop:=Below w.heap.size w w'∧(r=none→e=.returned (.tuple #[.agg z8.toArray,.bool false]))∧(∀ c,r=some c→∃ cs:List Value,e=.returned (.tuple #[.agg cs.toArray,.bool true])∧StN w.heap.size w' (fun w9=>ZcH w9 c cs))
theorem CrB.no {w w':World} {r:Option Cr} (h:r=none) (hb:Below w.heap.size w w'):CrB w r (.returned (.tuple #[.agg z8.toArray,.bool false])) w':=⟨hb,fun _=>rfl,fun n q=>(by rw[h] at q;cases q)⟩
theorem CrB.ok {w w':World} {r:Option Cr} {c:Cr} {cs:List Value} (h:r=some c) (hv:StN w.heap.size w' (fun w9=>ZcH w9 c cs)) (hb:Below w.heap.size w w'):CrB w r (.returned (.tuple #[.agg cs.toArray,.bool true])) w':=⟨hb,fun q=>(by rw[h] at q;cases q),fun m q=>(by rw[h] at q;cases q;exact ⟨cs,rfl,hv⟩)⟩
set_option linter.unusedSimpArgs false in
set_option maxRecDepth 100000 in
set_option maxHeartbeats 8000000 in
theorem Zpe {T:Tl} {cs:List Value} {w:World} (h:Zav w T cs) (gd:GdT T):Calls Tryz.prog 17 #[.agg cs.toArray] w (CrB w (crD T)):=by
 obtain⟨c,t,m,b,ks⟩:=T;have HGd:Hid (GdT (.mk c t m b ks)):=gd;clear gd;have hz:=Zam.out;have HT9:Hid (Zav w (.mk c t m b ks) cs):=h;rw[Zav] at h;obtain ⟨bv,ao,kc,hcs,hbv,-,hkm,hkk⟩:=h;have HBv:Hid (Bs w bv b):=hbv;obtain ⟨ba,bc,rfl,-,-,-⟩:=hbv;have HK:Hid (0<ks.length→∃ g o,ao=some ⟨g,o,none⟩∧Zap w ks g o):=hkk;obtain ⟨BL,hBL⟩:∃ z,b.length=z:=⟨_,rfl⟩;obtain ⟨KL,hKL⟩:∃ z,ks.length=z:=⟨_,rfl⟩;have HBL:Hid (b.length=BL):=hBL;have HKL:Hid (ks.length=KL):=hKL;have HKM:Hid (kc≤maxLen):=hkm;rw[hBL] at hcs HBv;rw[hKL] at hcs HK;clear hBL hKL hkk hkm;subst hcs;have B0:=(Blk.new w [.int .i64 c,.int .i64 t,.bool m,.slice ba BL bc,.slice ao KL kc] 53 w.heap.size rfl).alloc (.cells z8.toArray 33);have R0:=Blk.new (w.alloc (.cells #[.int .i64 c,.int .i64 t,.bool m,.slice ba BL bc,.slice ao KL kc] 53)) z8 33 (w.heap.size+1) (by simp);have bel:Below w.heap.size w ((w.alloc (.cells #[.int .i64 c,.int .i64 t,.bool m,.slice ba BL bc,.slice ao KL kc] 53)).alloc (.cells z8.toArray 33)):=((Below.refl _ _).alloc (Nat.le_refl _) _).alloc (by simp) _;go_enter Tryz.func17,Tryz.ntmps17;go_upto_region 1 with fail;generalize (w.alloc (.cells #[.int .i64 c,.int .i64 t,.bool m,.slice ba BL bc,.slice ao KL kc] 53)).alloc (.cells z8.toArray 33)=W at *;clear hz;have lW0:w.heap.size+1<W.heap.size:=R0.lt;have HWs:Hid (w.heap.size+1<W.heap.size):=lW0;have hld:(loadVar 53 ⟨w.heap.size,0,none⟩).run Tryz.prog W=.ok (.agg #[.int .i64 c,.int .i64 t,.bool m,.slice ba BL bc,.slice ao KL kc]) W:=B0.load Tryz.underlying53 rfl Zae rfl;have l0:=B0.lt;have hz:=Zaj.out;have hy:=Zew.out;go_wp2_with (first|((with_reducible show wpList _ _ _ (⟨_,.load _ _,_,_,_,_⟩::_) _ _);refine Zab (by rfl) (by rfl) (by rfl) hld ?_)|fail);refine (ZmP (HT9.out.later bel) HGd.out).mono ?_;rintro e w1 ⟨hb,U,cs1,ax,nx,kx,nb,rs,ss,x,y,bb,rfl,htu1,HNb,HNl,HU1,HU2,HNv,HUi,HO1,HO0⟩;have HGU:Hid (GdT U):=gd_of HGd.out HUi.out;replace B0:=B0.later hb;replace R0:=R0.later hb;replace bel:=Zaa bel hb;have hs1:=hb.size;have HW1:Hid (W.heap.size≤w1.heap.size):=hb.size;clear hb hld l0 HUi;obtain ⟨ts,hts⟩:∃ us,rs++ss=us:=⟨_,rfl⟩;have HT:Hid (rs++ss=ts):=hts;have HLt:Hid (ts.length=12):=by show _=_;rw[← hts,List.length_append,HU1.out.len,HU2.out.len]
 have HSt:Hid (ts.toArray.size=12):=by show _=_;rw[List.size_toArray];exact HLt.out
 have HOt:Hid (Zho ts):=by rw[← hts];exact HU1.out.ones.app HU2.out.ones
 rw[hts];clear hts;have htu1:=htu1.out;have HT1:Hid (Zav w1 U cs1):=htu1;obtain ⟨c1,t1,m1,b1,k1⟩:=U;rw[Zav] at htu1;obtain ⟨bv1,ao1,kc1,hcs1,hbv1,-,hkm1,hkk1⟩:=htu1;obtain ⟨ba1,bc1,rfl,-,-,-⟩:=hbv1;have HK1:Hid (0<k1.length→∃ g o,ao1=some ⟨g,o,none⟩∧Zap w1 k1 g o):=hkk1;obtain ⟨BL1,hBL1⟩:∃ z,b1.length=z:=⟨_,rfl⟩;obtain ⟨KL1,hKL1⟩:∃ z,k1.length=z:=⟨_,rfl⟩;have HKL1:Hid (k1.length=KL1):=hKL1;have HKM1:Hid (kc1≤maxLen):=hkm1;rw[hBL1] at hcs1;rw[hKL1] at hcs1 HK1;clear hBL1 hKL1 hkk1 hkm1;subst hcs1

 have P1:=(Blk.new w1 [.int .i64 0,.int .i64 0,.bool false,.slice none 0 0,.slice none 0 0] 53 w1.heap.size rfl).alloc (.cells #[.int .u64 0,.int .u64 0,.int .u64 0,.int .u64 0,.int .u64 0,.int .u64 0,.int .u64 0,.int .u64 0,.int .u64 0,.int .u64 0,.int .u64 0,.int .u64 0] 31);have P2:=Blk.new (w1.alloc (.cells #[.int .i64 0,.int .i64 0,.bool false,.slice none 0 0,.slice none 0 0] 53)) [.int .u64 0,.int .u64 0,.int .u64 0,.int .u64 0,.int .u64 0,.int .u64 0,.int .u64 0,.int .u64 0,.int .u64 0,.int .u64 0,.int .u64 0,.int .u64 0] 31 (w1.heap.size+1) (by simp);obtain ⟨t1',h1⟩:=P1;obtain ⟨t2',h2⟩:=P2;have HP1:Hid _:=h1;have HP2:Hid _:=(setRow_other _ w1.heap.size (w1.heap.size+1) #[.int .i64 c1,.int .i64 t1,.bool m1,.slice ba1 BL1 bc1,.slice ao1 KL1 kc1] (by omega)).trans h2;clear h1 h2;go_upto_region 2 with (first|((with_reducible show wpList _ _ _ (⟨_,.store _ _ _,_,_,_,_⟩::_) _ _);refine wpList_store_row rfl 53 _ _ rfl w1.heap.size #[.int .i64 c1,.int .i64 t1,.bool m1,.slice ba1 BL1 bc1,.slice ao1 KL1 kc1] rfl rfl t1' _ HP1.out (by rw[Zae];rfl) rfl (by simp[Value.oneCell']) ?_)|((with_reducible show wpList _ _ _ (⟨_,.store _ _ _,_,_,_,_⟩::_) _ _);refine wpList_store_row rfl 31 _ _ rfl (w1.heap.size+1) ts.toArray rfl rfl t2' _ HP2.out (by rw[Zbj,HSt.out]) (by rw[HSt.out];rfl) HOt.out ?_)|fail);clear hz hy;have B1:Blk ((((w1.alloc (.cells #[.int .i64 0,.int .i64 0,.bool false,.slice none 0 0,.slice none 0 0] 53)).alloc (.cells #[.int .u64 0,.int .u64 0,.int .u64 0,.int .u64 0,.int .u64 0,.int .u64 0,.int .u64 0,.int .u64 0,.int .u64 0,.int .u64 0,.int .u64 0,.int .u64 0] 31)).setRow w1.heap.size #[.int .i64 c1,.int .i64 t1,.bool m1,.slice ba1 BL1 bc1,.slice ao1 KL1 kc1]).setRow (w1.heap.size+1) ts.toArray) w1.heap.size [.int .i64 c1,.int .i64 t1,.bool m1,.slice ba1 BL1 bc1,.slice ao1 KL1 kc1]:=⟨t1',(setRow_other _ (w1.heap.size+1) w1.heap.size ts.toArray (by omega)).trans (setRow_heap _ _ _ _ _ _ HP1.out)⟩;have B2:Blk ((((w1.alloc (.cells #[.int .i64 0,.int .i64 0,.bool false,.slice none 0 0,.slice none 0 0] 53)).alloc (.cells #[.int .u64 0,.int .u64 0,.int .u64 0,.int .u64 0,.int .u64 0,.int .u64 0,.int .u64 0,.int .u64 0,.int .u64 0,.int .u64 0,.int .u64 0,.int .u64 0] 31)).setRow w1.heap.size #[.int .i64 c1,.int .i64 t1,.bool m1,.slice ba1 BL1 bc1,.slice ao1 KL1 kc1]).setRow (w1.heap.size+1) ts.toArray) (w1.heap.size+1) ts:=⟨t2',setRow_heap _ _ _ _ _ _ HP2.out⟩;have st1:Below w1.heap.size w1 ((((w1.alloc (.cells #[.int .i64 0,.int .i64 0,.bool false,.slice none 0 0,.slice none 0 0] 53)).alloc (.cells #[.int .u64 0,.int .u64 0,.int .u64 0,.int .u64 0,.int .u64 0,.int .u64 0,.int .u64 0,.int .u64 0,.int .u64 0,.int .u64 0,.int .u64 0,.int .u64 0] 31)).setRow w1.heap.size #[.int .i64 c1,.int .i64 t1,.bool m1,.slice ba1 BL1 bc1,.slice ao1 KL1 kc1]).setRow (w1.heap.size+1) ts.toArray):=below_setRow (below_setRow (((Below.refl _ _).alloc (Nat.le_refl _) _).alloc (by simp) _) (Nat.le_refl _) _) (by omega) _;replace B0:=B0.later st1;replace R0:=R0.later st1;replace bel:=Zaa bel st1;generalize ((((w1.alloc (.cells #[.int .i64 0,.int .i64 0,.bool false,.slice none 0 0,.slice none 0 0] 53)).alloc (.cells #[.int .u64 0,.int .u64 0,.int .u64 0,.int .u64 0,.int .u64 0,.int .u64 0,.int .u64 0,.int .u64 0,.int .u64 0,.int .u64 0,.int .u64 0,.int .u64 0] 31)).setRow w1.heap.size #[.int .i64 c1,.int .i64 t1,.bool m1,.slice ba1 BL1 bc1,.slice ao1 KL1 kc1]).setRow (w1.heap.size+1) ts.toArray)=V1 at *;obtain ⟨g1,hg1⟩:∃ z,z=w1.heap.size:=⟨_,rfl⟩;rw[← hg1] at B1 B2 ⊢;have hw1:w.heap.size+1<g1:=by omega
 clear HP1 HP2 hg1;clear hs1;have hld:(loadVar 53 ⟨g1,0,none⟩).run Tryz.prog V1=.ok (.agg #[.int .i64 c1,.int .i64 t1,.bool m1,.slice ba1 BL1 bc1,.slice ao1 KL1 kc1]) V1:=B1.load Tryz.underlying53 rfl Zae rfl;have l0:=B1.lt;go_wp2_with (first|((with_reducible show wpList _ _ _ (⟨_,.load _ _,_,_,_,_⟩::_) _ _);refine Zab (by rfl) (by rfl) (by rfl) hld ?_)|fail);refine (ZdM (HT1.out.later st1)).mono ?_;rintro e w2 ⟨rfl,hb⟩;replace B0:=B0.later hb;replace R0:=R0.later hb;replace B1:=B1.later hb;replace B2:=B2.later hb;replace bel:=Zaa bel hb;replace st1:=Zaa st1 hb;clear hb hld l0;have e4:=B1.cell 4 _ rfl;have l0:=B1.lt;rw[Zfg]
 cases bb with
 | false =>
  have H:Hid (crD (.mk c t m b ks)=none):=by show _=_;rw[Za4,HO0.out rfl];rfl
  have hz:=Zam.out;obtain ⟨tR,hR⟩:=R0;have HR1:Hid _:=hR;clear hR;go_wp2_with (first|((with_reducible show wpList _ _ _ (⟨_,.store _ _ _,_,_,_,_⟩::_) _ _);refine wpList_store_row rfl 33 _ _ rfl (w.heap.size+1) z8.toArray rfl rfl tR _ HR1.out (by rw[Zaf,Zai]) (by first|rfl|(rw[Zai];rfl)) Zaw ?_)|fail);refine bodyPost_ret (Zac rfl _ _ (w.heap.size+1) tR z8.toArray (0,0) _ rfl (setRow_heap _ _ _ _ _ _ HR1.out) Tryz.underlying33 rfl (by rw[Zaf,Zai])) rfl ?_;exact CrB.no H.out (below_setRow bel (by omega) _)
 | true =>
 have HOp:Hid (Zg1 false (.mk c t m b ks)=some (.mk c1 t1 m1 b1 k1,x,y)∧nb=Zak (.mk c1 t1 m1 b1 k1)):=HO1.out rfl;clear HO0 HO1
 by_cases hp:c1=0∧t1=16∧m1=true
 rotate_left
 ·have H:Hid (crD (.mk c t m b ks)=none):=by
   show _=_;rw[Za4,HOp.out.1,Option.bind_some];show (Zas _).bind _=_;rw[Zdz (.inl hp)]
   rfl
  rw[decide_eq_false hp];clear hp;have hz:=Zam.out;obtain ⟨tR,hR⟩:=R0;have HR1:Hid _:=hR;clear hR;go_wp2_with (first|((with_reducible show wpList _ _ _ (⟨_,.store _ _ _,_,_,_,_⟩::_) _ _);refine wpList_store_row rfl 33 _ _ rfl (w.heap.size+1) z8.toArray rfl rfl tR _ HR1.out (by rw[Zaf,Zai]) (by first|rfl|(rw[Zai];rfl)) Zaw ?_)|fail);refine bodyPost_ret (Zac rfl _ _ (w.heap.size+1) tR z8.toArray (0,0) _ rfl (setRow_heap _ _ _ _ _ _ HR1.out) Tryz.underlying33 rfl (by rw[Zaf,Zai])) rfl ?_;exact CrB.no H.out (below_setRow bel (by omega) _)
 rw[decide_eq_true hp];obtain ⟨rfl,rfl,rfl⟩:=hp
 by_cases k5:KL1<5
 ·have H:Hid (crD (.mk c t m b ks)=none):=by
   show _=_;rw[Za4,HOp.out.1,Option.bind_some];show (Zas _).bind _=_;rw[Zc5 (by rw[HKL1.out];exact k5)]
   rfl
  have d1:(KL1:Int)<5:=by omega
  clear k5;have hz:=Zam.out;obtain ⟨tR,hR⟩:=R0;have HR1:Hid _:=hR;clear hR;go_wp2_with (first|((with_reducible show wpList _ _ _ (⟨_,.store _ _ _,_,_,_,_⟩::_) _ _);refine wpList_store_row rfl 33 _ _ rfl (w.heap.size+1) z8.toArray rfl rfl tR _ HR1.out (by rw[Zaf,Zai]) (by first|rfl|(rw[Zai];rfl)) Zaw ?_)|fail);refine bodyPost_ret (Zac rfl _ _ (w.heap.size+1) tR z8.toArray (0,0) _ rfl (setRow_heap _ _ _ _ _ _ HR1.out) Tryz.underlying33 rfl (by rw[Zaf,Zai])) rfl ?_;exact CrB.no H.out (below_setRow bel (by omega) _)
 have d1:¬ (KL1:Int)<5:=by omega
 by_cases k6:6<KL1
 ·have H:Hid (crD (.mk c t m b ks)=none):=by
   show _=_;rw[Za4,HOp.out.1,Option.bind_some];show (Zas _).bind _=_;rw[Zdz (.inr (by rw[HKL1.out];exact k6))]
   rfl
  have d2:(6:Int)<(KL1:Int):=by omega
  clear k5 k6;have hz:=Zam.out;obtain ⟨tR,hR⟩:=R0;have HR1:Hid _:=hR;clear hR;go_wp2_with (first|((with_reducible show wpList _ _ _ (⟨_,.store _ _ _,_,_,_,_⟩::_) _ _);refine wpList_store_row rfl 33 _ _ rfl (w.heap.size+1) z8.toArray rfl rfl tR _ HR1.out (by rw[Zaf,Zai]) (by first|rfl|(rw[Zai];rfl)) Zaw ?_)|fail);refine bodyPost_ret (Zac rfl _ _ (w.heap.size+1) tR z8.toArray (0,0) _ rfl (setRow_heap _ _ _ _ _ _ HR1.out) Tryz.underlying33 rfl (by rw[Zaf,Zai])) rfl ?_;exact CrB.no H.out (below_setRow bel (by omega) _)
 have d2:¬ (6:Int)<(KL1:Int):=by omega
 have HK6:Hid (5≤KL1∧KL1≤6):=⟨by omega,by omega⟩;clear k5 k6;go_upto_region 6 with fail;clear d1 d2 e4 l0;obtain ⟨k0,kk1,k2,k3,k4,rest,hks⟩:∃ x0 x1 x2 x3 x4 r,k1=x0::x1::x2::x3::x4::r:=by
  have h:=HKL1.out;have h2:=HK6.out
  match k1,h with
  | x0::x1::x2::x3::x4::r,_=>exact ⟨x0,x1,x2,x3,x4,r,rfl⟩
  | [],h=>simp at h;omega
  | [_],h=>simp at h;omega
  | [_,_],h=>simp at h;omega
  | [_,_,_],h=>simp at h;omega
  | [_,_,_,_],h=>simp at h;omega
 subst hks;obtain ⟨g,o,hao,hkk⟩:=HK1.out (by have:=HK6.out;omega);subst hao;have HKg:Hid (Zap w1 (k0::kk1::k2::k3::k4::rest) g o):=hkk;have HRl:Hid (rest.length+5=KL1):=by have h:=HKL1.out;show _=_;rw[← h];rfl
 clear HK1;obtain ⟨ds0,hc0,ht0⟩:=hkk.get (i:=0) (k:=k0) rfl;have HG0:Hid (GdT k0):=HGU.out.kid (i:=0) rfl;have HTk0:Hid (Zav w1 k0 ds0):=ht0;have H50:Hid (ds0.length=5):=ht0.five;have HC0:Hid (ZdX w1 g (o) ds0):=hc0;clear hc0 ht0;obtain ⟨ds1,hc1,ht1⟩:=hkk.get (i:=1) (k:=kk1) rfl;have HG1:Hid (GdT kk1):=HGU.out.kid (i:=1) rfl;have HTk1:Hid (Zav w1 kk1 ds1):=ht1;have H51:Hid (ds1.length=5):=ht1.five;have HC1:Hid (ZdX w1 g (o+5) ds1):=hc1;clear hc1 ht1;obtain ⟨ds2,hc2,ht2⟩:=hkk.get (i:=2) (k:=k2) rfl;have HG2:Hid (GdT k2):=HGU.out.kid (i:=2) rfl;have HTk2:Hid (Zav w1 k2 ds2):=ht2;have H52:Hid (ds2.length=5):=ht2.five;have HC2:Hid (ZdX w1 g (o+10) ds2):=hc2;clear hc2 ht2;obtain ⟨ds3,hc3,ht3⟩:=hkk.get (i:=3) (k:=k3) rfl;have HG3:Hid (GdT k3):=HGU.out.kid (i:=3) rfl;have HTk3:Hid (Zav w1 k3 ds3):=ht3;have H53:Hid (ds3.length=5):=ht3.five;have HC3:Hid (ZdX w1 g (o+15) ds3):=hc3;clear hc3 ht3;obtain ⟨ds4,hc4,ht4⟩:=hkk.get (i:=4) (k:=k4) rfl;have HG4:Hid (GdT k4):=HGU.out.kid (i:=4) rfl;have HTk4:Hid (Zav w1 k4 ds4):=ht4;have H54:Hid (ds4.length=5):=ht4.five;have HC4:Hid (ZdX w1 g (o+20) ds4):=hc4;clear hc4 ht4;clear hkk;have gk0:(2:Int)<(KL1:Int):=by have:=HK6.out;omega
 have gk3:(3:Int)<(KL1:Int):=by have:=HK6.out;omega
 have gk4:(4:Int)<(KL1:Int):=by have:=HK6.out;omega
 have hld:(loadVar 53 ⟨g,o+10,none⟩).run Tryz.prog w2=.ok (.agg ds2.toArray) w2:=Zat (HC2.out.later st1) H52.out;have lg:g<w2.heap.size:=(HC2.out.later st1).1;have hlw2:g1+1<w2.heap.size:=B2.lt;go_wp2_with (first|((with_reducible show wpList _ _ _ (⟨_,.load _ _,_,_,_,_⟩::_) _ _);refine Zab (by rfl) (by rfl) (by rfl) hld ?_)|fail);refine (u_Of16 (HTk2.out.later st1) HG2.out).mono ?_;rintro e w3 h9;obtain ⟨hb,ia,IL,ic,I,ba9,rfl,HI1,HI0⟩:=h9.u;have st3:Below w3.heap.size w3 w3:=Below.refl _ _;replace B0:=B0.later hb;replace R0:=R0.later hb;replace B1:=B1.later hb;replace B2:=B2.later hb;replace bel:=Zaa bel hb;replace st1:=Zaa st1 hb;clear hb h9 hld lg gk0;have hld:(loadVar 53 ⟨g,o+15,none⟩).run Tryz.prog w3=.ok (.agg ds3.toArray) w3:=Zat (HC3.out.later st1) H53.out;have lg:g<w3.heap.size:=(HC3.out.later st1).1;go_wp2_with (first|((with_reducible show wpList _ _ _ (⟨_,.load _ _,_,_,_,_⟩::_) _ _);refine Zab (by rfl) (by rfl) (by rfl) hld ?_)|fail);refine (Zhj (HTk3.out.later st1) HG3.out).mono ?_;rintro e w4 h9;obtain ⟨hb,fr,bd9,rfl,HF1,HF0⟩:=h9.u;replace B0:=B0.later hb;replace R0:=R0.later hb;replace B1:=B1.later hb;replace B2:=B2.later hb;replace bel:=Zaa bel hb;replace st1:=Zaa st1 hb;replace st3:=Zaa st3 hb;clear hb h9 hld lg gk3;have hld:(loadVar 53 ⟨g,o+20,none⟩).run Tryz.prog w4=.ok (.agg ds4.toArray) w4:=Zat (HC4.out.later st1) H54.out;have lg:g<w4.heap.size:=(HC4.out.later st1).1;go_wp2_with (first|((with_reducible show wpList _ _ _ (⟨_,.load _ _,_,_,_,_⟩::_) _ _);refine Zab (by rfl) (by rfl) (by rfl) hld ?_)|fail);refine (Zhj (HTk4.out.later st1) HG4.out).mono ?_;rintro e w5 h9;obtain ⟨hb,ti,be9,rfl,HG1',HG0'⟩:=h9.u;replace B0:=B0.later hb;replace R0:=R0.later hb;replace B1:=B1.later hb;replace B2:=B2.later hb;replace bel:=Zaa bel hb;replace st1:=Zaa st1 hb;replace st3:=Zaa st3 hb;clear hb h9 hld lg gk4;go_upto_region 9 with fail;have gy0:0<KL1:=by have:=HK6.out;omega
 have gy1:1<KL1:=by have:=HK6.out;omega
 have gz0:(0:Int)<(KL1:Int):=by have:=HK6.out;omega
 have gz1:(1:Int)<(KL1:Int):=by have:=HK6.out;omega
 obtain⟨S1,hS1,KB1,KD1,KL1'⟩:∃ S:World→Prop,Hd S w5∧Hid (∀ wx,Hd S wx→Below w5.heap.size w5 wx)∧Hid (∀ wx,Hd S wx→Hd S wx.drew)∧Hid (∀ wa wb,Hd S wa→Below wa.heap.size wa wb→Hd S wb):=⟨fun wx=>Below w5.heap.size w5 wx,Below.refl _ _,fun _ h=>h,fun wx h=>Below.drew h,fun wa wb h hb=>Zaa h hb⟩;have HB0:Hid (Blk w5 w.heap.size [.int .i64 c,.int .i64 t,.bool m,.slice ba BL bc,.slice ao KL kc]):=B0;have HB1:Hid (Blk w5 g1 [.int .i64 0,.int .i64 16,.bool true,.slice ba1 BL1 bc1,.slice (some ⟨g,o,none⟩) KL1 kc1]):=B1;have HB2:Hid (Blk w5 (g1+1) ts):=B2;have HR0:Hid (Blk w5 (w.heap.size+1) z8):=R0;have HBel:Hid (Below w.heap.size w w5):=bel;have HSt1:Hid (Below w1.heap.size w1 w5):=st1;have HSt3:Hid (Below w3.heap.size w3 w5):=st3;have Rk0:Hid (∀ wx,Hd S1 wx→(loadVar 53 ⟨g,o,none⟩).run Tryz.prog wx=.ok (.agg ds0.toArray) wx):=fun wx h=>Zat (HC0.out.later (Zaa HSt1.out (KB1.out wx h))) H50.out;have Rk1:Hid (∀ wx,Hd S1 wx→(loadVar 53 ⟨g,o+5,none⟩).run Tryz.prog wx=.ok (.agg ds1.toArray) wx):=fun wx h=>Zat (HC1.out.later (Zaa HSt1.out (KB1.out wx h))) H51.out;clear B0 B1 B2 R0 bel st1 st3
 cases ba9 with
 | false =>
  have H:Hid (crD (.mk c t m b ks)=none):=by
   show _=_;rw[Za4,HOp.out.1,Option.bind_some];show (Zas _).bind _=_;rw[show Zas (.mk 0 16 true b1 (k0::kk1::k2::k3::k4::rest))=none from by
    rw[Zay]
    split
    ·rw[HI0.out rfl];rfl
    ·rfl]
   rfl
  refine wp_region_noPanic ?_;refine wp_region_held_drew (S:=Hd S1) (by kernel_rfl) (KD1.out _ hS1) (fun hHeld=>?_);clear hS1;generalize World.drew _=wd1 at *;refine tkA 0 ?_;refine tkA 1 ?_;refine tkA 2 ?_;refine skA 3 ?_;refine skA 4 ?_;refine tkA 5 ?_;refine tkA 6 ?_;refine skA 7 ?_;refine skA 8 ?_;refine tkA 9 ?_;refine tkA 10 ?_;refine skA 11 ?_;refine skA 12 ?_;refine skA 13 ?_;refine skA 14 ?_;refine skA 15 ?_;refine skA 16 ?_;refine tkA 17 ?_;refine tkA 18 ?_;refine skA 19 ?_;refine skA 20 ?_;refine skA 21 ?_;refine skA 22 ?_;refine skA 23 ?_;refine skA 24 ?_;refine tkA 25 ?_;refine wpAnyH_done (by kernel_rfl) ?_ _;refine NoPanic.normal ?_;have st:=KB1.out _ hHeld;have R0:=HR0.out.later st;have bel:=Zaa HBel.out st;clear hHeld Rk0 Rk1 gz0 gz1 gy0 gy1;have hz:=Zam.out;obtain ⟨tR,hR⟩:=R0;have HR1:Hid _:=hR;clear hR;go_wp2_with (first|((with_reducible show wpList _ _ _ (⟨_,.store _ _ _,_,_,_,_⟩::_) _ _);refine wpList_store_row rfl 33 _ _ rfl (w.heap.size+1) z8.toArray rfl rfl tR _ HR1.out (by rw[Zaf,Zai]) (by first|rfl|(rw[Zai];rfl)) Zaw ?_)|fail);refine bodyPost_ret (Zac rfl _ _ (w.heap.size+1) tR z8.toArray (0,0) _ rfl (setRow_heap _ _ _ _ _ _ HR1.out) Tryz.underlying33 rfl (by rw[Zaf,Zai])) rfl ?_;exact CrB.no H.out (below_setRow bel (by omega) _)
 | true =>
 have HI:Hid (okO (Zcz k2)=some I∧I.length=IL∧Zey w2 w3 (.slice ia IL ic) I):=HI1.out rfl;clear HI1 HI0
 cases bd9 with
 | false =>
  have H:Hid (crD (.mk c t m b ks)=none):=by
   show _=_;rw[Za4,HOp.out.1,Option.bind_some];show (Zas _).bind _=_;rw[show Zas (.mk 0 16 true b1 (k0::kk1::k2::k3::k4::rest))=none from by
    rw[Zay]
    split
    ·rw[HI.out.1,Option.bind_some,HF0.out rfl];rfl
    ·rfl]
   rfl
  refine wp_region_noPanic ?_;refine wp_region_held_drew (S:=Hd S1) (by kernel_rfl) (KD1.out _ hS1) (fun hHeld=>?_);clear hS1;generalize World.drew _=wd1 at *;refine tkA 0 ?_;refine tkA 1 ?_;refine tkA 2 ?_;refine tkA 3 ?_;refine tkA 4 ?_;refine tkA 5 ?_;refine tkA 6 ?_;refine skA 7 ?_;refine skA 8 ?_;refine tkA 9 ?_;refine tkA 10 ?_;refine skA 11 ?_;refine skA 12 ?_;refine skA 13 ?_;refine skA 14 ?_;refine skA 15 ?_;refine skA 16 ?_;refine tkA 17 ?_;refine tkA 18 ?_;refine skA 19 ?_;refine skA 20 ?_;refine skA 21 ?_;refine skA 22 ?_;refine skA 23 ?_;refine skA 24 ?_;refine tkA 25 ?_;refine wpAnyH_done (by kernel_rfl) ?_ _;refine NoPanic.normal ?_;have st:=KB1.out _ hHeld;have R0:=HR0.out.later st;have bel:=Zaa HBel.out st;clear hHeld Rk0 Rk1 gz0 gz1 gy0 gy1;have hz:=Zam.out;obtain ⟨tR,hR⟩:=R0;have HR1:Hid _:=hR;clear hR;go_wp2_with (first|((with_reducible show wpList _ _ _ (⟨_,.store _ _ _,_,_,_,_⟩::_) _ _);refine wpList_store_row rfl 33 _ _ rfl (w.heap.size+1) z8.toArray rfl rfl tR _ HR1.out (by rw[Zaf,Zai]) (by first|rfl|(rw[Zai];rfl)) Zaw ?_)|fail);refine bodyPost_ret (Zac rfl _ _ (w.heap.size+1) tR z8.toArray (0,0) _ rfl (setRow_heap _ _ _ _ _ _ HR1.out) Tryz.underlying33 rfl (by rw[Zaf,Zai])) rfl ?_;exact CrB.no H.out (below_setRow bel (by omega) _)
 | true =>
 have HF:Hid (ZdW k3=some fr):=HF1.out rfl;clear HF1 HF0
 cases be9 with
 | false =>
  have H:Hid (crD (.mk c t m b ks)=none):=by
   show _=_;rw[Za4,HOp.out.1,Option.bind_some];show (Zas _).bind _=_;rw[show Zas (.mk 0 16 true b1 (k0::kk1::k2::k3::k4::rest))=none from by
    rw[Zay]
    split
    ·rw[HI.out.1,Option.bind_some,HF.out,Option.bind_some,HG0'.out rfl];rfl
    ·rfl]
   rfl
  refine wp_region_noPanic ?_;refine wp_region_held_drew (S:=Hd S1) (by kernel_rfl) (KD1.out _ hS1) (fun hHeld=>?_);clear hS1;generalize World.drew _=wd1 at *;refine tkA 0 ?_;refine tkA 1 ?_;refine tkA 2 ?_;refine tkA 3 ?_;refine tkA 4 ?_;refine tkA 5 ?_;refine tkA 6 ?_;refine tkA 7 ?_;refine tkA 8 ?_;refine tkA 9 ?_;refine tkA 10 ?_;refine skA 11 ?_;refine skA 12 ?_;refine skA 13 ?_;refine skA 14 ?_;refine skA 15 ?_;refine skA 16 ?_;refine tkA 17 ?_;refine tkA 18 ?_;refine skA 19 ?_;refine skA 20 ?_;refine skA 21 ?_;refine skA 22 ?_;refine skA 23 ?_;refine skA 24 ?_;refine tkA 25 ?_;refine wpAnyH_done (by kernel_rfl) ?_ _;refine NoPanic.normal ?_;have st:=KB1.out _ hHeld;have R0:=HR0.out.later st;have bel:=Zaa HBel.out st;clear hHeld Rk0 Rk1 gz0 gz1 gy0 gy1;have hz:=Zam.out;obtain ⟨tR,hR⟩:=R0;have HR1:Hid _:=hR;clear hR;go_wp2_with (first|((with_reducible show wpList _ _ _ (⟨_,.store _ _ _,_,_,_,_⟩::_) _ _);refine wpList_store_row rfl 33 _ _ rfl (w.heap.size+1) z8.toArray rfl rfl tR _ HR1.out (by rw[Zaf,Zai]) (by first|rfl|(rw[Zai];rfl)) Zaw ?_)|fail);refine bodyPost_ret (Zac rfl _ _ (w.heap.size+1) tR z8.toArray (0,0) _ rfl (setRow_heap _ _ _ _ _ _ HR1.out) Tryz.underlying33 rfl (by rw[Zaf,Zai])) rfl ?_;exact CrB.no H.out (below_setRow bel (by omega) _)
 | true =>
 have HTi:Hid (ZdW k4=some ti):=HG1'.out rfl;clear HG1' HG0';refine wp_region_noPanic ?_;refine wp_region_held_drew (S:=Hd S1) (by kernel_rfl) (KD1.out _ hS1) (fun hHeld=>?_);clear hS1;generalize World.drew _=wd1 at *;refine tkA 0 ?_;refine tkA 1 ?_;refine tkA 2 ?_;refine tkA 3 ?_;refine tkA 4 ?_;refine tkA 5 ?_;refine tkA 6 ?_;refine tkA 7 ?_;refine tkA 8 ?_;refine tkA 9 ?_;refine tkA 10 ?_;refine tkA 11 ?_;refine tkA 12 ?_;refine trA 13 (.agg ds0.toArray) Rk0.out ?_;refine wpAnyH_ready (rs:=[14]) (by kernel_rfl) (by simp) ?_;refine AllReadyH.cons rfl (fun K hK=>?_) ?_
 ·go_simp
  refine ZfT.mono ?_;rintro e z4 ⟨dv,rfl,hd,hb⟩;refine hK.out _ _ ?_ (fun hHeld2=>?_)
  ·exact KL1'.out _ _ hHeld hb
  ·clear hK K
   try clear hHeld
   have hHeld:=hHeld2;clear hHeld2;have hDv:Hid (Dep _ z4 (Zcp 1) dv):=hd;clear hb hd;refine wpAnyH_ready (rs:=[15]) (by kernel_rfl) (by simp) ?_;refine AllReadyH.cons rfl (fun K hK=>?_) ?_
   ·have hbz:Below w1.heap.size w1 z4:=Zaa HSt1.out (KB1.out _ hHeld)
    go_simp;refine (Zfl _ k0 (Zcp 1) _ _ _ (Nat.le_refl _) HG0.out.wf ZnI (HTk0.out.later hbz) hDv.out.now).mono ?_;rintro e z5 ⟨rfl,hb⟩;refine hK.out _ _ ?_ (fun hHeld2=>?_)
    ·exact KL1'.out _ _ hHeld hb
    ·clear hK K
     try clear hHeld
     have hHeld:=hHeld2;clear hHeld2;clear hb hbz hDv;obtain ⟨sa,hsa⟩:∃ z,ZcW k0 (Zcp 1)=z:=⟨_,rfl⟩;have HS0:Hid (ZcW k0 (Zcp 1)=sa):=hsa;rw[hsa];clear hsa
     cases sa with
     | false =>
      have H:Hid (crD (.mk c t m b ks)=none):=by
       show _=_;rw[Za4,HOp.out.1,Option.bind_some];show (Zas _).bind _=_;rw[show Zas (.mk 0 16 true b1 (k0::kk1::k2::k3::k4::rest))=none from by
        rw[Zay,if_neg (fun h=>by have h9:=HS0.out;rw[ZbB h.2.2.1] at h9;cases h9)]]
       rfl
      refine tkA 16 ?_;refine tkA 17 ?_;refine tkA 18 ?_;refine skA 19 ?_;refine skA 20 ?_;refine skA 21 ?_;refine skA 22 ?_;refine skA 23 ?_;refine skA 24 ?_;refine tkA 25 ?_;refine wpAnyH_done (by kernel_rfl) ?_ _;refine NoPanic.normal ?_;have st:=KB1.out _ hHeld;have R0:=HR0.out.later st;have bel:=Zaa HBel.out st;clear hHeld Rk0 Rk1 gz0 gz1 gy0 gy1;have hz:=Zam.out;obtain ⟨tR,hR⟩:=R0;have HR1:Hid _:=hR;clear hR;go_wp2_with (first|((with_reducible show wpList _ _ _ (⟨_,.store _ _ _,_,_,_,_⟩::_) _ _);refine wpList_store_row rfl 33 _ _ rfl (w.heap.size+1) z8.toArray rfl rfl tR _ HR1.out (by rw[Zaf,Zai]) (by first|rfl|(rw[Zai];rfl)) Zaw ?_)|fail);refine bodyPost_ret (Zac rfl _ _ (w.heap.size+1) tR z8.toArray (0,0) _ rfl (setRow_heap _ _ _ _ _ _ HR1.out) Tryz.underlying33 rfl (by rw[Zaf,Zai])) rfl ?_;exact CrB.no H.out (below_setRow bel (by omega) _)
     | true =>
     refine tkA 16 ?_;refine tkA 17 ?_;refine tkA 18 ?_;refine tkA 19 ?_;refine tkA 20 ?_;refine trA 21 (.agg ds1.toArray) Rk1.out ?_;refine wpAnyH_ready (rs:=[22]) (by kernel_rfl) (by simp) ?_;refine AllReadyH.cons rfl (fun K hK=>?_) ?_
     ·go_simp
      refine Zde.mono ?_;rintro e zb ⟨da,rfl,hd,hb⟩;refine hK.out _ _ ?_ (fun hHeld2=>?_)
      ·exact KL1'.out _ _ hHeld hb
      ·clear hK K
       try clear hHeld
       have hHeld:=hHeld2;clear hHeld2;have hDa:Hid (Dep _ zb ZbR da):=hd;clear hb hd;refine wpAnyH_ready (rs:=[23]) (by kernel_rfl) (by simp) ?_;refine AllReadyH.cons rfl (fun K hK=>?_) ?_
       ·have hbz:Below w1.heap.size w1 zb:=Zaa HSt1.out (KB1.out _ hHeld)
        go_simp;refine (Zfl _ kk1 ZbR _ _ _ (Nat.le_refl _) HG1.out.wf ZnH (HTk1.out.later hbz) hDa.out.now).mono ?_;rintro e zc ⟨rfl,hb⟩;refine hK.out _ _ ?_ (fun hHeld2=>?_)
        ·exact KL1'.out _ _ hHeld hb
        ·clear hK K
         try clear hHeld
         have hHeld:=hHeld2;clear hHeld2;clear hb hbz hDa;obtain ⟨sb,hsb⟩:∃ z,ZcW kk1 ZbR=z:=⟨_,rfl⟩;have HS1:Hid (ZcW kk1 ZbR=sb):=hsb;rw[hsb];clear hsb
         cases sb with
         | false =>
          have H:Hid (crD (.mk c t m b ks)=none):=by
           show _=_;rw[Za4,HOp.out.1,Option.bind_some];show (Zas _).bind _=_;rw[show Zas (.mk 0 16 true b1 (k0::kk1::k2::k3::k4::rest))=none from by
            rw[Zay,if_neg (fun h=>by have h9:=HS1.out;rw[ZbB h.2.2.2] at h9;cases h9)]]
           rfl
          refine tkA 24 ?_;refine tkA 25 ?_;refine wpAnyH_done (by kernel_rfl) ?_ _;refine NoPanic.normal ?_;have st:=KB1.out _ hHeld;have R0:=HR0.out.later st;have bel:=Zaa HBel.out st;clear hHeld Rk0 Rk1 gz0 gz1 gy0 gy1;have hz:=Zam.out;obtain ⟨tR,hR⟩:=R0;have HR1:Hid _:=hR;clear hR;go_wp2_with (first|((with_reducible show wpList _ _ _ (⟨_,.store _ _ _,_,_,_,_⟩::_) _ _);refine wpList_store_row rfl 33 _ _ rfl (w.heap.size+1) z8.toArray rfl rfl tR _ HR1.out (by rw[Zaf,Zai]) (by first|rfl|(rw[Zai];rfl)) Zaw ?_)|fail);refine bodyPost_ret (Zac rfl _ _ (w.heap.size+1) tR z8.toArray (0,0) _ rfl (setRow_heap _ _ _ _ _ _ HR1.out) Tryz.underlying33 rfl (by rw[Zaf,Zai])) rfl ?_;exact CrB.no H.out (below_setRow bel (by omega) _)
         | true =>
         refine tkA 24 ?_;refine tkA 25 ?_;refine wpAnyH_done (by kernel_rfl) ?_ _;refine NoPanic.normal ?_;have st:=KB1.out _ hHeld;have R0:=HR0.out.later st;have bel:=Zaa HBel.out st;have B2:=HB2.out.later st;have st1:=Zaa HSt1.out st;have st3:=Zaa HSt3.out st;clear hHeld Rk0 Rk1 gz0 gz1 gy0 gy1 st;obtain ⟨w6,hw6⟩:∃ z,z=zc:=⟨_,rfl⟩;rw[← hw6] at R0 B2 bel st1 st3 ⊢;clear hw6;have HQ0:Hid (k0=Zcp 1):=Classical.byContradiction (fun hc=>by have h9:=HS0.out;rw[ZaY hc] at h9;cases h9);have HQ1:Hid (kk1=ZbR):=Classical.byContradiction (fun hc=>by have h9:=HS1.out;rw[ZaY hc] at h9;cases h9);clear HS0 HS1;have u1:=HU1.out;have u2:=HU2.out;obtain ⟨x0,x1,x2,x3,x4,x5,hr,-,-⟩:=u1;obtain ⟨y0,y1,y2,y3,y4,y5,hs,-,-⟩:=u2;subst hr hs;have hts:=HT.out;subst hts;clear HT HLt HSt HOt;have q7:∀ w:World,(Instr.build 33 #[(0,.slice ia IL ic),(1,.int .i64 fr),(2,.int .i64 ti),(4,.slice ax nx kx),(5,.agg #[.int .u64 x0,.int .u64 x1,.int .u64 x2,.int .u64 x3,.int .u64 x4,.int .u64 x5,.int .u64 y0,.int .u64 y1,.int .u64 y2,.int .u64 y3,.int .u64 y4,.int .u64 y5])]).run Tryz.prog w=.ok (.agg #[.slice ia IL ic,.int .i64 fr,.int .i64 ti,.slice none 0 0,.slice ax nx kx,.int .u64 x0,.int .u64 x1,.int .u64 x2,.int .u64 x3,.int .u64 x4,.int .u64 x5,.int .u64 y0,.int .u64 y1,.int .u64 y2,.int .u64 y3,.int .u64 y4,.int .u64 y5]) w:=fun w=>by kernel_rfl
         have hld:(loadVar 31 ⟨g1+1,0,none⟩).run Tryz.prog w6=.ok (.agg #[.int .u64 x0,.int .u64 x1,.int .u64 x2,.int .u64 x3,.int .u64 x4,.int .u64 x5,.int .u64 y0,.int .u64 y1,.int .u64 y2,.int .u64 y3,.int .u64 y4,.int .u64 y5]) w6:=B2.load Tryz.underlying31 rfl Zbj rfl;have l0:=B2.lt;have lR:=R0.lt;have hz1:=st1.size;have hz3:=st3.size;have hz:=Zam.out;have Cv:=Blk.new w6 [.slice ia IL ic,.int .i64 fr,.int .i64 ti,.slice none 0 0,.slice ax nx kx,.int .u64 x0,.int .u64 x1,.int .u64 x2,.int .u64 x3,.int .u64 x4,.int .u64 x5,.int .u64 y0,.int .u64 y1,.int .u64 y2,.int .u64 y3,.int .u64 y4,.int .u64 y5] 33 w6.heap.size rfl;have hb:=bal w6 (.cells #[.slice ia IL ic,.int .i64 fr,.int .i64 ti,.slice none 0 0,.slice ax nx kx,.int .u64 x0,.int .u64 x1,.int .u64 x2,.int .u64 x3,.int .u64 x4,.int .u64 x5,.int .u64 y0,.int .u64 y1,.int .u64 y2,.int .u64 y3,.int .u64 y4,.int .u64 y5] 33);replace R0:=R0.later hb;replace bel:=Zaa bel hb;replace st1:=Zaa st1 hb;replace st3:=Zaa st3 hb;clear hb;go_upto_region 12 with (first|(refine Zco (by rfl) (by rfl) (by rfl) (v:=.agg #[.slice ia IL ic,.int .i64 fr,.int .i64 ti,.slice none 0 0,.slice ax nx kx,.int .u64 x0,.int .u64 x1,.int .u64 x2,.int .u64 x3,.int .u64 x4,.int .u64 x5,.int .u64 y0,.int .u64 y1,.int .u64 y2,.int .u64 y3,.int .u64 y4,.int .u64 y5]) (q7 _) ?_)|((with_reducible show wpList _ _ _ (⟨_,.load _ _,_,_,_,_⟩::_) _ _);refine Zab (by rfl) (by rfl) (by rfl) hld ?_)|((with_reducible show wpList _ _ _ (⟨_,.store _ _ _,_,_,_,_⟩::_) _ _);refine wpList_store_row rfl 33 _ _ rfl w6.heap.size #[.slice ia IL ic,.int .i64 fr,.int .i64 ti,.slice none 0 0,.slice ax nx kx,.int .u64 x0,.int .u64 x1,.int .u64 x2,.int .u64 x3,.int .u64 x4,.int .u64 x5,.int .u64 y0,.int .u64 y1,.int .u64 y2,.int .u64 y3,.int .u64 y4,.int .u64 y5] rfl rfl 33 _ (heap_alloc_last _ _) (by rw[Zaf];rfl) rfl (by simp[Value.oneCell']) ?_;rw[World.setRow_alloc_new])|fail);clear hz q7 hld l0 B2;obtain ⟨gc,hgc⟩:∃ z,z=w6.heap.size:=⟨_,rfl⟩;rw[← hgc] at Cv ⊢;have lC:w.heap.size+1<gc:=by omega
         have HcN1:Hid (w1.heap.size≤gc∧w3.heap.size≤gc):=by have h1:=hz1;have h3:=hz3;show _∧_;omega
         clear hz1 hz3;generalize w6.alloc (.cells #[.slice ia IL ic,.int .i64 fr,.int .i64 ti,.slice none 0 0,.slice ax nx kx,.int .u64 x0,.int .u64 x1,.int .u64 x2,.int .u64 x3,.int .u64 x4,.int .u64 x5,.int .u64 y0,.int .u64 y1,.int .u64 y2,.int .u64 y3,.int .u64 y4,.int .u64 y5] 33)=V6 at *;clear lR hgc
         by_cases z5:KL1=5
         ·have hr0:rest=[]:=List.eq_nil_of_length_eq_zero (by have:=HRl.out;omega)
          subst hr0;have H:Hid (crD (.mk c t m b ks)=some ⟨I,fr,ti,[],Zak (.mk 0 16 true b1 (k0::kk1::k2::k3::k4 :: [])),x,y⟩):=by
           show _=_;rw[Za4,HOp.out.1,Option.bind_some];show (Zas _).bind _=_;rw[show Zas (.mk 0 16 true b1 (k0::kk1::k2::k3::k4 :: []))=some ⟨I,fr,ti,[],[],0,0⟩ from by
            rw[Zay,if_pos ⟨⟨rfl,rfl,rfl⟩,by have:=HRl.out;have:=HK6.out.2;omega,HQ0.out,HQ1.out⟩];simp only[HI.out.1,HF.out,HTi.out,Option.bind_some]
            skip]
           rfl
          have d5:((KL1:Int) == 5)=true:=by rw[z5];rfl
          clear z5;have hldc:(loadVar 33 ⟨gc,0,none⟩).run Tryz.prog V6=.ok (.agg #[.slice ia IL ic,.int .i64 fr,.int .i64 ti,.slice none 0 0,.slice ax nx kx,.int .u64 x0,.int .u64 x1,.int .u64 x2,.int .u64 x3,.int .u64 x4,.int .u64 x5,.int .u64 y0,.int .u64 y1,.int .u64 y2,.int .u64 y3,.int .u64 y4,.int .u64 y5]) V6:=Cv.load Tryz.underlying33 rfl Zaf rfl;have lc:=Cv.lt;obtain ⟨tR,hR⟩:=R0;have HR1:Hid _:=hR;clear hR;go_wp2_with (first|((with_reducible show wpList _ _ _ (⟨_,.load _ _,_,_,_,_⟩::_) _ _);refine Zab (by rfl) (by rfl) (by rfl) hldc ?_)|((with_reducible show wpList _ _ _ (⟨_,.store _ _ _,_,_,_,_⟩::_) _ _);refine wpList_store_row rfl 33 _ _ rfl (w.heap.size+1) #[.slice ia IL ic,.int .i64 fr,.int .i64 ti,.slice none 0 0,.slice ax nx kx,.int .u64 x0,.int .u64 x1,.int .u64 x2,.int .u64 x3,.int .u64 x4,.int .u64 x5,.int .u64 y0,.int .u64 y1,.int .u64 y2,.int .u64 y3,.int .u64 y4,.int .u64 y5] rfl rfl tR _ HR1.out (by rw[Zaf];rfl) rfl (by simp[Value.oneCell']) ?_)|fail);refine bodyPost_ret (Zac rfl _ _ (w.heap.size+1) tR #[.slice ia IL ic,.int .i64 fr,.int .i64 ti,.slice none 0 0,.slice ax nx kx,.int .u64 x0,.int .u64 x1,.int .u64 x2,.int .u64 x3,.int .u64 x4,.int .u64 x5,.int .u64 y0,.int .u64 y1,.int .u64 y2,.int .u64 y3,.int .u64 y4,.int .u64 y5] (0,0) _ rfl (setRow_heap _ _ _ _ _ _ HR1.out) Tryz.underlying33 rfl (by rw[Zaf];rfl)) rfl ?_;exact CrB.ok (cs:=[.slice ia IL ic,.int .i64 fr,.int .i64 ti,.slice none 0 0,.slice ax nx kx,.int .u64 x0,.int .u64 x1,.int .u64 x2,.int .u64 x3,.int .u64 x4,.int .u64 x5,.int .u64 y0,.int .u64 y1,.int .u64 y2,.int .u64 y3,.int .u64 y4,.int .u64 y5]) H.out (fun w9 ha=>⟨_,_,_,[.int .u64 x0,.int .u64 x1,.int .u64 x2,.int .u64 x3,.int .u64 x4,.int .u64 x5],[.int .u64 y0,.int .u64 y1,.int .u64 y2,.int .u64 y3,.int .u64 y4,.int .u64 y5],by rw[show IL=I.length from HI.out.2.1.symm,show nx=nb.length from HNl.out.symm];rfl,by rw[HI.out.2.1];exact HI.out.2.2 _ (((Agr.below st3).row (by omega)).trans (Zeb ha (by omega))),Zfc.nil0 _,by rw[← HOp.out.2,HNl.out];exact Zcn (S:=fun q=>W.heap.size≤q) HNb.out (fun a9 m9 c9 e9 h9=>HNv.out a9 m9 c9 e9 h9) (((Agr.below st1).row (by omega)).trans (Zeb ha (by omega))),HU1.out,HU2.out⟩) (below_setRow bel (by omega) _)
         have d5:((KL1:Int) == 5)=false:=by rw[beq_eq_false_iff_ne];omega
         obtain⟨k5,hr1⟩:∃ k5,rest=[k5]:=by
          have h:=HRl.out;have h2:=HK6.out
          match rest,h with
          | [x],_=>exact ⟨x,rfl⟩
          | [],h=>simp at h;omega
          | _::_::_,h=>simp at h;omega
         subst hr1;obtain ⟨cs5,hc5,ht5⟩:=HKg.out.get (i:=5) (k:=k5) rfl;have HC5:Hid (ZdX w1 g (o+25) cs5):=hc5;have H55:Hid (cs5.length=5):=ht5.five;have HG5:Hid (GdT k5):=HGU.out.kid (i:=5) rfl;clear hc5;have gk5:(5:Int)<(KL1:Int):=by omega
         clear z5;have HT5:Hid (Zav w1 k5 cs5):=ht5;obtain ⟨c5,t5,m5,b5,k5⟩:=k5;rw[Zav] at ht5;obtain ⟨bv5,ao5,kc5,hcs5,hbv5,-,hkm5,hkk5⟩:=ht5;obtain ⟨ba5,bc5,rfl,-,-,-⟩:=hbv5;have HK5:Hid (0<k5.length→∃ g o,ao5=some ⟨g,o,none⟩∧Zap w1 k5 g o):=hkk5;obtain ⟨BL5,hBL5⟩:∃ z,b5.length=z:=⟨_,rfl⟩;obtain ⟨KL5,hKL5⟩:∃ z,k5.length=z:=⟨_,rfl⟩;have HKL5:Hid (k5.length=KL5):=hKL5;have HKM5:Hid (kc5≤maxLen):=hkm5;rw[hBL5] at hcs5;rw[hKL5] at hcs5 HK5;clear hBL5 hKL5 hkk5 hkm5;subst hcs5

         have hld:(loadVar 53 ⟨g,o+25,none⟩).run Tryz.prog V6=.ok (.agg #[.int .i64 c5,.int .i64 t5,.bool m5,.slice ba5 BL5 bc5,.slice ao5 KL5 kc5]) V6:=Zat (HC5.out.later st1) rfl;have lg:g<V6.heap.size:=(HC5.out.later st1).1;go_wp2_with (first|((with_reducible show wpList _ _ _ (⟨_,.load _ _,_,_,_,_⟩::_) _ _);refine Zab (by rfl) (by rfl) (by rfl) hld ?_)|fail);refine (ZdM (HT5.out.later st1)).mono ?_;rintro e w7 ⟨rfl,hb⟩;replace R0:=R0.later hb;replace Cv:=Cv.later hb;replace bel:=Zaa bel hb;replace st1:=Zaa st1 hb;replace st3:=Zaa st3 hb;clear hb hld lg d5;rw[Zfg];have HCk:Hid (w1.cell? ⟨g,o+25+4,none⟩=some (.slice ao5 KL5 kc5)∧g<w1.heap.size):=⟨HC5.out.2 4 _ rfl,HC5.out.1⟩;have u4:=Zan HCk.out.1 st1;have ul:g<w7.heap.size:=Nat.lt_of_lt_of_le HCk.out.2 st1.size
         by_cases hp:c5=0∧t5=16∧m5=true
         rotate_left
         ·have H:Hid (crD (.mk c t m b ks)=none):=by
           show _=_;rw[Za4,HOp.out.1,Option.bind_some];show (Zas _).bind _=_;rw[show Zas (.mk 0 16 true b1 (k0::kk1::k2::k3::k4 :: [.mk c5 t5 m5 b5 k5]))=none from by
            rw[Zay,if_pos ⟨⟨rfl,rfl,rfl⟩,by have:=HRl.out;have:=HK6.out.2;omega,HQ0.out,HQ1.out⟩];simp only[HI.out.1,HF.out,HTi.out,Option.bind_some];show (Za5 _).bind _=none;rw[show Za5 (.mk c5 t5 m5 b5 k5)=none from by
             rw[Za1,if_neg (fun h=>hp h.1)]]
            rfl]
           rfl
          rw[decide_eq_false hp];clear hp;have hz:=Zam.out;obtain ⟨tR,hR⟩:=R0;have HR1:Hid _:=hR;clear hR;go_wp2_with (first|((with_reducible show wpList _ _ _ (⟨_,.store _ _ _,_,_,_,_⟩::_) _ _);refine wpList_store_row rfl 33 _ _ rfl (w.heap.size+1) z8.toArray rfl rfl tR _ HR1.out (by rw[Zaf,Zai]) (by first|rfl|(rw[Zai];rfl)) Zaw ?_)|fail);refine bodyPost_ret (Zac rfl _ _ (w.heap.size+1) tR z8.toArray (0,0) _ rfl (setRow_heap _ _ _ _ _ _ HR1.out) Tryz.underlying33 rfl (by rw[Zaf,Zai])) rfl ?_;exact CrB.no H.out (below_setRow bel (by omega) _)
         rw[decide_eq_true hp];have HP5:Hid (c5=0∧t5=16∧m5=true):=hp;clear hp
         by_cases z1:KL5<1
         ·have H:Hid (crD (.mk c t m b ks)=none):=by
           show _=_;rw[Za4,HOp.out.1,Option.bind_some];show (Zas _).bind _=_;rw[show Zas (.mk 0 16 true b1 (k0::kk1::k2::k3::k4 :: [.mk c5 t5 m5 b5 k5]))=none from by
            rw[Zay,if_pos ⟨⟨rfl,rfl,rfl⟩,by have:=HRl.out;have:=HK6.out.2;omega,HQ0.out,HQ1.out⟩];simp only[HI.out.1,HF.out,HTi.out,Option.bind_some];show (Za5 _).bind _=none;rw[show Za5 (.mk c5 t5 m5 b5 k5)=none from by
             rw[Za1,if_neg (fun h=>by have:=h.2.1;rw[HKL5.out] at this;omega)]]
            rfl]
           rfl
          have d1:(KL5:Int)<1:=by omega
          clear z1;have hz:=Zam.out;obtain ⟨tR,hR⟩:=R0;have HR1:Hid _:=hR;clear hR;go_wp2_with (first|((with_reducible show wpList _ _ _ (⟨_,.store _ _ _,_,_,_,_⟩::_) _ _);refine wpList_store_row rfl 33 _ _ rfl (w.heap.size+1) z8.toArray rfl rfl tR _ HR1.out (by rw[Zaf,Zai]) (by first|rfl|(rw[Zai];rfl)) Zaw ?_)|fail);refine bodyPost_ret (Zac rfl _ _ (w.heap.size+1) tR z8.toArray (0,0) _ rfl (setRow_heap _ _ _ _ _ _ HR1.out) Tryz.underlying33 rfl (by rw[Zaf,Zai])) rfl ?_;exact CrB.no H.out (below_setRow bel (by omega) _)
         have d1:¬ (KL5:Int)<1:=by omega
         by_cases z6:64<KL5
         ·have H:Hid (crD (.mk c t m b ks)=none):=by
           show _=_;rw[Za4,HOp.out.1,Option.bind_some];show (Zas _).bind _=_;rw[show Zas (.mk 0 16 true b1 (k0::kk1::k2::k3::k4 :: [.mk c5 t5 m5 b5 k5]))=none from by
            rw[Zay,if_pos ⟨⟨rfl,rfl,rfl⟩,by have:=HRl.out;have:=HK6.out.2;omega,HQ0.out,HQ1.out⟩];simp only[HI.out.1,HF.out,HTi.out,Option.bind_some];show (Za5 _).bind _=none;rw[show Za5 (.mk c5 t5 m5 b5 k5)=none from by
             rw[Za1,if_neg (fun h=>by have:=h.2.2;rw[HKL5.out] at this;omega)]]
            rfl]
           rfl
          have d2:(64:Int)<(KL5:Int):=by omega
          clear z1 z6;have hz:=Zam.out;obtain ⟨tR,hR⟩:=R0;have HR1:Hid _:=hR;clear hR;go_wp2_with (first|((with_reducible show wpList _ _ _ (⟨_,.store _ _ _,_,_,_,_⟩::_) _ _);refine wpList_store_row rfl 33 _ _ rfl (w.heap.size+1) z8.toArray rfl rfl tR _ HR1.out (by rw[Zaf,Zai]) (by first|rfl|(rw[Zai];rfl)) Zaw ?_)|fail);refine bodyPost_ret (Zac rfl _ _ (w.heap.size+1) tR z8.toArray (0,0) _ rfl (setRow_heap _ _ _ _ _ _ HR1.out) Tryz.underlying33 rfl (by rw[Zaf,Zai])) rfl ?_;exact CrB.no H.out (below_setRow bel (by omega) _)
         have d2:¬ (64:Int)<(KL5:Int):=by omega
         have HK64:Hid (0<KL5∧KL5≤64):=⟨by omega,by omega⟩;clear z1 z6;go_wp2_with fail;clear d1 d2 u4 ul;obtain ⟨N1,hN1⟩:∃ n,n=w7.heap.size:=⟨_,rfl⟩;have hs1:N1≤w7.heap.size:=by omega
         have lcN:gc<N1:=by rw[hN1];exact Cv.lt
         have HWN:Hid (W.heap.size≤N1):=by show _≤_;rw[hN1];have:=st1.size;have:=HW1.out;omega
         have st7:Below w7.heap.size w7 w7:=Below.refl _ _;clear hN1;go_loopw [17] (fun iv wx=>∃ (i:Nat) (ka:Option Addr) (kc2:Nat) (G:List Gn),i≤KL5∧iv=.int .i64 (i:Int)∧Blk wx gc [.slice ia IL ic,.int .i64 fr,.int .i64 ti,.slice ka i kc2,.slice ax nx kx,.int .u64 x0,.int .u64 x1,.int .u64 x2,.int .u64 x3,.int .u64 x4,.int .u64 x5,.int .u64 y0,.int .u64 y1,.int .u64 y2,.int .u64 y3,.int .u64 y4,.int .u64 y5]∧Hid (RwG wx N1 (.slice ka i kc2) G)∧Hid (G.length=i)∧Hid (∀ (j:Nat) (x:Tl) (y:Gn),k5[j]?=some x→G[j]?=some y→ZgR x=some y)∧Blk wx (w.heap.size+1) z8∧Below w.heap.size w wx∧Below w1.heap.size w1 wx∧Below w3.heap.size w3 wx∧N1≤wx.heap.size) (fun iv _=>KL5-(intOf iv).toNat)
         case atStart=>exact ⟨0,none,0,[],by omega,rfl,Cv,RwG.nil0 _ _,rfl,fun j x y h k=>by simp at k,R0,bel,st1,st3,hs1⟩
         case round =>
          clear Cv R0 bel st1 st3 st7 hs1;obtain ⟨i,ka,kc2,G,hi,rfl,Cv,HR,HLi,HA,R0,bel,st1,st3,hs1⟩:=hrel;have h64:=HK64.out;have u4:=Zan HCk.out.1 st1;have ul:g<wr.heap.size:=Nat.lt_of_lt_of_le HCk.out.2 st1.size
          by_cases hil:i<KL5
          rotate_left
          ·have hgi:i=KL5:=by omega
           have g1x:¬ (i:Int)<(KL5:Int):=by omega
           have HGo:Hid (Za5 (.mk c5 t5 m5 b5 k5)=some G):=by
            show _=_;rw[Za1,if_pos ⟨HP5.out,by rw[HKL5.out];exact h64.1,by rw[HKL5.out];exact h64.2⟩];exact ZgW (by rw[HKL5.out,HLi.out];exact hgi.symm) HA.out
           have H:Hid (crD (.mk c t m b ks)=some ⟨I,fr,ti,G,Zak (.mk 0 16 true b1 (k0::kk1::k2::k3::k4 :: [.mk c5 t5 m5 b5 k5])),x,y⟩):=by
            show _=_;rw[Za4,HOp.out.1,Option.bind_some];show (Zas _).bind _=_;rw[show Zas (.mk 0 16 true b1 (k0::kk1::k2::k3::k4 :: [.mk c5 t5 m5 b5 k5]))=some ⟨I,fr,ti,G,[],0,0⟩ from by
             rw[Zay,if_pos ⟨⟨rfl,rfl,rfl⟩,by have:=HRl.out;have:=HK6.out.2;omega,HQ0.out,HQ1.out⟩];simp only[HI.out.1,HF.out,HTi.out,Option.bind_some];show (Za5 _).bind _=_;rw[HGo.out]
             rfl]
            rfl
           clear HA hgi;have hldc:(loadVar 33 ⟨gc,0,none⟩).run Tryz.prog wr=.ok (.agg #[.slice ia IL ic,.int .i64 fr,.int .i64 ti,.slice ka i kc2,.slice ax nx kx,.int .u64 x0,.int .u64 x1,.int .u64 x2,.int .u64 x3,.int .u64 x4,.int .u64 x5,.int .u64 y0,.int .u64 y1,.int .u64 y2,.int .u64 y3,.int .u64 y4,.int .u64 y5]) wr:=Cv.load Tryz.underlying33 rfl Zaf rfl;have lc:=Cv.lt;obtain ⟨tR,hR⟩:=R0;have HR1:Hid _:=hR;clear hR;go_wp2_with (first|((with_reducible show wpList _ _ _ (⟨_,.load _ _,_,_,_,_⟩::_) _ _);refine Zab (by rfl) (by rfl) (by rfl) hldc ?_)|((with_reducible show wpList _ _ _ (⟨_,.store _ _ _,_,_,_,_⟩::_) _ _);refine wpList_store_row rfl 33 _ _ rfl (w.heap.size+1) #[.slice ia IL ic,.int .i64 fr,.int .i64 ti,.slice ka i kc2,.slice ax nx kx,.int .u64 x0,.int .u64 x1,.int .u64 x2,.int .u64 x3,.int .u64 x4,.int .u64 x5,.int .u64 y0,.int .u64 y1,.int .u64 y2,.int .u64 y3,.int .u64 y4,.int .u64 y5] rfl rfl tR _ HR1.out (by rw[Zaf];rfl) rfl (by simp[Value.oneCell']) ?_)|fail);refine bodyPost_ret (Zac rfl _ _ (w.heap.size+1) tR #[.slice ia IL ic,.int .i64 fr,.int .i64 ti,.slice ka i kc2,.slice ax nx kx,.int .u64 x0,.int .u64 x1,.int .u64 x2,.int .u64 x3,.int .u64 x4,.int .u64 x5,.int .u64 y0,.int .u64 y1,.int .u64 y2,.int .u64 y3,.int .u64 y4,.int .u64 y5] (0,0) _ rfl (setRow_heap _ _ _ _ _ _ HR1.out) Tryz.underlying33 rfl (by rw[Zaf];rfl)) rfl ?_;exact CrB.ok (cs:=[.slice ia IL ic,.int .i64 fr,.int .i64 ti,.slice ka i kc2,.slice ax nx kx,.int .u64 x0,.int .u64 x1,.int .u64 x2,.int .u64 x3,.int .u64 x4,.int .u64 x5,.int .u64 y0,.int .u64 y1,.int .u64 y2,.int .u64 y3,.int .u64 y4,.int .u64 y5]) H.out (fun w9 ha=>⟨_,_,_,[.int .u64 x0,.int .u64 x1,.int .u64 x2,.int .u64 x3,.int .u64 x4,.int .u64 x5],[.int .u64 y0,.int .u64 y1,.int .u64 y2,.int .u64 y3,.int .u64 y4,.int .u64 y5],by rw[show IL=I.length from HI.out.2.1.symm,show nx=nb.length from HNl.out.symm];rfl,by rw[HI.out.2.1];exact HI.out.2.2 _ (((Agr.below st3).row (by omega)).trans (Zeb ha (by omega))),by rw[show i=G.length from HLi.out.symm];exact (by rw[HLi.out];exact RwG.new HR.out HWN.out _ (((Agr.refl _ _).row (by omega)).trans (Zeb ha (by omega)))),by rw[← HOp.out.2,HNl.out];exact Zcn (S:=fun q=>W.heap.size≤q) HNb.out (fun a9 m9 c9 e9 h9=>HNv.out a9 m9 c9 e9 h9) (((Agr.below st1).row (by omega)).trans (Zeb ha (by omega))),HU1.out,HU2.out⟩) (below_setRow bel (by omega) _)
          have g1x:(i:Int)<(KL5:Int):=by omega
          have g2x:(0:Int)≤(i:Int):=by omega
          have gi:IntKind.i64.wrap ((i:Int)+1)=(i:Int)+1:=by rw[IntKind.wrap_i64];omega
          obtain⟨k,hkk⟩:=ZbI (ks:=k5) (i:=i) (by rw[HKL5.out];exact hil);obtain ⟨g5,o5,hao5,hks⟩:=HK5.out (by omega);obtain ⟨csp,hcs,htp⟩:=hks.get hkk;subst hao5;have HKK:Hid (k5[i]?=some k):=hkk;have HGk:Hid (GdT k):=HG5.out.kid hkk;have hld:(loadVar 53 ⟨g5,o5+i*5,none⟩).run Tryz.prog wr=.ok (.agg csp.toArray) wr:=Zat (by rw[Nat.mul_comm];exact hcs.later st1) htp.five;have lg:g5<wr.heap.size:=(hcs.later st1).1;clear hkk hks hcs;have HTp:Hid (Zav w1 k csp):=htp;obtain ⟨cp,tp,mp,bp,kp⟩:=k;rw[Zav] at htp;obtain ⟨bvp,aop,kcp,hcsp,hbvp,-,hkmp,hkkp⟩:=htp;obtain ⟨bap,bcp,rfl,-,-,-⟩:=hbvp;have HKp:Hid (0<kp.length→∃ g o,aop=some ⟨g,o,none⟩∧Zap w1 kp g o):=hkkp;obtain ⟨BLp,hBLp⟩:∃ z,bp.length=z:=⟨_,rfl⟩;obtain ⟨KLp,hKLp⟩:∃ z,kp.length=z:=⟨_,rfl⟩;have HKLp:Hid (kp.length=KLp):=hKLp;have HKMp:Hid (kcp≤maxLen):=hkmp;rw[hBLp] at hcsp;rw[hKLp] at hcsp HKp;clear hBLp hKLp hkkp hkmp;subst hcsp

          obtain⟨M,hM⟩:∃ n,n=wr.heap.size:=⟨_,rfl⟩;have HM9:Hid (∀ b,(Value.slice ka i kc2).ownBlock=some b→N1≤b∧b<M):=fun b h9=>by rw[hM];exact HR.out.ltE h9
          have HNM:Hid (N1≤M):=by show _≤_;omega
          have hz:=Zaj.out;have hbx:=bal wr (.cells #[.int .i64 cp,.int .i64 tp,.bool mp,.slice bap BLp bcp,.slice aop KLp kcp] 53);have Bk:=Blk.new wr [.int .i64 cp,.int .i64 tp,.bool mp,.slice bap BLp bcp,.slice aop KLp kcp] 53 wr.heap.size rfl;replace Cv:=Cv.later hbx;replace R0:=R0.later hbx;replace HR:Hid (RwG (wr.alloc (.cells #[.int .i64 cp,.int .i64 tp,.bool mp,.slice bap BLp bcp,.slice aop KLp kcp] 53)) N1 (.slice ka i kc2) G):=HR.out.later hbx;replace bel:=Zaa bel hbx;replace st1:=Zaa st1 hbx;replace st3:=Zaa st3 hbx;replace hs1:N1≤(wr.alloc (.cells #[.int .i64 cp,.int .i64 tp,.bool mp,.slice bap BLp bcp,.slice aop KLp kcp] 53)).heap.size:=Nat.le_trans hs1 (hbx).size;clear hbx;go_upto_region 21 with (first|((with_reducible show wpList _ _ _ (⟨_,.load _ _,_,_,_,_⟩::_) _ _);refine Zab (by rfl) (by rfl) (by rfl) hld ?_)|((with_reducible show wpList _ _ _ (⟨_,.store _ _ _,_,_,_,_⟩::_) _ _);refine wpList_store_row rfl 53 _ _ rfl wr.heap.size #[.int .i64 cp,.int .i64 tp,.bool mp,.slice bap BLp bcp,.slice aop KLp kcp] rfl rfl 53 _ (heap_alloc_last _ _) (by rw[Zae];rfl) rfl (by simp[Value.oneCell']) ?_;rw[World.setRow_alloc_new])|fail);clear hz hld lg u4 ul;rw[← hM] at Bk ⊢;have hsm:M≤(wr.alloc (.cells #[.int .i64 cp,.int .i64 tp,.bool mp,.slice bap BLp bcp,.slice aop KLp kcp] 53)).heap.size:=by rw[hM];simp
          generalize (wr.alloc (.cells #[.int .i64 cp,.int .i64 tp,.bool mp,.slice bap BLp bcp,.slice aop KLp kcp] 53))=V8 at *;clear hM;have hld1:(loadVar 53 ⟨M,0,none⟩).run Tryz.prog V8=.ok (.agg #[.int .i64 cp,.int .i64 tp,.bool mp,.slice bap BLp bcp,.slice aop KLp kcp]) V8:=Bk.load Tryz.underlying53 rfl Zae rfl;have l1:=Bk.lt;go_wp2_with (first|((with_reducible show wpList _ _ _ (⟨_,.load _ _,_,_,_,_⟩::_) _ _);refine Zab (by rfl) (by rfl) (by rfl) hld1 ?_)|fail);refine (ZdM (HTp.out.later st1)).mono ?_;rintro e w8 ⟨rfl,hb⟩;replace Cv:=Cv.later hb;replace R0:=R0.later hb;replace HR:Hid (RwG w8 N1 (.slice ka i kc2) G):=HR.out.later hb;replace bel:=Zaa bel hb;replace st1:=Zaa st1 hb;replace st3:=Zaa st3 hb;replace hs1:N1≤w8.heap.size:=Nat.le_trans hs1 (hb).size;replace Bk:=Bk.later hb;replace hsm:=hsl hsm hb;clear hb hld1 l1;rw[Zfg];have e4:=Bk.cell 4 _ rfl;have l1:=Bk.lt
          by_cases hp:cp=0∧tp=16∧mp=true
          rotate_left
          ·have H:Hid (crD (.mk c t m b ks)=none):=by
            show _=_;rw[Za4,HOp.out.1,Option.bind_some];show (Zas _).bind _=_;rw[show Zas (.mk 0 16 true b1 (k0::kk1::k2::k3::k4 :: [.mk c5 t5 m5 b5 k5]))=none from by
             rw[Zay,if_pos ⟨⟨rfl,rfl,rfl⟩,by have:=HRl.out;have:=HK6.out.2;omega,HQ0.out,HQ1.out⟩];simp only[HI.out.1,HF.out,HTi.out,Option.bind_some];show (Za5 _).bind _=none;rw[show Za5 (.mk c5 t5 m5 b5 k5)=none from by
              rw[Za1]
              split
              ·exact (Zb0 (List.mem_of_getElem? HKK.out) (Zjn hp))
              ·rfl]
             rfl]
            rfl
           rw[decide_eq_false hp];clear hp;have hz:=Zam.out;obtain ⟨tR,hR⟩:=R0;have HR1:Hid _:=hR;clear hR;go_wp2_with (first|((with_reducible show wpList _ _ _ (⟨_,.store _ _ _,_,_,_,_⟩::_) _ _);refine wpList_store_row rfl 33 _ _ rfl (w.heap.size+1) z8.toArray rfl rfl tR _ HR1.out (by rw[Zaf,Zai]) (by first|rfl|(rw[Zai];rfl)) Zaw ?_)|fail);refine bodyPost_ret (Zac rfl _ _ (w.heap.size+1) tR z8.toArray (0,0) _ rfl (setRow_heap _ _ _ _ _ _ HR1.out) Tryz.underlying33 rfl (by rw[Zaf,Zai])) rfl ?_;exact CrB.no H.out (below_setRow bel (by omega) _)
          rw[decide_eq_true hp];have HPp:Hid (cp=0∧tp=16∧mp=true):=hp;clear hp
          by_cases z2:KLp=2
          rotate_left
          ·have H0:Hid (¬ kp.length=2):=by show ¬ _;rw[HKLp.out];exact z2
           have H:Hid (crD (.mk c t m b ks)=none):=by
            show _=_;rw[Za4,HOp.out.1,Option.bind_some];show (Zas _).bind _=_;rw[show Zas (.mk 0 16 true b1 (k0::kk1::k2::k3::k4 :: [.mk c5 t5 m5 b5 k5]))=none from by
             rw[Zay,if_pos ⟨⟨rfl,rfl,rfl⟩,by have:=HRl.out;have:=HK6.out.2;omega,HQ0.out,HQ1.out⟩];simp only[HI.out.1,HF.out,HTi.out,Option.bind_some];show (Za5 _).bind _=none;rw[show Za5 (.mk c5 t5 m5 b5 k5)=none from by
              rw[Za1]
              split
              ·exact (Zb0 (List.mem_of_getElem? HKK.out) (ZfI H0.out))
              ·rfl]
             rfl]
            rfl
           have d1:((KLp:Int) == 2)=false:=by rw[beq_eq_false_iff_ne];omega
           have d2:((KLp:Int) != 2)=true:=by rw[bne,d1];rfl
           clear z2;have hz:=Zam.out;obtain ⟨tR,hR⟩:=R0;have HR1:Hid _:=hR;clear hR;go_wp2_with (first|((with_reducible show wpList _ _ _ (⟨_,.store _ _ _,_,_,_,_⟩::_) _ _);refine wpList_store_row rfl 33 _ _ rfl (w.heap.size+1) z8.toArray rfl rfl tR _ HR1.out (by rw[Zaf,Zai]) (by first|rfl|(rw[Zai];rfl)) Zaw ?_)|fail);refine bodyPost_ret (Zac rfl _ _ (w.heap.size+1) tR z8.toArray (0,0) _ rfl (setRow_heap _ _ _ _ _ _ HR1.out) Tryz.underlying33 rfl (by rw[Zaf,Zai])) rfl ?_;exact CrB.no H.out (below_setRow bel (by omega) _)
          subst z2;obtain ⟨s,u,hk2⟩:∃ s u,kp=[s,u]:=by
           have h:=HKLp.out
           match kp,h with
           | [s,u],_=>exact ⟨s,u,rfl⟩
          subst hk2;obtain ⟨g6,o6,hao,hks⟩:=HKp.out (by omega);subst hao;obtain ⟨cs7,hc7,ht7⟩:=hks.get (i:=0) (k:=s) rfl;obtain ⟨cs8,hc8,ht8⟩:=hks.get (i:=1) (k:=u) rfl;rw[Nat.mul_zero,Nat.add_zero] at hc7;rw[Nat.mul_one] at hc8;have HGs:Hid (GdT s):=HGk.out.kid (i:=0) rfl;have HGu:Hid (GdT u):=HGk.out.kid (i:=1) rfl;have HTs:Hid (Zav w1 s cs7):=ht7;have HTu:Hid (Zav w1 u cs8):=ht8;have HCu:Hid (ZdX w1 g6 (o6+5) cs8):=hc8;have H5u:Hid (cs8.length=5):=ht8.five;have hld2:(loadVar 53 ⟨g6,o6,none⟩).run Tryz.prog w8=.ok (.agg cs7.toArray) w8:=Zat (hc7.later st1) ht7.five;have lg:g6<w8.heap.size:=(hc7.later st1).1;clear hks hc7 ht7 hc8 ht8;go_wp2_with (first|((with_reducible show wpList _ _ _ (⟨_,.load _ _,_,_,_,_⟩::_) _ _);refine Zab (by rfl) (by rfl) (by rfl) hld2 ?_)|fail);refine (Zk8 (HTs.out.later st1) HGs.out).mono ?_;rintro e w9 h9;obtain ⟨hb,va,VL,vc,n,b1',rfl,HSv,HSn,HS1',HS0'⟩:=h9.u;have HBn:Hid (BsD (fun b=>M≤b) w9 (.slice va VL vc) n):=BsD.of HSv.out (fun a9 m9 c9 e9 h0=>Nat.le_trans hsm (HSn.out a9 m9 c9 e9 h0));replace Cv:=Cv.later hb;replace R0:=R0.later hb;replace HR:Hid (RwG w9 N1 (.slice ka i kc2) G):=HR.out.later hb;replace bel:=Zaa bel hb;replace st1:=Zaa st1 hb;replace st3:=Zaa st3 hb;replace hs1:N1≤w9.heap.size:=Nat.le_trans hs1 (hb).size;replace Bk:=Bk.later hb;replace hsm:=hsl hsm hb;clear hb h9 hld2 lg e4 l1 HSv HSn;have e4:=Bk.cell 4 _ rfl;have l1:=Bk.lt;have hld3:(loadVar 53 ⟨g6,o6+5,none⟩).run Tryz.prog w9=.ok (.agg cs8.toArray) w9:=Zat (HCu.out.later st1) H5u.out;have lg:g6<w9.heap.size:=(HCu.out.later st1).1;go_wp2_with (first|((with_reducible show wpList _ _ _ (⟨_,.load _ _,_,_,_,_⟩::_) _ _);refine Zab (by rfl) (by rfl) (by rfl) hld3 ?_)|fail);refine (Zhj (HTu.out.later st1) HGu.out).mono ?_;rintro e wa h9;obtain ⟨hb,at9,b2',rfl,HQ1',HQ0'⟩:=h9.u;replace HBn:Hid (BsD (fun b=>M≤b) wa (.slice va VL vc) n):=HBn.out.next (Agr.below hb) (fun _ h _=>h);replace Cv:=Cv.later hb;replace R0:=R0.later hb;replace HR:Hid (RwG wa N1 (.slice ka i kc2) G):=HR.out.later hb;replace bel:=Zaa bel hb;replace st1:=Zaa st1 hb;replace st3:=Zaa st3 hb;replace hs1:N1≤wa.heap.size:=Nat.le_trans hs1 (hb).size;replace hsm:=hsl hsm hb;clear hb h9 hld3 lg e4 l1 Bk
          cases b1' with
          | false =>
           have H:Hid (crD (.mk c t m b ks)=none):=by
            show _=_;rw[Za4,HOp.out.1,Option.bind_some];show (Zas _).bind _=_;rw[show Zas (.mk 0 16 true b1 (k0::kk1::k2::k3::k4 :: [.mk c5 t5 m5 b5 k5]))=none from by
             rw[Zay,if_pos ⟨⟨rfl,rfl,rfl⟩,by have:=HRl.out;have:=HK6.out.2;omega,HQ0.out,HQ1.out⟩];simp only[HI.out.1,HF.out,HTi.out,Option.bind_some];show (Za5 _).bind _=none;rw[show Za5 (.mk c5 t5 m5 b5 k5)=none from by
              rw[Za1]
              split
              ·exact (Zb0 (List.mem_of_getElem? HKK.out) (by rw[Zc8,if_pos HPp.out,HS0'.out rfl];rfl))
              ·rfl]
             rfl]
            rfl
           have hz:=Zam.out;obtain ⟨tR,hR⟩:=R0;have HR1:Hid _:=hR;clear hR;go_wp2_with (first|((with_reducible show wpList _ _ _ (⟨_,.store _ _ _,_,_,_,_⟩::_) _ _);refine wpList_store_row rfl 33 _ _ rfl (w.heap.size+1) z8.toArray rfl rfl tR _ HR1.out (by rw[Zaf,Zai]) (by first|rfl|(rw[Zai];rfl)) Zaw ?_)|fail);refine bodyPost_ret (Zac rfl _ _ (w.heap.size+1) tR z8.toArray (0,0) _ rfl (setRow_heap _ _ _ _ _ _ HR1.out) Tryz.underlying33 rfl (by rw[Zaf,Zai])) rfl ?_;exact CrB.no H.out (below_setRow bel (by omega) _)
          | true =>
          have HS:Hid (Ze0 s=some n):=HS1'.out rfl;clear HS1' HS0'
          cases b2' with
          | false =>
           have H:Hid (crD (.mk c t m b ks)=none):=by
            show _=_;rw[Za4,HOp.out.1,Option.bind_some];show (Zas _).bind _=_;rw[show Zas (.mk 0 16 true b1 (k0::kk1::k2::k3::k4 :: [.mk c5 t5 m5 b5 k5]))=none from by
             rw[Zay,if_pos ⟨⟨rfl,rfl,rfl⟩,by have:=HRl.out;have:=HK6.out.2;omega,HQ0.out,HQ1.out⟩];simp only[HI.out.1,HF.out,HTi.out,Option.bind_some];show (Za5 _).bind _=none;rw[show Za5 (.mk c5 t5 m5 b5 k5)=none from by
              rw[Za1]
              split
              ·exact (Zb0 (List.mem_of_getElem? HKK.out) (by rw[Zc8,if_pos HPp.out,HS.out,Option.bind_some,HQ0'.out rfl];rfl))
              ·rfl]
             rfl]
            rfl
           have hz:=Zam.out;obtain ⟨tR,hR⟩:=R0;have HR1:Hid _:=hR;clear hR;go_wp2_with (first|((with_reducible show wpList _ _ _ (⟨_,.store _ _ _,_,_,_,_⟩::_) _ _);refine wpList_store_row rfl 33 _ _ rfl (w.heap.size+1) z8.toArray rfl rfl tR _ HR1.out (by rw[Zaf,Zai]) (by first|rfl|(rw[Zai];rfl)) Zaw ?_)|fail);refine bodyPost_ret (Zac rfl _ _ (w.heap.size+1) tR z8.toArray (0,0) _ rfl (setRow_heap _ _ _ _ _ _ HR1.out) Tryz.underlying33 rfl (by rw[Zaf,Zai])) rfl ?_;exact CrB.no H.out (below_setRow bel (by omega) _)
          | true =>
          have HU:Hid (ZdW u=some at9):=HQ1'.out rfl;clear HQ1' HQ0';go_upto_region 28 with fail;have HF:=Zjl (a:=.slice va VL vc) (b:=.int .i64 at9);obtain ⟨jg,hjg,hg0,hg1,hg2⟩:=ZaO ZgT;have hzg:=ZjU;have hbx:=bal wa (.cells #[.slice va VL vc,.int .i64 at9] 64);have B5:=Blk.new wa [.slice va VL vc,.int .i64 at9] 64 wa.heap.size rfl;replace HBn:Hid (BsD (fun b=>M≤b) (wa.alloc (.cells #[.slice va VL vc,.int .i64 at9] 64)) (.slice va VL vc) n):=HBn.out.next (Agr.below hbx) (fun _ h _=>h);have e3:=Cv.cell 3 _ rfl;have l3:=Cv.lt;replace Cv:=Cv.later hbx;replace R0:=R0.later hbx;replace HR:Hid (RwG (wa.alloc (.cells #[.slice va VL vc,.int .i64 at9] 64)) N1 (.slice ka i kc2) G):=HR.out.later hbx;replace bel:=Zaa bel hbx;replace st1:=Zaa st1 hbx;replace st3:=Zaa st3 hbx;replace hs1:N1≤(wa.alloc (.cells #[.slice va VL vc,.int .i64 at9] 64)).heap.size:=Nat.le_trans hs1 (hbx).size;replace hsm:=hsl hsm hbx;clear hbx;have HNM2:=HNM.out;have CvX:=Cv;have cj:=CvX.frozen 3;go_wp2_with (first|((with_reducible show wpList _ _ _ (⟨_,.buildSlice _ _ _,_,_,_,_⟩::_) _ _);refine Go.wpList_buildSlice rfl 26 64 1 _ rfl #[.slice va VL vc,.int .i64 at9] jg _ Tryz.underlying26 hjg hg0 (by rw[hg1];decide) (by rw[hg1];decide) (by rw[hg1];refine (congrArg _ (?_:_=[(0,Value.agg #[.slice va VL vc,.int .i64 at9])])).trans HF;kernel_rfl) ?_)|(at_builtin;refine Zdj (by rfl) _ _ (by rfl) N1 (.slice ka i kc2) G (by rfl) HR.out wa.heap.size (by rfl) (.slice va VL vc) at9 B5 rfl n (HBn.out.next (Agr.refl _ _) (fun b h9 _=>⟨Nat.le_trans HNM2 h9,fun e9=>by have h8:M≤b:=h9;have:=(HM9.out b e9).2;omega⟩)) (by rw[HLi.out];omega) (by omega) ?_;intro gv9 wz hr9 hgrow9 hge9;obtain ⟨ka9,kc9,hkv9⟩:=hr9.sl;have HK9:(G++[(n,at9)]).length=i+1:=(by rw[List.length_append,HLi.out];rfl);rw[HK9] at hkv9;subst hkv9;have CvG:Blk wz gc [.slice ia IL ic,.int .i64 fr,.int .i64 ti,.slice ka i kc2,.slice ax nx kx,.int .u64 x0,.int .u64 x1,.int .u64 x2,.int .u64 x3,.int .u64 x4,.int .u64 x5,.int .u64 y0,.int .u64 y1,.int .u64 y2,.int .u64 y3,.int .u64 y4,.int .u64 y5]:=CvX.grown hgrow9 (fun k hk e=>by have:=hge9 k hk;omega);have czj:=CvG.cell 3 _ rfl;have czf:=CvG.frozen 3;have czl:=CvG.lt;clear HK9)|fail)

          have hzb:=bel.size;have hzb1:=st1.size;have hzb3:=st3.size;have lw1:=HW1.out;have HRn:Hid (RwG (wz.setCell ⟨gc,3,none⟩ (.slice ka9 (i+1) kc9)) N1 (.slice ka9 (i+1) kc9) (G++[(n,at9)])):=RwG.cell hr9 (by omega);replace Cv:Blk (wz.setCell ⟨gc,3,none⟩ (.slice ka9 (i+1) kc9)) gc [.slice ia IL ic,.int .i64 fr,.int .i64 ti,.slice ka9 (i+1) kc9,.slice ax nx kx,.int .u64 x0,.int .u64 x1,.int .u64 x2,.int .u64 x3,.int .u64 x4,.int .u64 x5,.int .u64 y0,.int .u64 y1,.int .u64 y2,.int .u64 y3,.int .u64 y4,.int .u64 y5]:=CvG.set 3 _;replace R0:=(R0.grown hgrow9 (fun k hk e=>by have:=hge9 k hk;omega)).other ⟨gc,3,none⟩ (.slice ka9 (i+1) kc9) (by show _≠gc;omega);replace bel:=(Below.grown bel hgrow9 hzb (fun k hk=>by have:=hge9 k hk;omega)).setCell (p:=⟨gc,3,none⟩) (by show _≤gc;omega) (.slice ka9 (i+1) kc9);replace st1:=(Below.grown st1 hgrow9 hzb1 (fun k hk=>by have:=hge9 k hk;have:=HcN1.out;omega)).setCell (p:=⟨gc,3,none⟩) (by show _≤gc;have:=HcN1.out;omega) (.slice ka9 (i+1) kc9);replace st3:=(Below.grown st3 hgrow9 hzb3 (fun k hk=>by have:=hge9 k hk;have:=HcN1.out;omega)).setCell (p:=⟨gc,3,none⟩) (by show _≤gc;have:=HcN1.out;omega) (.slice ka9 (i+1) kc9);have hs9:N1≤(wz.setCell ⟨gc,3,none⟩ (.slice ka9 (i+1) kc9)).heap.size:=by have:=hgrow9.size;simp;omega
          have HLn:Hid ((G++[(n,at9)]).length=i+1):=by show _=_;rw[List.length_append,HLi.out];rfl
          have HAn:Hid (∀ (j:Nat) (x:Tl) (y:Gn),k5[j]?=some x→(G++[(n,at9)])[j]?=some y→ZgR x=some y):=fun j x y hx hy=>by
           by_cases hj:j<G.length
           ·rw[List.getElem?_append_left hj] at hy
            exact HA.out j x y hx hy
           ·have hj2:=(List.getElem?_eq_some_iff.1 hy).1
            rw[List.length_append] at hj2;obtain rfl:j=G.length:=by simp at hj2;omega
            rw[List.getElem?_append_right (Nat.le_refl _),Nat.sub_self] at hy;simp only[List.getElem?_cons_zero,Option.some.injEq] at hy;rw[HLi.out,HKK.out] at hx
            cases hx
            rw[← hy,Zc8,if_pos HPp.out,HS.out,Option.bind_some,HU.out]
            rfl
          clear hgrow9 hge9 hr9 HR HA HLi HBn B5 HF hzg hzb hzb1 hzb3 CvX CvG czj czf czl cj e3 l3 HNM2;generalize wz.setCell _ _=Vz at *;go_roundw
          case rel=>exact ⟨i+1,ka9,kc9,_,by omega,by go_num,Cv,HRn,HLn,HAn,R0,bel,st1,st3,hs9⟩
          case measure=>simp[intOf];omega
       exact AllReadyH.nil
     exact AllReadyH.nil
   exact AllReadyH.nil
 exact AllReadyH.nil
end Go.Proofs.YtohcdbifhnfcbaaGreatDoor
