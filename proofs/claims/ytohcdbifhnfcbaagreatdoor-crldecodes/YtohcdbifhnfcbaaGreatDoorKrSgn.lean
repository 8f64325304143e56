import Derived.Test.YtohcdbifhnfcbaaGreatDoorKrGnO
import Derived.Test.YtohcdbifhnfcbaaGreatDoorKrSame
import Derived.Test.YtohcdbifhnfcbaaGreatDoorKrUp9
import Derived.Test.YtohcdbifhnfcbaaGreatDoorNlPG
import Derived.Test.YtohcdbifhnfcbaaGreatDoorKrRg
import Derived.Test.YtohcdbifhnfcbaaGreatDoorRows
import Derived.Deep.OwnRows
import Derived.Deep.AppendLies
import Derived.Great.BuildSlice
import Derived.Laws.Rows
import Derived.BigQuiet
import Derived.Deep.WholeRow
import Derived.Deep.RegionHeld3
import Derived.Deep.DeepCutAuto
import Derived.Deep.DeepFit
namespace Go.Proofs.YtohcdbifhnfcbaaGreatDoor
open Go.RowKit
def StN (N:Nat) (w:World) (P:World→Prop):Prop:=∀ w2,Agr (fun b=>N≤b) w w2→P w2
theorem StN.step {N:Nat} {w w':World} {P:World→Prop} (h:StN N w P) (ha:Agr (fun b=>N≤b) w w'):StN N w' P:=fun w2 h2=>h w2 (ha.trans h2)
theorem StN.below {N:Nat} {w w':World} {P:World→Prop} (h:StN N w P) (hb:Below w.heap.size w w'):StN N w' P:=h.step (Agr.below hb)
theorem StN.cell {N c k:Nat} {v:Value} {w:World} {P:World→Prop} (h:StN N w P) (hc:c<N):StN N (w.setCell ⟨c,k,none⟩ v) P:=h.step ((Agr.refl _ _).cell (by omega))
theorem StN.row {N c:Nat} {X:Array Value} {w:World} {P:World→Prop} (h:StN N w P) (hc:c<N):StN N (w.setRow c X) P:=h.step ((Agr.refl _ _).row (by omega))
theorem StN.less {N M:Nat} {w:World} {P:World→Prop} (h:StN N w P) (hm:M≤N):StN M w P:=fun w2 h2=>h w2 ⟨h2.1,fun b hb hl=>h2.2 b (Nat.le_trans hm hb) hl⟩
def StS (S:Nat→Prop) (w:World) (P:World→Prop):Prop:=∀ w2,Agr S w w2→P w2
theorem StS.step {S:Nat→Prop} {w w':World} {P:World→Prop} (h:StS S w P) (ha:Agr S w w'):StS S w' P:=fun w2 h2=>h w2 (ha.trans h2)
theorem StS.below {S:Nat→Prop} {w w':World} {P:World→Prop} (h:StS S w P) (hb:Below w.heap.size w w'):StS S w' P:=h.step (Agr.below hb)
theorem StN.but {N g:Nat} {w:World} {P:World→Prop} (h:StN N w P) (hg:w.heap.size≤g):StS (fun b=>N≤b∧b≠g) w P:=fun w2 h2=>h w2 ⟨h2.1,fun b hb hl=>h2.2 b ⟨hb,by omega⟩ hl⟩
theorem StS.to {N M g:Nat} {w:World} {P:World→Prop} (h:StS (fun b=>N≤b∧b≠g) w P) (hm:M≤N):StN M w P:=fun w2 h2=>h w2 ⟨h2.1,fun b hb hl=>h2.2 b (Nat.le_trans hm hb.1) hl⟩
def CrO (w:World) (r:Option Cr) (e:Ending) (w':World):Prop:=Below w.heap.size w w'∧(r=none→∃ er,Zf3 er∧e=.returned (.tuple #[.agg z8.toArray,er]))∧(∀ c,r=some c→∃ cs:List Value,e=.returned (.tuple #[.agg cs.toArray,.nilIface])∧StN w.heap.size w' (fun w2=>ZcH w2 c cs))
theorem CrO.bad {w w':World} {r:Option Cr} {er:Value} (h:r=none) (k:Zf3 er) (hb:Below w.heap.size w w'):CrO w r (.returned (.tuple #[.agg z8.toArray,er])) w':=⟨hb,fun _=>⟨er,k,rfl⟩,fun n q=>(by rw[h] at q;cases q)⟩
theorem CrO.ok {w w':World} {r:Option Cr} {c:Cr} {cs:List Value} (h:r=some c) (hv:StN w.heap.size w' (fun w2=>ZcH w2 c cs)) (hb:Below w.heap.size w w'):CrO w r (.returned (.tuple #[.agg cs.toArray,.nilIface])) w':=⟨hb,fun q=>(by rw[h] at q;cases q),fun m q=>(by rw[h] at q;cases q;exact ⟨cs,rfl,hv⟩)⟩
theorem ZnI:WfT (Zcp 1):=by
 unfold Zcp;rw[WfT];exact ⟨by omega,by omega,fun j=>by match j with|0=>decide|j+1=>simp,by rw[WfL];trivial⟩
theorem ZnG:WfT ZbR:=by
 show WfT (.mk 0 16 true [] [.mk 0 6 false [42,134,72,206,61,4,3,3] []]);simp only[WfT,WfL];exact ⟨by omega,by omega,fun j=>by simp,⟨by omega,by omega,ZpT (by decide),trivial⟩,trivial⟩
open Classical in
theorem Zay {c t:Int} {m:Bool} {b:List Int} {v a i f u:Tl} {rest:List Tl}:Zas (.mk c t m b (v::a::i::f::u::rest))=if (c=0∧t=16∧m=true)∧rest.length≤1∧v=Zcp 1∧a=ZbR then (okO (Zcz i)).bind fun I=>(ZdW f).bind fun F=>(ZdW u).bind fun U=>(match rest with|[]=>some []|g::_=>Za5 g).bind fun L=>some ⟨I,F,U,L,[],0,0⟩ else none:=rfl
theorem Zc5 {c t:Int} {m:Bool} {b:List Int} {ks:List Tl} (h:ks.length<5):Zas (.mk c t m b ks)=none:=by
 match ks,h with
 | [],_=>rfl
 | [_],_=>rfl
 | [_,_],_=>rfl
 | [_,_,_],_=>rfl
 | [_,_,_,_],_=>rfl
 | _::_::_::_::_::_,h=>simp at h;omega
theorem Zdz {c t:Int} {m:Bool} {b:List Int} {ks:List Tl} (h:¬ (c=0∧t=16∧m=true)∨6<ks.length):Zas (.mk c t m b ks)=none:=by
 by_cases k:ks.length<5
 ·exact Zc5 k
 ·obtain ⟨v,a,i,f,u,rest,rfl⟩:∃ v a i f u rest,ks=v::a::i::f::u::rest:=by
   match ks,k with
   | v::a::i::f::u::rest,_=>exact ⟨v,a,i,f,u,rest,rfl⟩
   | [],h=>simp at h
   | [_],h=>simp at h
   | [_,_],h=>simp at h
   | [_,_,_],h=>simp at h
   | [_,_,_,_],h=>simp at h
  rw[Zay,if_neg];rintro ⟨h1,h2,-,-⟩;rcases h with h|h
  ·exact h h1
  ·simp at h;omega
theorem u_Of {T:Tl} {cs:List Value} {w:World} (h:Zav w T cs) (gd:GdT T):Calls Tryz.prog 73 #[.agg cs.toArray] w fun e w'=>Below w.heap.size w w'∧(okO (Zcz T)=none→∃ (ao:Option Addr) (cap:Nat) (c:Int),e=.returned (.tuple #[.slice ao 0 cap,.iface 46 (.int .i64 c)]))∧(∀ n,okO (Zcz T)=some n→∃ v,e=.returned (.tuple #[v,.nilIface])∧StN w.heap.size w' (fun w2=>Zcq w2 v n)):=by
 refine(Zqp h gd.wf gd.sz).mono ?_;rintro e w' ⟨⟨v,er,-,hb⟩,h2⟩;obtain ⟨h3,h4⟩:=h2 gd.wr;refine ⟨hb,fun k=>?_,fun n k=>?_⟩
 ·cases hr:Zcz T with
  | ok n=>rw[hr] at k;cases k
  | error c =>
   obtain⟨ao,cap,e2⟩:=h4 c hr;exact ⟨ao,cap,_,e2⟩
 ·cases hr:Zcz T with
  | error c=>rw[hr] at k;cases k
  | ok m =>
   rw[hr] at k
   cases k
   obtain⟨v2,e2,h5⟩:=h3 _ hr;exact ⟨v2,e2,h5⟩
theorem ZpK {T:Tl} {cs:List Value} {w:World} (h:Zav w T cs) (gd:GdT T):Calls Tryz.prog 75 #[.agg cs.toArray] w (Zi5 w (Za5 T)):=by
 obtain⟨c,t,m,b,ks⟩:=T;exact Zkh h gd
theorem ZnD {T U:Tl} {cs ds:List Value} {w:World} (h:Zav w T cs) (k:Zav w U ds) (wT:WfT T) (wU:WfT U):Calls Tryz.prog 38 #[.agg cs.toArray,.agg ds.toArray] w fun e w'=>e=.returned (.bool (ZcW T U))∧Below w.heap.size w w':=Zoh _ T U w cs ds (Nat.le_refl _) wT wU h k
set_option linter.unusedSimpArgs false in
set_option maxRecDepth 100000 in
set_option maxHeartbeats 8000000 in
theorem Zhy {c t:Int} {m:Bool} {b:List Int} {ks:List Tl} {cs:List Value} {w:World} (h:Zav w (.mk c t m b ks) cs) (gd:GdT (.mk c t m b ks)):Calls Tryz.prog 39 #[.agg cs.toArray] w (CrO w (Zas (.mk c t m b ks))):=by
 have HGd:Hid (GdT (.mk c t m b ks)):=gd;clear gd;have hz:=Zam.out;have HT9:Hid (Zav w (.mk c t m b ks) cs):=h;rw[Zav] at h;obtain ⟨bv,ao,kc,hcs,hbv,-,hkm,hkk⟩:=h;have HBv:Hid (Bs w bv b):=hbv;obtain ⟨ba,bc,rfl,-,-,-⟩:=hbv;have HK:Hid (0<ks.length→∃ g o,ao=some ⟨g,o,none⟩∧Zap w ks g o):=hkk;obtain ⟨BL,hBL⟩:∃ z,b.length=z:=⟨_,rfl⟩;obtain ⟨KL,hKL⟩:∃ z,ks.length=z:=⟨_,rfl⟩;have HBL:Hid (b.length=BL):=hBL;have HKL:Hid (ks.length=KL):=hKL;have HKM:Hid (kc≤maxLen):=hkm;rw[hBL] at hcs HBv;rw[hKL] at hcs HK;clear hBL hKL hkk hkm;subst hcs;have B0:=(Blk.new w [.int .i64 c,.int .i64 t,.bool m,.slice ba BL bc,.slice ao KL kc] 53 w.heap.size rfl).alloc (.cells z8.toArray 33);have R0:=Blk.new (w.alloc (.cells #[.int .i64 c,.int .i64 t,.bool m,.slice ba BL bc,.slice ao KL kc] 53)) z8 33 (w.heap.size+1) (by simp);have bel:Below w.heap.size w ((w.alloc (.cells #[.int .i64 c,.int .i64 t,.bool m,.slice ba BL bc,.slice ao KL kc] 53)).alloc (.cells z8.toArray 33)):=((Below.refl _ _).alloc (Nat.le_refl _) _).alloc (by simp) _;go_enter Tryz.func39,Tryz.ntmps39;go_upto_region 1 with fail;generalize (w.alloc (.cells #[.int .i64 c,.int .i64 t,.bool m,.slice ba BL bc,.slice ao KL kc] 53)).alloc (.cells z8.toArray 33)=W at *;clear hz;have hld:(loadVar 53 ⟨w.heap.size,0,none⟩).run Tryz.prog W=.ok (.agg #[.int .i64 c,.int .i64 t,.bool m,.slice ba BL bc,.slice ao KL kc]) W:=B0.load Tryz.underlying53 rfl Zae rfl;have l0:=B0.lt;have e4:=B0.cell 4 _ rfl;go_wp2_with (first|((with_reducible show wpList _ _ _ (⟨_,.load _ _,_,_,_,_⟩::_) _ _);refine Zab (by rfl) (by rfl) (by rfl) hld ?_)|fail);refine (ZcS (HT9.out.later bel)).mono ?_;rintro e w1 ⟨rfl,hb⟩;replace B0:=B0.later hb;replace R0:=R0.later hb;replace bel:=Zaa bel hb;clear hb hld l0 e4;have e4:=B0.cell 4 _ rfl;have l0:=B0.lt
 by_cases hp:c=0∧t=16∧m=true
 rotate_left
 ·have H:Hid (Zas (.mk c t m b ks)=none):=Zdz (.inl hp)
  rw[Zdt,decide_eq_false hp];clear hp;have hz:=Zam.out;obtain ⟨tR,hR⟩:=R0;have HR1:Hid _:=hR;clear hR;go_wp2_with (first|((with_reducible show wpList _ _ _ (⟨_,.store _ _ _,_,_,_,_⟩::_) _ _);refine wpList_store_row rfl 33 _ _ rfl (w.heap.size+1) z8.toArray rfl rfl tR _ HR1.out (by rw[Zaf,Zai]) (by first|rfl|(rw[Zai];rfl)) Zaw ?_)|fail);refine bodyPost_ret (Zac rfl _ _ (w.heap.size+1) tR z8.toArray (0,0) _ rfl (setRow_heap _ _ _ _ _ _ HR1.out) Tryz.underlying33 rfl (by rw[Zaf,Zai])) rfl ?_;exact CrO.bad H.out (ZaA 7) (below_setRow bel (by omega) _)
 rw[Zdt,decide_eq_true hp];have HP:Hid (c=0∧t=16∧m=true):=hp;clear hp
 by_cases k5:KL<5
 ·have H:Hid (Zas (.mk c t m b ks)=none):=Zc5 (by rw[HKL.out];exact k5)
  have d1:(KL:Int)<5:=by omega
  clear k5;have hz:=Zam.out;obtain ⟨tR,hR⟩:=R0;have HR1:Hid _:=hR;clear hR;go_wp2_with (first|((with_reducible show wpList _ _ _ (⟨_,.store _ _ _,_,_,_,_⟩::_) _ _);refine wpList_store_row rfl 33 _ _ rfl (w.heap.size+1) z8.toArray rfl rfl tR _ HR1.out (by rw[Zaf,Zai]) (by first|rfl|(rw[Zai];rfl)) Zaw ?_)|fail);refine bodyPost_ret (Zac rfl _ _ (w.heap.size+1) tR z8.toArray (0,0) _ rfl (setRow_heap _ _ _ _ _ _ HR1.out) Tryz.underlying33 rfl (by rw[Zaf,Zai])) rfl ?_;exact CrO.bad H.out (ZaA 7) (below_setRow bel (by omega) _)
 have d1:¬ (KL:Int)<5:=by omega
 by_cases k6:6<KL
 ·have H:Hid (Zas (.mk c t m b ks)=none):=Zdz (.inr (by rw[HKL.out];exact k6))
  have d2:(6:Int)<(KL:Int):=by omega
  clear k5 k6;have hz:=Zam.out;obtain ⟨tR,hR⟩:=R0;have HR1:Hid _:=hR;clear hR;go_wp2_with (first|((with_reducible show wpList _ _ _ (⟨_,.store _ _ _,_,_,_,_⟩::_) _ _);refine wpList_store_row rfl 33 _ _ rfl (w.heap.size+1) z8.toArray rfl rfl tR _ HR1.out (by rw[Zaf,Zai]) (by first|rfl|(rw[Zai];rfl)) Zaw ?_)|fail);refine bodyPost_ret (Zac rfl _ _ (w.heap.size+1) tR z8.toArray (0,0) _ rfl (setRow_heap _ _ _ _ _ _ HR1.out) Tryz.underlying33 rfl (by rw[Zaf,Zai])) rfl ?_;exact CrO.bad H.out (ZaA 7) (below_setRow bel (by omega) _)
 have d2:¬ (6:Int)<(KL:Int):=by omega
 have HK6:Hid (5≤KL∧KL≤6):=⟨by omega,by omega⟩;clear k5 k6;go_upto_region 3 with fail;clear d1 d2 e4 l0;obtain ⟨k0,k1,k2,k3,k4,rest,hks⟩:∃ v a i f u rest,ks=v::a::i::f::u::rest:=by
  have h:=HKL.out;have h2:=HK6.out.1
  match ks,h with
  | v::a::i::f::u::rest,_=>exact ⟨v,a,i,f,u,rest,rfl⟩
  | [],h=>simp at h;omega
  | [_],h=>simp at h;omega
  | [_,_],h=>simp at h;omega
  | [_,_,_],h=>simp at h;omega
  | [_,_,_,_],h=>simp at h;omega
 subst hks;have HRl:Hid (rest.length+5=KL):=by have h:=HKL.out;simp only[List.length_cons] at h;show _=_;omega
 obtain⟨g,o,hao,hkk⟩:=HK.out (by have:=HK6.out.1;omega);subst hao;have HKg:Hid (Zap w (k0::k1::k2::k3::k4::rest) g o):=hkk;obtain ⟨cs0,hc0,ht0⟩:=hkk.get (i:=0) rfl;have HC0:Hid (ZdX w g (o+0) cs0):=hc0;have HT0:Hid (Zav w _ cs0):=ht0;have H50:Hid (cs0.length=5):=ht0.five;have HG0:Hid (GdT _):=HGd.out.kid (i:=0) rfl;clear hc0 ht0;obtain ⟨cs1,hc1,ht1⟩:=hkk.get (i:=1) rfl;have HC1:Hid (ZdX w g (o+5) cs1):=hc1;have HT1:Hid (Zav w _ cs1):=ht1;have H51:Hid (cs1.length=5):=ht1.five;have HG1:Hid (GdT _):=HGd.out.kid (i:=1) rfl;clear hc1 ht1;obtain ⟨cs2,hc2,ht2⟩:=hkk.get (i:=2) rfl;have HC2:Hid (ZdX w g (o+10) cs2):=hc2;have HT2:Hid (Zav w _ cs2):=ht2;have H52:Hid (cs2.length=5):=ht2.five;have HG2:Hid (GdT _):=HGd.out.kid (i:=2) rfl;clear hc2 ht2;obtain ⟨cs3,hc3,ht3⟩:=hkk.get (i:=3) rfl;have HC3:Hid (ZdX w g (o+15) cs3):=hc3;have HT3:Hid (Zav w _ cs3):=ht3;have H53:Hid (cs3.length=5):=ht3.five;have HG3:Hid (GdT _):=HGd.out.kid (i:=3) rfl;clear hc3 ht3;obtain ⟨cs4,hc4,ht4⟩:=hkk.get (i:=4) rfl;have HC4:Hid (ZdX w g (o+20) cs4):=hc4;have HT4:Hid (Zav w _ cs4):=ht4;have H54:Hid (cs4.length=5):=ht4.five;have HG4:Hid (GdT _):=HGd.out.kid (i:=4) rfl;clear hc4 ht4;clear hkk;have gk:=HK6.out.1;obtain ⟨S1,hS1,KB1,KI1,KD1,KL1,KA1⟩:∃ S:World→Prop,Hd S w1∧Hid (∀ wx,Hd S wx→Below w1.heap.size w1 wx)∧Hid (∀ wx,Below w1.heap.size w1 wx→Hd S wx)∧Hid (∀ wx,Hd S wx→Hd S wx.drew)∧Hid (∀ w1 w2,Hd S w1→Below w1.heap.size w1 w2→Hd S w2)∧Hid (∀ w1 o,Hd S w1→Hd S (w1.alloc o)):=⟨fun wx=>Below w1.heap.size w1 wx,Below.refl _ _,fun _ h=>h,fun _ h=>h,fun wx h=>Below.drew h,fun w1 w2 h hb=>Zaa h hb,fun w1 o h=>Below.alloc h h.size o⟩;have HB0:Hid (Blk w1 w.heap.size [.int .i64 c,.int .i64 t,.bool m,.slice ba BL bc,.slice (some ⟨g,o,none⟩) KL kc]):=B0;have HR0:Hid (Blk w1 (w.heap.size+1) z8):=R0;have HBel:Hid (Below w.heap.size w w1):=bel;have ra:∀ wx,Hd S1 wx→wx.cell? ⟨w.heap.size,4,none⟩=some (.slice (some ⟨g,o,none⟩) KL kc):=fun wx h=>(HB0.out.later (KB1.out wx h)).cell 4 _ rfl;have rl:∀ wx,Hd S1 wx→w.heap.size<wx.heap.size:=fun wx h=>(HB0.out.later (KB1.out wx h)).lt;have RK0:Hid (∀ wx,Hd S1 wx→(loadVar 53 ⟨g,o,none⟩).run Tryz.prog wx=.ok (.agg cs0.toArray) wx):=fun wx h=>Zat (HC0.out.later (Zaa HBel.out (KB1.out wx h))) H50.out;have RK1:Hid (∀ wx,Hd S1 wx→(loadVar 53 ⟨g,o+5,none⟩).run Tryz.prog wx=.ok (.agg cs1.toArray) wx):=fun wx h=>Zat (HC1.out.later (Zaa HBel.out (KB1.out wx h))) H51.out;have gk0:0<KL:=by omega
 have gk1:(1:Int)<(KL:Int):=by omega
 clear B0 R0 bel;refine wp_region_noPanic ?_;refine wp_region_held_drew (S:=Hd S1) (by kernel_rfl) (KD1.out _ hS1) (fun hHeld=>?_);clear hS1;generalize World.drew _=wd1 at *;refine tkA 0 ?_;refine tkA 1 ?_;refine tkA 2 ?_;refine trA 3 (.agg cs0.toArray) RK0.out ?_;refine wpAnyH_ready (rs:=[4]) (by kernel_rfl) (by simp) ?_;refine AllReadyH.cons rfl (fun K hK=>?_) ?_
 ·go_simp
  refine Zd2.mono ?_;rintro e z4 ⟨dv,rfl,hd,hb⟩;refine hK.out _ _ ?_ (fun hHeld2=>?_)
  ·exact KL1.out _ _ hHeld hb
  ·clear hK K
   try clear hHeld
   have hHeld:=hHeld2;clear hHeld2
   try simp only[Act.put,List.getElem_toArray,List.getElem_cons_zero,List.getElem_cons_succ,List.setIfInBounds_toArray,List.set_cons_zero,List.set_cons_succ]
   have hDv:=hd;clear hb hd;refine wpAnyH_ready (rs:=[5]) (by kernel_rfl) (by simp) ?_;refine AllReadyH.cons rfl (fun K hK=>?_) ?_
   ·have hbz:Below w.heap.size w z4:=Zaa HBel.out (KB1.out _ hHeld)
    go_simp;refine (ZnD (HT0.out.later hbz) hDv.now HG0.out.wf ZnI).mono ?_;rintro e z5 ⟨rfl,hb⟩;refine hK.out _ _ ?_ (fun hHeld2=>?_)
    ·exact KL1.out _ _ hHeld hb
    ·clear hK K
     try clear hHeld
     have hHeld:=hHeld2;clear hHeld2
     try simp only[Act.put,List.getElem_toArray,List.getElem_cons_zero,List.getElem_cons_succ,List.setIfInBounds_toArray,List.set_cons_zero,List.set_cons_succ]
     clear hb hbz hDv
     by_cases hq:k0=Zcp 1
     rotate_left
     ·have H:Hid (Zas (.mk c t m b (k0::k1::k2::k3::k4::rest))=none):=by show _=_;rw[Zay,if_neg (fun h=>hq h.2.2.1)]
      rw[ZaY hq];clear hq;refine tkA 6 ?_;refine tkA 7 ?_;refine skA 8 ?_;refine skA 9 ?_;refine skA 10 ?_;refine skA 11 ?_;refine skA 12 ?_;refine skA 13 ?_;refine skA 14 ?_;refine tkA 15 ?_;refine wpAnyH_done (by kernel_rfl) ?_ _;refine NoPanic.normal ?_;have st:=KB1.out _ hHeld;have R0:=HR0.out.later st;have B0:=HB0.out.later st;have bel:=Zaa HBel.out st;clear hHeld ra rl RK0 RK1 st;clear B0;have hz:=Zam.out;obtain ⟨tR,hR⟩:=R0;have HR1:Hid _:=hR;clear hR;go_wp2_with (first|((with_reducible show wpList _ _ _ (⟨_,.store _ _ _,_,_,_,_⟩::_) _ _);refine wpList_store_row rfl 33 _ _ rfl (w.heap.size+1) z8.toArray rfl rfl tR _ HR1.out (by rw[Zaf,Zai]) (by first|rfl|(rw[Zai];rfl)) Zaw ?_)|fail);refine bodyPost_ret (Zac rfl _ _ (w.heap.size+1) tR z8.toArray (0,0) _ rfl (setRow_heap _ _ _ _ _ _ HR1.out) Tryz.underlying33 rfl (by rw[Zaf,Zai])) rfl ?_;exact CrO.bad H.out (ZaA 7) (below_setRow bel (by omega) _)
     rw[ZbB hq];have HQ0:Hid (k0=Zcp 1):=hq;clear hq;refine tkA 6 ?_;refine tkA 7 ?_;refine tkA 8 ?_;refine tkA 9 ?_;refine tkA 10 ?_;refine trA 11 (.agg cs1.toArray) RK1.out ?_;refine wpAnyH_ready (rs:=[12]) (by kernel_rfl) (by simp) ?_;refine AllReadyH.cons rfl (fun K hK=>?_) ?_
     ·go_simp
      refine ZbZ.mono ?_;rintro e zb ⟨da,rfl,hd,hb⟩;refine hK.out _ _ ?_ (fun hHeld2=>?_)
      ·exact KL1.out _ _ hHeld hb
      ·clear hK K
       try clear hHeld
       have hHeld:=hHeld2;clear hHeld2
       try simp only[Act.put,List.getElem_toArray,List.getElem_cons_zero,List.getElem_cons_succ,List.setIfInBounds_toArray,List.set_cons_zero,List.set_cons_succ]
       have hDa:=hd;clear hb hd;refine wpAnyH_ready (rs:=[13]) (by kernel_rfl) (by simp) ?_;refine AllReadyH.cons rfl (fun K hK=>?_) ?_
       ·have hbz:Below w.heap.size w zb:=Zaa HBel.out (KB1.out _ hHeld)
        go_simp;refine (ZnD (HT1.out.later hbz) hDa.now HG1.out.wf ZnG).mono ?_;rintro e zc ⟨rfl,hb⟩;refine hK.out _ _ ?_ (fun hHeld2=>?_)
        ·exact KL1.out _ _ hHeld hb
        ·clear hK K
         try clear hHeld
         have hHeld:=hHeld2;clear hHeld2
         try simp only[Act.put,List.getElem_toArray,List.getElem_cons_zero,List.getElem_cons_succ,List.setIfInBounds_toArray,List.set_cons_zero,List.set_cons_succ]
         clear hb hbz hDa
         by_cases hq1:k1=ZbR
         rotate_left
         ·have H:Hid (Zas (.mk c t m b (k0::k1::k2::k3::k4::rest))=none):=by show _=_;rw[Zay,if_neg (fun h=>hq1 h.2.2.2)]
          rw[ZaY hq1];clear hq1;refine tkA 14 ?_;refine tkA 15 ?_;refine wpAnyH_done (by kernel_rfl) ?_ _;refine NoPanic.normal ?_;have st:=KB1.out _ hHeld;have R0:=HR0.out.later st;have B0:=HB0.out.later st;have bel:=Zaa HBel.out st;clear hHeld ra rl RK0 RK1 st;clear B0;have hz:=Zam.out;obtain ⟨tR,hR⟩:=R0;have HR1:Hid _:=hR;clear hR;go_wp2_with (first|((with_reducible show wpList _ _ _ (⟨_,.store _ _ _,_,_,_,_⟩::_) _ _);refine wpList_store_row rfl 33 _ _ rfl (w.heap.size+1) z8.toArray rfl rfl tR _ HR1.out (by rw[Zaf,Zai]) (by first|rfl|(rw[Zai];rfl)) Zaw ?_)|fail);refine bodyPost_ret (Zac rfl _ _ (w.heap.size+1) tR z8.toArray (0,0) _ rfl (setRow_heap _ _ _ _ _ _ HR1.out) Tryz.underlying33 rfl (by rw[Zaf,Zai])) rfl ?_;exact CrO.bad H.out (ZaA 7) (below_setRow bel (by omega) _)
         rw[ZbB hq1];have HQ1:Hid (k1=ZbR):=hq1;clear hq1;refine tkA 14 ?_;refine tkA 15 ?_;refine wpAnyH_done (by kernel_rfl) ?_ _;refine NoPanic.normal ?_;have st:=KB1.out _ hHeld;have R0:=HR0.out.later st;have B0:=HB0.out.later st;have bel:=Zaa HBel.out st;clear hHeld ra rl RK0 RK1 st;obtain ⟨w2,hw2⟩:∃ z,z=zc:=⟨_,rfl⟩;rw[← hw2] at R0 B0 bel ⊢;clear hw2;have lR:=R0.lt;have hz:=Zam.out;have Cv:=Blk.new w2 z8 33 w2.heap.size rfl;replace R0:=R0.alloc (.cells z8.toArray 33);replace B0:=B0.alloc (.cells z8.toArray 33);replace bel:=Zah (o:=.cells z8.toArray 33) bel;go_upto_region 7 with fail;clear hz gk0 gk1;obtain ⟨gc,hgc⟩:∃ z,z=w2.heap.size:=⟨_,rfl⟩;rw[← hgc] at Cv lR ⊢;have lC:w.heap.size+1<gc:=lR;have lC2:gc<(w2.alloc (.cells z8.toArray 33)).heap.size:=Cv.lt;generalize w2.alloc (.cells z8.toArray 33)=V0 at *;clear hgc lR;replace Cv:Blk V0 gc [.slice none 0 0,.int .i64 0,.int .i64 0,.slice none 0 0,.slice none 0 0,.int .u64 0,.int .u64 0,.int .u64 0,.int .u64 0,.int .u64 0,.int .u64 0,.int .u64 0,.int .u64 0,.int .u64 0,.int .u64 0,.int .u64 0,.int .u64 0]:=Cv;have e4:=B0.cell 4 _ rfl;have l0:=B0.lt;have hld:(loadVar 53 ⟨g,o+10,none⟩).run Tryz.prog V0=.ok (.agg cs2.toArray) V0:=Zat (HC2.out.later bel) H52.out;have lg:g<V0.heap.size:=(HC2.out.later bel).1;have gk9:(2:Int)<(KL:Int):=by omega
         have cj:=Cv.cell 0 _ rfl;have fj:=Cv.frozen 0;have lc:=Cv.lt;go_wp2_with (first|((with_reducible show wpList _ _ _ (⟨_,.load _ _,_,_,_,_⟩::_) _ _);refine Zab (by rfl) (by rfl) (by rfl) hld ?_)|fail);refine (u_Of (HT2.out.later bel) HG2.out).mono ?_;rintro e w3 ⟨hb,hbad,hok⟩;clear hld lg e4 l0 gk9 cj fj lc;replace Cv:=Cv.later hb;replace R0:=R0.later hb;replace B0:=B0.later hb;have HSz0:Hid (gc<V0.heap.size):=lC2;replace bel:=Zaa bel hb;clear hb lC2;have lC2:=Cv.lt
         cases hx:okO (Zcz k2) with
         | none =>
          obtain⟨ea,ec,c9,rfl⟩:=hbad hx;have HEr:Hid (Zf3 (.iface 46 (.int .i64 c9))):=ZaA c9;have H:Hid (Zas (.mk c t m b (k0::k1::k2::k3::k4::rest))=none):=by
           show _=_;rw[Zay]
           split
           ·simp only[hx,Option.bind_none]
           ·rfl
          clear hok hbad hx;have cj:=Cv.cell 0 _ rfl;have fj:=Cv.frozen 0;have lc:=Cv.lt;go_upto_region 8 with fail;clear cj fj lc;replace Cv:Blk (w3.setCell ⟨gc,0,none⟩ (.slice ea 0 ec)) gc [.slice ea 0 ec,.int .i64 0,.int .i64 0,.slice none 0 0,.slice none 0 0,.int .u64 0,.int .u64 0,.int .u64 0,.int .u64 0,.int .u64 0,.int .u64 0,.int .u64 0,.int .u64 0,.int .u64 0,.int .u64 0,.int .u64 0,.int .u64 0]:=Cv.set 0 _;replace R0:=R0.other ⟨gc,0,none⟩ (.slice ea 0 ec) (by show _≠gc;omega);replace B0:=B0.other ⟨gc,0,none⟩ (.slice ea 0 ec) (by show _≠gc;omega);replace bel:Below w.heap.size w (w3.setCell ⟨gc,0,none⟩ (.slice ea 0 ec)):=bel.setCell (by show _≤gc;omega) _;replace lC2:gc<(w3.setCell ⟨gc,0,none⟩ (.slice ea 0 ec)).heap.size:=Cv.lt;generalize w3.setCell _ _=V9 at *;clear Cv B0;have q:=HEr.out.2;have hz:=Zam.out;obtain ⟨tR,hR⟩:=R0;have HR1:Hid _:=hR;clear hR;go_wp2_with (first|((with_reducible show wpList _ _ _ (⟨_,.store _ _ _,_,_,_,_⟩::_) _ _);refine wpList_store_row rfl 33 _ _ rfl (w.heap.size+1) z8.toArray rfl rfl tR _ HR1.out (by rw[Zaf,Zai]) (by first|rfl|(rw[Zai];rfl)) Zaw ?_)|fail);refine bodyPost_ret (Zac rfl _ _ (w.heap.size+1) tR z8.toArray (0,0) _ rfl (setRow_heap _ _ _ _ _ _ HR1.out) Tryz.underlying33 rfl (by rw[Zaf,Zai])) rfl ?_;exact CrO.bad H.out (HEr.out) (below_setRow bel (by omega) _)
         | some I =>
          obtain⟨iv,rfl,hst⟩:=hok I hx;obtain ⟨ia,ic,hie,-,-,-⟩:=id (hst _ (Agr.refl _ _));obtain ⟨IL,hIL⟩:∃ z,I.length=z:=⟨_,rfl⟩;rw[hIL] at hie;subst hie;obtain ⟨NI,hNI⟩:∃ z,z=V0.heap.size:=⟨_,rfl⟩;rw[← hNI] at hst HSz0;have lNI:gc<NI:=HSz0.out;have HI:Hid (StN NI w3 (fun w2=>Zcq w2 (.slice ia IL ic) I)):=hst;clear hst hNI hIL;have HO0:Hid (okO (Zcz k2)=some I):=hx;clear hok hbad hx;have cj:=Cv.cell 0 _ rfl;have fj:=Cv.frozen 0;have lc:=Cv.lt;go_upto_region 8 with fail;clear cj fj lc;replace Cv:Blk (w3.setCell ⟨gc,0,none⟩ (.slice ia IL ic)) gc [.slice ia IL ic,.int .i64 0,.int .i64 0,.slice none 0 0,.slice none 0 0,.int .u64 0,.int .u64 0,.int .u64 0,.int .u64 0,.int .u64 0,.int .u64 0,.int .u64 0,.int .u64 0,.int .u64 0,.int .u64 0,.int .u64 0,.int .u64 0]:=Cv.set 0 _;replace R0:=R0.other ⟨gc,0,none⟩ (.slice ia IL ic) (by show _≠gc;omega);replace B0:=B0.other ⟨gc,0,none⟩ (.slice ia IL ic) (by show _≠gc;omega);replace bel:Below w.heap.size w (w3.setCell ⟨gc,0,none⟩ (.slice ia IL ic)):=bel.setCell (by show _≤gc;omega) _;replace lC2:gc<(w3.setCell ⟨gc,0,none⟩ (.slice ia IL ic)).heap.size:=Cv.lt;replace HI:Hid (StN NI (w3.setCell ⟨gc,0,none⟩ (.slice ia IL ic)) (fun w2=>Zcq w2 (.slice ia IL ic) I)):=HI.out.cell lNI;generalize w3.setCell _ _=V1 at *;have e4:=B0.cell 4 _ rfl;have l0:=B0.lt;have hld:(loadVar 53 ⟨g,o+15,none⟩).run Tryz.prog V1=.ok (.agg cs3.toArray) V1:=Zat (HC3.out.later bel) H53.out;have lg:g<V1.heap.size:=(HC3.out.later bel).1;have gk9:(3:Int)<(KL:Int):=by omega
          have cj:=Cv.cell 1 _ rfl;have fj:=Cv.frozen 1;have lc:=Cv.lt;have q:=ZaU;go_wp2_with (first|((with_reducible show wpList _ _ _ (⟨_,.load _ _,_,_,_,_⟩::_) _ _);refine Zab (by rfl) (by rfl) (by rfl) hld ?_)|fail);refine (Zhk (HT3.out.later bel) HG3.out).mono ?_;rintro e w4 ⟨hb,hbad,hok⟩;clear hld lg e4 l0 gk9 cj fj lc q;replace Cv:=Cv.later hb;replace R0:=R0.later hb;replace B0:=B0.later hb;replace HI:Hid (StN NI w4 (fun w2=>Zcq w2 (.slice ia IL ic) I)):=HI.out.below hb;have HSz1:Hid (gc<V1.heap.size):=lC2;replace bel:=Zaa bel hb;clear hb lC2;have lC2:=Cv.lt
          cases hx:ZdW k3 with
          | none =>
           obtain⟨er,her,rfl⟩:=hbad hx;have HEr:Hid (Zf3 er):=her;obtain ⟨ty,pv,rfl⟩:=her.1;clear her;have H:Hid (Zas (.mk c t m b (k0::k1::k2::k3::k4::rest))=none):=by
            show _=_;rw[Zay]
            split
            ·simp only[HO0.out,Option.bind_some,hx,Option.bind_none]
            ·rfl
           clear hok hbad hx HI;have cj:=Cv.cell 1 _ rfl;have fj:=Cv.frozen 1;have lc:=Cv.lt;go_upto_region 11 with fail;clear cj fj lc;replace Cv:Blk (w4.setCell ⟨gc,1,none⟩ (.int .i64 0)) gc [.slice ia IL ic,.int .i64 0,.int .i64 0,.slice none 0 0,.slice none 0 0,.int .u64 0,.int .u64 0,.int .u64 0,.int .u64 0,.int .u64 0,.int .u64 0,.int .u64 0,.int .u64 0,.int .u64 0,.int .u64 0,.int .u64 0,.int .u64 0]:=Cv.set 1 _;replace R0:=R0.other ⟨gc,1,none⟩ (.int .i64 0) (by show _≠gc;omega);replace B0:=B0.other ⟨gc,1,none⟩ (.int .i64 0) (by show _≠gc;omega);replace bel:Below w.heap.size w (w4.setCell ⟨gc,1,none⟩ (.int .i64 0)):=bel.setCell (by show _≤gc;omega) _;replace lC2:gc<(w4.setCell ⟨gc,1,none⟩ (.int .i64 0)).heap.size:=Cv.lt;generalize w4.setCell _ _=V9 at *;clear Cv B0;have q:=HEr.out.2;have hz:=Zam.out;obtain ⟨tR,hR⟩:=R0;have HR1:Hid _:=hR;clear hR;go_wp2_with (first|((with_reducible show wpList _ _ _ (⟨_,.store _ _ _,_,_,_,_⟩::_) _ _);refine wpList_store_row rfl 33 _ _ rfl (w.heap.size+1) z8.toArray rfl rfl tR _ HR1.out (by rw[Zaf,Zai]) (by first|rfl|(rw[Zai];rfl)) Zaw ?_)|fail);refine bodyPost_ret (Zac rfl _ _ (w.heap.size+1) tR z8.toArray (0,0) _ rfl (setRow_heap _ _ _ _ _ _ HR1.out) Tryz.underlying33 rfl (by rw[Zaf,Zai])) rfl ?_;exact CrO.bad H.out (HEr.out) (below_setRow bel (by omega) _)
          | some fr =>
           obtain rfl:=hok fr hx;have HO1:Hid (ZdW k3=some fr):=hx;clear hok hbad hx;have cj:=Cv.cell 1 _ rfl;have fj:=Cv.frozen 1;have lc:=Cv.lt;go_upto_region 11 with fail;clear cj fj lc;replace Cv:Blk (w4.setCell ⟨gc,1,none⟩ (.int .i64 fr)) gc [.slice ia IL ic,.int .i64 fr,.int .i64 0,.slice none 0 0,.slice none 0 0,.int .u64 0,.int .u64 0,.int .u64 0,.int .u64 0,.int .u64 0,.int .u64 0,.int .u64 0,.int .u64 0,.int .u64 0,.int .u64 0,.int .u64 0,.int .u64 0]:=Cv.set 1 _;replace R0:=R0.other ⟨gc,1,none⟩ (.int .i64 fr) (by show _≠gc;omega);replace B0:=B0.other ⟨gc,1,none⟩ (.int .i64 fr) (by show _≠gc;omega);replace bel:Below w.heap.size w (w4.setCell ⟨gc,1,none⟩ (.int .i64 fr)):=bel.setCell (by show _≤gc;omega) _;replace lC2:gc<(w4.setCell ⟨gc,1,none⟩ (.int .i64 fr)).heap.size:=Cv.lt;replace HI:Hid (StN NI (w4.setCell ⟨gc,1,none⟩ (.int .i64 fr)) (fun w2=>Zcq w2 (.slice ia IL ic) I)):=HI.out.cell lNI;generalize w4.setCell _ _=V2 at *;have e4:=B0.cell 4 _ rfl;have l0:=B0.lt;have hld:(loadVar 53 ⟨g,o+20,none⟩).run Tryz.prog V2=.ok (.agg cs4.toArray) V2:=Zat (HC4.out.later bel) H54.out;have lg:g<V2.heap.size:=(HC4.out.later bel).1;have gk9:(4:Int)<(KL:Int):=by omega
           have cj:=Cv.cell 2 _ rfl;have fj:=Cv.frozen 2;have lc:=Cv.lt;have q:=ZaU;go_wp2_with (first|((with_reducible show wpList _ _ _ (⟨_,.load _ _,_,_,_,_⟩::_) _ _);refine Zab (by rfl) (by rfl) (by rfl) hld ?_)|fail);refine (Zhk (HT4.out.later bel) HG4.out).mono ?_;rintro e w5 ⟨hb,hbad,hok⟩;clear hld lg e4 l0 gk9 cj fj lc q;replace Cv:=Cv.later hb;replace R0:=R0.later hb;replace B0:=B0.later hb;replace HI:Hid (StN NI w5 (fun w2=>Zcq w2 (.slice ia IL ic) I)):=HI.out.below hb;have HSz2:Hid (gc<V2.heap.size):=lC2;replace bel:=Zaa bel hb;clear hb lC2;have lC2:=Cv.lt
           cases hx:ZdW k4 with
           | none =>
            obtain⟨er,her,rfl⟩:=hbad hx;have HEr:Hid (Zf3 er):=her;obtain ⟨ty,pv,rfl⟩:=her.1;clear her;have H:Hid (Zas (.mk c t m b (k0::k1::k2::k3::k4::rest))=none):=by
             show _=_;rw[Zay]
             split
             ·simp only[HO0.out,Option.bind_some,HO1.out,Option.bind_some,hx,Option.bind_none]
             ·rfl
            clear hok hbad hx HI;have cj:=Cv.cell 2 _ rfl;have fj:=Cv.frozen 2;have lc:=Cv.lt;go_upto_region 14 with fail;clear cj fj lc;replace Cv:Blk (w5.setCell ⟨gc,2,none⟩ (.int .i64 0)) gc [.slice ia IL ic,.int .i64 fr,.int .i64 0,.slice none 0 0,.slice none 0 0,.int .u64 0,.int .u64 0,.int .u64 0,.int .u64 0,.int .u64 0,.int .u64 0,.int .u64 0,.int .u64 0,.int .u64 0,.int .u64 0,.int .u64 0,.int .u64 0]:=Cv.set 2 _;replace R0:=R0.other ⟨gc,2,none⟩ (.int .i64 0) (by show _≠gc;omega);replace B0:=B0.other ⟨gc,2,none⟩ (.int .i64 0) (by show _≠gc;omega);replace bel:Below w.heap.size w (w5.setCell ⟨gc,2,none⟩ (.int .i64 0)):=bel.setCell (by show _≤gc;omega) _;replace lC2:gc<(w5.setCell ⟨gc,2,none⟩ (.int .i64 0)).heap.size:=Cv.lt;generalize w5.setCell _ _=V9 at *;clear Cv B0;have q:=HEr.out.2;have hz:=Zam.out;obtain ⟨tR,hR⟩:=R0;have HR1:Hid _:=hR;clear hR;go_wp2_with (first|((with_reducible show wpList _ _ _ (⟨_,.store _ _ _,_,_,_,_⟩::_) _ _);refine wpList_store_row rfl 33 _ _ rfl (w.heap.size+1) z8.toArray rfl rfl tR _ HR1.out (by rw[Zaf,Zai]) (by first|rfl|(rw[Zai];rfl)) Zaw ?_)|fail);refine bodyPost_ret (Zac rfl _ _ (w.heap.size+1) tR z8.toArray (0,0) _ rfl (setRow_heap _ _ _ _ _ _ HR1.out) Tryz.underlying33 rfl (by rw[Zaf,Zai])) rfl ?_;exact CrO.bad H.out (HEr.out) (below_setRow bel (by omega) _)
           | some ti =>
            obtain rfl:=hok ti hx;have HO2:Hid (ZdW k4=some ti):=hx;clear hok hbad hx;have cj:=Cv.cell 2 _ rfl;have fj:=Cv.frozen 2;have lc:=Cv.lt;go_upto_region 14 with fail;clear cj fj lc;replace Cv:Blk (w5.setCell ⟨gc,2,none⟩ (.int .i64 ti)) gc [.slice ia IL ic,.int .i64 fr,.int .i64 ti,.slice none 0 0,.slice none 0 0,.int .u64 0,.int .u64 0,.int .u64 0,.int .u64 0,.int .u64 0,.int .u64 0,.int .u64 0,.int .u64 0,.int .u64 0,.int .u64 0,.int .u64 0,.int .u64 0]:=Cv.set 2 _;replace R0:=R0.other ⟨gc,2,none⟩ (.int .i64 ti) (by show _≠gc;omega);replace B0:=B0.other ⟨gc,2,none⟩ (.int .i64 ti) (by show _≠gc;omega);replace bel:Below w.heap.size w (w5.setCell ⟨gc,2,none⟩ (.int .i64 ti)):=bel.setCell (by show _≤gc;omega) _;replace lC2:gc<(w5.setCell ⟨gc,2,none⟩ (.int .i64 ti)).heap.size:=Cv.lt;replace HI:Hid (StN NI (w5.setCell ⟨gc,2,none⟩ (.int .i64 ti)) (fun w2=>Zcq w2 (.slice ia IL ic) I)):=HI.out.cell lNI;generalize w5.setCell _ _=V3 at *;have e4:=B0.cell 4 _ rfl;have l0:=B0.lt;have q:=ZaU
            by_cases z5:KL=5
            ·have hr0:rest=[]:=List.eq_nil_of_length_eq_zero (by have:=HRl.out;omega)
             subst hr0;have H:Hid (Zas (.mk c t m b (k0::k1::k2::k3::k4 :: []))=some ⟨I,fr,ti,[],[],0,0⟩):=by
              show _=_;rw[Zay,if_pos ⟨HP.out,by have:=HRl.out;have:=HK6.out.2;omega,HQ0.out,HQ1.out⟩];simp only[HO0.out,HO1.out,HO2.out,Option.bind_some]
             have d5:((KL:Int) == 5)=true:=by rw[z5];rfl
             clear z5 B0;have hldc:(loadVar 33 ⟨gc,0,none⟩).run Tryz.prog V3=.ok (.agg #[.slice ia IL ic,.int .i64 fr,.int .i64 ti,.slice none 0 0,.slice none 0 0,.int .u64 0,.int .u64 0,.int .u64 0,.int .u64 0,.int .u64 0,.int .u64 0,.int .u64 0,.int .u64 0,.int .u64 0,.int .u64 0,.int .u64 0,.int .u64 0]) V3:=Cv.load Tryz.underlying33 rfl Zaf rfl;have lc:=Cv.lt;obtain ⟨tR,hR⟩:=R0;have HR1:Hid _:=hR;clear hR;go_wp2_with (first|((with_reducible show wpList _ _ _ (⟨_,.load _ _,_,_,_,_⟩::_) _ _);refine Zab (by rfl) (by rfl) (by rfl) hldc ?_)|((with_reducible show wpList _ _ _ (⟨_,.store _ _ _,_,_,_,_⟩::_) _ _);refine wpList_store_row rfl 33 _ _ rfl (w.heap.size+1) #[.slice ia IL ic,.int .i64 fr,.int .i64 ti,.slice none 0 0,.slice none 0 0,.int .u64 0,.int .u64 0,.int .u64 0,.int .u64 0,.int .u64 0,.int .u64 0,.int .u64 0,.int .u64 0,.int .u64 0,.int .u64 0,.int .u64 0,.int .u64 0] rfl rfl tR _ HR1.out (by rw[Zaf];rfl) rfl (by simp[Value.oneCell']) ?_)|fail);refine bodyPost_ret (Zac rfl _ _ (w.heap.size+1) tR #[.slice ia IL ic,.int .i64 fr,.int .i64 ti,.slice none 0 0,.slice none 0 0,.int .u64 0,.int .u64 0,.int .u64 0,.int .u64 0,.int .u64 0,.int .u64 0,.int .u64 0,.int .u64 0,.int .u64 0,.int .u64 0,.int .u64 0,.int .u64 0] (0,0) _ rfl (setRow_heap _ _ _ _ _ _ HR1.out) Tryz.underlying33 rfl (by rw[Zaf];rfl)) rfl ?_;exact CrO.ok (cs:=[.slice ia IL ic,.int .i64 fr,.int .i64 ti,.slice none 0 0,.slice none 0 0,.int .u64 0,.int .u64 0,.int .u64 0,.int .u64 0,.int .u64 0,.int .u64 0,.int .u64 0,.int .u64 0,.int .u64 0,.int .u64 0,.int .u64 0,.int .u64 0]) H.out (fun w9 h9=>⟨_,_,.slice none 0 0,[.int .u64 0,.int .u64 0,.int .u64 0,.int .u64 0,.int .u64 0,.int .u64 0],[.int .u64 0,.int .u64 0,.int .u64 0,.int .u64 0,.int .u64 0,.int .u64 0],rfl,(HI.out.row (by omega)).less (by omega) w9 h9,Zfc.nil0 _,⟨none,0,rfl,Nat.zero_le _,Nat.zero_le _,fun h=>absurd h (Nat.lt_irrefl 0)⟩,U6.zero,U6.zero⟩) (below_setRow bel (by omega) _)
            have d5:((KL:Int) == 5)=false:=by rw[beq_eq_false_iff_ne];omega
            obtain⟨k5,hr1⟩:∃ k5,rest=[k5]:=by
             have h:=HRl.out;have h2:=HK6.out
             match rest,h with
             | [x],_=>exact ⟨x,rfl⟩
             | [],h=>simp at h;omega
             | _::_::_,h=>simp at h;omega
            subst hr1;obtain ⟨cs5,hc5,ht5⟩:=HKg.out.get (i:=5) rfl;have HC5:Hid (ZdX w g (o+25) cs5):=hc5;have HT5:Hid (Zav w k5 cs5):=ht5;have H55:Hid (cs5.length=5):=ht5.five;have HG5:Hid (GdT k5):=HGd.out.kid (i:=5) rfl;clear hc5 ht5;have gk5:6≤KL:=by omega
            clear z5;go_upto_region 18 with fail;clear q d5 e4 l0;have e4:=B0.cell 4 _ rfl;have l0:=B0.lt;have hld:(loadVar 53 ⟨g,o+25,none⟩).run Tryz.prog V3=.ok (.agg cs5.toArray) V3:=Zat (HC5.out.later bel) H55.out;have lg:g<V3.heap.size:=(HC5.out.later bel).1;have gk9:(5:Int)<(KL:Int):=by omega
            have cj:=Cv.cell 3 _ rfl;have fj:=Cv.frozen 3;have lc:=Cv.lt;go_wp2_with (first|((with_reducible show wpList _ _ _ (⟨_,.load _ _,_,_,_,_⟩::_) _ _);refine Zab (by rfl) (by rfl) (by rfl) hld ?_)|fail);refine (ZpK (HT5.out.later bel) HG5.out).mono ?_;rintro e w6 ⟨hb,hbad,hok⟩;clear hld lg e4 l0 gk9 cj fj lc;replace Cv:=Cv.later hb;replace R0:=R0.later hb;replace B0:=B0.later hb;replace HI:Hid (StN NI w6 (fun w2=>Zcq w2 (.slice ia IL ic) I)):=HI.out.below hb;have HSz3:Hid (gc<V3.heap.size):=lC2;replace bel:=Zaa bel hb;clear hb lC2;have lC2:=Cv.lt
            cases hx:Za5 k5 with
            | none =>
             obtain⟨er,her,rfl⟩:=hbad hx;have HEr:Hid (Zf3 er):=her;obtain ⟨ty,pv,rfl⟩:=her.1;clear her;have H:Hid (Zas (.mk c t m b (k0::k1::k2::k3::k4 :: [k5]))=none):=by
              show _=_;rw[Zay]
              split
              ·simp only[HO0.out,Option.bind_some,HO1.out,Option.bind_some,HO2.out,Option.bind_some,hx,Option.bind_none]
              ·rfl
             clear hok hbad hx HI;have cj:=Cv.cell 3 _ rfl;have fj:=Cv.frozen 3;have lc:=Cv.lt;go_upto_region 19 with fail;clear cj fj lc;replace Cv:Blk (w6.setCell ⟨gc,3,none⟩ (.slice none 0 0)) gc [.slice ia IL ic,.int .i64 fr,.int .i64 ti,.slice none 0 0,.slice none 0 0,.int .u64 0,.int .u64 0,.int .u64 0,.int .u64 0,.int .u64 0,.int .u64 0,.int .u64 0,.int .u64 0,.int .u64 0,.int .u64 0,.int .u64 0,.int .u64 0]:=Cv.set 3 _;replace R0:=R0.other ⟨gc,3,none⟩ (.slice none 0 0) (by show _≠gc;omega);replace B0:=B0.other ⟨gc,3,none⟩ (.slice none 0 0) (by show _≠gc;omega);replace bel:Below w.heap.size w (w6.setCell ⟨gc,3,none⟩ (.slice none 0 0)):=bel.setCell (by show _≤gc;omega) _;replace lC2:gc<(w6.setCell ⟨gc,3,none⟩ (.slice none 0 0)).heap.size:=Cv.lt;generalize w6.setCell _ _=V9 at *;clear Cv B0;have q:=HEr.out.2;have hz:=Zam.out;obtain ⟨tR,hR⟩:=R0;have HR1:Hid _:=hR;clear hR;go_wp2_with (first|((with_reducible show wpList _ _ _ (⟨_,.store _ _ _,_,_,_,_⟩::_) _ _);refine wpList_store_row rfl 33 _ _ rfl (w.heap.size+1) z8.toArray rfl rfl tR _ HR1.out (by rw[Zaf,Zai]) (by first|rfl|(rw[Zai];rfl)) Zaw ?_)|fail);refine bodyPost_ret (Zac rfl _ _ (w.heap.size+1) tR z8.toArray (0,0) _ rfl (setRow_heap _ _ _ _ _ _ HR1.out) Tryz.underlying33 rfl (by rw[Zaf,Zai])) rfl ?_;exact CrO.bad H.out (HEr.out) (below_setRow bel (by omega) _)
            | some L =>
             obtain⟨gv,rfl,hst⟩:=hok L hx;obtain ⟨ga,gc2,hge,-,-,-⟩:=id (hst _ (Agr.refl _ _));obtain ⟨GL,hGL⟩:∃ z,L.length=z:=⟨_,rfl⟩;rw[hGL] at hge;subst hge;obtain ⟨NG,hNG⟩:∃ z,z=V3.heap.size:=⟨_,rfl⟩;rw[← hNG] at HSz3;have lNG:gc<NG:=HSz3.out;have HGn:Hid (StN NG w6 (fun w2=>Zfc w2 (.slice ga GL gc2) L)):=by rw[hNG];exact hst
             clear hst hNG hGL;have HO3:Hid (Za5 k5=some L):=hx;clear hok hbad hx;have cj:=Cv.cell 3 _ rfl;have fj:=Cv.frozen 3;have lc:=Cv.lt;go_upto_region 19 with fail;clear cj fj lc;replace Cv:Blk (w6.setCell ⟨gc,3,none⟩ (.slice ga GL gc2)) gc [.slice ia IL ic,.int .i64 fr,.int .i64 ti,.slice ga GL gc2,.slice none 0 0,.int .u64 0,.int .u64 0,.int .u64 0,.int .u64 0,.int .u64 0,.int .u64 0,.int .u64 0,.int .u64 0,.int .u64 0,.int .u64 0,.int .u64 0,.int .u64 0]:=Cv.set 3 _;replace R0:=R0.other ⟨gc,3,none⟩ (.slice ga GL gc2) (by show _≠gc;omega);replace B0:=B0.other ⟨gc,3,none⟩ (.slice ga GL gc2) (by show _≠gc;omega);replace bel:Below w.heap.size w (w6.setCell ⟨gc,3,none⟩ (.slice ga GL gc2)):=bel.setCell (by show _≤gc;omega) _;replace lC2:gc<(w6.setCell ⟨gc,3,none⟩ (.slice ga GL gc2)).heap.size:=Cv.lt;replace HI:Hid (StN NI (w6.setCell ⟨gc,3,none⟩ (.slice ga GL gc2)) (fun w2=>Zcq w2 (.slice ia IL ic) I)):=HI.out.cell lNI;replace HGn:Hid (StN NG (w6.setCell ⟨gc,3,none⟩ (.slice ga GL gc2)) (fun w2=>Zfc w2 (.slice ga GL gc2) L)):=HGn.out.cell lNG;generalize w6.setCell _ _=V4 at *;have H:Hid (Zas (.mk c t m b (k0::k1::k2::k3::k4 :: [k5]))=some ⟨I,fr,ti,L,[],0,0⟩):=by
              show _=_;rw[Zay,if_pos ⟨HP.out,by have:=HRl.out;have:=HK6.out.2;omega,HQ0.out,HQ1.out⟩];simp only[HO0.out,HO1.out,HO2.out,HO3.out,Option.bind_some]
             clear B0;have q:=ZaU;have hldc:(loadVar 33 ⟨gc,0,none⟩).run Tryz.prog V4=.ok (.agg #[.slice ia IL ic,.int .i64 fr,.int .i64 ti,.slice ga GL gc2,.slice none 0 0,.int .u64 0,.int .u64 0,.int .u64 0,.int .u64 0,.int .u64 0,.int .u64 0,.int .u64 0,.int .u64 0,.int .u64 0,.int .u64 0,.int .u64 0,.int .u64 0]) V4:=Cv.load Tryz.underlying33 rfl Zaf rfl;have lc:=Cv.lt;obtain ⟨tR,hR⟩:=R0;have HR1:Hid _:=hR;clear hR;go_wp2_with (first|((with_reducible show wpList _ _ _ (⟨_,.load _ _,_,_,_,_⟩::_) _ _);refine Zab (by rfl) (by rfl) (by rfl) hldc ?_)|((with_reducible show wpList _ _ _ (⟨_,.store _ _ _,_,_,_,_⟩::_) _ _);refine wpList_store_row rfl 33 _ _ rfl (w.heap.size+1) #[.slice ia IL ic,.int .i64 fr,.int .i64 ti,.slice ga GL gc2,.slice none 0 0,.int .u64 0,.int .u64 0,.int .u64 0,.int .u64 0,.int .u64 0,.int .u64 0,.int .u64 0,.int .u64 0,.int .u64 0,.int .u64 0,.int .u64 0,.int .u64 0] rfl rfl tR _ HR1.out (by rw[Zaf];rfl) rfl (by simp[Value.oneCell']) ?_)|fail);refine bodyPost_ret (Zac rfl _ _ (w.heap.size+1) tR #[.slice ia IL ic,.int .i64 fr,.int .i64 ti,.slice ga GL gc2,.slice none 0 0,.int .u64 0,.int .u64 0,.int .u64 0,.int .u64 0,.int .u64 0,.int .u64 0,.int .u64 0,.int .u64 0,.int .u64 0,.int .u64 0,.int .u64 0,.int .u64 0] (0,0) _ rfl (setRow_heap _ _ _ _ _ _ HR1.out) Tryz.underlying33 rfl (by rw[Zaf];rfl)) rfl ?_;exact CrO.ok (cs:=[.slice ia IL ic,.int .i64 fr,.int .i64 ti,.slice ga GL gc2,.slice none 0 0,.int .u64 0,.int .u64 0,.int .u64 0,.int .u64 0,.int .u64 0,.int .u64 0,.int .u64 0,.int .u64 0,.int .u64 0,.int .u64 0,.int .u64 0,.int .u64 0]) H.out (fun w9 h9=>⟨_,_,.slice none 0 0,[.int .u64 0,.int .u64 0,.int .u64 0,.int .u64 0,.int .u64 0,.int .u64 0],[.int .u64 0,.int .u64 0,.int .u64 0,.int .u64 0,.int .u64 0,.int .u64 0],rfl,(HI.out.row (by omega)).less (by omega) w9 h9,(HGn.out.row (by omega)).less (by omega) w9 h9,⟨none,0,rfl,Nat.zero_le _,Nat.zero_le _,fun h=>absurd h (Nat.lt_irrefl 0)⟩,U6.zero,U6.zero⟩) (below_setRow bel (by omega) _)
       exact AllReadyH.nil
     exact AllReadyH.nil
   exact AllReadyH.nil
 exact AllReadyH.nil
end Go.Proofs.YtohcdbifhnfcbaaGreatDoor
