import Derived.Test.YtohcdbifhnfcbaaGreatDoorKrRg
import Derived.Test.YtohcdbifhnfcbaaGreatDoorKrBdy0
import Derived.Test.YtohcdbifhnfcbaaGreatDoorPrG
import Derived.Test.YtohcdbifhnfcbaaGreatDoorPrTime
import Derived.Test.YtohcdbifhnfcbaaGreatDoorKrUp9
import Derived.Test.YtohcdbifhnfcbaaGreatDoorRows
import Derived.Deep.OwnRows
import Derived.Deep.AppendLies
import Derived.Great.BuildSlice
import Derived.Laws.Rows
import Derived.BigQuiet
import Derived.Deep.WholeRow
import Derived.Deep.RegionHeld3
import Derived.Deep.DeepCutAuto
import Derived.Deep.DeepFit
namespace Go.Proofs.YtohcdbifhnfcbaaGreatDoor
open Go.RowKit
set_option linter.unusedSimpArgs false in
set_option maxRecDepth 100000 in
set_option maxHeartbeats 400000 in
theorem Zd1 {c t tg:Int} {m:Bool} {b:List Int} {ks:List Tl} {cs:List Value} {w:World} (h:Zav w (.mk c t m b ks) cs):Calls Tryz.prog 76 #[.agg cs.toArray,.int .i64 tg] w fun e w'=>e=.returned (.bool (decide (c=0∧t=tg∧m=false)))∧Below w.heap.size w w':=by
 obtain⟨pb,hpb⟩:∃ z:Bool,decide (c=0∧t=tg∧m=false)=z:=⟨_,rfl⟩;rw[hpb];have HPB:Hid (decide (c=0∧t=tg∧m=false)=pb):=hpb;clear hpb;have HT9:Hid (Zav w (.mk c t m b ks) cs):=h;rw[Zav] at h;obtain ⟨bv,ao,kc,hcs,hbv,-,hkm,hkk⟩:=h;have HBv:Hid (Bs w bv b):=hbv;obtain ⟨ba,bc,rfl,-,-,-⟩:=hbv;have HK:Hid (0<ks.length→∃ g o,ao=some ⟨g,o,none⟩∧Zap w ks g o):=hkk;obtain ⟨BL,hBL⟩:∃ z,b.length=z:=⟨_,rfl⟩;obtain ⟨KL,hKL⟩:∃ z,ks.length=z:=⟨_,rfl⟩;have HBL:Hid (b.length=BL):=hBL;have HKL:Hid (ks.length=KL):=hKL;have HKM:Hid (kc≤maxLen):=hkm;rw[hBL] at hcs HBv;rw[hKL] at hcs HK;clear hBL hKL hkk hkm;subst hcs;have B0:=Blk.new w [.int .i64 c,.int .i64 t,.bool m,.slice ba BL bc,.slice ao KL kc] 53 w.heap.size rfl;have bel:Below w.heap.size w (w.alloc (.cells #[.int .i64 c,.int .i64 t,.bool m,.slice ba BL bc,.slice ao KL kc] 53)):=(Below.refl _ _).alloc (Nat.le_refl _) _;go_enter Tryz.func76,Tryz.ntmps76;go_upto_region 1 with fail;generalize w.alloc (.cells #[.int .i64 c,.int .i64 t,.bool m,.slice ba BL bc,.slice ao KL kc] 53)=W at *;have e0:=B0.cell 0 _ rfl;have e1:=B0.cell 1 _ rfl;have e2:=B0.cell 2 _ rfl;have lt0:=B0.lt;clear HT9 HBv HK HBL HKL HKM
 by_cases c1:c=0
 rotate_left
 ·have H:Hid (pb=false):=by show _=_;rw[← HPB.out];exact decide_eq_false (fun h=>c1 h.1)
  have d1:(c == 0)=false:=by rw[beq_eq_false_iff_ne];exact c1
  clear c1;go_wp2_with fail;go_ret;exact ⟨by rw[H.out];rfl,bel⟩
 subst c1
 by_cases c2:t=tg
 rotate_left
 ·have H:Hid (pb=false):=by show _=_;rw[← HPB.out];exact decide_eq_false (fun h=>c2 h.2.1)
  have d2:(t == tg)=false:=by rw[beq_eq_false_iff_ne];exact c2
  clear c2;go_wp2_with fail;go_ret;exact ⟨by rw[H.out];rfl,bel⟩
 subst c2;have d2:(t == t)=true:=beq_self_eq_true _
 cases m
 ·have H:Hid (pb=true):=by show _=_;rw[← HPB.out];exact decide_eq_true ⟨rfl,rfl,rfl⟩
  go_wp2_with fail;go_ret;exact ⟨by rw[H.out];rfl,bel⟩
 ·have H:Hid (pb=false):=by show _=_;rw[← HPB.out];exact decide_eq_false (fun h=>by cases h.2.2)
  go_wp2_with fail;go_ret;exact ⟨by rw[H.out];rfl,bel⟩
set_option linter.unusedSimpArgs false in
set_option maxRecDepth 100000 in
set_option maxHeartbeats 1000000 in
theorem Zhx {c t:Int} {m:Bool} {b:List Int} {ks:List Tl} {cs:List Value} {w:World} (h:Zav w (.mk c t m b ks) cs) (wf:WfT (.mk c t m b ks)) (hsz:b.length≤140737488351232):Calls Tryz.prog 109 #[.agg cs.toArray] w (ZnQ w (Ze0 (.mk c t m b ks))):=by
 have HSz:Hid (b.length≤140737488351232):=hsz;have HBy:Hid (byt b):=by rw[WfT] at wf;exact wf.2.2.1
 clear wf hsz;have HT9:Hid (Zav w (.mk c t m b ks) cs):=h;rw[Zav] at h;obtain ⟨bv,ao,kc,hcs,hbv,-,hkm,hkk⟩:=h;have HBv:Hid (Bs w bv b):=hbv;obtain ⟨ba,bc,rfl,-,-,-⟩:=hbv;have HK:Hid (0<ks.length→∃ g o,ao=some ⟨g,o,none⟩∧Zap w ks g o):=hkk;obtain ⟨BL,hBL⟩:∃ z,b.length=z:=⟨_,rfl⟩;obtain ⟨KL,hKL⟩:∃ z,ks.length=z:=⟨_,rfl⟩;have HBL:Hid (b.length=BL):=hBL;have HKL:Hid (ks.length=KL):=hKL;have HKM:Hid (kc≤maxLen):=hkm;rw[hBL] at hcs HBv;rw[hKL] at hcs HK;clear hBL hKL hkk hkm;subst hcs;have B0:=Blk.new w [.int .i64 c,.int .i64 t,.bool m,.slice ba BL bc,.slice ao KL kc] 53 w.heap.size rfl;have bel:Below w.heap.size w (w.alloc (.cells #[.int .i64 c,.int .i64 t,.bool m,.slice ba BL bc,.slice ao KL kc] 53)):=(Below.refl _ _).alloc (Nat.le_refl _) _;go_enter Tryz.func109,Tryz.ntmps109;go_upto_region 1 with fail;generalize w.alloc (.cells #[.int .i64 c,.int .i64 t,.bool m,.slice ba BL bc,.slice ao KL kc] 53)=W at *;have hld:(loadVar 53 ⟨w.heap.size,0,none⟩).run Tryz.prog W=.ok (.agg #[.int .i64 c,.int .i64 t,.bool m,.slice ba BL bc,.slice ao KL kc]) W:=B0.load Tryz.underlying53 rfl Zae rfl;have l0:=B0.lt;go_wp2_with (first|((with_reducible show wpList _ _ _ (⟨_,.load _ _,_,_,_,_⟩::_) _ _);refine Zab (by rfl) (by rfl) (by rfl) hld ?_)|fail);refine (Zd1 (HT9.out.later bel)).mono ?_;rintro e w1 ⟨rfl,hb⟩;replace B0:=B0.later hb;replace bel:=Zaa bel hb;clear hb hld l0
 by_cases hp:c=0∧t=2∧m=false
 rotate_left
 ·have H:Hid (Ze0 (.mk c t m b ks)=none):=Zk2 hp
  rw[decide_eq_false hp];clear hp;go_wp2_with fail;refine bodyPost_ret (results_tmp2 rfl _ _ _) rfl ?_;exact ZnQ.bad H.out (ZaA 7) bel
 obtain⟨rfl,rfl,rfl⟩:=hp;rw[decide_eq_true (show (0:Int)=0∧(2:Int)=2∧false=false from ⟨rfl,rfl,rfl⟩)];have e3:=B0.cell 3 _ rfl;have l0:=B0.lt;go_wp2_with fail;refine (Zgk (HBv.out.later bel) HBy.out HSz.out).mono ?_;rintro e w2 ⟨hok,hbad⟩;clear e3 l0
 cases hn:Zbi b with
 | error c9 =>
  obtain⟨va,vc,rfl,hb⟩:=hbad c9 hn;have H:Hid (Ze0 (.mk 0 2 false b ks)=none):=Zpy hn;replace bel:=Zaa bel hb;clear hok hbad hb hn B0;have q:=Zbh (c9:Int);go_wp2_with fail;refine bodyPost_ret (results_tmp2 rfl _ _ _) rfl ?_;exact ZnQ.bad H.out (ZaA _) bel
 | ok n =>
  obtain⟨v2,rfl,hv2,hn2,hb⟩:=hok n hn;have HN:Hid (Zbi b=.ok n):=hn;have HB2:Hid (Bs w2 v2 n):=hv2;have HN2:Hid (Zbg w v2):=fun a m c e h=>Nat.le_trans bel.size (hn2 a m c e h);obtain ⟨va,vc,hv3,-,-,-⟩:=id hv2;obtain ⟨L2,hL2⟩:∃ z,n.length=z:=⟨_,rfl⟩;rw[hL2] at hv3;subst hv3;replace bel:=Zaa bel hb;clear hok hbad hb hn hv2 hn2 hL2 B0;have q:=ZaU;go_wp2_with fail;refine (ZeW HB2.out).mono ?_;rintro e w3 ⟨rfl,hw⟩;rw[hw];clear hw w3 q
  cases hs:Zld n with
  | false =>
   have H:Hid (Ze0 (.mk 0 2 false b ks)=none):=by show _=_;rw[Zgv HN.out,hs];rfl
   clear hs;go_wp2_with fail;refine bodyPost_ret (results_tmp2 rfl _ _ _) rfl ?_;exact ZnQ.bad H.out (ZaA 7) bel
  | true =>
   have H:Hid (Ze0 (.mk 0 2 false b ks)=some n):=by show _=_;rw[Zgv HN.out,hs];rfl
   clear hs;go_wp2_with fail;refine bodyPost_ret (results_tmp2 rfl _ _ _) rfl ?_;exact ZnQ.ok H.out HB2.out HN2.out bel
set_option linter.unusedSimpArgs false in
set_option maxRecDepth 100000 in
set_option maxHeartbeats 1000000 in
theorem Zkk {c t:Int} {m:Bool} {b:List Int} {ks:List Tl} {cs:List Value} {w:World} (h:Zav w (.mk c t m b ks) cs) (wf:WfT (.mk c t m b ks)) (hsz:b.length≤140737488351232):Calls Tryz.prog 74 #[.agg cs.toArray] w (ZnW w (ZdW (.mk c t m b ks))):=by
 have HSz:Hid (b.length≤140737488351232):=hsz;have HBy:Hid (byt b):=by rw[WfT] at wf;exact wf.2.2.1
 clear wf hsz;have HT9:Hid (Zav w (.mk c t m b ks) cs):=h;rw[Zav] at h;obtain ⟨bv,ao,kc,hcs,hbv,-,hkm,hkk⟩:=h;have HBv:Hid (Bs w bv b):=hbv;obtain ⟨ba,bc,rfl,-,-,-⟩:=hbv;have HK:Hid (0<ks.length→∃ g o,ao=some ⟨g,o,none⟩∧Zap w ks g o):=hkk;obtain ⟨BL,hBL⟩:∃ z,b.length=z:=⟨_,rfl⟩;obtain ⟨KL,hKL⟩:∃ z,ks.length=z:=⟨_,rfl⟩;have HBL:Hid (b.length=BL):=hBL;have HKL:Hid (ks.length=KL):=hKL;have HKM:Hid (kc≤maxLen):=hkm;rw[hBL] at hcs HBv;rw[hKL] at hcs HK;clear hBL hKL hkk hkm;subst hcs;have B0:=Blk.new w [.int .i64 c,.int .i64 t,.bool m,.slice ba BL bc,.slice ao KL kc] 53 w.heap.size rfl;have bel:Below w.heap.size w (w.alloc (.cells #[.int .i64 c,.int .i64 t,.bool m,.slice ba BL bc,.slice ao KL kc] 53)):=(Below.refl _ _).alloc (Nat.le_refl _) _;go_enter Tryz.func74,Tryz.ntmps74;go_upto_region 1 with fail;generalize w.alloc (.cells #[.int .i64 c,.int .i64 t,.bool m,.slice ba BL bc,.slice ao KL kc] 53)=W at *;have hld:(loadVar 53 ⟨w.heap.size,0,none⟩).run Tryz.prog W=.ok (.agg #[.int .i64 c,.int .i64 t,.bool m,.slice ba BL bc,.slice ao KL kc]) W:=B0.load Tryz.underlying53 rfl Zae rfl;have l0:=B0.lt;have e1:=B0.cell 1 _ rfl;go_wp2_with (first|((with_reducible show wpList _ _ _ (⟨_,.load _ _,_,_,_,_⟩::_) _ _);refine Zab (by rfl) (by rfl) (by rfl) hld ?_)|fail);refine (Zd1 (HT9.out.later bel)).mono ?_;rintro e w1 ⟨rfl,hb⟩;replace B0:=B0.later hb;replace bel:=Zaa bel hb;clear hb hld l0 e1
 by_cases hp:c=0∧m=false
 rotate_left
 ·have H:Hid (ZdW (.mk c t m b ks)=none):=Zk4 hp
  rw[decide_eq_false (fun h=>hp ⟨h.1,h.2.2⟩)];clear hp;go_wp2_with fail;refine bodyPost_ret (results_tmp2 rfl _ _ _) rfl ?_;exact ZnW.bad H.out (ZaA 7) bel
 obtain⟨rfl,rfl⟩:=hp;rw[decide_eq_true (show (0:Int)=0∧t=t∧false=false from ⟨rfl,rfl,rfl⟩)];have e1:=B0.cell 1 _ rfl;have e3:=B0.cell 3 _ rfl;have l0:=B0.lt;go_wp2_with fail;refine (Zok (HBv.out.later bel) HBy.out HSz.out).mono ?_;rintro e w2 ⟨hok,hbad⟩;clear e1 e3 l0
 cases hn:Zbz t b with
 | error c9 =>
  obtain⟨rfl,hb⟩:=hbad c9 hn;have H:Hid (ZdW (.mk 0 t false b ks)=none):=ZpE hn;replace bel:=Zaa bel hb;clear hok hbad hb hn B0;go_wp2_with fail;refine bodyPost_ret (results_tmp2 rfl _ _ _) rfl ?_;exact ZnW.bad H.out (ZaA _) bel
 | ok n =>
  obtain⟨rfl,hb⟩:=hok n hn;have H:Hid (ZdW (.mk 0 t false b ks)=some n):=Zk5 hn;replace bel:=Zaa bel hb;clear hok hbad hb hn B0;go_wp2_with fail;refine bodyPost_ret (results_tmp2 rfl _ _ _) rfl ?_;exact ZnW.ok H.out bel
theorem Zdt {c t:Int} {m:Bool} {b:List Int} {ks:List Tl}:Zek (.mk c t m b ks)=decide (c=0∧t=16∧m=true):=rfl
theorem Za1 {c t:Int} {m:Bool} {b:List Int} {ks:List Tl}:Za5 (.mk c t m b ks)=if (c=0∧t=16∧m=true)∧0<ks.length∧ks.length≤64 then ks.mapM ZgR else none:=rfl
theorem Zc8 {c t:Int} {m:Bool} {b:List Int} {s u:Tl}:ZgR (.mk c t m b [s,u])=if c=0∧t=16∧m=true then (Ze0 s).bind fun n=>(ZdW u).bind fun v=>some (n,v) else none:=rfl
theorem ZfI {c t:Int} {m:Bool} {b:List Int} {ks:List Tl} (h:¬ ks.length=2):ZgR (.mk c t m b ks)=none:=by
 match ks,h with
 | [],_=>rfl
 | [_],_=>rfl
 | [_,_],h=>exact absurd rfl h
 | _::_::_::_,_=>rfl
theorem Zjn {c t:Int} {m:Bool} {b:List Int} {ks:List Tl} (h:¬ (c=0∧t=16∧m=true)):ZgR (.mk c t m b ks)=none:=by
 by_cases k:ks.length=2
 ·obtain ⟨s,u,rfl⟩:∃ s u,ks=[s,u]:=by
   match ks,k with
   | [s,u],_=>exact ⟨s,u,rfl⟩
  rw[Zc8,if_neg h]
 ·exact ZfI k
theorem Zb0 {α β:Type} {f:α→Option β}:∀ {L:List α} {x:α},x∈L→f x=none→L.mapM f=none
 | [],x,h,_=>by cases h
 | y::L,x,h,k=>by
  rw[List.mapM_cons];rcases List.mem_cons.1 h with rfl|h
  ·rw[k];rfl
  ·cases f y with
   | none=>rfl
   | some z =>
    rw[Zb0 h k]
    rfl
theorem ZgW {α β:Type} {f:α→Option β}:∀ {L:List α} {M:List β},L.length=M.length→(∀ (i:Nat) (x:α) (y:β),L[i]?=some x→M[i]?=some y→f x=some y)→L.mapM f=some M
 | [],[],_,_=>rfl
 | [],_::_,h,_=>by simp at h
 | _::_,[],h,_=>by simp at h
 | x::L,y::M,h,k=>by
  rw[List.mapM_cons,k 0 x y rfl rfl,ZgW (by simpa using h) (fun i a b ha hb=>k (i+1) a b (by rw[List.getElem?_cons_succ];exact ha) (by rw[List.getElem?_cons_succ];exact hb))]
  rfl
def Zi5 (w:World) (r:Option (List Gn)) (e:Ending) (w':World):Prop:=Below w.heap.size w w'∧(r=none→∃ er,Zf3 er∧e=.returned (.tuple #[.slice none 0 0,er]))∧(∀ L,r=some L→∃ v,e=.returned (.tuple #[v,.nilIface])∧ZnV w w' v L)
theorem Zi5.bad {w w':World} {r:Option (List Gn)} {er:Value} (h:r=none) (k:Zf3 er) (hb:Below w.heap.size w w'):Zi5 w r (.returned (.tuple #[.slice none 0 0,er])) w':=⟨hb,fun _=>⟨er,k,rfl⟩,fun n q=>(by rw[h] at q;cases q)⟩
theorem Zi5.ok {w w':World} {r:Option (List Gn)} {L:List Gn} {v:Value} (h:r=some L) (hv:ZnV w w' v L) (hb:Below w.heap.size w w'):Zi5 w r (.returned (.tuple #[v,.nilIface])) w':=⟨hb,fun q=>(by rw[h] at q;cases q),fun m q=>(by rw[h] at q;cases q;exact ⟨v,rfl,hv⟩)⟩
theorem ZjU:∀ w:World,(zeroValue 64).run Tryz.prog w=.ok (.agg #[.slice none 0 0,.int .i64 0]) w:=fun w=>by kernel_rfl
theorem Zk9 {T:Tl} {cs:List Value} {w:World} (h:Zav w T cs) (gd:GdT T):Calls Tryz.prog 109 #[.agg cs.toArray] w (ZnQ w (Ze0 T)):=by
 obtain⟨c,t,m,b,ks⟩:=T;exact Zhx h gd.wf (by have:=gd.body;omega)
theorem Zhk {T:Tl} {cs:List Value} {w:World} (h:Zav w T cs) (gd:GdT T):Calls Tryz.prog 74 #[.agg cs.toArray] w (ZnW w (ZdW T)):=by
 obtain⟨c,t,m,b,ks⟩:=T;exact Zkk h gd.wf (by have:=gd.body;omega)
set_option linter.unusedSimpArgs false in
set_option maxRecDepth 100000 in
set_option maxHeartbeats 4000000 in
theorem Zkh {c t:Int} {m:Bool} {b:List Int} {ks:List Tl} {cs:List Value} {w:World} (h:Zav w (.mk c t m b ks) cs) (gd:GdT (.mk c t m b ks)):Calls Tryz.prog 75 #[.agg cs.toArray] w (Zi5 w (Za5 (.mk c t m b ks))):=by
 have HGd:Hid (GdT (.mk c t m b ks)):=gd;clear gd;have HT9:Hid (Zav w (.mk c t m b ks) cs):=h;rw[Zav] at h;obtain ⟨bv,ao,kc,hcs,hbv,-,hkm,hkk⟩:=h;have HBv:Hid (Bs w bv b):=hbv;obtain ⟨ba,bc,rfl,-,-,-⟩:=hbv;have HK:Hid (0<ks.length→∃ g o,ao=some ⟨g,o,none⟩∧Zap w ks g o):=hkk;obtain ⟨BL,hBL⟩:∃ z,b.length=z:=⟨_,rfl⟩;obtain ⟨KL,hKL⟩:∃ z,ks.length=z:=⟨_,rfl⟩;have HBL:Hid (b.length=BL):=hBL;have HKL:Hid (ks.length=KL):=hKL;have HKM:Hid (kc≤maxLen):=hkm;rw[hBL] at hcs HBv;rw[hKL] at hcs HK;clear hBL hKL hkk hkm;subst hcs;have B0:=Blk.new w [.int .i64 c,.int .i64 t,.bool m,.slice ba BL bc,.slice ao KL kc] 53 w.heap.size rfl;have bel:Below w.heap.size w (w.alloc (.cells #[.int .i64 c,.int .i64 t,.bool m,.slice ba BL bc,.slice ao KL kc] 53)):=(Below.refl _ _).alloc (Nat.le_refl _) _;go_enter Tryz.func75,Tryz.ntmps75;go_upto_region 1 with fail;generalize w.alloc (.cells #[.int .i64 c,.int .i64 t,.bool m,.slice ba BL bc,.slice ao KL kc] 53)=W at *;have hld:(loadVar 53 ⟨w.heap.size,0,none⟩).run Tryz.prog W=.ok (.agg #[.int .i64 c,.int .i64 t,.bool m,.slice ba BL bc,.slice ao KL kc]) W:=B0.load Tryz.underlying53 rfl Zae rfl;have l0:=B0.lt;have e4:=B0.cell 4 _ rfl;go_wp2_with (first|((with_reducible show wpList _ _ _ (⟨_,.load _ _,_,_,_,_⟩::_) _ _);refine Zab (by rfl) (by rfl) (by rfl) hld ?_)|fail);refine (ZcS (HT9.out.later bel)).mono ?_;rintro e w1 ⟨rfl,hb⟩;replace B0:=B0.later hb;replace bel:=Zaa bel hb;clear hb hld l0 e4;have e4:=B0.cell 4 _ rfl;have l0:=B0.lt
 by_cases hp:c=0∧t=16∧m=true
 rotate_left
 ·have H:Hid (Za5 (.mk c t m b ks)=none):=by show _=_;rw[Za1,if_neg (fun h=>hp h.1)]
  rw[Zdt,decide_eq_false hp];clear hp;go_wp2_with fail;refine bodyPost_ret (results_tmp2 rfl _ _ _) rfl ?_;exact Zi5.bad H.out (ZaA 7) bel
 rw[Zdt,decide_eq_true hp];have HP:Hid (c=0∧t=16∧m=true):=hp;clear hp
 by_cases k0:KL=0
 ·have H:Hid (Za5 (.mk c t m b ks)=none):=by show _=_;rw[Za1,if_neg (fun h=>by have:=h.2.1;rw[HKL.out] at this;omega)]
  have d1:((KL:Int) == 0)=true:=by rw[k0];rfl
  clear k0;go_wp2_with fail;refine bodyPost_ret (results_tmp2 rfl _ _ _) rfl ?_;exact Zi5.bad H.out (ZaA 7) bel
 have d1:((KL:Int) == 0)=false:=by rw[beq_eq_false_iff_ne];omega
 by_cases k64:64<KL
 ·have H:Hid (Za5 (.mk c t m b ks)=none):=by show _=_;rw[Za1,if_neg (fun h=>by have:=h.2.2;rw[HKL.out] at this;omega)]
  have d2:(64:Int)<(KL:Int):=by omega
  clear k0 k64;go_wp2_with fail;refine bodyPost_ret (results_tmp2 rfl _ _ _) rfl ?_;exact Zi5.bad H.out (ZaA 7) bel
 have d2:¬ (64:Int)<(KL:Int):=by omega
 have HK64:Hid (0<KL∧KL≤64):=⟨by omega,by omega⟩;clear k0 k64;go_wp2_with fail;clear d1 d2 e4 l0;obtain ⟨N1,hN1⟩:∃ n,n=w1.heap.size:=⟨_,rfl⟩;have hs1:N1≤w1.heap.size:=by omega
 have HN1:Hid (w.heap.size≤N1):=by show _≤_;rw[hN1];exact bel.size
 clear hN1 B0;go_loopw [4,29] (fun gvv iv wx=>∃ (i:Nat) (ka:Option Addr) (kc2:Nat) (L:List Gn),i≤KL∧gvv=.slice ka i kc2∧iv=.int .i64 (i:Int)∧Hid (RwG wx N1 (.slice ka i kc2) L)∧Hid (L.length=i)∧Hid (∀ (j:Nat) (x:Tl) (y:Gn),ks[j]?=some x→L[j]?=some y→ZgR x=some y)∧Below w.heap.size w wx∧N1≤wx.heap.size) (fun _ iv _=>KL-(intOf iv).toNat)
 case atStart=>exact ⟨0,none,0,[],by omega,rfl,rfl,RwG.nil0 _ _,rfl,fun j x y h k=>by simp at k,bel,hs1⟩
 case round =>
  clear bel hs1;obtain ⟨i,ka,kc2,L,hi,rfl,rfl,HR,HLi,HA,bel,hs1⟩:=hrel;have h64:=HK64.out
  by_cases hil:i<KL
  rotate_left
  ·obtain rfl:i=KL:=by omega
   have g1:¬ (i:Int)<(i:Int):=by omega
   have H:Hid (Za5 (.mk c t m b ks)=some L):=by
    show _=_;rw[Za1,if_pos ⟨HP.out,by rw[HKL.out];exact h64.1,by rw[HKL.out];exact h64.2⟩];exact ZgW (by rw[HKL.out,HLi.out]) HA.out
   have HN:Hid (ZnV w wr (.slice ka i kc2) L):=RwG.new HR.out HN1.out;clear HR HLi HA;go_wp2_with fail;refine bodyPost_ret (results_tmp2 rfl _ _ _) rfl ?_;exact Zi5.ok H.out HN.out bel
  have g1:(i:Int)<(KL:Int):=by omega
  have g2:(0:Int)≤(i:Int):=by omega
  have gi:IntKind.i64.wrap ((i:Int)+1)=(i:Int)+1:=by rw[IntKind.wrap_i64];omega
  obtain⟨k,hkk⟩:=ZbI (ks:=ks) (i:=i) (by rw[HKL.out];exact hil);obtain ⟨g,o,hao,hks⟩:=HK.out (by omega);obtain ⟨cs1,hcs,htk⟩:=hks.get hkk;subst hao;have HKK:Hid (ks[i]?=some k):=hkk;have HGk:Hid (GdT k):=HGd.out.kid hkk;have hld:(loadVar 53 ⟨g,o+i*5,none⟩).run Tryz.prog wr=.ok (.agg cs1.toArray) wr:=Zat (by rw[Nat.mul_comm];exact hcs.later bel) htk.five;have lg:g<wr.heap.size:=(hcs.later bel).1;clear hkk hks hcs;have htk1:=htk;clear htk;have HT1:Hid (Zav w k cs1):=htk1;obtain ⟨c1,t1,m1,b1,k1⟩:=k;rw[Zav] at htk1;obtain ⟨bv1,ao1,kc1,hcs1,hbv1,-,hkm1,hkk1⟩:=htk1;obtain ⟨ba1,bc1,rfl,-,-,-⟩:=hbv1;have HK1:Hid (0<k1.length→∃ g o,ao1=some ⟨g,o,none⟩∧Zap w k1 g o):=hkk1;obtain ⟨BL1,hBL1⟩:∃ z,b1.length=z:=⟨_,rfl⟩;obtain ⟨KL1,hKL1⟩:∃ z,k1.length=z:=⟨_,rfl⟩;have HKL1:Hid (k1.length=KL1):=hKL1;have HKM1:Hid (kc1≤maxLen):=hkm1;rw[hBL1] at hcs1;rw[hKL1] at hcs1 HK1;clear hBL1 hKL1 hkk1 hkm1;subst hcs1

  have hz:=Zaj.out;have hbx:Below wr.heap.size wr (wr.alloc (.cells #[.int .i64 c1,.int .i64 t1,.bool m1,.slice ba1 BL1 bc1,.slice ao1 KL1 kc1] 53)):=(Below.refl _ _).alloc (Nat.le_refl _) _;obtain ⟨M,hM⟩:∃ n,n=wr.heap.size:=⟨_,rfl⟩;have HM9:Hid (∀ b,(Value.slice ka i kc2).ownBlock=some b→N1≤b∧b<M):=fun b h9=>by rw[hM];exact HR.out.ltE h9
  have HNM:Hid (N1≤M):=by show _≤_;omega
  have hsm:M≤((wr.alloc (.cells #[.int .i64 c1,.int .i64 t1,.bool m1,.slice ba1 BL1 bc1,.slice ao1 KL1 kc1] 53))).heap.size:=by rw[hM];exact hbx.size
  replace HR:Hid (RwG (wr.alloc (.cells #[.int .i64 c1,.int .i64 t1,.bool m1,.slice ba1 BL1 bc1,.slice ao1 KL1 kc1] 53)) N1 (.slice ka i kc2) L):=HR.out.later hbx;replace bel:=Zaa bel hbx;clear hbx;have Bk:=Blk.new wr [.int .i64 c1,.int .i64 t1,.bool m1,.slice ba1 BL1 bc1,.slice ao1 KL1 kc1] 53 wr.heap.size rfl;go_upto_region 7 with (first|((with_reducible show wpList _ _ _ (⟨_,.load _ _,_,_,_,_⟩::_) _ _);refine Zab (by rfl) (by rfl) (by rfl) hld ?_)|((with_reducible show wpList _ _ _ (⟨_,.store _ _ _,_,_,_,_⟩::_) _ _);refine wpList_store_row rfl 53 _ _ rfl wr.heap.size #[.int .i64 c1,.int .i64 t1,.bool m1,.slice ba1 BL1 bc1,.slice ao1 KL1 kc1] rfl rfl 53 _ (heap_alloc_last _ _) (by rw[Zae];rfl) rfl (by simp[Value.oneCell']) ?_;rw[World.setRow_alloc_new])|fail);clear hz hld lg;rw[← hM] at Bk ⊢;generalize (wr.alloc (.cells #[.int .i64 c1,.int .i64 t1,.bool m1,.slice ba1 BL1 bc1,.slice ao1 KL1 kc1] 53))=V1 at *;clear hM;have hld1:(loadVar 53 ⟨M,0,none⟩).run Tryz.prog V1=.ok (.agg #[.int .i64 c1,.int .i64 t1,.bool m1,.slice ba1 BL1 bc1,.slice ao1 KL1 kc1]) V1:=Bk.load Tryz.underlying53 rfl Zae rfl;have l1:=Bk.lt;go_wp2_with (first|((with_reducible show wpList _ _ _ (⟨_,.load _ _,_,_,_,_⟩::_) _ _);refine Zab (by rfl) (by rfl) (by rfl) hld1 ?_)|fail);refine (ZcS (HT1.out.later bel)).mono ?_;rintro e w2 ⟨rfl,hb⟩;replace Bk:=Bk.later hb;replace HR:Hid (RwG w2 N1 (.slice ka i kc2) L):=HR.out.later hb;replace hsm:M≤w2.heap.size:=Nat.le_trans hsm hb.size;replace bel:=Zaa bel hb;clear hb hld1 l1;have e4:=Bk.cell 4 _ rfl;have l1:=Bk.lt
  by_cases hp1:c1=0∧t1=16∧m1=true
  rotate_left
  ·have H:Hid (Za5 (.mk c t m b ks)=none):=by
    show _=_;rw[Za1]
    split
    ·exact Zb0 (List.mem_of_getElem? HKK.out) (Zjn hp1)
    ·rfl
   rw[Zdt,decide_eq_false hp1];clear hp1;go_wp2_with fail;refine bodyPost_ret (results_tmp2 rfl _ _ _) rfl ?_;exact Zi5.bad H.out (ZaA 7) bel
  rw[Zdt,decide_eq_true hp1];have HP1:Hid (c1=0∧t1=16∧m1=true):=hp1;clear hp1
  by_cases k2:KL1=2
  rotate_left
  ·have H0:Hid (¬ k1.length=2):=by show ¬ _;rw[HKL1.out];exact k2
   have H:Hid (Za5 (.mk c t m b ks)=none):=by
    show _=_;rw[Za1]
    split
    ·exact Zb0 (List.mem_of_getElem? HKK.out) (ZfI H0.out)
    ·rfl
   have d1:((KL1:Int) == 2)=false:=by rw[beq_eq_false_iff_ne];omega
   have d2:((KL1:Int) != 2)=true:=by rw[bne,d1];rfl
   clear k2;go_wp2_with fail;refine bodyPost_ret (results_tmp2 rfl _ _ _) rfl ?_;exact Zi5.bad H.out (ZaA 7) bel
  have d1:((KL1:Int) != 2)=false:=by rw[k2];rfl
  subst k2;go_upto_region 9 with fail;clear d1 e4 l1;obtain ⟨s,u,hk2⟩:∃ s u,k1=[s,u]:=by
   have h:=HKL1.out
   match k1,h with
   | [s,u],_=>exact ⟨s,u,rfl⟩
  subst hk2;obtain ⟨g1b,o1b,hao,hks⟩:=HK1.out (by omega);subst hao;obtain ⟨cs2,hcs2,hts⟩:=hks.get (i:=0) (k:=s) rfl;obtain ⟨cs3,hcs3,htu⟩:=hks.get (i:=1) (k:=u) rfl;rw[Nat.mul_zero,Nat.add_zero] at hcs2;rw[Nat.mul_one] at hcs3;have HGs:Hid (GdT s):=HGk.out.kid (i:=0) rfl;have HGu:Hid (GdT u):=HGk.out.kid (i:=1) rfl;have HTs:Hid (Zav w s cs2):=hts;have HTu:Hid (Zav w u cs3):=htu;have HCu:Hid (ZdX w g1b (o1b+5) cs3):=hcs3;have H5u:Hid (cs3.length=5):=htu.five;have hld2:(loadVar 53 ⟨g1b,o1b,none⟩).run Tryz.prog w2=.ok (.agg cs2.toArray) w2:=Zat (hcs2.later bel) hts.five;have lg:g1b<w2.heap.size:=(hcs2.later bel).1;clear hks hcs2 hcs3 hts htu;have e4:=Bk.cell 4 _ rfl;have l1:=Bk.lt;go_wp2_with (first|((with_reducible show wpList _ _ _ (⟨_,.load _ _,_,_,_,_⟩::_) _ _);refine Zab (by rfl) (by rfl) (by rfl) hld2 ?_)|fail);refine (Zk9 (HTs.out.later bel) HGs.out).mono ?_;rintro e w3 ⟨hb,hbad,hok⟩;clear hld2 lg e4 l1;replace Bk:=Bk.later hb;replace HR:Hid (RwG w3 N1 (.slice ka i kc2) L):=HR.out.later hb;have HSb:Hid (w2.heap.size≤w3.heap.size):=hb.size;have HSm2:Hid (M≤w2.heap.size):=hsm;replace hsm:M≤w3.heap.size:=Nat.le_trans hsm hb.size;replace bel:=Zaa bel hb;clear hb
  cases hs:Ze0 s with
  | none =>
   obtain⟨er,her,rfl⟩:=hbad hs;have H:Hid (Za5 (.mk c t m b ks)=none):=by
    show _=_;rw[Za1]
    split
    ·exact Zb0 (List.mem_of_getElem? HKK.out) (by rw[Zc8,if_pos HP1.out,hs];rfl)
    ·rfl
   have HEr:Hid (Zf3 er):=her;have q:=her.2;obtain ⟨ty,pv,rfl⟩:=her.1;clear hok hbad hs her HR Bk;go_wp2_with fail;refine bodyPost_ret (results_tmp2 rfl _ _ _) rfl ?_;exact Zi5.bad H.out HEr.out bel
  | some n =>
   obtain⟨v2,rfl,hv2,hn2⟩:=hok n hs;have HS:Hid (Ze0 s=some n):=hs;have HBn:Hid (BsD (fun b=>M≤b) w3 v2 n):=BsD.of hv2 (fun a m c e h=>Nat.le_trans HSm2.out (hn2 a m c e h));obtain ⟨va,vc,hve,-,-,-⟩:=id hv2;obtain ⟨VL,hVL⟩:∃ z,n.length=z:=⟨_,rfl⟩;rw[hVL] at hve;subst hve;clear hok hbad hs hv2 hn2 hVL;have hld3:(loadVar 53 ⟨g1b,o1b+5,none⟩).run Tryz.prog w3=.ok (.agg cs3.toArray) w3:=Zat (HCu.out.later bel) H5u.out;have lg:g1b<w3.heap.size:=(HCu.out.later bel).1;have e4:=Bk.cell 4 _ rfl;have l1:=Bk.lt;have q:=ZaU;go_wp2_with (first|((with_reducible show wpList _ _ _ (⟨_,.load _ _,_,_,_,_⟩::_) _ _);refine Zab (by rfl) (by rfl) (by rfl) hld3 ?_)|fail);refine (Zhk (HTu.out.later bel) HGu.out).mono ?_;rintro e w4 ⟨hb,hbad,hok⟩;clear hld3 lg e4 l1 q Bk;replace HR:Hid (RwG w4 N1 (.slice ka i kc2) L):=HR.out.later hb;replace HBn:Hid (BsD (fun b=>M≤b) w4 (.slice va VL vc) n):=HBn.out.next (Agr.below hb) (fun _ h _=>h);replace hsm:M≤w4.heap.size:=Nat.le_trans hsm hb.size;replace bel:=Zaa bel hb;clear hb
   cases hu:ZdW u with
   | none =>
    obtain⟨er,her,rfl⟩:=hbad hu;have H:Hid (Za5 (.mk c t m b ks)=none):=by
     show _=_;rw[Za1]
     split
     ·exact Zb0 (List.mem_of_getElem? HKK.out) (by rw[Zc8,if_pos HP1.out,HS.out,Option.bind_some,hu];rfl)
     ·rfl
    have HEr:Hid (Zf3 er):=her;have q:=her.2;obtain ⟨ty,pv,rfl⟩:=her.1;clear hok hbad hu her HR;go_wp2_with fail;refine bodyPost_ret (results_tmp2 rfl _ _ _) rfl ?_;exact Zi5.bad H.out HEr.out bel
   | some v =>
    obtain rfl:=hok v hu;have HU:Hid (ZdW u=some v):=hu;clear hok hbad hu;have q:=ZaU;have HF:=Zjl (a:=.slice va VL vc) (b:=.int .i64 v);obtain ⟨jg,hjg,hg0,hg1,hg2⟩:=ZaO ZgT;have hz:=ZjU;have hbx:Below w4.heap.size w4 (w4.alloc (.cells #[.slice va VL vc,.int .i64 v] 64)):=(Below.refl _ _).alloc (Nat.le_refl _) _;have B5:=Blk.new w4 [.slice va VL vc,.int .i64 v] 64 w4.heap.size rfl;replace HR:Hid (RwG (w4.alloc (.cells #[.slice va VL vc,.int .i64 v] 64)) N1 (.slice ka i kc2) L):=HR.out.later hbx;replace HBn:Hid (BsD (fun b=>M≤b) (w4.alloc (.cells #[.slice va VL vc,.int .i64 v] 64)) (.slice va VL vc) n):=HBn.out.next (Agr.below hbx) (fun _ h _=>h);replace hsm:M≤((w4.alloc (.cells #[.slice va VL vc,.int .i64 v] 64))).heap.size:=Nat.le_trans hsm hbx.size;replace bel:=Zaa bel hbx;clear hbx;have HNM2:=HNM.out;go_wp2_with (first|((with_reducible show wpList _ _ _ (⟨_,.buildSlice _ _ _,_,_,_,_⟩::_) _ _);refine Go.wpList_buildSlice rfl 26 64 1 _ rfl #[.slice va VL vc,.int .i64 v] jg _ Tryz.underlying26 hjg hg0 (by rw[hg1];decide) (by rw[hg1];decide) (by rw[hg1];refine (congrArg _ (?_:_=[(0,Value.agg #[.slice va VL vc,.int .i64 v])])).trans HF;kernel_rfl) ?_)|(at_builtin;refine Zdj (by rfl) _ _ (by rfl) N1 (.slice ka i kc2) L (by rfl) HR.out w4.heap.size (by rfl) (.slice va VL vc) v B5 rfl n (HBn.out.next (Agr.refl _ _) (fun b h9 _=>⟨Nat.le_trans HNM2 h9,fun e9=>by have h8:M≤b:=h9;have:=(HM9.out b e9).2;omega⟩)) (by rw[HLi.out];omega) (by omega) ?_;intro gv9 w9 hr9 hgrow9 hge9;obtain ⟨ka9,kc9,hkv9⟩:=hr9.sl;have HK9:(L++[(n,v)]).length=i+1:=(by rw[List.length_append,HLi.out];rfl);rw[HK9] at hkv9;subst hkv9;clear HK9)|fail)

    have hzb:=bel.size;have hw1:=HN1.out;replace bel:=Below.grown bel hgrow9 hzb (fun k hk=>by have:=hge9 k hk;omega);have hs9:N1≤w9.heap.size:=Nat.le_trans (by omega) hgrow9.size;have HRn:Hid (RwG w9 N1 (.slice ka9 (i+1) kc9) (L++[(n,v)])):=hr9;have HLn:Hid ((L++[(n,v)]).length=i+1):=by show _=_;rw[List.length_append,HLi.out];rfl
    have HAn:Hid (∀ (j:Nat) (x:Tl) (y:Gn),ks[j]?=some x→(L++[(n,v)])[j]?=some y→ZgR x=some y):=fun j x y hx hy=>by
     by_cases hj:j<L.length
     ·rw[List.getElem?_append_left hj] at hy
      exact HA.out j x y hx hy
     ·have hj2:=(List.getElem?_eq_some_iff.1 hy).1
      rw[List.length_append] at hj2;obtain rfl:j=L.length:=by simp at hj2;omega
      rw[List.getElem?_append_right (Nat.le_refl _),Nat.sub_self] at hy;simp only[List.getElem?_cons_zero,Option.some.injEq] at hy;rw[HLi.out,HKK.out] at hx
      cases hx
      rw[← hy,Zc8,if_pos HP1.out,HS.out,Option.bind_some,HU.out]
      rfl
    clear hgrow9 hge9 hr9 HR HA HLi HBn B5 HF hz hzb q hw1 HNM2;go_roundw
    case rel=>exact ⟨i+1,ka9,kc9,_,by omega,by go_num,by go_num,HRn,HLn,HAn,bel,hs9⟩
    case measure=>simp[intOf];omega
end Go.Proofs.YtohcdbifhnfcbaaGreatDoor
