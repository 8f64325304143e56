/- The program's element. -/
import Derived.Test.YtnkipgbnnhahbaaGreatDoorDcElems
import Derived.Test.YtnkipgbnnhahbaaGreatDoorRows
import Derived.Deep.OwnRows
import Derived.Deep.AppendLies
import Derived.Great.BuildSlice
import Derived.Deep.WholeRow
import Derived.Deep.RegionHeld3
import Derived.Deep.DeepCutAuto
import Derived.Deep.DeepFit
namespace Go.Proofs.YtnkipgbnnhahbaaGreatDoor
open Go.RowKit
set_option linter.unusedSimpArgs false in
set_option maxRecDepth 100000 in
set_option maxHeartbeats 4000000 in
theorem c12_elem {B:List Int} (b:byt B) (hl:B.length≤1048576) (d:Nat):ElemC B d:=by
 unfold ElemC at *
 have HB:Hid (byt B):=b
 clear b
 induction d with
 | zero =>
  intro a en v w hd ha he hc
  have HC0:Hid (Cut w v B en):=hc
  have hz:=zero_tlv.out
  have R0:=Blk.new w [.int .i64 0,.int .i64 0,.bool false,.slice none 0 0,.slice none 0 0] 41 w.heap.size rfl
  have bel:Below w.heap.size w (w.alloc (.cells #[.int .i64 0,.int .i64 0,.bool false,.slice none 0 0,.slice none 0 0] 41)):=(Below.refl _ _).alloc (Nat.le_refl _) _
  have e16:16 - ((0:Nat):Int)=16:=by decide
  rw [e16]
  clear e16
  have H:Hid (elemP B 0 a en=.error (9,a)):=rfl
  obtain ⟨ao,cap,rfl,k1,k2,k3⟩:=hc
  clear k3
  go_enter Tryz.func32,Tryz.ntmps32
  go_upto_region 1 with fail
  generalize w.alloc (.cells #[.int .i64 0,.int .i64 0,.bool false,.slice none 0 0,.slice none 0 0] 41)=W at *
  have lW:=R0.lt
  clear hz
  go_wp2_with fail
  refine (c12_spot (p:=(a:Int)) (c:=9)).mono ?_
  rintro e w1 ⟨er,rfl,hbad⟩
  have R1:=R0.later hbad.below
  have HBad:Hid (BadR w (w1.setRow w.heap.size #[.int .i64 0,.int .i64 0,.bool false,.slice none 0 0,.slice none 0 0]) 9 (a:Int) er):=BadR.row bel (Nat.le_refl _) lW hbad
  clear hbad
  obtain ⟨tR,hR⟩:=R1
  have HR1:Hid _:=hR
  clear hR
  go_wp2_with (first|(refine wpList_store_row rfl 41 _ _ rfl w.heap.size #[.int .i64 0,.int .i64 0,.bool false,.slice none 0 0,.slice none 0 0] rfl rfl tR _ HR1.out (by rw [size_tlv];rfl) rfl (by simp [Value.oneCell']) ?_)|fail)
  exact bodyPost_ret (results_row_tmp2c rfl _ _ w.heap.size tR #[.int .i64 0,.int .i64 0,.bool false,.slice none 0 0,.slice none 0 0] (0,0) _ rfl (setRow_heap _ _ _ _ _ _ HR1.out) Tryz.underlying41 rfl (by rw [size_tlv];rfl)) rfl ⟨fun T z h=>(by rw [H.out] at h;cases h),fun c p h=>(by rw [H.out] at h;cases h;exact ⟨_,rfl,HBad.out⟩)⟩
 | succ d IH =>
  intro a en v w hd ha he hc
  have HC0:Hid (Cut w v B en):=hc
  have hz:=zero_tlv.out
  have R0:=Blk.new w [.int .i64 0,.int .i64 0,.bool false,.slice none 0 0,.slice none 0 0] 41 w.heap.size rfl
  have bel:Below w.heap.size w (w.alloc (.cells #[.int .i64 0,.int .i64 0,.bool false,.slice none 0 0,.slice none 0 0] 41)):=(Below.refl _ _).alloc (Nat.le_refl _) _
  obtain ⟨dn,hdn⟩:∃ dn:Int,16 - ((d + 1:Nat):Int)=dn:=⟨_,rfl⟩
  rw [hdn]
  have hdn2:dn=15 - (d:Int):=by omega
  obtain ⟨dm,hdm⟩:∃ dm:Int,16 - (d:Int)=dm:=⟨_,rfl⟩
  have wd:IntKind.i64.wrap (dn + 1)=dm:=by rw [IntKind.wrap_i64];omega
  have g0:¬ (16:Int)≤dn:=by omega
  have HEs:Hid (∀ (f n st:Nat) (v:Value) (w:World),st≤B.length→f≤st→st≤f + n→Cut w v B st→Calls Tryz.prog 62 #[v,.int .i64 (f:Int),.int .i64 dm] w fun e w'=>(∀ ks z,kidsP (elemP B d) st n f []=.ok (ks,z)→∃ kv xs,e=.returned (.tuple #[kv,.nilIface])∧w'.ownsRow w.heap.size 41 5 kv ks.length xs∧(∀ i t,ks[i]?=some t→Dep (fun b=>w.heap.size≤b∧kv.ownBlock≠some b) w' t ((xs.drop (5 * i)).take 5))∧z=st∧Below w.heap.size w w')∧(∀ c p,kidsP (elemP B d) st n f []=.error (c,p)→∃ er,e=.returned (.tuple #[.slice none 0 0,er])∧BadR w w' (c:Int) (p:Int) er)):=fun f n st v w h1 h2 h3 h4=>by rw [← hdm];exact c12_elems HB.out hl IH f n st v w (by omega) h1 h2 h3 h4
  clear hdn hdn2 hdm IH
  obtain ⟨ao,cap,rfl,k1,k2,k3⟩:=hc
  unfold maxLen at k2
  have K3:Hid _:=k3
  clear k3
  go_enter Tryz.func32,Tryz.ntmps32
  go_upto_region 1 with fail
  generalize w.alloc (.cells #[.int .i64 0,.int .i64 0,.bool false,.slice none 0 0,.slice none 0 0] 41)=W at *
  have lW:=R0.lt
  clear hz
  by_cases c1:en≤a
  ·have H:Hid (elemP B (d + 1) a en=.error (6,a)):=by show _=_;rw [elemP,if_pos c1]
   have g1:(en:Int)≤(a:Int):=by omega
   go_wp2_with fail
   refine (c12_spot (p:=(a:Int)) (c:=6)).mono ?_
   rintro e w1 ⟨er,rfl,hbad⟩
   have R1:=R0.later hbad.below
   have HBad:Hid (BadR w (w1.setRow w.heap.size #[.int .i64 0,.int .i64 0,.bool false,.slice none 0 0,.slice none 0 0]) 6 (a:Int) er):=BadR.row bel (Nat.le_refl _) lW hbad
   clear hbad
   obtain ⟨tR,hR⟩:=R1
   have HR1:Hid _:=hR
   clear hR
   go_wp2_with (first|(refine wpList_store_row rfl 41 _ _ rfl w.heap.size #[.int .i64 0,.int .i64 0,.bool false,.slice none 0 0,.slice none 0 0] rfl rfl tR _ HR1.out (by rw [size_tlv];rfl) rfl (by simp [Value.oneCell']) ?_)|fail)
   exact bodyPost_ret (results_row_tmp2c rfl _ _ w.heap.size tR #[.int .i64 0,.int .i64 0,.bool false,.slice none 0 0,.slice none 0 0] (0,0) _ rfl (setRow_heap _ _ _ _ _ _ HR1.out) Tryz.underlying41 rfl (by rw [size_tlv];rfl)) rfl ⟨fun T z h=>(by rw [H.out] at h;cases h),fun c p h=>(by rw [H.out] at h;cases h;exact ⟨_,rfl,HBad.out⟩)⟩
  have g1:¬ (en:Int)≤(a:Int):=by omega
  have HCW:Hid (Cut W (.slice ao en cap) B en):=HC0.out.later bel
  obtain ⟨gb,ob,rfl,hg0,hcell0⟩:=K3.out (by omega)
  have hg:gb < W.heap.size:=Nat.lt_of_lt_of_le hg0 bel.size
  have ca:=cell_later (hcell0 a (by omega)) bel
  clear hcell0 hg0 K3
  have xa:=byN_lt HB.out a
  have HE:Hid _:=elemP_held (B:=B) (d:=d) c1
  obtain ⟨x,hx⟩:∃ x,byN B a=x:=⟨_,rfl⟩
  rw [hx] at ca xa HE
  clear hx
  have w1:IntKind.i64.wrap (x:Int)=(x:Int):=by rw [IntKind.wrap_i64];omega
  obtain ⟨a1,ha1⟩:∃ a1,a + 1=a1:=⟨_,rfl⟩
  rw [ha1] at HE
  have w2:IntKind.i64.wrap ((a:Int) + 1)=(a1:Int):=by rw [IntKind.wrap_i64];omega
  have q1:=and_31 xa
  have g1b:(a:Int) < (en:Int):=by omega
  have g1c:(0:Int)≤(a:Int):=by omega
  obtain ⟨ct,hct⟩:∃ ct,x % 32=ct:=⟨_,rfl⟩
  rw [hct] at q1 HE
  by_cases c2:ct=31
  ·have H:Hid (elemP B (d + 1) a en=.error (7,a)):=by show _=_;rw [HE.out,if_pos c2]
   have g2:(ct:Int)=31:=by omega
   go_wp2_with fail
   refine (c12_spot (p:=(a:Int)) (c:=7)).mono ?_
   rintro e w1 ⟨er,rfl,hbad⟩
   have R1:=R0.later hbad.below
   have HBad:Hid (BadR w (w1.setRow w.heap.size #[.int .i64 0,.int .i64 0,.bool false,.slice none 0 0,.slice none 0 0]) 7 (a:Int) er):=BadR.row bel (Nat.le_refl _) lW hbad
   clear hbad
   obtain ⟨tR,hR⟩:=R1
   have HR1:Hid _:=hR
   clear hR
   go_wp2_with (first|(refine wpList_store_row rfl 41 _ _ rfl w.heap.size #[.int .i64 0,.int .i64 0,.bool false,.slice none 0 0,.slice none 0 0] rfl rfl tR _ HR1.out (by rw [size_tlv];rfl) rfl (by simp [Value.oneCell']) ?_)|fail)
   exact bodyPost_ret (results_row_tmp2c rfl _ _ w.heap.size tR #[.int .i64 0,.int .i64 0,.bool false,.slice none 0 0,.slice none 0 0] (0,0) _ rfl (setRow_heap _ _ _ _ _ _ HR1.out) Tryz.underlying41 rfl (by rw [size_tlv];rfl)) rfl ⟨fun T z h=>(by rw [H.out] at h;cases h),fun c p h=>(by rw [H.out] at h;cases h;exact ⟨_,rfl,HBad.out⟩)⟩
  have g2:¬ (ct:Int)=31:=by omega
  rw [if_neg c2] at HE
  clear c2
  go_wp2_with fail
  refine (c12_held (a:=a1) HCW.out HB.out he hl (by omega)).mono ?_
  rintro e w1 ⟨hok,hbad⟩
  cases hhp:heldP B a1 en with
  | error q =>
   obtain ⟨c,p⟩:=q
   obtain ⟨er,rfl,hr⟩:=hbad c p hhp
   clear hok hbad
   have H:Hid (elemP B (d + 1) a en=.error (c,p)):=by show _=_;rw [HE.out,hhp]
   clear hhp HE
   have R1:=R0.later hr.below
   have HBad:Hid (BadR w (w1.setRow w.heap.size #[.int .i64 0,.int .i64 0,.bool false,.slice none 0 0,.slice none 0 0]) (c:Int) (p:Int) er):=BadR.row bel (Nat.le_refl _) lW hr
   obtain ⟨g9,rfl⟩:=hr.form
   clear hr
   obtain ⟨tR,hR⟩:=R1
   have HR1:Hid _:=hR
   clear hR
   go_wp2_with (first|(refine wpList_store_row rfl 41 _ _ rfl w.heap.size #[.int .i64 0,.int .i64 0,.bool false,.slice none 0 0,.slice none 0 0] rfl rfl tR _ HR1.out (by rw [size_tlv];rfl) rfl (by simp [Value.oneCell']) ?_)|fail)
   exact bodyPost_ret (results_row_tmp2c rfl _ _ w.heap.size tR #[.int .i64 0,.int .i64 0,.bool false,.slice none 0 0,.slice none 0 0] (0,0) _ rfl (setRow_heap _ _ _ _ _ _ HR1.out) Tryz.underlying41 rfl (by rw [size_tlv];rfl)) rfl ⟨fun T z h=>(by rw [H.out] at h;cases h),fun c p h=>(by rw [H.out] at h;cases h;exact ⟨_,rfl,HBad.out⟩)⟩
  | ok q =>
   obtain ⟨f,st⟩:=q
   obtain ⟨rfl,hw1⟩:=hok f st hhp
   rw [hw1]
   clear hok hbad hw1
   have hlo:=heldP_ok HB.out hhp
   rw [hhp] at HE
   obtain ⟨cc,hcc⟩:∃ cc,x / 64=cc:=⟨_,rfl⟩
   obtain ⟨n,hn⟩:∃ n,st - f=n:=⟨_,rfl⟩
   replace HE:Hid (elemP B (d + 1) a en=if x / 32 % 2=1 then (match kidsP (elemP B d) st n f [] with|.error e=>.error e|.ok (ks,z)=>.ok (.mk (cc:Int) (ct:Int) true [] ks,z)) else .ok (.mk (cc:Int) (ct:Int) false ((B.drop f).take n) [],st)):=by rw [← hcc,← hn];exact HE
   clear hhp
   have q2:(x:Int).tdiv 64=(cc:Int):=by rw [Int.tdiv_eq_ediv_of_nonneg (by omega)];omega
   have v2:IntKind.i64.wrap (cc:Int)=(cc:Int):=by rw [IntKind.wrap_i64];omega
   have hz:=zero_tlv.out
   by_cases c4:x / 32 % 2=1
   rotate_left
   ·have q4:=and_32n xa c4
    rw [if_neg c4] at HE
    have T0:=Blk.new W [.int .i64 (cc:Int),.int .i64 (ct:Int),.bool false,.slice none 0 0,.slice none 0 0] 41 W.heap.size rfl
    have R1:=R0.alloc (.cells #[.int .i64 (cc:Int),.int .i64 (ct:Int),.bool false,.slice none 0 0,.slice none 0 0] 41)
    have bel1:=below_alloc (o:=.cells #[.int .i64 (cc:Int),.int .i64 (ct:Int),.bool false,.slice none 0 0,.slice none 0 0] 41) bel
    have HCV:Hid (Cut (W.alloc (.cells #[.int .i64 (cc:Int),.int .i64 (ct:Int),.bool false,.slice none 0 0,.slice none 0 0] 41)) (.slice (some ⟨gb,ob,none⟩) en cap) B en):=HCW.out.later ((Below.refl _ _).alloc (Nat.le_refl _) _)
    go_upto_region 12 with (first|(refine wpList_store_row rfl 41 _ _ rfl W.heap.size #[.int .i64 (cc:Int),.int .i64 (ct:Int),.bool false,.slice none 0 0,.slice none 0 0] rfl rfl 41 _ (heap_alloc_last _ _) (by rw [size_tlv];rfl) rfl (by simp [Value.oneCell']) ?_;rw [World.setRow_alloc_new])|fail)
    clear hz
    obtain ⟨gT,hgT⟩:∃ g,g=W.heap.size:=⟨_,rfl⟩
    rw [← hgT] at T0 lW
    generalize W.alloc (.cells #[.int .i64 (cc:Int),.int .i64 (ct:Int),.bool false,.slice none 0 0,.slice none 0 0] 41)=V at *
    rw [← hgT]
    clear hgT R0 bel HCW
    have lT:=T0.lt
    have t2:=T0.cell 2 _ rfl
    have y1:(0:Int)≤(f:Int):=by omega
    have y2:(f:Int)≤(st:Int):=by omega
    have y3:st≤cap:=by omega
    have y4:f≤st:=by omega
    have y5:st - f=n:=by omega
    have HLn:Hid (((B.drop f).take n).length=n):=by show _=_;rw [List.length_take,List.length_drop];omega
    have HCut:Hid (∀ ad m q,m=n→(0 < n→ad=some ⟨gb,ob + f,none⟩)→n≤q→q≤maxLen→Bs V (.slice ad m q) ((B.drop f).take n)):=fun ad m q h1 h2 h3 h4=>HCV.out.part HB.out he (by omega) h1 h2 h3 h4
    obtain ⟨bd,hbd⟩:∃ bd,(B.drop f).take n=bd:=⟨_,rfl⟩
    rw [hbd] at HE HCut HLn
    clear hbd
    go_wp2_with fail
    all_goals
     refine (c12_Clone (HCut.out _ _ _ (by omega) (by intro hp;first|rfl|exact absurd hp (by omega)|rw [if_neg (by omega)]) (by omega) (by unfold maxLen;omega)) (by rw [HLn.out];omega)).mono ?_
     rintro e w5 ⟨v5,rfl,own5,hb5⟩
     rw [HLn.out] at own5
     have T5:=T0.later hb5
     have R5:=R1.later hb5
     have bel5:=below_stepD bel1 hb5
     have sV:=bel1.size
     clear HCut T0 R1 bel1 hb5 t2
     have t5:=T5.cell 3 _ rfl
     have f5:=T5.frozen 3
     have l5:=T5.lt
     obtain ⟨va,vc,hv5,vk1,vk2⟩:=own_slice own5
     subst hv5
     have T6:=T5.set 3 (.slice va n vc)
     replace T6:Blk (w5.setCell ⟨gT,3,none⟩ (.slice va n vc)) gT [.int .i64 (cc:Int),.int .i64 (ct:Int),.bool false,.slice va n vc,.slice none 0 0]:=T6
     have R6:=R5.other ⟨gT,3,none⟩ (.slice va n vc) (by show w.heap.size≠gT;omega)
     have bel6:=bel5.setCell (p:=⟨gT,3,none⟩) (by show w.heap.size≤gT;omega) (.slice va n vc)
     obtain ⟨tR,hR⟩:=R6
     have HR1:Hid _:=hR
     clear hR
     have HA:Hid (Agr (fun b=>V.heap.size≤b) w5 ((w5.setCell ⟨gT,3,none⟩ (.slice va n vc)).setRow w.heap.size #[.int .i64 (cc:Int),.int .i64 (ct:Int),.bool false,.slice va n vc,.slice none 0 0])):=Agr.row (Agr.cell (Agr.refl _ _) (by show ¬ V.heap.size≤gT;omega)) (by show ¬ V.heap.size≤w.heap.size;omega)
     have HO:Hid _:=own_agr own5 HA.out (fun g hg=>own_geD own5 hg)
     clear R5 bel5 own5 HA
     go_wp2_with (first|(refine wpList_load_run (by rfl) (by rfl) (by rfl) (T6.load Tryz.underlying41 rfl size_tlv rfl) ?_)|(refine wpList_store_row rfl 41 _ _ rfl w.heap.size _ rfl rfl tR _ HR1.out (by rw [size_tlv];rfl) rfl (by simp [Value.oneCell']) ?_)|fail)
     all_goals exact bodyPost_ret (results_row_tmp2c rfl _ _ w.heap.size tR #[.int .i64 (cc:Int),.int .i64 (ct:Int),.bool false,.slice va n vc,.slice none 0 0] (0,0) _ rfl (setRow_heap _ _ _ _ _ _ HR1.out) Tryz.underlying41 rfl (by rw [size_tlv];rfl)) rfl ⟨fun T z h=>(by rw [HE.out] at h;cases h;exact ⟨[.int .i64 (cc:Int),.int .i64 (ct:Int),.bool false,.slice va n vc,.slice none 0 0],rfl,leaf_own HO.out HLn.out (fun g hg=>by have:=own_geD HO.out hg;show w.heap.size≤g;omega) _ _ _,below_setRow bel6 (Nat.le_refl _) _⟩),fun c p h=>(by rw [HE.out] at h;cases h)⟩
   have q4:=and_32y xa c4
   rw [if_pos c4] at HE
   have T0:=Blk.new W [.int .i64 (cc:Int),.int .i64 (ct:Int),.bool true,.slice none 0 0,.slice none 0 0] 41 W.heap.size rfl
   have R1:=R0.alloc (.cells #[.int .i64 (cc:Int),.int .i64 (ct:Int),.bool true,.slice none 0 0,.slice none 0 0] 41)
   have bel1:=below_alloc (o:=.cells #[.int .i64 (cc:Int),.int .i64 (ct:Int),.bool true,.slice none 0 0,.slice none 0 0] 41) bel
   have HCV:Hid (Cut (W.alloc (.cells #[.int .i64 (cc:Int),.int .i64 (ct:Int),.bool true,.slice none 0 0,.slice none 0 0] 41)) (.slice (some ⟨gb,ob,none⟩) en cap) B en):=HCW.out.later ((Below.refl _ _).alloc (Nat.le_refl _) _)
   go_upto_region 12 with (first|(refine wpList_store_row rfl 41 _ _ rfl W.heap.size #[.int .i64 (cc:Int),.int .i64 (ct:Int),.bool true,.slice none 0 0,.slice none 0 0] rfl rfl 41 _ (heap_alloc_last _ _) (by rw [size_tlv];rfl) rfl (by simp [Value.oneCell']) ?_;rw [World.setRow_alloc_new])|fail)
   clear hz
   obtain ⟨gT,hgT⟩:∃ g,g=W.heap.size:=⟨_,rfl⟩
   rw [← hgT] at T0 lW
   generalize W.alloc (.cells #[.int .i64 (cc:Int),.int .i64 (ct:Int),.bool true,.slice none 0 0,.slice none 0 0] 41)=V at *
   rw [← hgT]
   clear hgT R0 bel HCW
   have lT:=T0.lt
   have t2:=T0.cell 2 _ rfl
   have y2:(0:Int)≤(st:Int):=by omega
   have y3:st≤cap:=by omega
   have HCut:Hid (∀ ad q,q=cap→(0 < st→ad=some ⟨gb,ob,none⟩)→Cut V (.slice ad st q) B st):=fun ad q h1 h2=>HCV.out.less (by omega) h1 h2
   go_wp2_with fail
   refine (HEs.out f n st _ V (by omega) (by omega) (by omega) (HCut.out _ _ (by omega) (by intro hp;first|rfl|rw [if_neg (by omega)]))).mono ?_
   rintro e w5 ⟨hok,hbad⟩
   have sV:=bel1.size
   clear HCut t2
   cases hkp:kidsP (elemP B d) st n f [] with
   | error q =>
    obtain ⟨c,p⟩:=q
    obtain ⟨er,rfl,hr⟩:=hbad c p hkp
    clear hok hbad
    have H:Hid (elemP B (d + 1) a en=.error (c,p)):=by show _=_;rw [HE.out,hkp]
    clear hkp HE
    have hb5:=hr.below
    have T5:=T0.later hb5
    have R5:=R1.later hb5
    have t5:=T5.cell 4 _ rfl
    have f5:=T5.frozen 4
    have l5:=T5.lt
    have R1:=R5.other ⟨gT,4,none⟩ (.slice none 0 0) (by show w.heap.size≠gT;omega)
    have HBad0:Hid (BadR w (w5.setCell ⟨gT,4,none⟩ (.slice none 0 0)) (c:Int) (p:Int) er):=BadR.cell hr lT bel1 (by omega)
    have HBad:Hid (BadR w ((w5.setCell ⟨gT,4,none⟩ (.slice none 0 0)).setRow w.heap.size #[.int .i64 0,.int .i64 0,.bool false,.slice none 0 0,.slice none 0 0]) (c:Int) (p:Int) er):=BadR.setrow HBad0.out rfl (fun g hg=>by obtain ⟨g2,h1,h2,_⟩:=hr;rw [h1] at hg;simp at hg;omega)
    obtain ⟨g9,rfl⟩:=hr.form
    clear hr hb5 T0 R5 HBad0
    obtain ⟨tR,hR⟩:=R1
    have HR1:Hid _:=hR
    clear hR
    go_wp2_with (first|(refine wpList_store_row rfl 41 _ _ rfl w.heap.size #[.int .i64 0,.int .i64 0,.bool false,.slice none 0 0,.slice none 0 0] rfl rfl tR _ HR1.out (by rw [size_tlv];rfl) rfl (by simp [Value.oneCell']) ?_)|fail)
    exact bodyPost_ret (results_row_tmp2c rfl _ _ w.heap.size tR #[.int .i64 0,.int .i64 0,.bool false,.slice none 0 0,.slice none 0 0] (0,0) _ rfl (setRow_heap _ _ _ _ _ _ HR1.out) Tryz.underlying41 rfl (by rw [size_tlv];rfl)) rfl ⟨fun T z h=>(by rw [H.out] at h;cases h),fun c p h=>(by rw [H.out] at h;cases h;exact ⟨_,rfl,HBad.out⟩)⟩
   | ok q =>
    obtain ⟨ks,z⟩:=q
    obtain ⟨kv,xs,rfl,own5,hd5,rfl,hb5⟩:=hok ks z hkp
    clear hok hbad
    have H:Hid (elemP B (d + 1) a en=.ok (.mk (cc:Int) (ct:Int) true [] ks,z)):=by show _=_;rw [HE.out,hkp]
    clear hkp HE
    have T5:=T0.later hb5
    have R5:=R1.later hb5
    have bel5:=below_stepD bel1 hb5
    have HKV:Hid (∃ va vc,kv=.slice va ks.length vc):=by rcases own5.2 with ⟨h,h'⟩|⟨_,_,_,h,_⟩;exact ⟨none,0,by rw [h,h']⟩;exact ⟨_,_,h⟩
    obtain ⟨va,vc,hkv⟩:=HKV.out
    subst hkv
    have t5:=T5.cell 4 _ rfl
    have f5:=T5.frozen 4
    have l5:=T5.lt
    have T6:=T5.set 4 (.slice va ks.length vc)
    replace T6:Blk (w5.setCell ⟨gT,4,none⟩ (.slice va ks.length vc)) gT [.int .i64 (cc:Int),.int .i64 (ct:Int),.bool true,.slice none 0 0,.slice va ks.length vc]:=T6
    have R6:=R5.other ⟨gT,4,none⟩ (.slice va ks.length vc) (by show w.heap.size≠gT;omega)
    have bel6:=bel5.setCell (p:=⟨gT,4,none⟩) (by show w.heap.size≤gT;omega) (.slice va ks.length vc)
    obtain ⟨tR,hR⟩:=R6
    have HR1:Hid _:=hR
    clear hR
    have HA:Hid (Agr (fun b=>V.heap.size≤b) w5 ((w5.setCell ⟨gT,4,none⟩ (.slice va ks.length vc)).setRow w.heap.size #[.int .i64 (cc:Int),.int .i64 (ct:Int),.bool true,.slice none 0 0,.slice va ks.length vc])):=Agr.row (Agr.cell (Agr.refl _ _) (by show ¬ V.heap.size≤gT;omega)) (by show ¬ V.heap.size≤w.heap.size;omega)
    have HO:Hid _:=own_agr own5 HA.out (fun g hg=>(own_geK own5 hg).1)
    have HD2:Hid (∀ i t,ks[i]?=some t→Dep (fun b=>V.heap.size≤b∧(Value.slice va ks.length vc).ownBlock≠some b) ((w5.setCell ⟨gT,4,none⟩ (.slice va ks.length vc)).setRow w.heap.size #[.int .i64 (cc:Int),.int .i64 (ct:Int),.bool true,.slice none 0 0,.slice va ks.length vc]) t ((xs.drop (5 * i)).take 5)):=fun i t h=>(hd5 i t h).next (Agr.row (Agr.cell (Agr.refl _ _) (by show ¬ (V.heap.size≤gT∧_);omega)) (by show ¬ (V.heap.size≤w.heap.size∧_);omega)) (fun b hb _=>hb)
    have HG:Hid (∀ g,(Value.slice va ks.length vc).ownBlock=some g→w.heap.size≤g):=fun g hg=>by have:=(own_geK own5 hg).1;omega
    clear R5 bel5 own5 HA hd5 T0 R1 bel1 hb5
    go_wp2_with (first|(refine wpList_load_run (by rfl) (by rfl) (by rfl) (T6.load Tryz.underlying41 rfl size_tlv rfl) ?_)|(refine wpList_store_row rfl 41 _ _ rfl w.heap.size _ rfl rfl tR _ HR1.out (by rw [size_tlv];rfl) rfl (by simp [Value.oneCell']) ?_)|fail)
    all_goals exact bodyPost_ret (results_row_tmp2c rfl _ _ w.heap.size tR #[.int .i64 (cc:Int),.int .i64 (ct:Int),.bool true,.slice none 0 0,.slice va ks.length vc] (0,0) _ rfl (setRow_heap _ _ _ _ _ _ HR1.out) Tryz.underlying41 rfl (by rw [size_tlv];rfl)) rfl ⟨fun T z h=>(by rw [H.out] at h;cases h;exact ⟨[.int .i64 (cc:Int),.int .i64 (ct:Int),.bool true,.slice none 0 0,.slice va ks.length vc],rfl,kids_own HO.out HD2.out _ _ _ (fun b hb=>by have:=hb.1;omega) HG.out,below_setRow bel6 (Nat.le_refl _) _⟩),fun c p h=>(by rw [H.out] at h;cases h)⟩
end Go.Proofs.YtnkipgbnnhahbaaGreatDoor
