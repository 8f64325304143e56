import Derived.Test.YtohcdbifhnfcbaaGreatDoorNlSG
import Derived.Test.YtohcdbifhnfcbaaGreatDoorBase
import Derived.Test.YtohcdbifhnfcbaaGreatDoorDrDG
import Derived.Test.YtohcdbifhnfcbaaGreatDoorPmNG
import Derived.Test.YtohcdbifhnfcbaaGreatDoorRefA
import Derived.Test.YtohcdbifhnfcbaaGreatDoorPrOidOf
import Derived.Test.YtohcdbifhnfcbaaGreatDoorPrOidN
import Derived.Test.YtohcdbifhnfcbaaGreatDoorPmTof
import Derived.Test.YtohcdbifhnfcbaaGreatDoorDrTG
import Derived.Test.YtohcdbifhnfcbaaGreatDoorRows
import Derived.BigQuiet
import Derived.Deep.WholeRow
import Derived.Deep.RegionHeld3
import Derived.Deep.DeepCutAuto
import Derived.Deep.DeepFit
import Derived.Deep.OwnRows
import Derived.Deep.AppendLies
import Derived.Great.BuildSlice
import Derived.Laws.Rows
import Derived.Laws.StructEq
namespace Go.Proofs.YtohcdbifhnfcbaaGreatDoor
open Go.RowKit
theorem Zcq.at {w:World} {ao:Option Addr} {m cap:Nat} {n:List Pn} (h:Zcq w (.slice ao m cap) n) {i:Nat} (hi:i<n.length):∃ p b o,n[i]?=some p∧ao=some ⟨b,o,none⟩∧m=n.length∧b<w.heap.size∧w.cell? ⟨b,o+i*2,none⟩=some (.int .i64 p.1)∧w.cell? ⟨b,o+i*2+1,none⟩=some (.string (strOfNums p.2)):=by
 obtain⟨a9,c9,e,_,_,h3⟩:=h;obtain ⟨b,o,e2,hl,hc⟩:=h3 (by omega);have hp:n[i]?=some n[i]:=List.getElem?_eq_getElem hi;simp only[Value.slice.injEq] at e;exact ⟨n[i],b,o,hp,by rw[e.1,e2],e.2.1,hl,(hc i _ hp).1,(hc i _ hp).2⟩
theorem take_one {n m:List Pn} {i:Nat} {p q:Pn} (h:n.take i=m.take i) (hp:n[i]?=some p) (hq:m[i]?=some q):n.take (i+1)=m.take (i+1)↔p=q:=by
 rw[List.take_add_one,List.take_add_one,hp,hq,h];constructor
 ·intro e
  have:=List.append_cancel_left e
  simpa using this
 ·rintro rfl
  rfl
theorem eqN {p q:Pn} (hp:byt p.2) (hq:byt q.2):∀ w:World,(Op.equalIn 10000 106 (.agg #[.int .i64 p.1,.string (strOfNums p.2)]) (.agg #[.int .i64 q.1,.string (strOfNums q.2)])).run Tryz.prog w=.ok (decide (p=q)) w:=eqPt p.1 q.1 p.2 q.2 hp hq
theorem Zma:(Tryz.prog.info? 106).map (fun i=>(i.zero,i.size,i.bytes))=some (some (.agg #[.int .i64 0,.string { data:=#[] }]),2,24):=by kernel_rfl
theorem Zb1:∀ w:World,(zeroValue 106).run Tryz.prog w=.ok (.agg #[.int .i64 0,.string { data:=#[] }]) w:=fun w=>by kernel_rfl
theorem Zl6 {a b:Value}:Instr.fill (fun i=>some (i*2,2)) ((Array.range (1*2)).map ((Value.agg #[.int .i64 0,.string { data:=#[] }]).cells[· % (Value.agg #[.int .i64 0,.string { data:=#[] }]).cells.size]!)) [(0,.agg #[a,b])]=some #[a,b]:=by kernel_rfl
theorem Ze2.bad {w w':World} {n:List Pn} (h:Zc3 n=false) (hb:Below w.heap.size w w'):Ze2 w n (.returned (.tuple #[.agg #[.int .i64 0,.int .i64 0,.bool false,.slice none 0 0,.slice none 0 0],.iface 46 (.int .i64 1)])) w':=⟨fun _=>⟨rfl,hb⟩,fun k=>(by rw[h] at k;cases k)⟩
theorem Ze2.ok {w w':World} {n:List Pn} {kv:Value} (h:Zc3 n=true) (hr:RwT w' w.heap.size kv (n.map ZbX)) (hb:Below w.heap.size w w'):Ze2 w n (.returned (.tuple #[.agg #[.int .i64 0,.int .i64 16,.bool true,.slice none 0 0,kv],.nilIface])) w':=by
 obtain⟨xs,h1,h2⟩:=hr;rw[List.length_map] at h1;exact ⟨fun k=>(by rw[h] at k;cases k),fun _=>⟨kv,xs,rfl,h1,h2,hb⟩⟩
theorem ZoZ {w:World} {base b2 size:Nat} {e:TypeId} {v:Value} {n:Nat} {xs:List Value} (h:w.ownsRow base e size v n xs) (hb:b2≤base):w.ownsRow b2 e size v n xs:=by
 obtain⟨hl,h⟩:=h;rcases h with h|⟨g,cap,cur,h1,h2,h3⟩
 ·exact ⟨hl,.inl h⟩
 ·exact ⟨hl,.inr ⟨g,cap,cur,h1,Nat.le_trans hb h2,h3⟩⟩
theorem RwT.ret {w:World} {N M g:Nat} {kv:Value} {Ts:List Tl} {X:Array Value} (h:RwT w N kv Ts) (hg:g<N) (hM:M≤N):RwT (w.setRow g X) M kv Ts:=by
 obtain⟨xs,h1,h2⟩:=h;exact ⟨xs,ZoZ (Za7 (S:=fun b=>N≤b) h1 ((Agr.refl _ _).row (by omega)) (fun g hg=>(ZaB h1 hg).1)) hM,fun i t ht=>(h2 i t ht).next ((Agr.refl _ _).row (fun h=>by have:=h.1;omega)) (fun b hb _=>⟨Nat.le_trans hM hb.1,hb.2⟩)⟩
theorem RwT.below {w:World} {N b:Nat} {kv:Value} {Ts:List Tl} (h:RwT w N kv Ts) (hb:kv.ownBlock=some b):b<w.heap.size:=by
 obtain⟨xs,h1,_⟩:=h;exact (ZaB h1 hb).2
theorem may_at {n:List Pn} {i:Nat} {p:Pn} (hp:n[i]?=some p) (h:Zbn p=false):Zc3 n=false:=by
 unfold Zc3;rw[Bool.and_eq_false_iff]
 right
 rw[List.all_eq_false];exact ⟨p,List.mem_of_getElem? hp,by rw[h];decide⟩
theorem Zn2 {n:List Pn} {i:Nat} {p:Pn} (h:(n.take i).all Zbn=true) (hp:n[i]?=some p) (k:Zbn p=true):(n.take (i+1)).all Zbn=true:=by
 rw[List.take_add_one,hp,List.all_append,h];simp[k]
theorem ZaR:(Tryz.prog.info? 106).map (·.size)=some 2:=by kernel_rfl
set_option linter.unusedSimpArgs false in
set_option maxRecDepth 100000 in
set_option maxHeartbeats 2000000 in
theorem ZlM {v:Value} {n:List Pn} {w:World} (hn:Zcq w v n) (wn:WfN n) :
  Calls Tryz.prog 50 #[v] w (Ze2 w n):=by
 have HN:Hid (Zcq w v n):=hn;obtain ⟨a1,c1,rfl,-,hmx,-⟩:=hn;have hl1:Hid (n.length≤9223372036854775807):=by obtain ⟨_,c,e,h1,h2,_⟩:=HN.out;show _≤_;simp only[maxLen] at h2;omega
 obtain⟨L,hL⟩:∃ L,n.length=L:=⟨_,rfl⟩;have HL:Hid (n.length=L):=hL;rw[hL] at HN hl1 ⊢;clear hL hmx;have R0:=Blk.new w [.int .i64 0,.int .i64 0,.bool false,.slice none 0 0,.slice none 0 0] 53 w.heap.size rfl;have bel:=bal w (.cells #[.int .i64 0,.int .i64 0,.bool false,.slice none 0 0,.slice none 0 0] 53);have hz:=Zaj.out;go_enter Tryz.func50,Tryz.ntmps50;go_upto_region 1 with fail;have lW:=bel.size;generalize w.alloc (.cells #[.int .i64 0,.int .i64 0,.bool false,.slice none 0 0,.slice none 0 0] 53)=W at *;have lR:=R0.lt;obtain ⟨N0,hN0⟩:∃ n,n=W.heap.size:=⟨_,rfl⟩;rw[← hN0] at lR lW;have hs:N0≤W.heap.size:=by omega
 clear hz hN0;obtain ⟨jt,hjt,ht0,ht1,ht2⟩:=ZaO Zcb

 by_cases h8:8<L
 ·have g1:(8:Int)<(L:Int):=by omega
  have H:Hid (Zc3 n=false):=by show (decide _ && _)=false;rw[decide_eq_false (by rw[HL.out];omega)];rfl
  have hz:=Zaj.out;clear h8;obtain ⟨tR,hR⟩:=R0;have HR1:Hid _:=hR;clear hR;go_wp2_with (first|((with_reducible show wpList _ _ _ (⟨_,.store _ _ _,_,_,_,_⟩::_) _ _);refine wpList_store_row rfl 53 _ _ rfl (w.heap.size) #[.int .i64 0,.int .i64 0,.bool false,.slice none 0 0,.slice none 0 0] rfl rfl tR _ HR1.out (by rw[Zae];rfl) rfl (by simp[Value.oneCell']) ?_)|fail);refine bodyPost_ret (Zac rfl _ _ (w.heap.size) tR #[.int .i64 0,.int .i64 0,.bool false,.slice none 0 0,.slice none 0 0] (0,0) _ rfl (setRow_heap _ _ _ _ _ _ HR1.out) Tryz.underlying53 rfl (by rw[Zae];rfl)) rfl ?_;exact Ze2.bad H.out (below_setRow bel (Nat.le_refl _) _)
 have g1:¬ (8:Int)<(L:Int):=by omega
 have HL8:Hid (L≤8):=by show _≤_;omega
 clear h8;go_wp2_with fail;clear g1;go_loopw [4,16] (fun sv iv wx=>∃ i:Nat,i≤L∧iv=.int .i64 (i:Int)∧RwT wx N0 sv ((n.take i).map ZbX)∧Hid ((n.take i).all Zbn=true)∧Blk wx w.heap.size [.int .i64 0,.int .i64 0,.bool false,.slice none 0 0,.slice none 0 0]∧Below w.heap.size w wx∧N0≤wx.heap.size) (fun _ iv _=>L-(intOf iv).toNat)
 case atStart=>exact ⟨0,by omega,rfl,by simpa using RwT.nil0 _ _,by show (n.take 0).all Zbn=true;simp,R0,bel,hs⟩
 case round =>
  clear R0 bel hs;obtain ⟨i,hi,rfl,hr,HA,R0,bel,hs⟩:=hrel;have HR:Hid (RwT wr N0 _ ((n.take i).map ZbX)):=hr;obtain ⟨ka,kc,hkv⟩:=hr.sl;have HLi:Hid (((n.take i).map ZbX).length=i):=by show _=_;rw[List.length_map,List.length_take,HL.out];omega
  rw[HLi.out] at hkv;subst hkv;clear hr;have h8:=HL8.out
  by_cases hil:i<L
  rotate_left
  ·have g1:¬ (i:Int)<(L:Int):=by omega
   have H:Hid (Zc3 n=true):=by
    have h:=HA.out;rw[List.take_of_length_le (by rw[HL.out];omega)] at h;show (decide _ && _)=true;rw[decide_eq_true (by rw[HL.out];exact h8),h];rfl
   have HR2:Hid (RwT wr N0 (.slice ka i kc) (n.map ZbX)):=by have h:=HR.out;rw[List.take_of_length_le (by rw[HL.out];omega)] at h;exact h
   clear HR HA;go_wp2_with fail;refine ZgL.mono ?_;rintro e w9 ⟨rfl,hb⟩;replace HR2:=RwTL HR2 hb;replace R0:=R0.later hb;replace bel:=Zaa bel hb;clear hb;obtain ⟨tR,hR⟩:=R0;have HR1:Hid _:=hR;clear hR;go_wp2_with (first|((with_reducible show wpList _ _ _ (⟨_,.store _ _ _,_,_,_,_⟩::_) _ _);refine wpList_store_row rfl 53 _ _ rfl (w.heap.size) #[.int .i64 0,.int .i64 16,.bool true,.slice none 0 0,.slice ka i kc] rfl rfl tR _ HR1.out (by rw[Zae];rfl) rfl (by simp[Value.oneCell']) ?_)|fail);refine bodyPost_ret (Zac rfl _ _ (w.heap.size) tR #[.int .i64 0,.int .i64 16,.bool true,.slice none 0 0,.slice ka i kc] (0,0) _ rfl (setRow_heap _ _ _ _ _ _ HR1.out) Tryz.underlying53 rfl (by rw[Zae];rfl)) rfl ?_;exact Ze2.ok H.out (HR2.out.ret lR lW) (below_setRow bel (Nat.le_refl _) _)
  have g1:(i:Int)<(L:Int):=by omega
  have g2:(0:Int)≤(i:Int):=by omega
  have gi:IntKind.i64.wrap ((i:Int)+1)=(i:Int)+1:=by rw[IntKind.wrap_i64];omega
  obtain⟨p,b1,o1,hp,e1,-,l1,x0,x1⟩:=(HN.out.later bel).at (i:=i) (by rw[HL.out];exact hil);subst e1;have HW:Hid _:=wn i p hp;have HP:Hid (n[i]?=some p):=hp;obtain ⟨k1,s1⟩:=p;obtain ⟨s9,hs9⟩:∃ z,strOfNums s1=z:=⟨_,rfl⟩;have HS9:Hid (strOfNums s1=s9):=hs9;simp only at x0 x1;rw[hs9] at x1;clear hp hs9;have hz:=Zb1;have B1:=Blk.new wr [.int .i64 k1,.string s9] 106 wr.heap.size rfl;replace R0:=R0.alloc (.cells #[.int .i64 k1,.string s9] 106);replace HR:Hid (RwT (wr.alloc (.cells #[.int .i64 k1,.string s9] 106)) N0 (.slice ka i kc) ((n.take i).map ZbX)):=HR.out.later ((Below.refl _ _).alloc (Nat.le_refl _) _);replace bel:=Zah (o:=.cells #[.int .i64 k1,.string s9] 106) bel;replace hs:N0≤(wr.alloc (.cells #[.int .i64 k1,.string s9] 106)).heap.size:=Nat.le_trans hs ((Below.refl _ _).alloc (Nat.le_refl _) _).size;go_upto_region 7 with (first|((with_reducible show wpList _ _ _ (⟨_,.store _ _ _,_,_,_,_⟩::_) _ _);refine wpList_store_row rfl 106 _ _ rfl wr.heap.size #[.int .i64 k1,.string s9] rfl rfl 106 _ (heap_alloc_last _ _) (by rw[ZaR];rfl) rfl (by simp[Value.oneCell']) ?_;rw[World.setRow_alloc_new])|fail);clear hz x0 x1;obtain ⟨gp,hgp⟩:∃ g,g=wr.heap.size:=⟨_,rfl⟩;rw[← hgp] at B1;generalize wr.alloc (.cells #[.int .i64 k1,.string s9] 106)=V1 at *;rw[← hgp];clear hgp;have hLd:(loadVar 106 ⟨gp,0,none⟩).run Tryz.prog V1=.ok (.agg #[.int .i64 k1,.string s9]) V1:=B1.load Tryz.underlying106 rfl ZaR rfl;have lp:=B1.lt;go_wp2_with (first|((with_reducible show wpList _ _ _ (⟨_,.load _ _,_,_,_,_⟩::_) _ _);refine Zab (by rfl) (by rfl) (by rfl) hLd ?_)|fail);have cs16:=ZlF (w:=V1) HW.out.1 HW.out.2.1 HW.out.2.2;rw[HS9.out] at cs16;refine cs16.mono ?_;rintro e w2 ⟨hb,hbad,hok⟩;clear cs16 hLd lp B1;replace R0:=R0.later hb;have HRV:Hid (RwT V1 N0 (.slice ka i kc) ((n.take i).map ZbX)):=HR.out;replace HR:=RwTL HR hb;have bel0:=bel;replace bel:=Zaa bel hb;have hs1:N0≤w2.heap.size:=Nat.le_trans hs hb.size;have hsb:=hb.size;clear hb bel0
  cases hpt:Zbn (k1,s1) with
  | false =>
   have H:Hid (Zc3 n=false):=may_at HP.out hpt;obtain rfl:=hbad hpt;clear hok hbad hpt HR HRV hs hs1 hsb;have q:=Zbh 1;have hz:=Zaj.out;replace R0:=R0.alloc (.cells #[.int .i64 0,.int .i64 0,.bool false,.slice none 0 0,.slice none 0 0] 53);replace bel:=Zah (o:=.cells #[.int .i64 0,.int .i64 0,.bool false,.slice none 0 0,.slice none 0 0] 53) bel;go_upto_region 8 with (first|((with_reducible show wpList _ _ _ (⟨_,.store _ _ _,_,_,_,_⟩::_) _ _);refine wpList_store_row rfl 53 _ _ rfl w2.heap.size #[.int .i64 0,.int .i64 0,.bool false,.slice none 0 0,.slice none 0 0] rfl rfl 53 _ (heap_alloc_last _ _) (by rw[Zae];rfl) rfl (by simp[Value.oneCell']) ?_;rw[World.setRow_alloc_new])|fail);generalize w2.alloc (.cells #[.int .i64 0,.int .i64 0,.bool false,.slice none 0 0,.slice none 0 0] 53)=V2 at *;obtain ⟨tR,hR⟩:=R0;have HR1:Hid _:=hR;clear hR;go_wp2_with (first|((with_reducible show wpList _ _ _ (⟨_,.store _ _ _,_,_,_,_⟩::_) _ _);refine wpList_store_row rfl 53 _ _ rfl (w.heap.size) #[.int .i64 0,.int .i64 0,.bool false,.slice none 0 0,.slice none 0 0] rfl rfl tR _ HR1.out (by rw[Zae];rfl) rfl (by simp[Value.oneCell']) ?_)|fail);refine bodyPost_ret (Zac rfl _ _ (w.heap.size) tR #[.int .i64 0,.int .i64 0,.bool false,.slice none 0 0,.slice none 0 0] (0,0) _ rfl (setRow_heap _ _ _ _ _ _ HR1.out) Tryz.underlying53 rfl (by rw[Zae];rfl)) rfl ?_;exact Ze2.bad H.out (below_setRow bel (Nat.le_refl _) _)
  | true =>
   obtain⟨cs,rfl,hd⟩:=hok hpt;have HAn:Hid ((n.take (i+1)).all Zbn=true):=Zn2 HA.out HP.out hpt;have HTk:Hid ((n.take (i+1)).map ZbX=(n.take i).map ZbX++[ZbX (k1,s1)]):=by show _=_;rw[List.take_add_one,HP.out,List.map_append];rfl
   have HL5:Hid (cs.length=5):=hd.now.five;have HS5:Hid (cs.toArray.size=5):=by show _=_;rw[List.size_toArray];exact HL5.out
   have HO5:Hid (Zca cs):=hd.now.ones;have HDp:Hid (Dep (fun b=>N0≤b∧(Value.slice ka i kc).ownBlock≠some b) w2 (ZbX (k1,s1)) cs):=hd.next (Agr.refl _ _) (fun b h _=>⟨Nat.le_trans hs h,fun e9=>by have:=HRV.out.below e9;omega⟩);clear hok hbad hpt hd HRV hs hsb HA;have hz:=Zaj.out;have B2:=Blk.new w2 cs 53 w2.heap.size rfl;have st2:=bal w2 (.cells cs.toArray 53);replace R0:=R0.later st2;replace HR:=RwTL HR st2;replace HDp:=dpl HDp st2;replace bel:=Zaa bel st2;replace hs1:=hsl hs1 st2;clear st2;go_upto_region 8 with (first|((with_reducible show wpList _ _ _ (⟨_,.store _ _ _,_,_,_,_⟩::_) _ _);refine wpList_store_row rfl 53 _ _ rfl w2.heap.size cs.toArray rfl rfl 53 _ (heap_alloc_last _ _) (by rw[Zae,HS5.out]) (by rw[HS5.out];rfl) HO5.out ?_;rw[World.setRow_alloc_new])|fail);clear hz;obtain ⟨g2b,hg2⟩:∃ g,g=w2.heap.size:=⟨_,rfl⟩;rw[← hg2] at B2;generalize w2.alloc (.cells cs.toArray 53)=V2 at *;rw[← hg2];clear hg2;have q:=ZaU;have hLd:(loadVar 53 ⟨g2b,0,none⟩).run Tryz.prog V2=.ok (.agg cs.toArray) V2:=B2.load Tryz.underlying53 rfl Zae HL5.out;have lp:=B2.lt;have HF:Hid _:=ZeX HL5.out;have hz:=Zaj.out;have B9:=Blk.new V2 cs 53 V2.heap.size rfl;have st9:=bal V2 (.cells cs.toArray 53);have HD9:Hid (Dep (fun b=>N0≤b∧(Value.slice ka i kc).ownBlock≠some b) (V2.alloc (.cells cs.toArray 53)) (ZbX (k1,s1)) cs):=HDp.out.next (Agr.below st9) (fun _ h _=>h);have HR9:Hid (RwT (V2.alloc (.cells cs.toArray 53)) N0 (.slice ka i kc) ((n.take i).map ZbX)):=HR.out.later st9;have hs9:N0≤(V2.alloc (.cells cs.toArray 53)).heap.size:=Nat.le_trans hs1 st9.size;replace R0:=R0.later st9;replace bel:=Zaa bel st9;clear st9 hs1 HR HDp;go_wp2_with (first|((with_reducible show wpList _ _ _ (⟨_,.load _ _,_,_,_,_⟩::_) _ _);refine Zab (by rfl) (by rfl) (by rfl) hLd ?_)|((with_reducible show wpList _ _ _ (⟨_,.buildSlice _ _ _,_,_,_,_⟩::_) _ _);refine Go.wpList_buildSlice rfl 51 53 1 _ rfl cs.toArray jt _ Tryz.underlying51 hjt ht0 (by rw[ht1];decide) (by rw[ht1];decide) (by rw[ht1];refine (congrArg _ (?_:_=[(0,Value.agg cs.toArray)])).trans HF.out;kernel_rfl) ?_)|(at_builtin;refine ZeR (by rfl) _ _ (by rfl) N0 (.slice ka i kc) ((n.take i).map ZbX) (by rfl) HR9.out V2.heap.size (by rfl) cs B9 HL5.out HO5.out (ZbX (k1,s1)) HD9.out (by rw[HLi.out];omega) hs9 ?_;intro kv9 w9 hr9 hgrow9 hge9 hat9)|fail);have hsz9:=bel.size;replace R0:=R0.grown hgrow9 (fun k hk e=>by have:=hge9 k hk;omega);replace bel:=Below.grown bel hgrow9 hsz9 (fun k hk=>by have:=hge9 k hk;omega);have hs10:N0≤w9.heap.size:=Nat.le_trans hs9 hgrow9.size;rw[← HTk.out] at hr9;clear hgrow9 hge9 hat9 hs9 B9 HR9 HD9 hz hLd lp;go_roundw
   case rel=>exact ⟨i+1,by omega,by go_num,hr9,HAn,R0,bel,hs10⟩
   case measure=>simp[intOf];omega
def QQ:Int:=39402006196394479212279040100143613805079739270465446667946905279627659399113263569398956308152294913554433653942643
theorem QQ_pos:0<QQ:=by decide
theorem QQ_v:v64 [17072048233947408755,6348401684107011962,14367412456785391071,18446744073709551615,18446744073709551615,18446744073709551615]=QQ:=by decide
theorem fQ:Zdg [17072048233947408755,6348401684107011962,14367412456785391071,18446744073709551615,18446744073709551615,18446744073709551615]:=fits6 (by decide)
def Zex (w:World):Prop:=(w.cell? ⟨1,0,none⟩=some (.int .u64 17072048233947408755)∧w.cell? ⟨1,1,none⟩=some (.int .u64 6348401684107011962)∧w.cell? ⟨1,2,none⟩=some (.int .u64 14367412456785391071)∧w.cell? ⟨1,3,none⟩=some (.int .u64 18446744073709551615)∧w.cell? ⟨1,4,none⟩=some (.int .u64 18446744073709551615)∧w.cell? ⟨1,5,none⟩=some (.int .u64 18446744073709551615))∧True
theorem Zex.below {w w':World} (G:Zex w) (hb:Below w.heap.size w w'):Zex w':=by
 obtain⟨⟨a0,a1,a2,a3,a4,a5⟩,_⟩:=G;exact ⟨⟨Zan a0 hb,Zan a1 hb,Zan a2 hb,Zan a3 hb,Zan a4 hb,Zan a5 hb⟩,trivial⟩
theorem Zex.lts {w:World} (G:Zex w):1<w.heap.size∧True :=
 ⟨World.block_lt_of_cell? w _ G.1.1,trivial⟩
def Zho (cs:List Value):Prop:=cs.toArray.all (·.oneCell')=true
def U6 (cs:List Value) (x:Int):Prop:=∃ z0 z1 z2 z3 z4 z5:Int,cs=[.int .u64 z0,.int .u64 z1,.int .u64 z2,.int .u64 z3,.int .u64 z4,.int .u64 z5]∧Zdg [z0,z1,z2,z3,z4,z5]∧v64 [z0,z1,z2,z3,z4,z5]=x
theorem U6.len {cs:List Value} {x:Int} (h:U6 cs x):cs.length=6:=by
 obtain⟨z0,z1,z2,z3,z4,z5,rfl,_⟩:=h
 rfl
theorem U6.ones {cs:List Value} {x:Int} (h:U6 cs x):Zho cs:=by
 obtain⟨z0,z1,z2,z3,z4,z5,rfl,_⟩:=h;simp[Zho,Value.oneCell']
theorem U6.bd {cs:List Value} {x:Int} (h:U6 cs x):0≤x∧x<18446744073709551616 ^ 6:=by
 obtain⟨z0,z1,z2,z3,z4,z5,rfl,hf,rfl⟩:=h;exact ZpL _ rfl hf
theorem U6.same {cs ds:List Value} {x y:Int} (h:U6 cs x) (k:U6 ds y):cs=ds↔x=y:=by
 obtain⟨z0,z1,z2,z3,z4,z5,rfl,hf,rfl⟩:=h;obtain ⟨y0,y1,y2,y3,y4,y5,rfl,kf,rfl⟩:=k;constructor
 ·intro e
  simp only[List.cons.injEq,Value.int.injEq,true_and,and_true] at e;obtain ⟨rfl,rfl,rfl,rfl,rfl,rfl⟩:=e
  rfl
 ·intro e
  have e2:=Zhl [z0,z1,z2,z3,z4,z5] [y0,y1,y2,y3,y4,y5] rfl hf kf e;simp only[List.cons.injEq,and_true] at e2;obtain ⟨rfl,rfl,rfl,rfl,rfl,rfl⟩:=e2
  rfl
theorem U6.zero:U6 [.int .u64 0,.int .u64 0,.int .u64 0,.int .u64 0,.int .u64 0,.int .u64 0] 0:=⟨0,0,0,0,0,0,rfl,fits6 (by decide),by decide⟩
def ZbL (x:Int):Prop:=1≤x∧x<QQ
instance (x:Int):Decidable (ZbL x):=by unfold ZbL;exact inferInstance
theorem Zdi:(Tryz.prog.info? 29).map (·.size)=some 6:=by kernel_rfl
theorem Zgz:Hid (∀ w:World,(zeroValue 29).run Tryz.prog w=.ok (.agg #[.int .u64 0,.int .u64 0,.int .u64 0,.int .u64 0,.int .u64 0,.int .u64 0]) w):=fun w=>by kernel_rfl
theorem Zho.app {xs ys:List Value} (h:Zho xs) (k:Zho ys):Zho (xs++ys):=by
 unfold Zho at *;rw[Array.all_eq_true_iff_forall_mem] at *;intro u hu;simp only[List.mem_toArray,List.mem_append] at hu;rcases hu with hu|hu
 ·exact h u (by simpa using hu)
 ·exact k u (by simpa using hu)
theorem ZcF:(Tryz.prog.info? 31).map (·.size)=some 12:=by kernel_rfl
theorem Zf2:Hid (∀ w:World,(zeroValue 31).run Tryz.prog w=.ok (.agg #[.int .u64 0,.int .u64 0,.int .u64 0,.int .u64 0,.int .u64 0,.int .u64 0,.int .u64 0,.int .u64 0,.int .u64 0,.int .u64 0,.int .u64 0,.int .u64 0]) w):=fun w=>by kernel_rfl
theorem six_of {l:List Int} (h:l.length=6):∃ z0 z1 z2 z3 z4 z5:Int,l=[z0,z1,z2,z3,z4,z5]:=by
 match l,h with
 | [z0,z1,z2,z3,z4,z5],_=>exact ⟨z0,z1,z2,z3,z4,z5,rfl⟩
theorem uOf6 {cs:List Value} {x:Int} {w:World} (h:U6 cs x):Calls Tryz.prog 145 #[.agg cs.toArray] w fun e w'=>∃ v',e=.returned v'∧Zcr w' v' x∧Below w.heap.size w w':=by
 obtain⟨z0,z1,z2,z3,z4,z5,rfl,hf,rfl⟩:=h;exact ZqP [z0,z1,z2,z3,z4,z5] w rfl hf
theorem n_num (w:World) (t:TypeId):Zcr (w.alloc (.cells (us [3435473267,3974895978,1219536762,1478102450,4097256927,3345173889,4294967295,4294967295,4294967295,4294967295,4294967295,4294967295]).toArray t)) (.slice (some ⟨w.heap.size,0,none⟩) 12 12) QQ:=by
 have B:=Blk.new w (us [3435473267,3974895978,1219536762,1478102450,4097256927,3345173889,4294967295,4294967295,4294967295,4294967295,4294967295,4294967295]) t w.heap.size rfl;refine ⟨[3435473267,3974895978,1219536762,1478102450,4097256927,3345173889,4294967295,4294967295,4294967295,4294967295,4294967295,4294967295],.inr ⟨w.heap.size,12,rfl,Nat.le_refl _,by unfold maxLen;omega,B.lt,fun j hj=>B.cell j _ (Zcl _ j hj)⟩,?_,?_,?_⟩
 ·intro j
  match j with
  | 0=>decide
  | 1=>decide
  | 2=>decide
  | 3=>decide
  | 4=>decide
  | 5=>decide
  | 6=>decide
  | 7=>decide
  | 8=>decide
  | 9=>decide
  | 10=>decide
  | 11=>decide
  | _+12=>exact ⟨by simp,by simp⟩
 ·intro _;simp
 ·simp only[v32,pv];decide
set_option maxRecDepth 100000 in
theorem n_any {w:World} :
  Calls Tryz.prog 157 #[] w fun e w'=>∃ v',e=.returned v'∧Zcr w' v' QQ∧Below w.heap.size w w':=by
 have h:=n_num w 27;go_enter Tryz.func157,Tryz.ntmps157;go_wp2;go_ret;exact ⟨_,rfl,h,(Below.refl _ _).alloc (Nat.le_refl _) _⟩
theorem Znf : (Tryz.prog.fieldsOf 31).toList.map (fun f => (f.name == "_", f.type, f.offset)) = [(false, 29, 0), (false, 29, 6)] := by kernel_rfl
theorem Zjj {P : Program} {w : World} {d : Nat} {xs ys : Array Value} {f : Field} {fs : List Field} {a b : Value} {r : Bool} (hn : (f.name == "_") = false) (ha : ∀ w, (part f.type xs f.offset).run P w = .ok a w) (hb : ∀ w, (part f.type ys f.offset).run P w = .ok b w) (hr : ∀ w, (Op.equalIn d f.type a b).run P w = .ok r w) :
  (Op.eqFields d xs ys (f::fs)).run P w=if r then (Op.eqFields d xs ys fs).run P w else .ok false w:=by
 have : f.name ≠ "_" := by simpa using hn
 rw[Op.eqFields,if_pos this];simp only[Sem.run_bind,ha,hb,hr,Result.andThen_ok]
 cases r<;>simp
theorem Zp1 {ps qs:List Value} {a b:Int} (ha:U6 ps a) (hb:U6 qs b):∀ w:World,(part 29 (ps++qs).toArray 0).run Tryz.prog w=.ok (.agg ps.toArray) w:=fun w=>by
 obtain⟨z0,z1,z2,z3,z4,z5,rfl,_⟩:=ha;obtain ⟨y0,y1,y2,y3,y4,y5,rfl,_⟩:=hb;kernel_rfl
theorem Zp2 {ps qs:List Value} {a b:Int} (ha:U6 ps a) (hb:U6 qs b):∀ w:World,(part 29 (ps++qs).toArray 6).run Tryz.prog w=.ok (.agg qs.toArray) w:=fun w=>by
 obtain⟨z0,z1,z2,z3,z4,z5,rfl,_⟩:=ha;obtain ⟨y0,y1,y2,y3,y4,y5,rfl,_⟩:=hb;kernel_rfl
theorem eqU9 {cs ds:List Value} {x y:Int} (h:U6 cs x) (k:U6 ds y):∀ w:World,(Op.equalIn 9999 29 (.agg cs.toArray) (.agg ds.toArray)).run Tryz.prog w=.ok (decide (x=y)) w:=fun w=>by
 obtain⟨z0,z1,z2,z3,z4,z5,rfl,hf,rfl⟩:=h;obtain ⟨y0,y1,y2,y3,y4,y5,rfl,kf,rfl⟩:=k;rw[Zor]
 congr 1
 by_cases e:[z0,z1,z2,z3,z4,z5]=[y0,y1,y2,y3,y4,y5]
 ·rw[decide_eq_true e,decide_eq_true (by rw[e])]
 ·rw[decide_eq_false e,decide_eq_false (fun h=>e (Zhl [z0,z1,z2,z3,z4,z5] [y0,y1,y2,y3,y4,y5] rfl hf kf h))]
theorem eqS {ps qs cs ds:List Value} {a b c d:Int} (ha:U6 ps a) (hb:U6 qs b) (hc:U6 cs c) (hd:U6 ds d):∀ w:World,(Op.equalIn 10000 31 (.agg (ps++qs).toArray) (.agg (cs++ds).toArray)).run Tryz.prog w=.ok (decide (a=c∧b=d)) w:=fun w=>by
 rw[run_equalIn_struct w 9999 31 _ _ (by kernel_rfl) (by kernel_rfl)];have hf:=Znf;generalize (Tryz.prog.fieldsOf 31).toList=fs at *;have hl:fs.length=2:=by simpa using congrArg List.length hf
 match fs,hl,hf with
 | [f0,f1],_,hf =>
  simp only[List.map_cons,List.map_nil,List.cons.injEq,and_true,Prod.mk.injEq] at hf;obtain ⟨⟨n0,t0,o0⟩,⟨n1,t1,o1⟩⟩:=hf;rw[Zjj n0 (by rw[t0,o0];exact Zp1 ha hb) (by rw[t0,o0];exact Zp1 hc hd) (by rw[t0];exact eqU9 ha hc)];rw[Zjj n1 (by rw[t1,o1];exact Zp2 ha hb) (by rw[t1,o1];exact Zp2 hc hd) (by rw[t1];exact eqU9 hb hd)];simp only[Op.eqFields,Sem.run_pure]
  by_cases h1:a=c<;>by_cases h2:b=d<;>simp[h1,h2]
theorem Zco {P:Program} {ops:Array Oper} {rest:List Oper} {o:Oper} {a:Act} {w:World} {Q:Exit→Act→World→Prop} {ty:TypeId} {fs:Array (Nat × Operand)} {ps:List (Nat × Value)} {v:Value} (hw:Region.wanted o (yielded ops a.tmps)=true) (ho:o.op=.build ty fs) (hx:fs.toList.map (fun p=>(p.1,a.eval p.2))=ps) (h:(Instr.build ty ps.toArray).run P w=.ok v w)
  (k:wpList P ops Q rest (a.put o.dst v) w):wpList P ops Q (o::rest) a w:=by
 refine wpList_step fun K hK=>?_;simp only[hw,if_true];have e:(fs.map fun (p:Nat × Operand)=>(p.1,a.eval p.2))=ps.toArray:=by rw[← hx];exact Array.ext' (by rw[Array.toList_map])
 unfold Oper.wp execOp;simp only[ho,e,Sem.run_bind,Sem.run_pure,Result.andThen_ok,h];exact hK _ _ k
theorem Zhq {ps qs:List Value} {a b:Int} (ha:U6 ps a) (hb:U6 qs b):∀ w:World,(Instr.build 31 #[(0,.agg ps.toArray),(1,.agg qs.toArray)]).run Tryz.prog w=.ok (.agg (ps++qs).toArray) w:=fun w=>by
 obtain⟨z0,z1,z2,z3,z4,z5,rfl,_⟩:=ha;obtain ⟨y0,y1,y2,y3,y4,y5,rfl,_⟩:=hb;kernel_rfl
theorem Zg4 {p:Pn} (h:Zbn p=true):(0≤p.1∧p.1<256)∧p.2.length≤64:=by
 unfold Zbn ZbT ZbJ at h;simp only[Bool.and_eq_true,Bool.or_eq_true,decide_eq_true_eq] at h;refine ⟨by omega,?_⟩
 by_cases h64:64<p.2.length
 ·rw[if_pos h64] at h
  exact absurd h.2 (by simp)
 ·omega
theorem ZgX {n:List Pn} (h:Zc3 n=true):n.length≤8∧∀ p∈n,Zbn p=true:=by
 unfold Zc3 at h;rw[Bool.and_eq_true,List.all_eq_true] at h;exact ⟨of_decide_eq_true h.1,h.2⟩
theorem ZqK (n:Nat):(Zbv n).length≤4:=by
 unfold Zbv
 split
 ·simp
 ·split
  ·simp
  ·split<;>simp
theorem ZdB (c t:Int) (m:Bool) (b:List Int) (ks:List Tl):(Zak (.mk c t m b ks)).length≤5+b.length+(Zal ks).length:=by
 rw[Zak];have:=ZqK (b++Zal ks).length;simp only[List.length_cons,List.length_append] at this ⊢;omega
theorem Zlu {p:Pn} (h:p.2.length≤64):(Zak (ZbX p)).length≤100:=by
 unfold ZbX;have e0:Zal []=[]:=by rw[Zal]
 have h1:=ZdB 0 17 true [] [.mk 0 16 true [] [.mk 0 6 false [85,4,p.1] [],.mk 0 12 false p.2 []]];have h2:=ZdB 0 16 true [] [.mk 0 6 false [85,4,p.1] [],.mk 0 12 false p.2 []];have h3:=ZdB 0 6 false [85,4,p.1] [];have h4:=ZdB 0 12 false p.2 [];rw[Zal,Zal,List.append_nil] at h1;rw[Zal,Zal,Zal,List.append_nil,List.length_append] at h2;rw[e0] at h3 h4;simp only[List.length_cons,List.length_nil] at h1 h2 h3 h4;omega
theorem Zgd:∀ {n:List Pn},(∀ p∈n,Zbn p=true)→(Zal (n.map ZbX)).length≤100*n.length
 | [],_=>by rw[List.map_nil,Zal];simp
 | p::n,h=>by
  have h1:=Zgd (n:=n) (fun q hq=>h q (List.mem_cons_of_mem _ hq));have h2:=Zlu (Zg4 (h p (List.mem_cons_self ..))).2;rw[List.map_cons,Zal,List.length_append,List.length_cons];omega
theorem Zou (p:Pn):ZaK (ZbX p)=true:=by
 unfold ZbX;simp[ZaK,ZaE,Zby]
theorem ZhK:∀ n:List Pn,ZaE (n.map ZbX)=true
 | []=>by rw[List.map_nil,ZaE]
 | p::n=>by rw[List.map_cons,ZaE,Zou,ZhK n];rfl
theorem Zqs (p:Pn):Zct (ZbX p)=3:=by
 unfold ZbX;simp[Zct,Zb7]
theorem Zjg:∀ n:List Pn,Zb7 (n.map ZbX)≤3
 | []=>by rw[List.map_nil,Zb7];omega
 | p::n=>by
  have:=Zjg n;rw[List.map_cons,Zb7,Zqs];omega
theorem sz_set (p:Pn):szT (ZbX p)=4:=by
 unfold ZbX;simp[szT,szL]
theorem Zns:∀ n:List Pn,szL (n.map ZbX)=4*n.length
 | []=>by rw[List.map_nil,szL];rfl
 | p::n=>by rw[List.map_cons,szL,sz_set,Zns n,List.length_cons];omega
theorem Zrm (n:List Pn):szT (ZbC n)=1+4*n.length:=by
 unfold ZbC;rw[szT,Zns]
theorem Zqj {k:Int} (h:0≤k∧k<256):byt [85,4,k]:=fun j=>by
 match j with
 | 0=>exact ⟨by show (0:Int)≤85;decide,by show (85:Int)<256;decide⟩
 | 1=>exact ⟨by show (0:Int)≤4;decide,by show (4:Int)<256;decide⟩
 | 2=>exact h
 | j+3=>simp
theorem ZgI:byt []:=fun j=>by simp
theorem wf_set {p:Pn} (h:0≤p.1∧p.1<256) (hb:byt p.2):WfT (ZbX p):=by
 unfold ZbX;rw[WfT,WfL,WfL,WfT,WfL,WfL,WfL,WfT,WfT,WfL];exact ⟨by decide,by decide,ZgI,⟨by decide,by decide,ZgI,⟨by decide,by decide,Zqj h,trivial⟩,⟨by decide,by decide,hb,trivial⟩,trivial⟩,trivial⟩
theorem ZnF:∀ {n:List Pn},(∀ p∈n,Zbn p=true)→(∀ p∈n,byt p.2)→WfL (n.map ZbX)
 | [],_,_=>by rw[List.map_nil,WfL];trivial
 | p::n,h,hb=>by
  rw[List.map_cons,WfL];exact ⟨wf_set (Zg4 (h p (List.mem_cons_self ..))).1 (hb p (List.mem_cons_self ..)),ZnF (fun q hq=>h q (List.mem_cons_of_mem _ hq)) (fun q hq=>hb q (List.mem_cons_of_mem _ hq))⟩
theorem WfN.byts {n:List Pn} (wn:WfN n):∀ p∈n,byt p.2:=fun p hp=>by
 obtain⟨i,hi⟩:=List.mem_iff_getElem?.1 hp;exact (wn i p hi).2.1
theorem Zry {n:List Pn} (h:Zc3 n=true) (wn:WfN n):WfT (ZbC n):=by
 unfold ZbC;rw[WfT];exact ⟨by decide,by decide,ZgI,ZnF (ZgX h).2 wn.byts⟩
theorem ZqS {p:Pn} (h:Zbn p=true):Zdc (ZbX p)=some p:=by
 unfold ZbX Zdc;dsimp only;rw[if_pos ⟨rfl,rfl,rfl,rfl,rfl,rfl,rfl,rfl,rfl,rfl,rfl,rfl,rfl,rfl,h⟩]
theorem Zjv:∀ {n:List Pn},(∀ p∈n,Zbn p=true)→(n.map ZbX).mapM Zdc=some n
 | [],_=>by simp
 | p::n,h=>by
  rw[List.map_cons,List.mapM_cons,ZqS (h p (List.mem_cons_self ..)),Zjv (n:=n) (fun q hq=>h q (List.mem_cons_of_mem _ hq))]
  rfl
theorem ZmW {n:List Pn} (h:Zc3 n=true):Zcz (ZbC n)=.ok n:=by
 obtain⟨hl,hp⟩:=ZgX h;unfold Zcz ZbC;simp only[and_self,if_true,Zjv hp];rw[if_neg (by omega)]
theorem be_lt {bs:List Int} (hB:byt bs) (hl:bs.length=48):0≤beN bs∧beN bs<18446744073709551616 ^ 6:=by
 have h:=Zcy bs.reverse (ZeC hB);rw[List.length_reverse,hl] at h;exact ⟨h.1,Int.lt_of_lt_of_le h.2 (by decide)⟩
def ZdR (ks:List Tl):Tl:=.mk 0 16 true [] ks
def ZmB:Except Nat (List Int)→List Int
 | .ok b=>b
 | .error _=>[]
def Zmx (l:List Int):Tl:=.mk 0 6 false (ZmB (Za6 l)) []
def ZbR:Tl:=ZdR [Zmx [1,2,840,10045,4,3,3]]
noncomputable def wrB (T:Tl):List Int:=if wrN T=0 then Zak T else []
def ZjG (n:List Int):Option Tl:=if n.length<1∨20<n.length∨n.getD 0 0=0 then none else some (.mk 0 2 false (ZmB (ZaG n)) [])
def Zcv (v:Int):Option Tl:=match Za2 v with|.ok (a,b)=>some (.mk 0 a false b [])|.error _=>none
noncomputable def orT:Option Tl→Tl
 | some T=>T
 | none=>.mk 0 0 false [] []
theorem ZnJ {T G:Prop} (main:T→G) (kp:T):G:=main kp
def ElR (w:World) (r:Option Tl) (e:Ending) (w':World):Prop:=Below w.heap.size w w'∧(r=none→∃ c:Int,e=.returned (.tuple #[.agg #[.int .i64 0,.int .i64 0,.bool false,.slice none 0 0,.slice none 0 0],.iface 46 (.int .i64 c)]))∧(∀ T,r=some T→∃ cs:List Value,e=.returned (.tuple #[.agg cs.toArray,.nilIface])∧Dep (fun g=>w.heap.size≤g) w' T cs)
theorem ElR.bad {w w':World} {r:Option Tl} {c:Int} (h:r=none) (hb:Below w.heap.size w w'):ElR w r (.returned (.tuple #[.agg #[.int .i64 0,.int .i64 0,.bool false,.slice none 0 0,.slice none 0 0],.iface 46 (.int .i64 c)])) w':=⟨hb,fun _=>⟨c,rfl⟩,fun T k=>(by rw[h] at k;cases k)⟩
theorem ElR.ok {w w':World} {r:Option Tl} {T:Tl} {cs:List Value} (h:r=some T) (hd:Dep (fun g=>w.heap.size≤g) w' T cs) (hb:Below w.heap.size w w'):ElR w r (.returned (.tuple #[.agg cs.toArray,.nilIface])) w':=⟨hb,fun k=>(by rw[h] at k;cases k),fun T' k=>(by rw[h] at k;cases k;exact ⟨cs,rfl,hd⟩)⟩
def Zld (n:List Int):Bool:=decide (¬ (n.length<1∨20<n.length∨n.getD 0 0=0))
theorem Zq8 {n:List Int} (h:Zld n=false):ZjG n=none:=by
 unfold Zld at h;unfold ZjG;rw[if_pos (Decidable.not_not.1 (of_decide_eq_false h))]
theorem Zpz {n:List Int} (h:Zld n=true):∃ b,ZaG n=.ok b∧ZjG n=some (.mk 0 2 false b []):=by
 have h1:=of_decide_eq_true h;unfold ZjG;rw[if_neg h1]
 cases hn:ZaG n with
 | ok b=>exact ⟨b,rfl,rfl⟩
 | error c =>
  exfalso
  unfold ZaG at hn;have hz:∀ X:List Int,(ZaF X).length≤X.length:=by
   intro X
   induction X with
   | nil=>simp[ZaF]
   | cons x X ih =>
    rw[ZaF]
    split
    ·rw[List.length_cons];omega
    ·exact Nat.le_refl _
  have:=hz n;rw[if_neg (by omega)] at hn
  split at hn<;>cases hn
theorem Zrn {t:Int} {c:Nat} (h:Za2 t=.error c):Zcv t=none:=by unfold Zcv;rw[h]
theorem ZpF {t a:Int} {b:List Int} (h:Za2 t=.ok (a,b)):Zcv t=some (.mk 0 a false b []):=by unfold Zcv;rw[h]
def Ziz (n:List Pn):Option Tl:=if Zc3 n=true then some (ZbC n) else none
theorem Zkq {v:Value} {n:List Pn} {w:World} (hn:Zcq w v n) (wn:WfN n):Calls Tryz.prog 50 #[v] w (ElR w (Ziz n)):=by
 refine(ZlM hn wn).mono ?_;rintro e w' ⟨h1,h2⟩;unfold Ziz
 cases hm:Zc3 n with
 | false =>
  obtain⟨rfl,hb⟩:=h1 hm;exact ElR.bad (by simp) hb
 | true =>
  obtain⟨kv,xs,rfl,h3,h4,hb⟩:=h2 hm;exact ElR.ok (by simp) (Ze2.tl h3 h4) hb
def Sm (B:Nat) (T:Tl):Prop:=(Zak T).length≤B∧szT T≤B
def Zc1 (B:Nat) (ks:List Tl):Prop:=(Zal ks).length≤B∧szL ks≤B
theorem Sm.le {A B:Nat} {T:Tl} (h:Sm A T) (k:A≤B):Sm B T:=⟨Nat.le_trans h.1 k,Nat.le_trans h.2 k⟩
theorem Zc1.le {A B:Nat} {ks:List Tl} (h:Zc1 A ks) (k:A≤B):Zc1 B ks:=⟨Nat.le_trans h.1 k,Nat.le_trans h.2 k⟩
theorem Zc1.nil:Zc1 0 []:=⟨by simp[Zal],by simp[szL]⟩
theorem Zc1.cons {A B:Nat} {k:Tl} {ks:List Tl} (h:Sm A k) (hs:Zc1 B ks):Zc1 (A+B) (k::ks):=by
 refine⟨?_,?_⟩
 ·rw[Zal,List.length_append]
  exact Nat.add_le_add h.1 hs.1
 ·rw[szL]
  exact Nat.add_le_add h.2 hs.2
theorem Zc1.one {A:Nat} {k:Tl} (h:Sm A k):Zc1 A [k]:=h.1 |> fun _=>Zc1.le (Zc1.cons h Zc1.nil) (by omega)
theorem Zc1.app {A B:Nat}:∀ {ks ls:List Tl},Zc1 A ks→Zc1 B ls→Zc1 (A+B) (ks++ls)
 | [],ls,_,h2=>h2.le (by omega)
 | k::ks,ls,h1,h2=>by
  have hb:(Zak k).length+(Zal ks).length≤A:=by have:=h1.1;rwa [Zal,List.length_append] at this
  have hz:szT k+szL ks≤A:=by have:=h1.2;rwa [szL] at this
  have ih:=Zc1.app (A:=A-min (Zak k).length (szT k)) (ks:=ks) (ls:=ls) ⟨by omega,by omega⟩ h2;refine ⟨?_,?_⟩
  ·rw[List.cons_append,Zal,List.length_append]
   have e:∀ ks ls:List Tl,(Zal (ks++ls)).length=(Zal ks).length+(Zal ls).length:=by
    intro ks ls
    induction ks with
    | nil=>simp[Zal]
    | cons k ks ih=>rw[List.cons_append,Zal,Zal,List.length_append,List.length_append,ih];omega
   rw[e];have:=h2.1;omega
  ·rw[List.cons_append,szL]
   have e:∀ ks ls:List Tl,szL (ks++ls)=szL ks+szL ls:=by
    intro ks ls
    induction ks with
    | nil=>simp[szL]
    | cons k ks ih=>rw[List.cons_append,szL,szL,ih];omega
   rw[e];have:=h2.2;omega
theorem Zc1.map {α:Type} {A:Nat} {f:α→Tl}:∀ {L:List α},(∀ x∈L,Sm A (f x))→Zc1 (A*L.length) (L.map f)
 | [],_=>Zc1.nil.le (Nat.zero_le _)
 | x::L,h=>by
  rw[List.map_cons];refine (Zc1.cons (h x (List.mem_cons_self)) (Zc1.map (fun y hy=>h y (List.mem_cons_of_mem _ hy)))).le ?_;rw[List.length_cons,Nat.mul_succ];omega
theorem sm_mk {B n:Nat} {c t:Int} {m:Bool} {b:List Int} {ks:List Tl} (h:Zc1 B ks) (hb:b.length≤n):Sm (5+n+B) (.mk c t m b ks):=by
 refine⟨?_,?_⟩
 ·have:=ZdB c t m b ks
  have:=h.1;omega
 ·rw[szT]
  have:=h.2;omega
theorem ZfX {n:Nat} {c t:Int} {m:Bool} {b:List Int} (hb:b.length≤n):Sm (5+n) (.mk c t m b []):=sm_mk Zc1.nil hb
theorem Zhh {B:Nat} {ks:List Tl} (h:Zc1 B ks):Sm (5+B) (ZdR ks):=sm_mk (n:=0) h (by simp)
theorem Zmz {l b:List Int} (h:Za6 l=.ok b):b.length≤150:=by
 unfold Za6 at h
 split at h
 ·cases h
 ·rename_i k
  split at h
  ·cases h
  ·cases h
   have h1:=ZgD (Za8 l);have h2:=Zce (L:=l) (by omega);omega
theorem sm_oid (l:List Int):Sm 155 (Zmx l):=by
 refine ZfX (n:=150) ?_
 cases h:Za6 l with
 | ok b=>exact Zmz h
 | error c=>simp[ZmB]
theorem Zrg {n:List Pn} (h:Zc3 n=true):Sm 805 (ZbC n):=by
 obtain⟨h1,h2⟩:=ZgX h;refine ⟨?_,?_⟩
 ·have h3:=ZdB 0 16 true [] (n.map ZbX)
  have h4:=Zgd h2;have:(Zak (ZbC n)).length≤5+0+(Zal (n.map ZbX)).length:=h3;omega
 ·rw[Zrm];omega
theorem Zmr {n b:List Int} (h:ZaG n=.ok b):b.length≤n.length+1:=by
 have hz:∀ X:List Int,(ZaF X).length≤X.length:=by
  intro X
  induction X with
  | nil=>simp[ZaF]
  | cons x X ih =>
   rw[ZaF]
   split
   ·rw[List.length_cons];omega
   ·exact Nat.le_refl _
 have:=hz n;unfold ZaG at h
 split at h
 ·cases h
 ·split at h
  ·cases h
   rw[List.length_cons];omega
  ·cases h
   omega
theorem sm_ser {n:List Int} {T:Tl} (h:ZjG n=some T):Sm 26 T:=by
 unfold ZjG at h
 split at h
 ·cases h
 ·rename_i k
  cases h
  refine ZfX (n:=21) ?_
  cases hn:ZaG n with
  | ok b=>have:=Zmr hn;simp only[ZmB];omega
  | error c=>simp[ZmB]
theorem Znl {t:Int} {T:Tl} (h:Zcv t=some T):Sm 20 T:=by
 unfold Zcv at h
 cases ht:Za2 t with
 | error c=>rw[ht] at h;cases h
 | ok q =>
  obtain⟨a,b⟩:=q;rw[ht] at h
  cases h
  refine ZfX (n:=15) ?_;unfold Za2 at ht
  split at ht
  ·cases ht
  ·cases ht
   unfold ZdP Zaz
   split<;>simp
end Go.Proofs.YtohcdbifhnfcbaaGreatDoor
