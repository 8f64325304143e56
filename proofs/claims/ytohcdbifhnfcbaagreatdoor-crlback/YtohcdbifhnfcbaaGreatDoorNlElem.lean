/- Names, part by part. What a part is made of. A name's element: what the program answers. -/
import Derived.Test.YtohcdbifhnfcbaaGreatDoorDrTG
import Derived.Test.YtohcdbifhnfcbaaGreatDoorNlSG
import Derived.Test.YtohcdbifhnfcbaaGreatDoorDcG1
import Derived.Test.YtohcdbifhnfcbaaGreatDoorRows
import Derived.BigQuiet
import Derived.Deep.WholeRow
import Derived.Deep.RegionHeld3
import Derived.Deep.DeepCutAuto
import Derived.Deep.DeepFit
import Derived.Deep.OwnRows
import Derived.Deep.AppendLies
import Derived.Great.BuildSlice
import Derived.Laws.Rows
namespace Go.Proofs.YtohcdbifhnfcbaaGreatDoor
open Go.RowKit
theorem NmAt.at {w:World} {ao:Option Addr} {m cap:Nat} {n:List Pn} (h:NmAt w (.slice ao m cap) n) {i:Nat} (hi:i < n.length):∃ p b o,n[i]?=some p∧ao=some ⟨b,o,none⟩∧m=n.length∧b < w.heap.size∧w.cell? ⟨b,o + i * 2,none⟩=some (.int .i64 p.1)∧w.cell? ⟨b,o + i * 2 + 1,none⟩=some (.string (strOfNums p.2)):=by
 obtain ⟨a9,c9,e,_,_,h3⟩:=h
 obtain ⟨b,o,e2,hl,hc⟩:=h3 (by omega)
 have hp:n[i]?=some n[i]:=List.getElem?_eq_getElem hi
 simp only [Value.slice.injEq] at e
 exact ⟨n[i],b,o,hp,by rw [e.1,e2],e.2.1,hl,(hc i _ hp).1,(hc i _ hp).2⟩
theorem take_one {n m:List Pn} {i:Nat} {p q:Pn} (h:n.take i=m.take i) (hp:n[i]?=some p) (hq:m[i]?=some q):n.take (i + 1)=m.take (i + 1)↔p=q:=by
 rw [List.take_add_one,List.take_add_one,hp,hq,h]
 constructor
 ·intro e
  have:=List.append_cancel_left e
  simpa using this
 ·rintro rfl
  rfl
theorem eqN {p q:Pn} (hp:byt p.2) (hq:byt q.2):∀ w:World,(Op.equalIn 10000 106 (.agg #[.int .i64 p.1,.string (strOfNums p.2)]) (.agg #[.int .i64 q.1,.string (strOfNums q.2)])).run Tryz.prog w=.ok (decide (p=q)) w:=eqPt p.1 q.1 p.2 q.2 hp hq
theorem info_pt:(Tryz.prog.info? 106).map (fun i=>(i.zero,i.size,i.bytes))=some (some (.agg #[.int .i64 0,.string { data:=#[] }]),2,24):=by kernel_rfl
theorem zero_pt:∀ w:World,(zeroValue 106).run Tryz.prog w=.ok (.agg #[.int .i64 0,.string { data:=#[] }]) w:=fun w=>by kernel_rfl
theorem fill_pt {a b:Value}:Instr.fill (fun i=>some (i * 2,2)) ((Array.range (1 * 2)).map ((Value.agg #[.int .i64 0,.string { data:=#[] }]).cells[· % (Value.agg #[.int .i64 0,.string { data:=#[] }]).cells.size]!)) [(0,.agg #[a,b])]=some #[a,b]:=by kernel_rfl
theorem ElemR.bad {w w':World} {n:List Pn} (h:mayN n=false) (hb:Below w.heap.size w w'):ElemR w n (.returned (.tuple #[.agg #[.int .i64 0,.int .i64 0,.bool false,.slice none 0 0,.slice none 0 0],.iface 46 (.int .i64 1)])) w':=⟨fun _=>⟨rfl,hb⟩,fun k=>(by rw [h] at k;cases k)⟩
theorem ElemR.ok {w w':World} {n:List Pn} {kv:Value} (h:mayN n=true) (hr:RwT w' w.heap.size kv (n.map setN)) (hb:Below w.heap.size w w'):ElemR w n (.returned (.tuple #[.agg #[.int .i64 0,.int .i64 16,.bool true,.slice none 0 0,kv],.nilIface])) w':=by
 obtain ⟨xs,h1,h2⟩:=hr
 rw [List.length_map] at h1
 exact ⟨fun k=>(by rw [h] at k;cases k),fun _=>⟨kv,xs,rfl,h1,h2,hb⟩⟩
theorem own_lowR {w:World} {base b2 size:Nat} {e:TypeId} {v:Value} {n:Nat} {xs:List Value} (h:w.ownsRow base e size v n xs) (hb:b2≤base):w.ownsRow b2 e size v n xs:=by
 obtain ⟨hl,h⟩:=h
 rcases h with h|⟨g,cap,cur,h1,h2,h3⟩
 ·exact ⟨hl,.inl h⟩
 ·exact ⟨hl,.inr ⟨g,cap,cur,h1,Nat.le_trans hb h2,h3⟩⟩
theorem RwT.ret {w:World} {N M g:Nat} {kv:Value} {Ts:List Tl} {X:Array Value} (h:RwT w N kv Ts) (hg:g < N) (hM:M≤N):RwT (w.setRow g X) M kv Ts:=by
 obtain ⟨xs,h1,h2⟩:=h
 exact ⟨xs,own_lowR (own_agr (S:=fun b=>N≤b) h1 ((Agr.refl _ _).row (by omega)) (fun g hg=>(own_geK h1 hg).1)) hM,fun i t ht=>(h2 i t ht).next ((Agr.refl _ _).row (fun h=>by have:=h.1;omega)) (fun b hb _=>⟨Nat.le_trans hM hb.1,hb.2⟩)⟩
theorem RwT.below {w:World} {N b:Nat} {kv:Value} {Ts:List Tl} (h:RwT w N kv Ts) (hb:kv.ownBlock=some b):b < w.heap.size:=by
 obtain ⟨xs,h1,_⟩:=h
 exact (own_geK h1 hb).2
theorem may_at {n:List Pn} {i:Nat} {p:Pn} (hp:n[i]?=some p) (h:partN p=false):mayN n=false:=by
 unfold mayN
 rw [Bool.and_eq_false_iff]
 right
 rw [List.all_eq_false]
 exact ⟨p,List.mem_of_getElem? hp,by rw [h];decide⟩
theorem all_next {n:List Pn} {i:Nat} {p:Pn} (h:(n.take i).all partN=true) (hp:n[i]?=some p) (k:partN p=true):(n.take (i + 1)).all partN=true:=by
 rw [List.take_add_one,hp,List.all_append,h]
 simp [k]
theorem size_ptL:(Tryz.prog.info? 106).map (·.size)=some 2:=by kernel_rfl
set_option linter.unusedSimpArgs false in
set_option maxRecDepth 100000 in
set_option maxHeartbeats 2000000 in
theorem con_NElem {v:Value} {n:List Pn} {w:World} (hn:NmAt w v n) (wn:WfN n) :
  Calls Tryz.prog 50 #[v] w (ElemR w n):=by
 have HN:Hid (NmAt w v n):=hn
 obtain ⟨a1,c1,rfl,-,hmx,-⟩:=hn
 have hl1:Hid (n.length≤9223372036854775807):=by obtain ⟨_,c,e,h1,h2,_⟩:=HN.out;show _≤_;simp only [maxLen] at h2;omega
 obtain ⟨L,hL⟩:∃ L,n.length=L:=⟨_,rfl⟩
 have HL:Hid (n.length=L):=hL
 rw [hL] at HN hl1 ⊢
 clear hL hmx
 have R0:=Blk.new w [.int .i64 0,.int .i64 0,.bool false,.slice none 0 0,.slice none 0 0] 53 w.heap.size rfl
 have bel:=bal w (.cells #[.int .i64 0,.int .i64 0,.bool false,.slice none 0 0,.slice none 0 0] 53)
 have hz:=zero_tlv.out
 go_enter Tryz.func50,Tryz.ntmps50
 go_upto_region 1 with fail
 have lW:=bel.size
 generalize w.alloc (.cells #[.int .i64 0,.int .i64 0,.bool false,.slice none 0 0,.slice none 0 0] 53)=W at *
 have lR:=R0.lt
 obtain ⟨N0,hN0⟩:∃ n,n=W.heap.size:=⟨_,rfl⟩
 rw [← hN0] at lR lW
 have hs:N0≤W.heap.size:=by omega
 clear hz hN0
 obtain ⟨jt,hjt,ht0,ht1,ht2⟩:=info_partsD info_tlv

 by_cases h8:8 < L
 ·have g1:(8:Int) < (L:Int):=by omega
  have H:Hid (mayN n=false):=by show (decide _ && _)=false;rw [decide_eq_false (by rw [HL.out];omega)];rfl
  have hz:=zero_tlv.out
  clear h8
  obtain ⟨tR,hR⟩:=R0
  have HR1:Hid _:=hR
  clear hR
  go_wp2_with (first|((with_reducible show wpList _ _ _ ({ dst:=_,op:=.store _ _ _,type:=_,pos:=_,after:=_,guard:=_ } :: _) _ _);refine wpList_store_row rfl 53 _ _ rfl (w.heap.size) #[.int .i64 0,.int .i64 0,.bool false,.slice none 0 0,.slice none 0 0] rfl rfl tR _ HR1.out (by rw [size_tlv];rfl) rfl (by simp [Value.oneCell']) ?_)|fail)
  refine bodyPost_ret (results_row_tmp rfl _ _ (w.heap.size) tR #[.int .i64 0,.int .i64 0,.bool false,.slice none 0 0,.slice none 0 0] (0,0) _ rfl (setRow_heap _ _ _ _ _ _ HR1.out) Tryz.underlying53 rfl (by rw [size_tlv];rfl)) rfl ?_
  exact ElemR.bad H.out (below_setRow bel (Nat.le_refl _) _)
 have g1:¬ (8:Int) < (L:Int):=by omega
 have HL8:Hid (L≤8):=by show _≤_;omega
 clear h8
 go_wp2_with fail
 clear g1
 go_loopw [4,16] (fun sv iv wx=>∃ i:Nat,i≤L∧iv=.int .i64 (i:Int)∧RwT wx N0 sv ((n.take i).map setN)∧Hid ((n.take i).all partN=true)∧Blk wx w.heap.size [.int .i64 0,.int .i64 0,.bool false,.slice none 0 0,.slice none 0 0]∧Below w.heap.size w wx∧N0≤wx.heap.size) (fun _ iv _=>L - (intOf iv).toNat)
 case atStart=>exact ⟨0,by omega,rfl,by simpa using RwT.nil0 _ _,by show (n.take 0).all partN=true;simp,R0,bel,hs⟩
 case round =>
  clear R0 bel hs
  obtain ⟨i,hi,rfl,hr,HA,R0,bel,hs⟩:=hrel
  have HR:Hid (RwT wr N0 _ ((n.take i).map setN)):=hr
  obtain ⟨ka,kc,hkv⟩:=hr.sl
  have HLi:Hid (((n.take i).map setN).length=i):=by show _=_;rw [List.length_map,List.length_take,HL.out];omega
  rw [HLi.out] at hkv
  subst hkv
  clear hr
  have h8:=HL8.out
  by_cases hil:i < L
  rotate_left
  ·have g1:¬ (i:Int) < (L:Int):=by omega
   have H:Hid (mayN n=true):=by
    have h:=HA.out
    rw [List.take_of_length_le (by rw [HL.out];omega)] at h
    show (decide _ && _)=true
    rw [decide_eq_true (by rw [HL.out];exact h8),h];rfl
   have HR2:Hid (RwT wr N0 (.slice ka i kc) (n.map setN)):=by have h:=HR.out;rw [List.take_of_length_le (by rw [HL.out];omega)] at h;exact h
   clear HR HA
   go_wp2_with fail
   refine c16_made.mono ?_
   rintro e w9 ⟨rfl,hb⟩
   replace HR2:=RwTL HR2 hb
   replace R0:=R0.later hb
   replace bel:=below_step bel hb
   clear hb
   obtain ⟨tR,hR⟩:=R0
   have HR1:Hid _:=hR
   clear hR
   go_wp2_with (first|((with_reducible show wpList _ _ _ ({ dst:=_,op:=.store _ _ _,type:=_,pos:=_,after:=_,guard:=_ } :: _) _ _);refine wpList_store_row rfl 53 _ _ rfl (w.heap.size) #[.int .i64 0,.int .i64 16,.bool true,.slice none 0 0,.slice ka i kc] rfl rfl tR _ HR1.out (by rw [size_tlv];rfl) rfl (by simp [Value.oneCell']) ?_)|fail)
   refine bodyPost_ret (results_row_tmp rfl _ _ (w.heap.size) tR #[.int .i64 0,.int .i64 16,.bool true,.slice none 0 0,.slice ka i kc] (0,0) _ rfl (setRow_heap _ _ _ _ _ _ HR1.out) Tryz.underlying53 rfl (by rw [size_tlv];rfl)) rfl ?_
   exact ElemR.ok H.out (HR2.out.ret lR lW) (below_setRow bel (Nat.le_refl _) _)
  have g1:(i:Int) < (L:Int):=by omega
  have g2:(0:Int)≤(i:Int):=by omega
  have gi:IntKind.i64.wrap ((i:Int) + 1)=(i:Int) + 1:=by rw [IntKind.wrap_i64];omega
  obtain ⟨p,b1,o1,hp,e1,-,l1,x0,x1⟩:=(HN.out.later bel).at (i:=i) (by rw [HL.out];exact hil)
  subst e1
  have HW:Hid _:=wn i p hp
  have HP:Hid (n[i]?=some p):=hp
  obtain ⟨k1,s1⟩:=p
  obtain ⟨s9,hs9⟩:∃ z,strOfNums s1=z:=⟨_,rfl⟩
  have HS9:Hid (strOfNums s1=s9):=hs9
  simp only at x0 x1
  rw [hs9] at x1
  clear hp hs9
  have hz:=zero_pt
  have B1:=Blk.new wr [.int .i64 k1,.string s9] 106 wr.heap.size rfl
  replace R0:=R0.alloc (.cells #[.int .i64 k1,.string s9] 106)
  replace HR:Hid (RwT (wr.alloc (.cells #[.int .i64 k1,.string s9] 106)) N0 (.slice ka i kc) ((n.take i).map setN)):=HR.out.later ((Below.refl _ _).alloc (Nat.le_refl _) _)
  replace bel:=below_alloc (o:=.cells #[.int .i64 k1,.string s9] 106) bel
  replace hs:N0≤(wr.alloc (.cells #[.int .i64 k1,.string s9] 106)).heap.size:=Nat.le_trans hs ((Below.refl _ _).alloc (Nat.le_refl _) _).size
  go_upto_region 7 with (first|((with_reducible show wpList _ _ _ ({ dst:=_,op:=.store _ _ _,type:=_,pos:=_,after:=_,guard:=_ } :: _) _ _);refine wpList_store_row rfl 106 _ _ rfl wr.heap.size #[.int .i64 k1,.string s9] rfl rfl 106 _ (heap_alloc_last _ _) (by rw [size_ptL];rfl) rfl (by simp [Value.oneCell']) ?_;rw [World.setRow_alloc_new])|fail)
  clear hz x0 x1
  obtain ⟨gp,hgp⟩:∃ g,g=wr.heap.size:=⟨_,rfl⟩
  rw [← hgp] at B1
  generalize wr.alloc (.cells #[.int .i64 k1,.string s9] 106)=V1 at *
  rw [← hgp]
  clear hgp
  have hLd:(loadVar 106 ⟨gp,0,none⟩).run Tryz.prog V1=.ok (.agg #[.int .i64 k1,.string s9]) V1:=B1.load Tryz.underlying106 rfl size_ptL rfl
  have lp:=B1.lt
  go_wp2_with (first|((with_reducible show wpList _ _ _ ({ dst:=_,op:=.load _ _,type:=_,pos:=_,after:=_,guard:=_ } :: _) _ _);refine wpList_load_run (by rfl) (by rfl) (by rfl) hLd ?_)|fail)
  have cs16:=c16_setOf (w:=V1) HW.out.1 HW.out.2.1 HW.out.2.2
  rw [HS9.out] at cs16
  refine cs16.mono ?_
  rintro e w2 ⟨hb,hbad,hok⟩
  clear cs16 hLd lp B1
  replace R0:=R0.later hb
  have HRV:Hid (RwT V1 N0 (.slice ka i kc) ((n.take i).map setN)):=HR.out
  replace HR:=RwTL HR hb
  have bel0:=bel
  replace bel:=below_step bel hb
  have hs1:N0≤w2.heap.size:=Nat.le_trans hs hb.size
  have hsb:=hb.size
  clear hb bel0
  cases hpt:partN (k1,s1) with
  | false =>
   have H:Hid (mayN n=false):=may_at HP.out hpt
   obtain rfl:=hbad hpt
   clear hok hbad hpt HR HRV hs hs1 hsb
   have q:=ne_codeL 1
   have hz:=zero_tlv.out
   replace R0:=R0.alloc (.cells #[.int .i64 0,.int .i64 0,.bool false,.slice none 0 0,.slice none 0 0] 53)
   replace bel:=below_alloc (o:=.cells #[.int .i64 0,.int .i64 0,.bool false,.slice none 0 0,.slice none 0 0] 53) bel
   go_upto_region 8 with (first|((with_reducible show wpList _ _ _ ({ dst:=_,op:=.store _ _ _,type:=_,pos:=_,after:=_,guard:=_ } :: _) _ _);refine wpList_store_row rfl 53 _ _ rfl w2.heap.size #[.int .i64 0,.int .i64 0,.bool false,.slice none 0 0,.slice none 0 0] rfl rfl 53 _ (heap_alloc_last _ _) (by rw [size_tlv];rfl) rfl (by simp [Value.oneCell']) ?_;rw [World.setRow_alloc_new])|fail)
   generalize w2.alloc (.cells #[.int .i64 0,.int .i64 0,.bool false,.slice none 0 0,.slice none 0 0] 53)=V2 at *
   obtain ⟨tR,hR⟩:=R0
   have HR1:Hid _:=hR
   clear hR
   go_wp2_with (first|((with_reducible show wpList _ _ _ ({ dst:=_,op:=.store _ _ _,type:=_,pos:=_,after:=_,guard:=_ } :: _) _ _);refine wpList_store_row rfl 53 _ _ rfl (w.heap.size) #[.int .i64 0,.int .i64 0,.bool false,.slice none 0 0,.slice none 0 0] rfl rfl tR _ HR1.out (by rw [size_tlv];rfl) rfl (by simp [Value.oneCell']) ?_)|fail)
   refine bodyPost_ret (results_row_tmp rfl _ _ (w.heap.size) tR #[.int .i64 0,.int .i64 0,.bool false,.slice none 0 0,.slice none 0 0] (0,0) _ rfl (setRow_heap _ _ _ _ _ _ HR1.out) Tryz.underlying53 rfl (by rw [size_tlv];rfl)) rfl ?_
   exact ElemR.bad H.out (below_setRow bel (Nat.le_refl _) _)
  | true =>
   obtain ⟨cs,rfl,hd⟩:=hok hpt
   have HAn:Hid ((n.take (i + 1)).all partN=true):=all_next HA.out HP.out hpt
   have HTk:Hid ((n.take (i + 1)).map setN=(n.take i).map setN++[setN (k1,s1)]):=by show _=_;rw [List.take_add_one,HP.out,List.map_append];rfl
   have HL5:Hid (cs.length=5):=hd.now.five
   have HS5:Hid (cs.toArray.size=5):=by show _=_;rw [List.size_toArray];exact HL5.out
   have HO5:Hid (OneC cs):=hd.now.ones
   have HDp:Hid (Dep (fun b=>N0≤b∧(Value.slice ka i kc).ownBlock≠some b) w2 (setN (k1,s1)) cs):=hd.next (Agr.refl _ _) (fun b h _=>⟨Nat.le_trans hs h,fun e9=>by have:=HRV.out.below e9;omega⟩)
   clear hok hbad hpt hd HRV hs hsb HA
   have hz:=zero_tlv.out
   have B2:=Blk.new w2 cs 53 w2.heap.size rfl
   have st2:=bal w2 (.cells cs.toArray 53)
   replace R0:=R0.later st2
   replace HR:=RwTL HR st2
   replace HDp:=dpl HDp st2
   replace bel:=below_step bel st2
   replace hs1:=hsl hs1 st2
   clear st2
   go_upto_region 8 with (first|((with_reducible show wpList _ _ _ ({ dst:=_,op:=.store _ _ _,type:=_,pos:=_,after:=_,guard:=_ } :: _) _ _);refine wpList_store_row rfl 53 _ _ rfl w2.heap.size cs.toArray rfl rfl 53 _ (heap_alloc_last _ _) (by rw [size_tlv,HS5.out]) (by rw [HS5.out];rfl) HO5.out ?_;rw [World.setRow_alloc_new])|fail)
   clear hz
   obtain ⟨g2b,hg2⟩:∃ g,g=w2.heap.size:=⟨_,rfl⟩
   rw [← hg2] at B2
   generalize w2.alloc (.cells cs.toArray 53)=V2 at *
   rw [← hg2]
   clear hg2
   have q:=ne_nilL
   have hLd:(loadVar 53 ⟨g2b,0,none⟩).run Tryz.prog V2=.ok (.agg cs.toArray) V2:=B2.load Tryz.underlying53 rfl size_tlv HL5.out
   have lp:=B2.lt
   have HF:Hid _:=fill_5 HL5.out
   have hz:=zero_tlv.out
   have B9:=Blk.new V2 cs 53 V2.heap.size rfl
   have st9:=bal V2 (.cells cs.toArray 53)
   have HD9:Hid (Dep (fun b=>N0≤b∧(Value.slice ka i kc).ownBlock≠some b) (V2.alloc (.cells cs.toArray 53)) (setN (k1,s1)) cs):=HDp.out.next (Agr.below st9) (fun _ h _=>h)
   have HR9:Hid (RwT (V2.alloc (.cells cs.toArray 53)) N0 (.slice ka i kc) ((n.take i).map setN)):=HR.out.later st9
   have hs9:N0≤(V2.alloc (.cells cs.toArray 53)).heap.size:=Nat.le_trans hs1 st9.size
   replace R0:=R0.later st9
   replace bel:=below_step bel st9
   clear st9 hs1 HR HDp
   go_wp2_with (first|((with_reducible show wpList _ _ _ ({ dst:=_,op:=.load _ _,type:=_,pos:=_,after:=_,guard:=_ } :: _) _ _);refine wpList_load_run (by rfl) (by rfl) (by rfl) hLd ?_)|((with_reducible show wpList _ _ _ ({ dst:=_,op:=.buildSlice _ _ _,type:=_,pos:=_,after:=_,guard:=_ } :: _) _ _);refine Go.wpList_buildSlice rfl 51 53 1 _ rfl cs.toArray jt _ Tryz.underlying51 hjt ht0 (by rw [ht1];decide) (by rw [ht1];decide) (by rw [ht1];refine (congrArg _ (?_:_=[(0,Value.agg cs.toArray)])).trans HF.out;kernel_rfl) ?_)|(at_builtin;refine wpList_append_tlv (by rfl) _ _ (by rfl) N0 (.slice ka i kc) ((n.take i).map setN) (by rfl) HR9.out V2.heap.size (by rfl) cs B9 HL5.out HO5.out (setN (k1,s1)) HD9.out (by rw [HLi.out];omega) hs9 ?_;intro kv9 w9 hr9 hgrow9 hge9 hat9)|fail)
   have hsz9:=bel.size
   replace R0:=R0.grown hgrow9 (fun k hk e=>by have:=hge9 k hk;omega)
   replace bel:=Below.grown bel hgrow9 hsz9 (fun k hk=>by have:=hge9 k hk;omega)
   have hs10:N0≤w9.heap.size:=Nat.le_trans hs9 hgrow9.size
   rw [← HTk.out] at hr9
   clear hgrow9 hge9 hat9 hs9 B9 HR9 HD9 hz hLd lp
   go_roundw
   case rel=>exact ⟨i + 1,by omega,by go_num,hr9,HAn,R0,bel,hs10⟩
   case measure=>simp [intOf];omega
end Go.Proofs.YtohcdbifhnfcbaaGreatDoor
