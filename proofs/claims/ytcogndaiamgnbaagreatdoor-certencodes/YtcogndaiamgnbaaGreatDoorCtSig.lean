/- Bytes that grow: owned rows through calls; bytes are told by their number; bytes as text. The document's bytes of a point. The document's bytes of a signature. -/
import Derived.Test.YtcogndaiamgnbaaGreatDoorFrom
import Derived.Test.YtcogndaiamgnbaaGreatDoorCCode
import Derived.Test.YtcogndaiamgnbaaGreatDoorSpread
import Derived.Test.YtcogndaiamgnbaaGreatDoorClOpt
import Derived.Test.YtcogndaiamgnbaaGreatDoorRefA
import Derived.Test.YtcogndaiamgnbaaGreatDoorRBytes
import Derived.Test.YtcogndaiamgnbaaGreatDoorApBs
import Derived.Test.YtcogndaiamgnbaaGreatDoorDrDG
import Derived.Test.YtcogndaiamgnbaaGreatDoorCtRG
import Derived.Test.YtcogndaiamgnbaaGreatDoorWpRowG
import Derived.Test.YtcogndaiamgnbaaGreatDoorClEnc
import Derived.Test.YtcogndaiamgnbaaGreatDoorEdFactG
import Derived.Test.YtcogndaiamgnbaaGreatDoorEdG
import Derived.Test.YtcogndaiamgnbaaGreatDoorArrG
import Derived.Test.YtcogndaiamgnbaaGreatDoorPmNumO
import Derived.Test.YtcogndaiamgnbaaGreatDoorDrWrite
import Derived.Test.YtcogndaiamgnbaaGreatDoorDrTG
import Derived.Test.YtcogndaiamgnbaaGreatDoorRows
import Derived.Laws.BytesArg
import Derived.Deep.AppendLies
import Derived.Deep.OwnRows
import Derived.Great.BuildSlice
import Derived.Laws.Rows
import Derived.BigQuiet
import Derived.Deep.WholeRow
import Derived.Deep.RegionHeld3
import Derived.Deep.DeepCutAuto
import Derived.Deep.DeepFit
namespace Go.Proofs.YtcogndaiamgnbaaGreatDoor
open Go.RowKit
theorem Bs.alloc {w:World} {v:Value} {bs:List Int} (h:Bs w v bs) (o:Obj):Bs (w.alloc o) v bs:=h.later ((Below.refl _ _).alloc (Nat.le_refl _) o)
theorem Bs.lt {w:World} {b o n cap:Nat} {bs:List Int} (h:Bs w (.slice (some ⟨b,o,none⟩) n cap) bs) (hn:0 < n):b < w.heap.size:=by
 obtain ⟨ao,c,e,-,-,h4⟩:=h
 simp only [Value.slice.injEq] at e
 obtain ⟨rfl,rfl,rfl⟩:=e
 obtain ⟨b',o',e',h5,-⟩:=h4 hn
 simp only [Option.some.injEq,Addr.mk.injEq] at e'
 rw [e'.1];exact h5
/-- a row of bytes of the call's own -/
def Own (w:World) (base:Nat) (v:Value) (n:Nat) (xs:List Int):Prop:=w.ownsRow base 5 1 v n (u8s xs)
theorem Own.later {w w':World} {base:Nat} {v:Value} {n:Nat} {xs:List Int} (h:Own w base v n xs) (hb:Below w.heap.size w w'):Own w' base v n xs:=by
 refine ⟨h.1,?_⟩
 rcases h.2 with h0|⟨g,cap,cur,hv,hg,hh,h3⟩
 ·exact .inl h0
 ·refine .inr ⟨g,cap,cur,hv,hg,?_,h3⟩
  rw [hb.block g (Array.getElem?_eq_some_iff.1 hh).1];exact hh
theorem Own.alloc {w:World} {base:Nat} {v:Value} {n:Nat} {xs:List Int} (h:Own w base v n xs) (o:Obj):Own (w.alloc o) base v n xs:=h.later ((Below.refl _ _).alloc (Nat.le_refl _) o)
theorem Own.drew {w:World} {base:Nat} {v:Value} {n:Nat} {xs:List Int} (h:Own w base v n xs):Own w.drew base v n xs:=h
theorem Bs.grown {w w':World} {b o n cap g:Nat} {bs:List Int} (h:Bs w (.slice (some ⟨b,o,none⟩) n cap) bs) (hg:w.grownBy w' (some g)) (hne:b≠g):Bs w' (.slice (some ⟨b,o,none⟩) n cap) bs:=by
 obtain ⟨ao,c,e,h2,h3,h4⟩:=h
 refine ⟨ao,c,e,h2,h3,fun hp=>?_⟩
 obtain ⟨b',o',e',h5,h6⟩:=h4 hp
 simp only [Value.slice.injEq] at e
 have eb:b'=b:=by
  have:=e.1.trans e'
  simp only [Option.some.injEq,Addr.mk.injEq] at this
  exact this.1.symm
 subst eb
 exact ⟨b',o',e',Nat.lt_of_lt_of_le h5 hg.size,fun j hj=>hg.cell (h6 j hj) (by simpa using hne)⟩
theorem size_uC:(Tryz.prog.info? 27).map (·.size)=some 6:=by kernel_rfl
theorem own_slC {w:World} {base size:Nat} {e:TypeId} {v:Value} {n:Nat} {xs:List Value} (h:w.ownsRow base e size v n xs):∃ ao cap,v=.slice ao n cap:=by
 rcases h.2 with ⟨h1,h2⟩|⟨g,cap,cur,h1,_⟩
 ·exact ⟨none,0,by rw [h1,h2]⟩
 ·exact ⟨_,cap,h1⟩
/-- what Encode tells -/
def SigR (w:World) (r s:Int) (e:Ending) (w':World):Prop:=Below w.heap.size w w'∧(¬ (isSc r∧isSc s)→e=.returned (.tuple #[.slice none 0 0,.bool false]))∧(isSc r∧isSc s→∃ (v:Value) (X Y x y:List Int),SigB r s X Y x y∧e=.returned (.tuple #[v,.bool true])∧Bs w' v (bytesT (sigT x y)))
theorem SigR.no {w w':World} {r s:Int} (h:¬ (isSc r∧isSc s)) (hb:Below w.heap.size w w'):SigR w r s (.returned (.tuple #[.slice none 0 0,.bool false])) w':=⟨hb,fun _=>rfl,fun k=>absurd k h⟩
theorem SigR.yes {w w':World} {r s:Int} {v:Value} {X Y x y:List Int} (h:isSc r∧isSc s) (hx:SigB r s X Y x y) (hv:Bs w' v (bytesT (sigT x y))) (hb:Below w.heap.size w w'):SigR w r s (.returned (.tuple #[v,.bool true])) w':=⟨hb,fun k=>absurd h k,fun _=>⟨v,X,Y,x,y,hx,rfl,hv⟩⟩
theorem u_lt {cs:List Value} {x:Int} (h:U6 cs x):x < 4294967296 ^ 12:=by
 have:=h.bd.2
 rw [show (4294967296:Int) ^ 12=18446744073709551616 ^ 6 by decide]
 exact this
set_option linter.unusedSimpArgs false in
set_option maxRecDepth 100000 in
set_option maxHeartbeats 400000 in
theorem r14_scalar {v:Value} {X:Int} {w:World} (h:NumIs w v X) (h0:0≤X) :
  Calls Tryz.prog 82 #[v] w fun e w'=>e=.returned (.bool (decide (isSc X)))∧Below w.heap.size w w':=by
 have HN:Hid (NumIs w v X):=h
 obtain ⟨ao,n,cap,rfl,hnc,hcm,hn0⟩:=num_len h
 go_enter Tryz.func82,Tryz.ntmps82
 by_cases c1:X=0
 ·have g1:¬ (0:Int) < (n:Int):=by have:=hn0.2 c1;omega
  have H:Hid (decide (isSc X)=false):=decide_eq_false (fun k=>by have:=k.1;omega)
  clear hn0 c1 h
  go_wp2_with fail
  go_ret
  exact ⟨by rw [H.out];rfl,Below.refl _ _⟩
 have g1:(0:Int) < (n:Int):=by
  have:¬ (n:Int)=0:=fun k=>c1 (hn0.1 k)
  omega
 have H1:Hid (1≤X):=by show _≤_;omega
 clear hn0 c1 h
 go_wp2_with fail
 refine n_any.mono ?_
 rintro e w1 ⟨v1,rfl,N1,hb⟩
 have HN1:Hid (NumIs w1 v1 QQ):=N1
 have bel:Below w.heap.size w w1:=hb
 replace HN:Hid (NumIs w1 (.slice ao n cap) X):=HN.out.later hb
 clear N1 hb
 go_wp2_with fail
 refine (cmp_any _ _ _ _ _ HN.out HN1.out).mono ?_
 rintro e w2 ⟨rfl,hb⟩
 replace bel:=below_step bel hb
 clear hb
 by_cases c2:X < QQ
 ·have e9:=cmpN_lt c2
  have H:Hid (decide (isSc X)=true):=decide_eq_true ⟨H1.out,c2⟩
  rw [← e9]
  clear e9 c2
  go_wp2_with fail
  go_ret
  exact ⟨by rw [H.out];rfl,bel⟩
 ·have H:Hid (decide (isSc X)=false):=decide_eq_false (fun k=>c2 k.2)
  obtain ⟨cc,hcc,hc0⟩:∃ cc,cmpN X QQ=cc∧¬ cc < 0:=by
   rcases (show X=QQ∨QQ < X by omega) with k|k
   ·exact ⟨0,(cmpN_eq k).symm,by omega⟩
   ·exact ⟨1,(cmpN_gt k).symm,by omega⟩
  rw [hcc]
  clear c2 hcc
  go_wp2_with fail
  go_ret
  exact ⟨by rw [H.out];show Ending.returned (Value.bool (decide (cc < 0)))=_;rw [decide_eq_false (by omega)],bel⟩
set_option linter.unusedSimpArgs false in
set_option maxRecDepth 100000 in
set_option maxHeartbeats 2000000 in
theorem r14_Encode {rs ss:List Value} {r s:Int} {w:World} (hr:U6 rs r) (hs:U6 ss s) :
  Calls Tryz.prog 45 #[.agg (rs++ss).toArray] w (SigR w r s):=by
 have HR:Hid (U6 rs r):=hr
 have HS:Hid (U6 ss s):=hs
 obtain ⟨ts,hts⟩:∃ ts,rs++ss=ts:=⟨_,rfl⟩
 have HT:Hid (rs++ss=ts):=hts
 rw [hts]
 have B0:=Blk.new w ts 33 w.heap.size rfl
 have bel:Below w.heap.size w (w.alloc (.cells ts.toArray 33)):=(Below.refl _ _).alloc (Nat.le_refl _) _
 go_enter Tryz.func45,Tryz.ntmps45
 go_upto_region 1 with fail
 generalize w.alloc (.cells ts.toArray 33)=W at *
 clear hts hr hs
 have hld:(loadVar 27 ⟨w.heap.size,0,none⟩).run Tryz.prog W=.ok (.agg rs.toArray) W:=load_cells (n:=6) (F:=rs) (fun j v hv=>B0.cell _ _ (by rw [← HT.out,Nat.zero_add,List.getElem?_append_left (List.getElem?_eq_some_iff.1 hv).1];exact hv)) HR.out.len Tryz.underlying27 rfl size_uC
 have l0:=B0.lt
 go_wp2_with (first|((with_reducible show wpList _ _ _ ({ dst:=_,op:=.load _ _,type:=_,pos:=_,after:=_,guard:=_ } :: _) _ _);refine wpList_load_run (by rfl) (by rfl) (by rfl) hld ?_)|fail)
 refine (uOf6 HR.out).mono ?_
 rintro e w1 ⟨v1,rfl,hn,hb⟩
 replace B0:=B0.later hb
 replace bel:=below_step bel hb
 clear hb hld l0
 go_wp2_with fail
 refine (r14_scalar hn HR.out.bd.1).mono ?_
 rintro e w2 ⟨rfl,hb⟩
 replace B0:=B0.later hb
 replace bel:=below_step bel hb
 clear hb hn
 by_cases c1:isSc r
 rotate_left
 ·rw [decide_eq_false c1]
  have H:Hid (¬ (isSc r∧isSc s)):=fun h=>c1 h.1
  go_wp2_with fail
  refine bodyPost_ret (results_tmp2 rfl _ _ _) rfl ?_
  exact SigR.no H.out bel
 rw [decide_eq_true c1]
 have HC1:Hid (isSc r):=c1
 clear c1
 have hld:(loadVar 27 ⟨w.heap.size,6,none⟩).run Tryz.prog w2=.ok (.agg ss.toArray) w2:=load_cells (n:=6) (F:=ss) (fun j v hv=>B0.cell _ _ (by rw [← HT.out,List.getElem?_append_right (by rw [HR.out.len];omega),HR.out.len,Nat.add_sub_cancel_left];exact hv)) HS.out.len Tryz.underlying27 rfl size_uC
 have l0:=B0.lt
 go_wp2_with (first|((with_reducible show wpList _ _ _ ({ dst:=_,op:=.load _ _,type:=_,pos:=_,after:=_,guard:=_ } :: _) _ _);refine wpList_load_run (by rfl) (by rfl) (by rfl) hld ?_)|fail)
 refine (uOf6 HS.out).mono ?_
 rintro e w3 ⟨v3,rfl,hn,hb⟩
 replace B0:=B0.later hb
 replace bel:=below_step bel hb
 clear hb hld l0
 go_wp2_with fail
 refine (r14_scalar hn HS.out.bd.1).mono ?_
 rintro e w4 ⟨rfl,hb⟩
 replace B0:=B0.later hb
 replace bel:=below_step bel hb
 clear hb hn
 by_cases c2:isSc s
 rotate_left
 ·rw [decide_eq_false c2]
  have H:Hid (¬ (isSc r∧isSc s)):=fun h=>c2 h.2
  go_wp2_with fail
  refine bodyPost_ret (results_tmp2 rfl _ _ _) rfl ?_
  exact SigR.no H.out bel
 rw [decide_eq_true c2]
 have HC2:Hid (isSc s):=c2
 clear c2
 have hld:(loadVar 27 ⟨w.heap.size,0,none⟩).run Tryz.prog w4=.ok (.agg rs.toArray) w4:=load_cells (n:=6) (F:=rs) (fun j v hv=>B0.cell _ _ (by rw [← HT.out,Nat.zero_add,List.getElem?_append_left (List.getElem?_eq_some_iff.1 hv).1];exact hv)) HR.out.len Tryz.underlying27 rfl size_uC
 have l0:=B0.lt
 go_wp2_with (first|((with_reducible show wpList _ _ _ ({ dst:=_,op:=.load _ _,type:=_,pos:=_,after:=_,guard:=_ } :: _) _ _);refine wpList_load_run (by rfl) (by rfl) (by rfl) hld ?_)|fail)
 refine (uOf6 HR.out).mono ?_
 rintro e w5a ⟨ua,rfl,hn,hb⟩
 replace B0:=B0.later hb
 replace bel:=below_step bel hb
 clear hb hld l0
 have hN:NumIs w5a ua r:=hn
 clear hn
 go_wp2_with fail
 refine (rbytes_any _ _ _ hN (u_lt HR.out)).mono ?_
 rintro e w5b ⟨g0,X0,rfl,hB,hX1,hX2,hX3,hb⟩
 have HX0:Hid (X0.length=48∧byt X0∧beN X0=r):=⟨hX1,hX2,hX3⟩
 have hBs:Bs w5b (.slice (some ⟨g0,0,none⟩) 48 48) X0:=Blk.bs hB hX1 (by decide)
 replace B0:=B0.later hb
 replace bel:=below_step bel hb
 clear hb hN hB hX1 hX2 hX3
 go_wp2_with fail
 refine (r13_NumberOf hBs HX0.out.2.1 (by rw [HX0.out.1];omega)).mono ?_
 rintro e w5c ⟨hok,-⟩
 obtain ⟨x0,hx0,hxl0⟩:=num48 HX0.out.1
 obtain ⟨nv0,rfl,hnv,hb⟩:=hok x0 hx0
 have HNx0:Hid (numOf X0=.ok x0∧x0.length≤49):=⟨hx0,hxl0⟩
 obtain ⟨na0,nc0,hv0,-,-,-⟩:=id hnv
 obtain ⟨nl0,hnl0⟩:∃ z,x0.length=z:=⟨_,rfl⟩
 rw [hnl0] at hv0
 subst hv0
 have HBx0:Hid (Bs w5c (.slice na0 nl0 nc0) x0):=hnv
 replace B0:=B0.later hb
 replace bel:=below_step bel hb
 clear hb hok hnv hBs hx0 hxl0 hnl0
 go_upto_region 4 with fail
 have hld:(loadVar 27 ⟨w.heap.size,6,none⟩).run Tryz.prog w5c=.ok (.agg ss.toArray) w5c:=load_cells (n:=6) (F:=ss) (fun j v hv=>B0.cell _ _ (by rw [← HT.out,List.getElem?_append_right (by rw [HR.out.len];omega),HR.out.len,Nat.add_sub_cancel_left];exact hv)) HS.out.len Tryz.underlying27 rfl size_uC
 have l0:=B0.lt
 go_wp2_with (first|((with_reducible show wpList _ _ _ ({ dst:=_,op:=.load _ _,type:=_,pos:=_,after:=_,guard:=_ } :: _) _ _);refine wpList_load_run (by rfl) (by rfl) (by rfl) hld ?_)|fail)
 refine (uOf6 HS.out).mono ?_
 rintro e w6a ⟨ub,rfl,hn,hb⟩
 replace HBx0:Hid (Bs w6a (.slice na0 nl0 nc0) x0):=HBx0.out.later hb
 replace B0:=B0.later hb
 replace bel:=below_step bel hb
 clear hb hld l0
 have hN:NumIs w6a ub s:=hn
 clear hn
 go_wp2_with fail
 refine (rbytes_any _ _ _ hN (u_lt HS.out)).mono ?_
 rintro e w6b ⟨g1,X1,rfl,hB,hX1,hX2,hX3,hb⟩
 have HX1:Hid (X1.length=48∧byt X1∧beN X1=s):=⟨hX1,hX2,hX3⟩
 have hBs:Bs w6b (.slice (some ⟨g1,0,none⟩) 48 48) X1:=Blk.bs hB hX1 (by decide)
 replace HBx0:Hid (Bs w6b (.slice na0 nl0 nc0) x0):=HBx0.out.later hb
 replace B0:=B0.later hb
 replace bel:=below_step bel hb
 clear hb hN hB hX1 hX2 hX3
 go_wp2_with fail
 refine (r13_NumberOf hBs HX1.out.2.1 (by rw [HX1.out.1];omega)).mono ?_
 rintro e w6c ⟨hok,-⟩
 obtain ⟨x1,hx1,hxl1⟩:=num48 HX1.out.1
 obtain ⟨nv1,rfl,hnv,hb⟩:=hok x1 hx1
 have HNx1:Hid (numOf X1=.ok x1∧x1.length≤49):=⟨hx1,hxl1⟩
 obtain ⟨na1,nc1,hv1,-,-,-⟩:=id hnv
 obtain ⟨nl1,hnl1⟩:∃ z,x1.length=z:=⟨_,rfl⟩
 rw [hnl1] at hv1
 subst hv1
 have HBx1:Hid (Bs w6c (.slice na1 nl1 nc1) x1):=hnv
 replace HBx0:Hid (Bs w6c (.slice na0 nl0 nc0) x0):=HBx0.out.later hb
 replace B0:=B0.later hb
 replace bel:=below_step bel hb
 clear hb hok hnv hBs hx1 hxl1 hnl1
 go_upto_region 5 with fail
 have K10:=Blk.new w6c [.int .i64 0,.int .i64 2,.bool false,.slice na0 nl0 nc0,.slice none 0 0,.int .i64 0,.int .i64 2,.bool false,.slice na1 nl1 nc1,.slice none 0 0] 60 w6c.heap.size rfl
 have hb:Below w6c.heap.size w6c (w6c.alloc (.cells #[.int .i64 0,.int .i64 2,.bool false,.slice na0 nl0 nc0,.slice none 0 0,.int .i64 0,.int .i64 2,.bool false,.slice na1 nl1 nc1,.slice none 0 0] 60)):=(Below.refl _ _).alloc (Nat.le_refl _) _
 have HTs:Hid (TlAt (w6c.alloc (.cells #[.int .i64 0,.int .i64 2,.bool false,.slice na0 nl0 nc0,.slice none 0 0,.int .i64 0,.int .i64 2,.bool false,.slice na1 nl1 nc1,.slice none 0 0] 60)) (sigT x0 x1) [.int .i64 0,.int .i64 16,.bool true,.slice none 0 0,.slice (some ⟨w6c.heap.size,0,none⟩) 2 2]):=sig_at (HBx0.out.later hb) (HBx1.out.later hb) K10
 replace bel:=below_step bel hb
 clear hb K10
 have hz:=zero_tlv.out
 go_wp2_with fail
 clear hz
 refine (r12_Write (by rw [sig_sz];omega) (fun _=>by have:=sig_len HNx0.out.2 HNx1.out.2;omega) HTs.out).mono ?_
 rintro e w7 ⟨bv,rfl,hw,-,hb⟩
 have hw0:=sig_wr HNx0.out.2 HNx1.out.2
 have HBb:Hid (Bs w7 bv (bytesT (sigT x0 x1))):=Bs.of_own (hw hw0)
 replace bel:=below_step bel hb
 rw [hw0]
 clear hw hb hw0 HTs
 go_wp2_with fail
 refine bodyPost_ret (results_tmp2 rfl _ _ _) rfl ?_
 exact SigR.yes ⟨HC1.out,HC2.out⟩ ⟨HX0.out,HX1.out,HNx0.out.1,HNx1.out.1⟩ HBb.out bel
end Go.Proofs.YtcogndaiamgnbaaGreatDoor
