/- Texts of bytes are alike where the bytes are. Bytes that are the same: what the program answers. Whether one is revoked: what crl answers. -/
import Derived.Test.YtkgjlcdefnpkpaaGreatDoorApBs
import Derived.Test.YtkgjlcdefnpkpaaGreatDoorCtBase
import Derived.Test.YtkgjlcdefnpkpaaGreatDoorDrTG
import Derived.Test.YtkgjlcdefnpkpaaGreatDoorEdG
import Derived.Test.YtkgjlcdefnpkpaaGreatDoorKrSpec
import Derived.Test.YtkgjlcdefnpkpaaGreatDoorKrGone
import Derived.Laws.BytesArg
import Derived.Lib.Strings
import Derived.Test.YtkgjlcdefnpkpaaGreatDoorRows
import Derived.Deep.WholeRow
import Derived.Deep.RegionHeld3
import Derived.Deep.DeepCutAuto
import Derived.Deep.DeepFit
import Derived.Deep.OwnRows
import Derived.Deep.AppendLies
import Derived.Great.BuildSlice
import Derived.Laws.Rows
import Derived.BigQuiet
namespace Go.Proofs.YtkgjlcdefnpkpaaGreatDoor
open Go.RowKit
theorem str_oneS:∀ {A B:List Int},byt A→byt B→(A.map fun n=>UInt8.ofNat n.toNat)=(B.map fun n=>UInt8.ofNat n.toNat)→A=B
 | [],[],_,_,_=>rfl
 | [],_ :: _,_,_,h=>by simp at h
 | _ :: _,[],_,_,h=>by simp at h
 | a :: A,b :: B,ha,hb,h=>by
  simp only [List.map_cons,List.cons.injEq] at h
  have a0:0≤a∧a < 256:=ha 0
  have b0:0≤b∧b < 256:=hb 0
  have e:=congrArg UInt8.toNat h.1
  rw [UInt8.toNat_ofNat_of_lt' (show a.toNat < 256 by omega),UInt8.toNat_ofNat_of_lt' (show b.toNat < 256 by omega)] at e
  have t:=str_oneS (fun j=>ha (j + 1)) (fun j=>hb (j + 1)) h.2
  rw [t,show a=b by omega]
theorem str_eqS {A B:List Int} (ha:byt A) (hb:byt B):((strOfNums A).toList == (strOfNums B).toList)=decide (A=B):=by
 have e:∀ X:List Int,(strOfNums X).toList=X.map fun n=>UInt8.ofNat n.toNat:=fun X=>by
  rw [Lib.toList_data]
  rfl
 rw [e,e]
 by_cases h:A=B
 ·subst h
  simp
 ·rw [decide_eq_false h]
  apply beq_eq_false_iff_ne.2
  intro e
  exact h (str_oneS ha hb e)
set_option linter.unusedSimpArgs false in
set_option maxRecDepth 100000 in
set_option maxHeartbeats 400000 in
theorem c_bytesEqual {v u:Value} {A B:List Int} {w:World} (hv:Bs w v A) (hu:Bs w u B) (bA:byt A) (bB:byt B):Calls Tryz.prog 43 #[v,u] w fun e w'=>e=.returned (.bool (decide (A=B)))∧w'=w:=by
 have x1:=conv_any hv
 have x2:=conv_any hu
 have HE:Hid (((strOfNums A).toList == (strOfNums B).toList)=decide (A=B)):=str_eqS bA bB
 obtain ⟨b,hb⟩:∃ b:Bool,decide (A=B)=b:=⟨_,rfl⟩
 have sq:((strOfNums A).toList == (strOfNums B).toList)=b:=by rw [← hb];exact HE.out
 rw [hb]
 obtain ⟨a1,c1,rfl,-,-,-⟩:=hv
 obtain ⟨a2,c2,rfl,-,-,-⟩:=hu
 obtain ⟨Z1,hZ1⟩:∃ z,strOfNums A=z:=⟨_,rfl⟩
 obtain ⟨Z2,hZ2⟩:∃ z,strOfNums B=z:=⟨_,rfl⟩
 obtain ⟨L1,hL1⟩:∃ z,A.length=z:=⟨_,rfl⟩
 obtain ⟨L2,hL2⟩:∃ z,B.length=z:=⟨_,rfl⟩
 rw [hZ1] at x1 sq
 rw [hZ2] at x2 sq
 rw [hL1] at x1 ⊢
 rw [hL2] at x2 ⊢
 clear hb HE hZ1 hZ2 hL1 hL2
 go_enter Tryz.func43,Tryz.ntmps43
 go_wp2_with fail
 go_ret
 exact ⟨rfl,rfl⟩
/-- is one of them that number? -/
def hasG (L:List Gn) (S:List Int):Bool:=L.any fun x=>decide (x.1=S)
theorem hasG_yes {L:List Gn} {S:List Int} {i:Nat} {x:Gn} (h:L[i]?=some x) (k:x.1=S):hasG L S=true:=by
 unfold hasG
 rw [List.any_eq_true]
 exact ⟨x,List.mem_of_getElem? h,by simpa using k⟩
theorem hasG_no {L:List Gn} {S:List Int} (h:∀ (j:Nat) (x:Gn),L[j]?=some x→¬ x.1=S):hasG L S=false:=by
 unfold hasG
 rw [List.any_eq_false]
 intro x hx
 obtain ⟨j,hj⟩:=List.mem_iff_getElem?.1 hx
 simpa using h j x hj
set_option linter.unusedSimpArgs false in
set_option maxRecDepth 100000 in
set_option maxHeartbeats 1000000 in
theorem c18_has1 {u v:Value} {n S:List Int} {t:Int} {g:Nat} {w:World} (hu:Bs w u n) (hv:Bs w v S) (bn:byt n) (bS:byt S) (B:Blk w g [v]):Calls Tryz.prog 42 #[.agg #[u,.int .i64 t],.pointer (some ⟨g,0,none⟩)] w fun e w'=>e=.returned (.bool (decide (n=S)))∧Below w.heap.size w w':=by
 have HU:Hid (Bs w u n):=hu
 have HV:Hid (Bs w v S):=hv
 have HY:Hid (byt n∧byt S):=⟨bn,bS⟩
 obtain ⟨ua,uc,rfl,-,-,-⟩:=hu
 obtain ⟨va,vc,rfl,-,-,-⟩:=hv
 obtain ⟨UL,hUL⟩:∃ z,n.length=z:=⟨_,rfl⟩
 obtain ⟨VL,hVL⟩:∃ z,S.length=z:=⟨_,rfl⟩
 rw [hUL] at HU ⊢
 rw [hVL] at HV B
 clear hUL hVL bn bS
 have B0:=Blk.new w [.slice ua UL uc,.int .i64 t] 54 w.heap.size rfl
 have bel:Below w.heap.size w (w.alloc (.cells #[.slice ua UL uc,.int .i64 t] 54)):=(Below.refl _ _).alloc (Nat.le_refl _) _
 replace B:=B.later bel
 go_enter Tryz.func42,Tryz.ntmps42
 go_upto_region 1 with fail
 generalize w.alloc (.cells #[.slice ua UL uc,.int .i64 t] 54)=W at *
 have e0:=B0.cell 0 _ rfl
 have l0:=B0.lt
 have e1:=B.cell 0 _ rfl
 have l1:=B.lt
 go_wp2_with fail
 refine (c_bytesEqual (HU.out.later bel) (HV.out.later bel) HY.out.1 HY.out.2).mono ?_
 rintro e w1 ⟨rfl,rfl⟩
 clear e0 l0 e1 l1 B B0
 obtain ⟨b,hb⟩:∃ b:Bool,decide (n=S)=b:=⟨_,rfl⟩
 rw [hb]
 have HE:Hid (decide (n=S)=b):=hb
 clear hb
 go_wp2_with fail
 go_ret
 exact ⟨by rw [HE.out];rfl,bel⟩
set_option linter.unusedSimpArgs false in
set_option maxRecDepth 100000 in
set_option maxHeartbeats 2000000 in
theorem c18_index {L:List Gn} {S:List Int} {v gv:Value} {g:Nat} {w:World} (h:GnAt w gv L) (wf:∀ x∈L,byt x.1) (hv:Bs w v S) (bS:byt S) (B:Blk w g [v]) :
  Calls Tryz.prog 80 #[gv,.func (.func 42) #[] #[.pointer (some ⟨g,0,none⟩)]] w fun e w'=>∃ r:Int,e=.returned (.int .i64 r)∧decide (r ≥ 0)=hasG L S∧Below w.heap.size w w':=by
 obtain ⟨ao,kc,rfl,b1,b2,hk⟩:=h
 obtain ⟨N,hN⟩:∃ N,L.length=N:=⟨_,rfl⟩
 have HN:Hid (L.length=N):=hN
 rw [hN] at b1 hk ⊢
 have HK:Hid (0 < N→∃ b o,ao=some ⟨b,o,none⟩∧b < w.heap.size∧∀ (i:Nat) (x:Gn),L[i]?=some x→∃ u,w.cell? ⟨b,o + i * 2,none⟩=some u∧Bs w u x.1∧w.cell? ⟨b,o + i * 2 + 1,none⟩=some (.int .i64 x.2)):=hk
 have HW:Hid (∀ x∈L,byt x.1):=wf
 have HV:Hid (Bs w v S):=hv
 have HS:Hid (byt S):=bS
 have HB:Hid (Blk w g [v]):=B
 clear hN hk wf hv bS B
 unfold maxLen at b2
 go_enter Tryz.func80,Tryz.ntmps80
 go_wp2_with fail
 have bel:=Below.refl w.heap.size w
 go_loopw [8] (fun iv wx=>∃ i:Nat,i≤N∧iv=.int .i64 (i:Int)∧Hid (∀ (j:Nat) (x:Gn),j < i→L[j]?=some x→¬ x.1=S)∧Below w.heap.size w wx) (fun iv _=>N - (intOf iv).toNat)
 case atStart=>exact ⟨0,by omega,rfl,fun j x hj=>absurd hj (by omega),bel⟩
 case round =>
  clear bel
  obtain ⟨i,hi,rfl,HA,bel⟩:=hrel
  by_cases hil:i < N
  rotate_left
  ·obtain rfl:i=N:=by omega
   have g1:¬ (i:Int) < (i:Int):=by omega
   have H:Hid (hasG L S=false):=hasG_no (fun j x hx=>HA.out j x (by have:=(List.getElem?_eq_some_iff.1 hx).1;rw [HN.out] at this;exact this) hx)
   clear HA
   go_wp2_with fail
   go_ret
   exact ⟨-1,rfl,by rw [H.out];rfl,bel⟩
  have g1:(i:Int) < (N:Int):=by omega
  have g2:(0:Int)≤(i:Int):=by omega
  have gi:IntKind.i64.wrap ((i:Int) + 1)=(i:Int) + 1:=by rw [IntKind.wrap_i64];omega
  obtain ⟨x,hx⟩:∃ x,L[i]?=some x:=⟨_,List.getElem?_eq_getElem (by rw [HN.out];exact hil)⟩
  obtain ⟨b,o,hao,hl,hc⟩:=HK.out (by omega)
  subst hao
  obtain ⟨u,c1,hu,c2⟩:=hc i x hx
  have HU:Hid (Bs w u x.1):=hu
  have HX:Hid (L[i]?=some x):=hx
  have HYx:Hid (byt x.1):=HW.out x (List.mem_of_getElem? hx)
  have hcs:CsAt w b (o + i * 2) [u,.int .i64 x.2]:=⟨hl,fun j y hj=>by
   match j,hj with
   | 0,hj=>cases hj;exact c1
   | 1,hj=>cases hj;exact c2⟩
  have hld:(loadVar 54 ⟨b,o + i * 2,none⟩).run Tryz.prog wr=.ok (.agg #[u,.int .i64 x.2]) wr:=load_cells (n:=2) (fun j y hj=>(hcs.later bel).2 j y hj) rfl Tryz.underlying54 rfl size_gn
  have lb:b < wr.heap.size:=(hcs.later bel).1
  clear hx hc c1 hu c2 hcs hl
  obtain ⟨n,t⟩:=x
  go_wp2_with (first|((with_reducible show wpList _ _ _ ({ dst:=_,op:=.load _ _,type:=_,pos:=_,after:=_,guard:=_ } :: _) _ _);refine wpList_load_run (by rfl) (by rfl) (by rfl) hld ?_)|fail)
  refine (c18_has1 (HU.out.later bel) (HV.out.later bel) HYx.out HS.out (HB.out.later bel)).mono ?_
  rintro e w3 ⟨rfl,hb⟩
  replace bel:=below_step bel hb
  clear hb hld lb
  by_cases hq:n=S
  ·have H:Hid (hasG L S=true):=hasG_yes HX.out hq
   rw [decide_eq_true hq]
   clear HA hq
   go_wp2_with fail
   go_ret
   exact ⟨(i:Int),rfl,by rw [H.out];exact decide_eq_true (by omega),bel⟩
  ·have HAn:Hid (∀ (j:Nat) (y:Gn),j < i + 1→L[j]?=some y→¬ y.1=S):=fun j y hj hy=>by
    by_cases e:j < i
    ·exact HA.out j y e hy
    ·obtain rfl:j=i:=by omega
     rw [HX.out] at hy
     cases hy
     exact hq
   rw [decide_eq_false hq]
   clear HA hq
   go_wp2_with fail
   go_roundw
   case rel=>exact ⟨i + 1,by omega,by go_num,HAn,bel⟩
   case measure=>simp [intOf];omega
set_option linter.unusedSimpArgs false in
set_option maxRecDepth 100000 in
set_option maxHeartbeats 1000000 in
theorem c18_contains {L:List Gn} {S:List Int} {v gv:Value} {g:Nat} {w:World} (h:GnAt w gv L) (wf:∀ x∈L,byt x.1) (hv:Bs w v S) (bS:byt S) (B:Blk w g [v]) :
  Calls Tryz.prog 41 #[gv,.func (.func 42) #[] #[.pointer (some ⟨g,0,none⟩)]] w fun e w'=>e=.returned (.bool (hasG L S))∧Below w.heap.size w w':=by
 have HG:Hid (GnAt w gv L):=h
 obtain ⟨ao,kc,rfl,-,-,-⟩:=h
 obtain ⟨N,hN⟩:∃ N,L.length=N:=⟨_,rfl⟩
 rw [hN] at HG ⊢
 have HW:Hid (∀ x∈L,byt x.1):=wf
 have HV:Hid (Bs w v S):=hv
 have HS:Hid (byt S):=bS
 have HB:Hid (Blk w g [v]):=B
 clear hN wf hv bS B
 go_enter Tryz.func41,Tryz.ntmps41
 go_wp2_with fail
 refine (c18_index HG.out HW.out HV.out HS.out HB.out).mono ?_
 rintro e w1 ⟨r,rfl,hr,bel⟩
 have HR:Hid (decide (r ≥ 0)=hasG L S):=hr
 clear hr
 go_wp2_with fail
 go_ret
 exact ⟨by rw [← HR.out];rfl,bel⟩
set_option linter.unusedSimpArgs false in
set_option maxRecDepth 100000 in
set_option maxHeartbeats 2000000 in
theorem con_KHas {c:Cr} {cs:List Value} {S:List Int} {v:Value} {w:World} (h:CrAt w c cs) (wf:∀ x∈c.gone,byt x.1) (hv:Bs w v S) (bS:byt S) :
  Calls Tryz.prog 19 #[.agg cs.toArray,v] w fun e w'=>e=.returned (.bool (hasG c.gone S))∧Below w.heap.size w w':=by
 have HL17:Hid (cs.length=17):=h.len
 obtain ⟨iv,gv,bv,rs,zs,rfl,-,hg,-,u1,u2⟩:=h
 obtain ⟨r0,r1,r2,r3,r4,r5,rfl,-,-⟩:=u1
 obtain ⟨s0,s1,s2,s3,s4,s5,rfl,-,-⟩:=u2
 have HG:Hid (GnAt w gv c.gone):=hg
 obtain ⟨ao,kc,rfl,-,-,-⟩:=hg
 obtain ⟨N,hN⟩:∃ N,c.gone.length=N:=⟨_,rfl⟩
 rw [hN] at HG ⊢
 obtain ⟨fr,hfr⟩:∃ z,c.frm=z:=⟨_,rfl⟩
 obtain ⟨ti,hti⟩:∃ z,c.til=z:=⟨_,rfl⟩
 obtain ⟨L,hLg⟩:∃ z,c.gone=z:=⟨_,rfl⟩
 rw [hLg] at HG wf ⊢
 rw [hfr,hti]
 have HW:Hid (∀ x∈L,byt x.1):=wf
 have HV:Hid (Bs w v S):=hv
 have HS:Hid (byt S):=bS
 obtain ⟨va,vc,rfl,-,-,-⟩:=hv
 obtain ⟨VL,hVL⟩:∃ z,S.length=z:=⟨_,rfl⟩
 rw [hVL] at HV ⊢
 clear hN hfr hti hLg hVL wf bS
 show Calls Tryz.prog 19 #[.agg #[iv,.int .i64 fr,.int .i64 ti,.slice ao N kc,bv,.int .u64 r0,.int .u64 r1,.int .u64 r2,.int .u64 r3,.int .u64 r4,.int .u64 r5,.int .u64 s0,.int .u64 s1,.int .u64 s2,.int .u64 s3,.int .u64 s4,.int .u64 s5],.slice va VL vc] w _
 have B0:=(Blk.new w [iv,.int .i64 fr,.int .i64 ti,.slice ao N kc,bv,.int .u64 r0,.int .u64 r1,.int .u64 r2,.int .u64 r3,.int .u64 r4,.int .u64 r5,.int .u64 s0,.int .u64 s1,.int .u64 s2,.int .u64 s3,.int .u64 s4,.int .u64 s5] 32 w.heap.size rfl).alloc (.cells #[.slice va VL vc] 25)
 have B1:=Blk.new (w.alloc (.cells #[iv,.int .i64 fr,.int .i64 ti,.slice ao N kc,bv,.int .u64 r0,.int .u64 r1,.int .u64 r2,.int .u64 r3,.int .u64 r4,.int .u64 r5,.int .u64 s0,.int .u64 s1,.int .u64 s2,.int .u64 s3,.int .u64 s4,.int .u64 s5] 32)) [.slice va VL vc] 25 (w.heap.size + 1) (by simp)
 have bel:Below w.heap.size w ((w.alloc (.cells #[iv,.int .i64 fr,.int .i64 ti,.slice ao N kc,bv,.int .u64 r0,.int .u64 r1,.int .u64 r2,.int .u64 r3,.int .u64 r4,.int .u64 r5,.int .u64 s0,.int .u64 s1,.int .u64 s2,.int .u64 s3,.int .u64 s4,.int .u64 s5] 32)).alloc (.cells #[.slice va VL vc] 25)):=((Below.refl _ _).alloc (Nat.le_refl _) _).alloc (by simp) _
 go_enter Tryz.func19,Tryz.ntmps19
 go_upto_region 1 with fail
 generalize (w.alloc (.cells #[iv,.int .i64 fr,.int .i64 ti,.slice ao N kc,bv,.int .u64 r0,.int .u64 r1,.int .u64 r2,.int .u64 r3,.int .u64 r4,.int .u64 r5,.int .u64 s0,.int .u64 s1,.int .u64 s2,.int .u64 s3,.int .u64 s4,.int .u64 s5] 32)).alloc (.cells #[.slice va VL vc] 25)=W at *
 have e3:=B0.cell 3 _ rfl
 have l0:=B0.lt
 go_wp2_with fail
 refine (c18_contains (HG.out.later bel) HW.out (HV.out.later bel) HS.out B1).mono ?_
 rintro e w1 ⟨rfl,hb⟩
 replace bel:=below_step bel hb
 clear hb e3 l0 B0 B1
 obtain ⟨b,hb⟩:∃ b:Bool,hasG L S=b:=⟨_,rfl⟩
 have HE:Hid (hasG L S=b):=hb
 rw [hb]
 clear hb
 go_wp2_with fail
 go_ret
 exact ⟨by rw [HE.out];rfl,bel⟩
end Go.Proofs.YtkgjlcdefnpkpaaGreatDoor
