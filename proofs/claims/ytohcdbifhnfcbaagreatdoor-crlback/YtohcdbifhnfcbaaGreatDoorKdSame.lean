/- The document's Same: are two names the same? The document's Same: two lists of revoked ones that are the same. -/
import Derived.Test.YtohcdbifhnfcbaaGreatDoorDrTG
import Derived.Test.YtohcdbifhnfcbaaGreatDoorNlElem
import Derived.Test.YtohcdbifhnfcbaaGreatDoorKrSpec
import Derived.Test.YtohcdbifhnfcbaaGreatDoorKrSig
import Derived.Test.YtohcdbifhnfcbaaGreatDoorClWr
import Derived.Test.YtohcdbifhnfcbaaGreatDoorRows
import Derived.BigQuiet
import Derived.Deep.WholeRow
import Derived.Deep.RegionHeld3
import Derived.Deep.DeepCutAuto
import Derived.Deep.DeepFit
import Derived.Deep.OwnRows
import Derived.Deep.AppendLies
import Derived.Great.BuildSlice
import Derived.Laws.Rows
namespace Go.Proofs.YtohcdbifhnfcbaaGreatDoor
open Go.RowKit
set_option linter.unusedSimpArgs false in
set_option maxRecDepth 100000 in
set_option maxHeartbeats 1000000 in
theorem r16_Same {v u:Value} {n m:List Pn} {w:World} (hn:NmAt w v n) (hm:NmAt w u m) (wn:WfN n) (wm:WfN m) :
  Calls Tryz.prog 20 #[v,u] w fun e w'=>e=.returned (.bool (decide (n=m)))∧Below w.heap.size w w':=by
 have HN:Hid (NmAt w v n):=hn
 have HM:Hid (NmAt w u m):=hm
 obtain ⟨a1,c1,rfl,-,-,-⟩:=hn
 obtain ⟨a2,c2,rfl,-,-,-⟩:=hm
 have hl1:Hid (n.length≤9223372036854775807):=by obtain ⟨_,c,e,h1,h2,_⟩:=HN.out;show _≤_;simp only [maxLen] at h2;omega
 go_enter Tryz.func20,Tryz.ntmps20
 by_cases hl:n.length=m.length
 rotate_left
 ·have H:Hid (decide (n=m)=false):=decide_eq_false (fun h=>hl (by rw [h]))
  have g1:((n.length:Int) == (m.length:Int))=false:=by rw [beq_eq_false_iff_ne];omega
  have g2:((n.length:Int) != (m.length:Int))=true:=by rw [bne,g1];rfl
  clear hl
  go_wp2_with fail
  go_ret
  exact ⟨by rw [H.out];rfl,Below.refl _ _⟩
 obtain ⟨L,hL⟩:∃ L,n.length=L:=⟨_,rfl⟩
 have HL:Hid (n.length=L):=hL
 have HL2:Hid (m.length=L):=by show _=_;rw [← hL,hl]
 rw [hL] at HN ⊢
 rw [HL2.out] at HM ⊢
 have g1:((L:Int) == (L:Int))=true:=beq_self_eq_true _
 have g2:((L:Int) != (L:Int))=false:=by rw [bne,g1];rfl
 clear hl hL
 go_wp2_with fail
 clear g1 g2
 go_loopw [5] (fun iv wx=>∃ i:Nat,i≤L∧iv=.int .i64 (i:Int)∧Hid (n.take i=m.take i)∧Below w.heap.size w wx) (fun iv _=>L - (intOf iv).toNat)
 case atStart=>exact ⟨0,by omega,rfl,rfl,Below.refl _ _⟩
 case round =>
  obtain ⟨i,hi,rfl,HT,bel⟩:=hrel
  by_cases hil:i < L
  ·have g1:(i:Int) < (L:Int):=by omega
   have g2:(0:Int)≤(i:Int):=by omega
   have gi:IntKind.i64.wrap ((i:Int) + 1)=(i:Int) + 1:=by have:=hl1.out;rw [HL.out] at this;rw [IntKind.wrap_i64];omega
   obtain ⟨p,b1,o1,hp,e1,-,l1,x0,x1⟩:=(HN.out.later bel).at (i:=i) (by rw [HL.out];exact hil)
   obtain ⟨q,b2,o2,hq,e2,-,l2,y0,y1⟩:=(HM.out.later bel).at (i:=i) (by rw [HL2.out];exact hil)
   subst e1 e2
   have q5:=eqN (wn i p hp).2.1 (wm i q hq).2.1
   have HS:Hid (n.take (i + 1)=m.take (i + 1)↔p=q):=take_one HT.out hp hq
   have HPQ:Hid (n[i]?=some p∧m[i]?=some q):=⟨hp,hq⟩
   obtain ⟨k1,s1⟩:=p
   obtain ⟨k2,s2⟩:=q
   simp only at x0 x1 y0 y1 q5
   clear hp hq
   by_cases hpq:(k1,s1)=(k2,s2)
   ·rw [decide_eq_true hpq] at q5
    have HT2:Hid (n.take (i + 1)=m.take (i + 1)):=HS.out.2 hpq
    clear hpq
    go_wp2_with fail
    go_quiet (fail)
    go_wp2_with fail
    go_roundw
    case rel=>exact ⟨i + 1,by omega,by go_num,HT2,below_dN bel _⟩
    case measure=>simp [intOf];omega
   ·rw [decide_eq_false hpq] at q5
    have H:Hid (decide (n=m)=false):=decide_eq_false (fun h=>hpq (by have h1:=HPQ.out.1;have h2:=HPQ.out.2;rw [h,h2] at h1;exact (Option.some.inj h1).symm))
    clear hpq
    go_wp2_with fail
    go_quiet (fail)
    go_wp2_with fail
    go_ret
    exact ⟨by rw [H.out];rfl,below_dN bel _⟩
  ·have g1:¬ (i:Int) < (L:Int):=by omega
   have HI:Hid (i=L):=by show _=_;omega
   have H:Hid (decide (n=m)=true):=decide_eq_true (by have h:=HT.out;rw [HI.out,List.take_of_length_le (by rw [HL.out];exact Nat.le_refl _),List.take_of_length_le (by rw [HL2.out];exact Nat.le_refl _)] at h;exact h)
   go_wp2_with fail
   go_ret
   exact ⟨by rw [H.out];rfl,bel⟩
theorem gn_two {w:World} {ao:Option Addr} {N kc:Nat} {L:List Gn} (h:GnAt w (.slice ao N kc) L) (e:L.length=N) (h0:0 < N):∃ b o,ao=some ⟨b,o,none⟩∧b < w.heap.size∧∀ (i:Nat) (x:Gn),L[i]?=some x→∃ u,w.cell? ⟨b,o + i * 2,none⟩=some u∧Bs w u x.1∧w.cell? ⟨b,o + i * 2 + 1,none⟩=some (.int .i64 x.2):=by
 obtain ⟨a,k,e1,-,-,h3⟩:=h
 simp only [Value.slice.injEq] at e1
 obtain ⟨rfl,-,-⟩:=e1
 exact h3 (by omega)
set_option linter.unusedSimpArgs false in
set_option maxRecDepth 100000 in
set_option maxHeartbeats 4000000 in
/-- what is the same is told so -/
theorem r18_SameY {A:Cr} {cs ds:List Value} {w:World} (h:CrAt w A cs) (k:CrAt w A ds) (wf:WfCr A):Calls Tryz.prog 9 #[.agg cs.toArray,.agg ds.toArray] w fun e w'=>e=.returned (.bool true)∧Below w.heap.size w w':=by
 have HW:Hid (WfN A.issuer):=wf.1
 have HA:Hid (CrAt w A cs):=h
 have HB:Hid (CrAt w A ds):=k
 obtain ⟨iv,gv,bv,rs,zs,rfl,hi,hg,hb,hr,hz⟩:=h
 obtain ⟨jv,gw,bw,rs',zs',rfl,ki,kg,kb,kr,kz⟩:=k
 obtain rfl:=(hr.same kr).2 rfl
 obtain rfl:=(hz.same kz).2 rfl
 have HU:Hid (U6 rs A.sr):=hr
 have HZ:Hid (U6 zs A.ss):=hz
 obtain ⟨r0,r1,r2,r3,r4,r5,rfl,-,-⟩:=hr
 obtain ⟨s0,s1,s2,s3,s4,s5,rfl,-,-⟩:=hz
 clear kr kz HA HB
 have HI:Hid (NmAt w iv A.issuer):=hi
 have HJ:Hid (NmAt w jv A.issuer):=ki
 have HG:Hid (GnAt w gv A.gone):=hg
 have HH:Hid (GnAt w gw A.gone):=kg
 have HD:Hid (Bs w bv A.body):=hb
 have HE:Hid (Bs w bw A.body):=kb
 obtain ⟨ao,kc,rfl,k1,k2,-⟩:=hg
 obtain ⟨ap,kd,rfl,k3,k4,-⟩:=kg
 obtain ⟨ba,bc,rfl,-,-,-⟩:=hb
 obtain ⟨bb,bd,rfl,-,-,-⟩:=kb
 obtain ⟨ia,ic,hiv,-,-,-⟩:=id hi
 obtain ⟨ja,jc,hjv,-,-,-⟩:=id ki
 obtain ⟨N,hN⟩:∃ z,A.gone.length=z:=⟨_,rfl⟩
 obtain ⟨D,hD⟩:∃ z,A.body.length=z:=⟨_,rfl⟩
 obtain ⟨I,hI⟩:∃ z,A.issuer.length=z:=⟨_,rfl⟩
 have HN:Hid (A.gone.length=N):=hN
 rw [hN] at HG HH k1 k3 ⊢
 rw [hD] at HD HE ⊢
 rw [hI] at hiv hjv
 subst hiv hjv
 obtain ⟨fr,hfr⟩:∃ z,A.frm=z:=⟨_,rfl⟩
 obtain ⟨ti,hti⟩:∃ z,A.til=z:=⟨_,rfl⟩
 rw [hfr,hti]
 unfold maxLen at k2 k4
 have HQ:Hid (∀ w:World,(Op.equalIn 10000 31 (.agg #[.int .u64 r0,.int .u64 r1,.int .u64 r2,.int .u64 r3,.int .u64 r4,.int .u64 r5,.int .u64 s0,.int .u64 s1,.int .u64 s2,.int .u64 s3,.int .u64 s4,.int .u64 s5]) (.agg #[.int .u64 r0,.int .u64 r1,.int .u64 r2,.int .u64 r3,.int .u64 r4,.int .u64 r5,.int .u64 s0,.int .u64 s1,.int .u64 s2,.int .u64 s3,.int .u64 s4,.int .u64 s5])).run Tryz.prog w=.ok true w):=fun w=>by
  have:=eqS HU.out HZ.out HU.out HZ.out w
  simpa using this
 clear hN hD hI hfr hti hi ki HU HZ
 show Calls Tryz.prog 9 #[.agg #[.slice ia I ic,.int .i64 fr,.int .i64 ti,.slice ao N kc,.slice ba D bc,.int .u64 r0,.int .u64 r1,.int .u64 r2,.int .u64 r3,.int .u64 r4,.int .u64 r5,.int .u64 s0,.int .u64 s1,.int .u64 s2,.int .u64 s3,.int .u64 s4,.int .u64 s5],.agg #[.slice ja I jc,.int .i64 fr,.int .i64 ti,.slice ap N kd,.slice bb D bd,.int .u64 r0,.int .u64 r1,.int .u64 r2,.int .u64 r3,.int .u64 r4,.int .u64 r5,.int .u64 s0,.int .u64 s1,.int .u64 s2,.int .u64 s3,.int .u64 s4,.int .u64 s5]] w _
 have B0:=(Blk.new w [.slice ia I ic,.int .i64 fr,.int .i64 ti,.slice ao N kc,.slice ba D bc,.int .u64 r0,.int .u64 r1,.int .u64 r2,.int .u64 r3,.int .u64 r4,.int .u64 r5,.int .u64 s0,.int .u64 s1,.int .u64 s2,.int .u64 s3,.int .u64 s4,.int .u64 s5] 33 w.heap.size rfl).alloc (.cells #[.slice ja I jc,.int .i64 fr,.int .i64 ti,.slice ap N kd,.slice bb D bd,.int .u64 r0,.int .u64 r1,.int .u64 r2,.int .u64 r3,.int .u64 r4,.int .u64 r5,.int .u64 s0,.int .u64 s1,.int .u64 s2,.int .u64 s3,.int .u64 s4,.int .u64 s5] 33)
 have B1:=Blk.new (w.alloc (.cells #[.slice ia I ic,.int .i64 fr,.int .i64 ti,.slice ao N kc,.slice ba D bc,.int .u64 r0,.int .u64 r1,.int .u64 r2,.int .u64 r3,.int .u64 r4,.int .u64 r5,.int .u64 s0,.int .u64 s1,.int .u64 s2,.int .u64 s3,.int .u64 s4,.int .u64 s5] 33)) [.slice ja I jc,.int .i64 fr,.int .i64 ti,.slice ap N kd,.slice bb D bd,.int .u64 r0,.int .u64 r1,.int .u64 r2,.int .u64 r3,.int .u64 r4,.int .u64 r5,.int .u64 s0,.int .u64 s1,.int .u64 s2,.int .u64 s3,.int .u64 s4,.int .u64 s5] 33 (w.heap.size + 1) (by simp)
 have bel:Below w.heap.size w ((w.alloc (.cells #[.slice ia I ic,.int .i64 fr,.int .i64 ti,.slice ao N kc,.slice ba D bc,.int .u64 r0,.int .u64 r1,.int .u64 r2,.int .u64 r3,.int .u64 r4,.int .u64 r5,.int .u64 s0,.int .u64 s1,.int .u64 s2,.int .u64 s3,.int .u64 s4,.int .u64 s5] 33)).alloc (.cells #[.slice ja I jc,.int .i64 fr,.int .i64 ti,.slice ap N kd,.slice bb D bd,.int .u64 r0,.int .u64 r1,.int .u64 r2,.int .u64 r3,.int .u64 r4,.int .u64 r5,.int .u64 s0,.int .u64 s1,.int .u64 s2,.int .u64 s3,.int .u64 s4,.int .u64 s5] 33)):=((Below.refl _ _).alloc (Nat.le_refl _) _).alloc (by simp) _
 go_enter Tryz.func9,Tryz.ntmps9
 go_upto_region 1 with fail
 generalize (w.alloc (.cells #[.slice ia I ic,.int .i64 fr,.int .i64 ti,.slice ao N kc,.slice ba D bc,.int .u64 r0,.int .u64 r1,.int .u64 r2,.int .u64 r3,.int .u64 r4,.int .u64 r5,.int .u64 s0,.int .u64 s1,.int .u64 s2,.int .u64 s3,.int .u64 s4,.int .u64 s5] 33)).alloc (.cells #[.slice ja I jc,.int .i64 fr,.int .i64 ti,.slice ap N kd,.slice bb D bd,.int .u64 r0,.int .u64 r1,.int .u64 r2,.int .u64 r3,.int .u64 r4,.int .u64 r5,.int .u64 s0,.int .u64 s1,.int .u64 s2,.int .u64 s3,.int .u64 s4,.int .u64 s5] 33)=W at *
 have e0:=B0.cell 0 _ rfl
 have f0:=B1.cell 0 _ rfl
 have e1:=B0.cell 1 _ rfl
 have f1:=B1.cell 1 _ rfl
 have e2:=B0.cell 2 _ rfl
 have f2:=B1.cell 2 _ rfl
 have e3:=B0.cell 3 _ rfl
 have f3:=B1.cell 3 _ rfl
 have e4:=B0.cell 4 _ rfl
 have f4:=B1.cell 4 _ rfl
 have l0:=B0.lt
 have l1:=B1.lt
 have h1:(loadVar 31 ⟨w.heap.size,5,none⟩).run Tryz.prog W=.ok (.agg #[.int .u64 r0,.int .u64 r1,.int .u64 r2,.int .u64 r3,.int .u64 r4,.int .u64 r5,.int .u64 s0,.int .u64 s1,.int .u64 s2,.int .u64 s3,.int .u64 s4,.int .u64 s5]) W:=load_cells (n:=12) (fun j y hj=>B0.cell (5 + j) y (by rw [Nat.add_comm];exact hj)) rfl Tryz.underlying31 rfl size_sg8
 have h2:(loadVar 31 ⟨w.heap.size + 1,5,none⟩).run Tryz.prog W=.ok (.agg #[.int .u64 r0,.int .u64 r1,.int .u64 r2,.int .u64 r3,.int .u64 r4,.int .u64 r5,.int .u64 s0,.int .u64 s1,.int .u64 s2,.int .u64 s3,.int .u64 s4,.int .u64 s5]) W:=load_cells (n:=12) (fun j y hj=>B1.cell (5 + j) y (by rw [Nat.add_comm];exact hj)) rfl Tryz.underlying31 rfl size_sg8
 have x1:=conv_any (HD.out.later bel)
 have x2:=conv_any (HE.out.later bel)
 obtain ⟨Z,hZ⟩:∃ z,strOfNums A.body=z:=⟨_,rfl⟩
 rw [hZ] at x1 x2
 have sq:(Z.toList == Z.toList)=true:=beq_self_eq_true _
 have d0:((N:Int) == (N:Int))=true:=beq_self_eq_true _
 have d1:(fr == fr)=true:=beq_self_eq_true _
 have d2:(ti == ti)=true:=beq_self_eq_true _
 have q9:=HQ.out
 clear hZ
 go_wp2_with (first|((with_reducible show wpList _ _ _ ({ dst:=_,op:=.load _ _,type:=_,pos:=_,after:=_,guard:=_ } :: _) _ _);refine wpList_load_run (by rfl) (by rfl) (by rfl) h1 ?_)|((with_reducible show wpList _ _ _ ({ dst:=_,op:=.load _ _,type:=_,pos:=_,after:=_,guard:=_ } :: _) _ _);refine wpList_load_run (by rfl) (by rfl) (by rfl) h2 ?_)|fail)
 clear e0 e1 e2 e4 f0 f1 f2 f4 h1 h2 x1 x2 sq d0 d1 d2 q9 e3 f3 l0 l1
 go_loopw [5] (fun iv wx=>∃ i:Nat,i≤N∧iv=.int .i64 (i:Int)∧(Blk wx w.heap.size [.slice ia I ic,.int .i64 fr,.int .i64 ti,.slice ao N kc,.slice ba D bc,.int .u64 r0,.int .u64 r1,.int .u64 r2,.int .u64 r3,.int .u64 r4,.int .u64 r5,.int .u64 s0,.int .u64 s1,.int .u64 s2,.int .u64 s3,.int .u64 s4,.int .u64 s5]∧Blk wx (w.heap.size + 1) [.slice ja I jc,.int .i64 fr,.int .i64 ti,.slice ap N kd,.slice bb D bd,.int .u64 r0,.int .u64 r1,.int .u64 r2,.int .u64 r3,.int .u64 r4,.int .u64 r5,.int .u64 s0,.int .u64 s1,.int .u64 s2,.int .u64 s3,.int .u64 s4,.int .u64 s5])∧Below w.heap.size w wx) (fun iv _=>N - (intOf iv).toNat)
 case atStart=>exact ⟨0,by omega,rfl,⟨B0,B1⟩,bel⟩
 case round =>
  clear bel B0 B1
  obtain ⟨i,hi,rfl,⟨B0,B1⟩,bel⟩:=hrel
  have e3:=B0.cell 3 _ rfl
  have l0:=B0.lt
  by_cases hil:i < N
  rotate_left
  ·obtain rfl:i=N:=by omega
   have g1:¬ (i:Int) < (i:Int):=by omega
   have e0:=B0.cell 0 _ rfl
   have f0:=B1.cell 0 _ rfl
   have l1:=B1.lt
   go_wp2_with fail
   refine (r16_Same (HI.out.later bel) (HJ.out.later bel) HW.out HW.out).mono ?_
   rintro e w5 ⟨rfl,hb⟩
   replace bel:=below_step bel hb
   clear hb e0 f0 e3 l0 l1 B0 B1
   rw [decide_eq_true rfl]
   go_wp2_with fail
   go_ret
   exact ⟨rfl,bel⟩
  have g1:(i:Int) < (N:Int):=by omega
  have g2:(0:Int)≤(i:Int):=by omega
  have gi:IntKind.i64.wrap ((i:Int) + 1)=(i:Int) + 1:=by rw [IntKind.wrap_i64];omega
  obtain ⟨x,hx⟩:∃ x,A.gone[i]?=some x:=⟨_,List.getElem?_eq_getElem (by rw [HN.out];exact hil)⟩
  obtain ⟨b,p,hao,hlt,hc⟩:=gn_two HG.out HN.out (by omega)
  obtain ⟨b',p',hap,hlt',hc'⟩:=gn_two HH.out HN.out (by omega)
  obtain ⟨u,c1,hu,c2⟩:=hc i x hx
  obtain ⟨v,c3,hv,c4⟩:=hc' i x hx
  subst hao hap
  have HUx:Hid (Bs w u x.1):=hu
  have HVx:Hid (Bs w v x.1):=hv
  obtain ⟨ua,uc,rfl,-,-,-⟩:=hu
  obtain ⟨va,vc,rfl,-,-,-⟩:=hv
  obtain ⟨Z,hZ⟩:∃ z,strOfNums x.1=z:=⟨_,rfl⟩
  obtain ⟨XL,hXL⟩:∃ z,x.1.length=z:=⟨_,rfl⟩
  obtain ⟨xa,hxa⟩:∃ z,x.2=z:=⟨_,rfl⟩
  rw [hXL] at HUx HVx c1 c3
  rw [hxa] at c2 c4
  have HC1:Hid (w.cell? ⟨b,p + i * 2,none⟩=some (.slice ua XL uc)):=c1
  have HC2:Hid (w.cell? ⟨b,p + i * 2 + 1,none⟩=some (.int .i64 xa)):=c2
  have HC3:Hid (w.cell? ⟨b',p' + i * 2,none⟩=some (.slice va XL vc)):=c3
  have HC4:Hid (w.cell? ⟨b',p' + i * 2 + 1,none⟩=some (.int .i64 xa)):=c4
  have HL1:Hid (b < w.heap.size):=hlt
  have HL2:Hid (b' < w.heap.size):=hlt'
  have sq:(Z.toList == Z.toList)=true:=beq_self_eq_true _
  have d1:(xa == xa)=true:=beq_self_eq_true _
  clear hx hc hc' c1 c2 c3 c4 hlt hlt' hXL hxa
  go_upto_region 6 with fail
  obtain ⟨S1,hS1,KB1,KI1,KD1,KL1,KA1⟩:∃ S:World→Prop,Hd S wr∧Hid (∀ wx,Hd S wx→Below wr.heap.size wr wx)∧Hid (∀ wx,Below wr.heap.size wr wx→Hd S wx)∧Hid (∀ wx,Hd S wx→Hd S wx.drew)∧Hid (∀ w1 w2,Hd S w1→Below w1.heap.size w1 w2→Hd S w2)∧Hid (∀ w1 o,Hd S w1→Hd S (w1.alloc o)):=⟨fun wx=>Below wr.heap.size wr wx,Below.refl _ _,fun _ h=>h,fun _ h=>h,fun wx h=>Below.drew h,fun w1 w2 h hb=>below_step h hb,fun w1 o h=>Below.alloc h h.size o⟩
  have HBk:Hid (Blk wr w.heap.size [.slice ia I ic,.int .i64 fr,.int .i64 ti,.slice (some ⟨b,p,none⟩) N kc,.slice ba D bc,.int .u64 r0,.int .u64 r1,.int .u64 r2,.int .u64 r3,.int .u64 r4,.int .u64 r5,.int .u64 s0,.int .u64 s1,.int .u64 s2,.int .u64 s3,.int .u64 s4,.int .u64 s5]):=B0
  have HBl:Hid (Blk wr (w.heap.size + 1) [.slice ja I jc,.int .i64 fr,.int .i64 ti,.slice (some ⟨b',p',none⟩) N kd,.slice bb D bd,.int .u64 r0,.int .u64 r1,.int .u64 r2,.int .u64 r3,.int .u64 r4,.int .u64 r5,.int .u64 s0,.int .u64 s1,.int .u64 s2,.int .u64 s3,.int .u64 s4,.int .u64 s5]):=B1
  have HBel:Hid (Below w.heap.size w wr):=bel
  have ra:∀ wx,Hd S1 wx→wx.cell? ⟨w.heap.size,3,none⟩=some (.slice (some ⟨b,p,none⟩) N kc):=fun wx h=>(HBk.out.later (KB1.out wx h)).cell 3 _ rfl
  have rl:∀ wx,Hd S1 wx→w.heap.size < wx.heap.size:=fun wx h=>(HBk.out.later (KB1.out wx h)).lt
  have rc:∀ wx,Hd S1 wx→wx.cell? ⟨w.heap.size + 1,3,none⟩=some (.slice (some ⟨b',p',none⟩) N kd):=fun wx h=>(HBl.out.later (KB1.out wx h)).cell 3 _ rfl
  have rm:∀ wx,Hd S1 wx→w.heap.size + 1 < wx.heap.size:=fun wx h=>(HBl.out.later (KB1.out wx h)).lt
  have y1:∀ wx,Hd S1 wx→wx.cell? ⟨b,p + i * 2,none⟩=some (.slice ua XL uc):=fun wx h=>cell_later HC1.out (below_step HBel.out (KB1.out wx h))
  have y2:∀ wx,Hd S1 wx→wx.cell? ⟨b,p + i * 2 + 1,none⟩=some (.int .i64 xa):=fun wx h=>cell_later HC2.out (below_step HBel.out (KB1.out wx h))
  have y3:∀ wx,Hd S1 wx→wx.cell? ⟨b',p' + i * 2,none⟩=some (.slice va XL vc):=fun wx h=>cell_later HC3.out (below_step HBel.out (KB1.out wx h))
  have y4:∀ wx,Hd S1 wx→wx.cell? ⟨b',p' + i * 2 + 1,none⟩=some (.int .i64 xa):=fun wx h=>cell_later HC4.out (below_step HBel.out (KB1.out wx h))
  have rb:∀ wx,Hd S1 wx→b < wx.heap.size:=fun wx h=>Nat.lt_of_lt_of_le HL1.out (below_step HBel.out (KB1.out wx h)).size
  have rd:∀ wx,Hd S1 wx→b' < wx.heap.size:=fun wx h=>Nat.lt_of_lt_of_le HL2.out (below_step HBel.out (KB1.out wx h)).size
  have z1:=fun (wx:World) (h:Hd S1 wx)=>conv_any (HUx.out.later (below_step HBel.out (KB1.out wx h)))
  have z2:=fun (wx:World) (h:Hd S1 wx)=>conv_any (HVx.out.later (below_step HBel.out (KB1.out wx h)))
  rw [hZ] at z1 z2
  clear e3 l0 B0 B1 bel
  refine wp_region_noPanic ?_
  refine wp_region_held_drew (S:=Hd S1) (by kernel_rfl) (KD1.out _ hS1) (fun hHeld=>?_)
  clear hS1
  generalize World.drew _=wd1 at *
  refine wpAnyH_take (i:=0) (v:=?_) rfl (by kernel_rfl) (by kernel_rfl) (by kernel_rfl) (fun _ _ _ h=>h) (Or.inl ⟨by rfl,?_⟩) (by assumption) ?_
  rotate_left
  ·intro w hSw
   go_simp
   with_reducible rfl
  try simp only [Act.put,List.getElem_toArray,List.getElem_cons_zero,List.getElem_cons_succ,List.setIfInBounds_toArray,List.set_cons_zero,List.set_cons_succ]
  refine wpAnyH_take (i:=1) (v:=?_) rfl (by kernel_rfl) (by kernel_rfl) (by kernel_rfl) (fun _ _ _ h=>h) (Or.inl ⟨by rfl,?_⟩) (by assumption) ?_
  rotate_left
  ·intro w hSw
   go_simp
   with_reducible rfl
  try simp only [Act.put,List.getElem_toArray,List.getElem_cons_zero,List.getElem_cons_succ,List.setIfInBounds_toArray,List.set_cons_zero,List.set_cons_succ]
  refine wpAnyH_take (i:=2) (v:=?_) rfl (by kernel_rfl) (by kernel_rfl) (by kernel_rfl) (fun _ _ _ h=>h) (Or.inl ⟨by rfl,?_⟩) (by assumption) ?_
  rotate_left
  ·intro w hSw
   go_simp
   with_reducible rfl
  try simp only [Act.put,List.getElem_toArray,List.getElem_cons_zero,List.getElem_cons_succ,List.setIfInBounds_toArray,List.set_cons_zero,List.set_cons_succ]
  refine wpAnyH_take (i:=3) (v:=?_) rfl (by kernel_rfl) (by kernel_rfl) (by kernel_rfl) (fun _ _ _ h=>h) (Or.inl ⟨by rfl,?_⟩) (by assumption) ?_
  rotate_left
  ·intro w hSw
   go_simp
   with_reducible rfl
  try simp only [Act.put,List.getElem_toArray,List.getElem_cons_zero,List.getElem_cons_succ,List.setIfInBounds_toArray,List.set_cons_zero,List.set_cons_succ]
  refine wpAnyH_take (i:=4) (v:=?_) rfl (by kernel_rfl) (by kernel_rfl) (by kernel_rfl) (fun _ _ _ h=>h) (Or.inl ⟨by rfl,?_⟩) (by assumption) ?_
  rotate_left
  ·intro w hSw
   go_simp
   with_reducible rfl
  try simp only [Act.put,List.getElem_toArray,List.getElem_cons_zero,List.getElem_cons_succ,List.setIfInBounds_toArray,List.set_cons_zero,List.set_cons_succ]
  refine wpAnyH_take (i:=5) (v:=?_) rfl (by kernel_rfl) (by kernel_rfl) (by kernel_rfl) (fun _ _ _ h=>h) (Or.inl ⟨by rfl,?_⟩) (by assumption) ?_
  rotate_left
  ·intro w hSw
   go_simp
   with_reducible rfl
  try simp only [Act.put,List.getElem_toArray,List.getElem_cons_zero,List.getElem_cons_succ,List.setIfInBounds_toArray,List.set_cons_zero,List.set_cons_succ]
  refine wpAnyH_take (i:=6) (v:=?_) rfl (by kernel_rfl) (by kernel_rfl) (by kernel_rfl) (fun _ _ _ h=>h) (Or.inl ⟨by rfl,?_⟩) (by assumption) ?_
  rotate_left
  ·intro w hSw
   go_simp
   with_reducible rfl
  try simp only [Act.put,List.getElem_toArray,List.getElem_cons_zero,List.getElem_cons_succ,List.setIfInBounds_toArray,List.set_cons_zero,List.set_cons_succ]
  refine wpAnyH_take (i:=7) (v:=?_) rfl (by kernel_rfl) (by kernel_rfl) (by kernel_rfl) (fun _ _ _ h=>h) (Or.inl ⟨by rfl,?_⟩) (by assumption) ?_
  rotate_left
  ·intro w hSw
   go_simp
   with_reducible rfl
  try simp only [Act.put,List.getElem_toArray,List.getElem_cons_zero,List.getElem_cons_succ,List.setIfInBounds_toArray,List.set_cons_zero,List.set_cons_succ]
  refine wpAnyH_take (i:=8) (v:=?_) rfl (by kernel_rfl) (by kernel_rfl) (by kernel_rfl) (fun _ _ _ h=>h) (Or.inl ⟨by rfl,?_⟩) (by assumption) ?_
  rotate_left
  ·intro w hSw
   go_simp
   with_reducible rfl
  try simp only [Act.put,List.getElem_toArray,List.getElem_cons_zero,List.getElem_cons_succ,List.setIfInBounds_toArray,List.set_cons_zero,List.set_cons_succ]
  refine wpAnyH_take (i:=9) (v:=?_) rfl (by kernel_rfl) (by kernel_rfl) (by kernel_rfl) (fun _ _ _ h=>h) (Or.inl ⟨by rfl,?_⟩) (by assumption) ?_
  rotate_left
  ·intro w hSw
   go_simp
   with_reducible rfl
  try simp only [Act.put,List.getElem_toArray,List.getElem_cons_zero,List.getElem_cons_succ,List.setIfInBounds_toArray,List.set_cons_zero,List.set_cons_succ]
  refine wpAnyH_take (i:=10) (v:=?_) rfl (by kernel_rfl) (by kernel_rfl) (by kernel_rfl) (fun _ _ _ h=>h) (Or.inl ⟨by rfl,?_⟩) (by assumption) ?_
  rotate_left
  ·intro w hSw
   go_simp
   with_reducible rfl
  try simp only [Act.put,List.getElem_toArray,List.getElem_cons_zero,List.getElem_cons_succ,List.setIfInBounds_toArray,List.set_cons_zero,List.set_cons_succ]
  refine wpAnyH_take (i:=11) (v:=?_) rfl (by kernel_rfl) (by kernel_rfl) (by kernel_rfl) (fun _ _ _ h=>h) (Or.inl ⟨by rfl,?_⟩) (by assumption) ?_
  rotate_left
  ·intro w hSw
   go_simp
   with_reducible rfl
  try simp only [Act.put,List.getElem_toArray,List.getElem_cons_zero,List.getElem_cons_succ,List.setIfInBounds_toArray,List.set_cons_zero,List.set_cons_succ]
  refine wpAnyH_take (i:=12) (v:=?_) rfl (by kernel_rfl) (by kernel_rfl) (by kernel_rfl) (fun _ _ _ h=>h) (Or.inl ⟨by rfl,?_⟩) (by assumption) ?_
  rotate_left
  ·intro w hSw
   go_simp
   with_reducible rfl
  try simp only [Act.put,List.getElem_toArray,List.getElem_cons_zero,List.getElem_cons_succ,List.setIfInBounds_toArray,List.set_cons_zero,List.set_cons_succ]
  refine wpAnyH_take (i:=13) (v:=?_) rfl (by kernel_rfl) (by kernel_rfl) (by kernel_rfl) (fun _ _ _ h=>h) (Or.inl ⟨by rfl,?_⟩) (by assumption) ?_
  rotate_left
  ·intro w hSw
   go_simp
   with_reducible rfl
  try simp only [Act.put,List.getElem_toArray,List.getElem_cons_zero,List.getElem_cons_succ,List.setIfInBounds_toArray,List.set_cons_zero,List.set_cons_succ]
  refine wpAnyH_take (i:=14) (v:=?_) rfl (by kernel_rfl) (by kernel_rfl) (by kernel_rfl) (fun _ _ _ h=>h) (Or.inl ⟨by rfl,?_⟩) (by assumption) ?_
  rotate_left
  ·intro w hSw
   go_simp
   with_reducible rfl
  try simp only [Act.put,List.getElem_toArray,List.getElem_cons_zero,List.getElem_cons_succ,List.setIfInBounds_toArray,List.set_cons_zero,List.set_cons_succ]
  refine wpAnyH_take (i:=15) (v:=?_) rfl (by kernel_rfl) (by kernel_rfl) (by kernel_rfl) (fun _ _ _ h=>h) (Or.inl ⟨by rfl,?_⟩) (by assumption) ?_
  rotate_left
  ·intro w hSw
   go_simp
   with_reducible rfl
  try simp only [Act.put,List.getElem_toArray,List.getElem_cons_zero,List.getElem_cons_succ,List.setIfInBounds_toArray,List.set_cons_zero,List.set_cons_succ]
  refine wpAnyH_take (i:=16) (v:=?_) rfl (by kernel_rfl) (by kernel_rfl) (by kernel_rfl) (fun _ _ _ h=>h) (Or.inl ⟨by rfl,?_⟩) (by assumption) ?_
  rotate_left
  ·intro w hSw
   go_simp
   with_reducible rfl
  try simp only [Act.put,List.getElem_toArray,List.getElem_cons_zero,List.getElem_cons_succ,List.setIfInBounds_toArray,List.set_cons_zero,List.set_cons_succ]
  refine wpAnyH_take (i:=17) (v:=?_) rfl (by kernel_rfl) (by kernel_rfl) (by kernel_rfl) (fun _ _ _ h=>h) (Or.inl ⟨by rfl,?_⟩) (by assumption) ?_
  rotate_left
  ·intro w hSw
   go_simp
   with_reducible rfl
  try simp only [Act.put,List.getElem_toArray,List.getElem_cons_zero,List.getElem_cons_succ,List.setIfInBounds_toArray,List.set_cons_zero,List.set_cons_succ]
  refine wpAnyH_take (i:=18) (v:=?_) rfl (by kernel_rfl) (by kernel_rfl) (by kernel_rfl) (fun _ _ _ h=>h) (Or.inl ⟨by rfl,?_⟩) (by assumption) ?_
  rotate_left
  ·intro w hSw
   go_simp
   with_reducible rfl
  try simp only [Act.put,List.getElem_toArray,List.getElem_cons_zero,List.getElem_cons_succ,List.setIfInBounds_toArray,List.set_cons_zero,List.set_cons_succ]
  refine wpAnyH_take (i:=19) (v:=?_) rfl (by kernel_rfl) (by kernel_rfl) (by kernel_rfl) (fun _ _ _ h=>h) (Or.inl ⟨by rfl,?_⟩) (by assumption) ?_
  rotate_left
  ·intro w hSw
   go_simp
   with_reducible rfl
  try simp only [Act.put,List.getElem_toArray,List.getElem_cons_zero,List.getElem_cons_succ,List.setIfInBounds_toArray,List.set_cons_zero,List.set_cons_succ]
  refine wpAnyH_take (i:=20) (v:=?_) rfl (by kernel_rfl) (by kernel_rfl) (by kernel_rfl) (fun _ _ _ h=>h) (Or.inl ⟨by rfl,?_⟩) (by assumption) ?_
  rotate_left
  ·intro w hSw
   go_simp
   with_reducible rfl
  try simp only [Act.put,List.getElem_toArray,List.getElem_cons_zero,List.getElem_cons_succ,List.setIfInBounds_toArray,List.set_cons_zero,List.set_cons_succ]
  refine wpAnyH_take (i:=21) (v:=?_) rfl (by kernel_rfl) (by kernel_rfl) (by kernel_rfl) (fun _ _ _ h=>h) (Or.inl ⟨by rfl,?_⟩) (by assumption) ?_
  rotate_left
  ·intro w hSw
   go_simp
   with_reducible rfl
  try simp only [Act.put,List.getElem_toArray,List.getElem_cons_zero,List.getElem_cons_succ,List.setIfInBounds_toArray,List.set_cons_zero,List.set_cons_succ]
  refine wpAnyH_take (i:=22) (v:=?_) rfl (by kernel_rfl) (by kernel_rfl) (by kernel_rfl) (fun _ _ _ h=>h) (Or.inl ⟨by rfl,?_⟩) (by assumption) ?_
  rotate_left
  ·intro w hSw
   go_simp
   with_reducible rfl
  try simp only [Act.put,List.getElem_toArray,List.getElem_cons_zero,List.getElem_cons_succ,List.setIfInBounds_toArray,List.set_cons_zero,List.set_cons_succ]
  refine wpAnyH_take (i:=23) (v:=?_) rfl (by kernel_rfl) (by kernel_rfl) (by kernel_rfl) (fun _ _ _ h=>h) (Or.inl ⟨by rfl,?_⟩) (by assumption) ?_
  rotate_left
  ·intro w hSw
   go_simp
   with_reducible rfl
  try simp only [Act.put,List.getElem_toArray,List.getElem_cons_zero,List.getElem_cons_succ,List.setIfInBounds_toArray,List.set_cons_zero,List.set_cons_succ]
  refine wpAnyH_take (i:=24) (v:=?_) rfl (by kernel_rfl) (by kernel_rfl) (by kernel_rfl) (fun _ _ _ h=>h) (Or.inl ⟨by rfl,?_⟩) (by assumption) ?_
  rotate_left
  ·intro w hSw
   go_simp
   with_reducible rfl
  try simp only [Act.put,List.getElem_toArray,List.getElem_cons_zero,List.getElem_cons_succ,List.setIfInBounds_toArray,List.set_cons_zero,List.set_cons_succ]
  refine wpAnyH_take (i:=25) (v:=?_) rfl (by kernel_rfl) (by kernel_rfl) (by kernel_rfl) (fun _ _ _ h=>h) (Or.inl ⟨by rfl,?_⟩) (by assumption) ?_
  rotate_left
  ·intro w hSw
   go_simp
   with_reducible rfl
  try simp only [Act.put,List.getElem_toArray,List.getElem_cons_zero,List.getElem_cons_succ,List.setIfInBounds_toArray,List.set_cons_zero,List.set_cons_succ]
  refine wpAnyH_take (i:=26) (v:=?_) rfl (by kernel_rfl) (by kernel_rfl) (by kernel_rfl) (fun _ _ _ h=>h) (Or.inl ⟨by rfl,?_⟩) (by assumption) ?_
  rotate_left
  ·intro w hSw
   go_simp
   with_reducible rfl
  try simp only [Act.put,List.getElem_toArray,List.getElem_cons_zero,List.getElem_cons_succ,List.setIfInBounds_toArray,List.set_cons_zero,List.set_cons_succ]
  refine wpAnyH_take (i:=27) (v:=?_) rfl (by kernel_rfl) (by kernel_rfl) (by kernel_rfl) (fun _ _ _ h=>h) (Or.inl ⟨by rfl,?_⟩) (by assumption) ?_
  rotate_left
  ·intro w hSw
   go_simp
   with_reducible rfl
  try simp only [Act.put,List.getElem_toArray,List.getElem_cons_zero,List.getElem_cons_succ,List.setIfInBounds_toArray,List.set_cons_zero,List.set_cons_succ]
  refine wpAnyH_take (i:=28) (v:=?_) rfl (by kernel_rfl) (by kernel_rfl) (by kernel_rfl) (fun _ _ _ h=>h) (Or.inl ⟨by rfl,?_⟩) (by assumption) ?_
  rotate_left
  ·intro w hSw
   go_simp
   with_reducible rfl
  try simp only [Act.put,List.getElem_toArray,List.getElem_cons_zero,List.getElem_cons_succ,List.setIfInBounds_toArray,List.set_cons_zero,List.set_cons_succ]
  refine wpAnyH_take (i:=29) (v:=?_) rfl (by kernel_rfl) (by kernel_rfl) (by kernel_rfl) (fun _ _ _ h=>h) (Or.inl ⟨by rfl,?_⟩) (by assumption) ?_
  rotate_left
  ·intro w hSw
   go_simp
   with_reducible rfl
  try simp only [Act.put,List.getElem_toArray,List.getElem_cons_zero,List.getElem_cons_succ,List.setIfInBounds_toArray,List.set_cons_zero,List.set_cons_succ]
  refine wpAnyH_done (by kernel_rfl) ?_ _
  refine NoPanic.normal ?_
  have st:=KB1.out _ hHeld
  have B0:=HBk.out.later st
  have B1:=HBl.out.later st
  have bel:=below_step HBel.out st
  clear hHeld st ra rl rc rm y1 y2 y3 y4 rb rd z1 z2 sq d1
  go_wp2_with fail
  go_roundw
  case rel=>exact ⟨i + 1,by omega,by go_num,⟨B0,B1⟩,bel⟩
  case measure=>simp [intOf];omega
end Go.Proofs.YtohcdbifhnfcbaaGreatDoor
