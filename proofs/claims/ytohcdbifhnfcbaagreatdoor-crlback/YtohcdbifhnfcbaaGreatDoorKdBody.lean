/- The document's Text of layer 13; bits of a byte. The document's kind. Texts that may be, part by part. The document's May: is something a name? The document's Body. -/
import Derived.Test.YtohcdbifhnfcbaaGreatDoorPmOidN
import Derived.Test.YtohcdbifhnfcbaaGreatDoorDrTG
import Derived.Test.YtohcdbifhnfcbaaGreatDoorClWr
import Derived.Test.YtohcdbifhnfcbaaGreatDoorKrSpec
import Derived.Test.YtohcdbifhnfcbaaGreatDoorNlElem
import Derived.Test.YtohcdbifhnfcbaaGreatDoorKdVer
import Derived.Test.YtohcdbifhnfcbaaGreatDoorKrBdy
import Derived.Test.YtohcdbifhnfcbaaGreatDoorKrGone
import Derived.Test.YtohcdbifhnfcbaaGreatDoorDrWrite
import Derived.Test.YtohcdbifhnfcbaaGreatDoorRows
import Derived.Deep.OwnRows
import Derived.Deep.AppendLies
import Derived.Deep.WholeRow
import Derived.Deep.RegionHeld3
import Derived.Deep.DeepCutAuto
import Derived.Deep.DeepFit
import Derived.BigQuiet
import Derived.Great.BuildSlice
import Derived.Laws.Rows
namespace Go.Proofs.YtohcdbifhnfcbaaGreatDoor
open Go.RowKit
set_option linter.unusedSimpArgs false
set_option maxRecDepth 100000
set_option maxHeartbeats 8000000
theorem r13_Text {v:Value} {B:List Int} {w:World} (hv:Bs w v B) (b:byt B) :
  Calls Tryz.prog 61 #[v] w fun e w'=>(∀ n,textP B=.ok n→e=.returned (.tuple #[.string (strOfNums n),.int .i64 0])∧w'=w)∧(∀ c,textP B=.error c→e=.returned (.tuple #[.string (strOfNums []),.int .i64 (c:Int)])∧w'=w):=by
 have cv:=conv_any hv
 have HB:Hid (byt B):=b
 obtain ⟨ao,cap,rfl,h1,h2,h3⟩:=hv
 obtain ⟨N,hN⟩:∃ N,B.length=N:=⟨_,rfl⟩
 have HN:Hid (B.length=N):=hN
 rw [hN] at h2 h3 cv ⊢
 have HC:Hid (∀ j,j < N→∃ g o,ao=some ⟨g,o,none⟩∧w.cell? ⟨g,o + j,none⟩=some (.int .u8 (B.getD j 0))∧g < w.heap.size):=fun j hj=>by
  obtain ⟨g,o,e1,e2,e3⟩:=h3 (by omega)
  exact ⟨g,o,e1,e3 j hj,e2⟩
 unfold maxLen at h1
 clear b h3 hN
 by_cases c0:64 < N
 ·have H:Hid (textP B=.error 2):=by show _=_;unfold textP;rw [if_pos (by rw [HN.out];exact c0)]
  have g0:(64:Int) < (N:Int):=by omega
  go_enter Tryz.func61,Tryz.ntmps61
  go_wp2_with fail
  refine bodyPost_ret (results_tmp2 rfl _ _ _) rfl ?_
  exact ⟨fun n h=>(by rw [H.out] at h;cases h),fun c h=>(by rw [H.out] at h;cases h;exact ⟨rfl,rfl⟩)⟩
 have g0:¬ (64:Int) < (N:Int):=by omega
 by_cases c1:N=0
 ·have H:Hid (textP B=.error 7):=by show _=_;unfold textP;rw [if_neg (by rw [HN.out];exact c0),if_pos (by rw [HN.out];exact c1)]
  have g1:(N:Int)=0:=by omega
  go_enter Tryz.func61,Tryz.ntmps61
  go_wp2_with fail
  refine bodyPost_ret (results_tmp2 rfl _ _ _) rfl ?_
  exact ⟨fun n h=>(by rw [H.out] at h;cases h),fun c h=>(by rw [H.out] at h;cases h;exact ⟨rfl,rfl⟩)⟩
 have g1:¬ (N:Int)=0:=by omega
 have H0:Hid (textP B=if ∃ j,j < N∧(B.getD j 0 < 32∨126 < B.getD j 0) then .error 7 else .ok B):=by show _=_;unfold textP;rw [HN.out,if_neg c0,if_neg c1]
 go_enter Tryz.func61,Tryz.ntmps61
 go_wp2_with fail
 go_loop [4] (fun iv=>∃ (i:Nat),i≤N∧iv=.int .i64 (i:Int)∧Hid (∀ j,j < i→¬ (B.getD j 0 < 32∨126 < B.getD j 0))) (fun iv=>N - (intOf iv).toNat)
 case atStart=>exact ⟨0,by omega,rfl,fun j h=>absurd h (by omega)⟩
 case round =>
  obtain ⟨i,hi,rfl,HE⟩:=hrel
  by_cases hil:i < N
  ·have k1:(i:Int) < (N:Int):=by omega
   have k2:(0:Int)≤(i:Int):=by omega
   have gi:IntKind.i64.wrap ((i:Int) + 1)=(i:Int) + 1:=by rw [IntKind.wrap_i64];omega
   obtain ⟨g,o,rfl,cy,lg⟩:=HC.out i hil
   have yb:=HB.out i
   obtain ⟨y,hy⟩:∃ y,B.getD i 0=y:=⟨_,rfl⟩
   have HY:Hid (B.getD i 0=y):=hy
   rw [hy] at cy yb
   clear hy
   by_cases d1:y < 32
   ·have H:Hid (textP B=.error 7):=by show _=_;rw [H0.out,if_pos ⟨i,hil,.inl (by rw [HY.out];exact d1)⟩]
    go_wp2_with fail
    refine bodyPost_ret (results_tmp2 rfl _ _ _) rfl ?_
    exact ⟨fun n h=>(by rw [H.out] at h;cases h),fun c h=>(by rw [H.out] at h;cases h;exact ⟨rfl,rfl⟩)⟩
   by_cases d2:126 < y
   ·have H:Hid (textP B=.error 7):=by show _=_;rw [H0.out,if_pos ⟨i,hil,.inr (by rw [HY.out];exact d2)⟩]
    go_wp2_with fail
    refine bodyPost_ret (results_tmp2 rfl _ _ _) rfl ?_
    exact ⟨fun n h=>(by rw [H.out] at h;cases h),fun c h=>(by rw [H.out] at h;cases h;exact ⟨rfl,rfl⟩)⟩
   have HE2:Hid (∀ j,j < i + 1→¬ (B.getD j 0 < 32∨126 < B.getD j 0)):=fun j hj=>by
    by_cases hji:j < i
    ·exact HE.out j hji
    ·obtain rfl:j=i:=by omega
     rw [HY.out];omega
   go_wp2_with fail
   go_round
   case rel=>exact ⟨i + 1,by omega,by go_num,HE2⟩
   case measure=>simp [intOf];omega
  ·have k1:¬ (i:Int) < (N:Int):=by omega
   have H:Hid (textP B=.ok B):=by
    show _=_
    rw [H0.out,if_neg (by rintro ⟨j,hj,h⟩;exact HE.out j (by omega) h)]
   go_wp2_with fail
   refine bodyPost_ret (results_tmp2 rfl _ _ _) rfl ?_
   exact ⟨fun n h=>(by rw [H.out] at h;cases h;exact ⟨rfl,rfl⟩),fun c h=>(by rw [H.out] at h;cases h)⟩
theorem r16_kind {k:Int} {w:World}:Calls Tryz.prog 62 #[.int .i64 k] w fun e w'=>e=.returned (.bool (kindN k))∧w'=w:=by
 have e3:(k == 3)=decide (k=3):=rfl
 have e6:(k == 6)=decide (k=6):=rfl
 have e10:(k == 10)=decide (k=10):=rfl
 have e11:(k == 11)=decide (k=11):=rfl
 have HK:Hid (kindN k=(decide (k=3) || decide (k=6) || decide (k=10) || decide (k=11))):=rfl
 generalize decide (k=3)=b3 at *
 generalize decide (k=6)=b6 at *
 generalize decide (k=10)=b10 at *
 generalize decide (k=11)=b11 at *
 go_enter Tryz.func62,Tryz.ntmps62
 cases b3
 ·cases b6
  ·cases b10
   ·go_wp2_with fail
    go_ret
    exact ⟨by rw [HK.out];rfl,rfl⟩
   ·go_wp2_with fail
    go_ret
    exact ⟨by rw [HK.out];rfl,rfl⟩
  ·go_wp2_with fail
   go_ret
   exact ⟨by rw [HK.out];rfl,rfl⟩
 ·go_wp2_with fail
  go_ret
  exact ⟨by rw [HK.out];rfl,rfl⟩
theorem all_drop {n:List Pn} {i:Nat} {p:Pn} (h:n[i]?=some p):(n.drop i).all partN=(partN p && (n.drop (i + 1)).all partN):=by
 have e:=List.getElem?_eq_some_iff.1 h
 rw [List.drop_eq_getElem_cons e.1,e.2,List.all_cons]
/-- does prim.Text take it? -/
def textB (B:List Int):Bool:=match textP B with|.ok _=>true|.error _=>false
theorem text_err {B:List Int} {c:Nat} (h:textP B=.error c):c=2∨c=7:=by
 unfold textP at h
 split at h
 ·cases h;exact .inl rfl
 ·split at h
  ·cases h;exact .inr rfl
  ·split at h
   ·cases h;exact .inr rfl
   ·cases h
theorem r16_May {v:Value} {n:List Pn} {w:World} (hn:NmAt w v n) (wn:WfN n) :
  Calls Tryz.prog 28 #[v] w fun e w'=>e=.returned (.bool (mayN n))∧Below w.heap.size w w':=by
 have HN:Hid (NmAt w v n):=hn
 obtain ⟨a1,c1,rfl,-,-,-⟩:=hn
 obtain ⟨L,hL⟩:∃ L,n.length=L:=⟨_,rfl⟩
 have HL:Hid (n.length=L):=hL
 rw [hL] at HN ⊢
 clear hL
 have hl1:Hid (L≤9223372036854775807):=by obtain ⟨_,c,e,h1,h2,_⟩:=HN.out;show _≤_;rw [HL.out] at h1;simp only [maxLen] at h2;omega
 have HM:Hid (mayN n=(decide (L≤8) && n.all partN)):=by show _=_;unfold mayN;rw [HL.out]
 go_enter Tryz.func28,Tryz.ntmps28
 go_wp2_with fail
 go_loopw [3] (fun iv wx=>∃ i:Nat,i≤L∧iv=.int .i64 (i:Int)∧Hid (n.all partN=(n.drop i).all partN)∧Below w.heap.size w wx) (fun iv _=>L - (intOf iv).toNat)
 case atStart=>exact ⟨0,by omega,rfl,rfl,Below.refl _ _⟩
 case round =>
  obtain ⟨i,hi,rfl,HT,bel⟩:=hrel
  by_cases hil:i < L
  ·have g1:(i:Int) < (L:Int):=by omega
   have g2:(0:Int)≤(i:Int):=by omega
   have gi:IntKind.i64.wrap ((i:Int) + 1)=(i:Int) + 1:=by have:=hl1.out;rw [IntKind.wrap_i64];omega
   obtain ⟨p,b1,o1,hp,e1,-,l1,x0,x1⟩:=(HN.out.later bel).at (i:=i) (by rw [HL.out];exact hil)
   subst e1
   have hw:=wn i p hp
   have HS:Hid _:=all_drop hp
   obtain ⟨k1,s1⟩:=p
   simp only at x0 x1 hw
   have HP:Hid (partN (k1,s1)=(kindN k1 && textB s1)):=rfl
   obtain ⟨cap,w2,hcv,hbs,hb⟩:=conv_text hw.2.1 hw.2.2 wr
   have HBs:Hid (Bs w2 (.slice (some ⟨wr.heap.size,0,none⟩) s1.length cap) s1):=hbs
   have y0:w2.cell? ⟨b1,o1 + i * 2,none⟩=some (.int .i64 k1):=(hb.cell (p:=⟨b1,o1 + i * 2,none⟩) l1).trans x0
   have l2:b1 < w2.heap.size:=Nat.lt_of_lt_of_le l1 hb.size
   have bel2:=below_step bel hb
   have hby:=hw.2.1
   clear hp hbs hb hw
   go_wp2_with fail
   refine (r13_Text HBs.out hby).mono ?_
   rintro e w3 ⟨hok,hbad⟩
   have HX:Hid (∃ (tv:ByteArray) (c:Int),e=.returned (.tuple #[.string tv,.int .i64 c])∧w3=w2∧(textB s1=true∧c=0∨textB s1=false∧¬ c=0)):=by
    cases ht:textP s1 with
    | ok m =>
     obtain ⟨rfl,rfl⟩:=hok m ht
     exact ⟨_,0,rfl,rfl,.inl ⟨by unfold textB;rw [ht],rfl⟩⟩
    | error c =>
     obtain ⟨rfl,rfl⟩:=hbad c ht
     exact ⟨_,_,rfl,rfl,.inr ⟨by unfold textB;rw [ht],by rcases text_err ht with rfl|rfl<;>decide⟩⟩
   obtain ⟨tv,c,rfl,hw3,hcase⟩:=HX.out
   rw [hw3]
   clear hok hbad HX hw3 hcv x0 x1
   go_wp2_with fail
   refine r16_kind.mono ?_
   rintro e w4 ⟨rfl,hw4⟩
   rw [hw4]
   clear hw4
   cases hk:kindN k1 with
   | false =>
    have H:Hid (mayN n=false):=by show _=_;rw [HM.out,HT.out,HS.out,HP.out,hk];simp
    clear hk
    go_wp2_with fail
    go_ret
    exact ⟨by rw [H.out];rfl,bel2⟩
   | true =>
    rcases hcase with ⟨ht,rfl⟩|⟨ht,hc⟩
    ·have HT2:Hid (n.all partN=(n.drop (i + 1)).all partN):=by show _=_;rw [HT.out,HS.out,HP.out,hk,ht];rfl
     clear hk ht
     go_wp2_with fail
     go_roundw
     case rel=>exact ⟨i + 1,by omega,by go_num,HT2,bel2⟩
     case measure=>simp [intOf];omega
    ·have H:Hid (mayN n=false):=by show _=_;rw [HM.out,HT.out,HS.out,HP.out,hk,ht];simp
     have g5:(c == 0)=false:=by rw [beq_eq_false_iff_ne];exact hc
     have g6:(c != 0)=true:=by rw [bne,g5];rfl
     clear hk ht hc
     go_wp2_with fail
     go_ret
     exact ⟨by rw [H.out];rfl,bel2⟩
  ·have g1:¬ (i:Int) < (L:Int):=by omega
   have H:Hid (mayN n=decide (L≤8)):=by show _=_;rw [HM.out,HT.out,List.drop_of_length_le (by rw [HL.out];omega)];simp
   by_cases h8:L≤8
   ·have g2:(L:Int)≤8:=by omega
    have H2:Hid (mayN n=true):=by show _=_;rw [H.out,decide_eq_true h8]
    clear h8
    go_wp2_with fail
    go_ret
    exact ⟨by rw [H2.out];rfl,bel⟩
   ·have g2:¬ (L:Int)≤8:=by omega
    have H2:Hid (mayN n=false):=by show _=_;rw [H.out,decide_eq_false h8]
    clear h8
    go_wp2_with fail
    go_ret
    exact ⟨by rw [H2.out];rfl,bel⟩
/-- what the document's Body tells -/
def BodyD8 (w:World) (c:Cr) (e:Ending) (w':World):Prop:=Below w.heap.size w w'∧(¬ MayR8 c→e=.returned (.tuple #[.slice none 0 0,.int .i64 1]))∧(MayR8 c→∃ v:Value,e=.returned (.tuple #[v,.int .i64 0])∧Bs w' v (bytesT (crBody c)))
theorem BodyD8.no {w w':World} {c:Cr} (h:¬ MayR8 c) (hb:Below w.heap.size w w'):BodyD8 w c (.returned (.tuple #[.slice none 0 0,.int .i64 1])) w':=⟨hb,fun _=>rfl,fun k=>absurd k h⟩
theorem BodyD8.yes {w w':World} {c:Cr} {v:Value} (h:MayR8 c) (hv:Bs w' v (bytesT (crBody c))) (hb:Below w.heap.size w w'):BodyD8 w c (.returned (.tuple #[v,.int .i64 0])) w':=⟨hb,fun k=>absurd h k,fun _=>⟨v,rfl,hv⟩⟩
theorem fill_25d {c0 c1 c2 c3 c4:List Value} (h0:c0.length=5) (h1:c1.length=5) (h2:c2.length=5) (h3:c3.length=5) (h4:c4.length=5):Instr.fill (fun i=>some (i * 5,5)) ((Array.range (5 * 5)).map ((Value.agg #[.int .i64 0,.int .i64 0,.bool false,.slice none 0 0,.slice none 0 0]).cells[· % (Value.agg #[.int .i64 0,.int .i64 0,.bool false,.slice none 0 0,.slice none 0 0]).cells.size]!)) [(0,.agg c0.toArray),(1,.agg c1.toArray),(2,.agg c2.toArray),(3,.agg c3.toArray),(4,.agg c4.toArray)]=some (c0++(c1++(c2++(c3++(c4++[]))))).toArray:=by
 obtain ⟨_,_,_,_,_,rfl⟩:=five h0
 obtain ⟨_,_,_,_,_,rfl⟩:=five h1
 obtain ⟨_,_,_,_,_,rfl⟩:=five h2
 obtain ⟨_,_,_,_,_,rfl⟩:=five h3
 obtain ⟨_,_,_,_,_,rfl⟩:=five h4
 kernel_rfl
/-- one that is revoked, as an element -/
noncomputable def gonD (g:Gn):Tl:=orT (goneO g)
theorem gonD_is {g:Gn} {a b:Tl} (h:serT g.1=some a) (k:timT g.2=some b):gonD g=listT [a,b]:=by unfold gonD;rw [goneO_yes h k];rfl
theorem r18_Body {c:Cr} {cs:List Value} {w:World} (h:CrAt w c cs) (wf:WfCr c):Calls Tryz.prog 13 #[.agg cs.toArray] w (BodyD8 w c):=by
 obtain ⟨wI,wF,wT,wG,-⟩:=wf
 have HWI:Hid (WfN c.issuer):=wI
 have HWG:Hid (WfG c.gone):=wG
 obtain ⟨iv,gv,bv,rs,zs,hl,q0,q1,q2,q3,q4,qk,hI,hG,-,-,-⟩:=h.open
 have HI:Hid (NmAt w iv c.issuer):=hI
 obtain ⟨ia,ic,hie,-,-,-⟩:=hI
 obtain ⟨ga,gc,hge,-,hgm,hgg⟩:=hG
 have HVc:Hid (0 < c.gone.length→∃ b o,ga=some ⟨b,o,none⟩∧b < w.heap.size∧∀ i g,c.gone[i]?=some g→∃ u,w.cell? ⟨b,o + i * 2,none⟩=some u∧Bs w u g.1∧w.cell? ⟨b,o + i * 2 + 1,none⟩=some (.int .i64 g.2)):=hgg
 obtain ⟨IL,hIL⟩:∃ z,c.issuer.length=z:=⟨_,rfl⟩
 obtain ⟨GL,hGL⟩:∃ z,c.gone.length=z:=⟨_,rfl⟩
 have HGL:Hid (c.gone.length=GL):=hGL
 rw [hIL] at hie
 rw [hGL] at hge HVc
 subst hie hge
 obtain ⟨fr,hfr⟩:∃ z,c.frm=z:=⟨_,rfl⟩
 obtain ⟨ti,hti⟩:∃ z,c.til=z:=⟨_,rfl⟩
 have Hfr:Hid (c.frm=fr):=hfr
 have Hti:Hid (c.til=ti):=hti
 rw [hfr] at q1
 rw [hti] at q2
 have HQ0:Hid _:=q0
 have HQ1:Hid _:=q1
 have HQ2:Hid _:=q2
 have HQ3:Hid _:=q3
 clear hIL hGL hfr hti q0 q1 q2 q3 q4 qk hgm hgg wI wG hl h
 have B0:=Blk.new w cs 33 w.heap.size rfl
 have bel:=bal w (.cells cs.toArray 33)
 go_enter Tryz.func13,Tryz.ntmps13
 go_upto_region 1 with fail
 generalize w.alloc (.cells cs.toArray 33)=W at *
 have lW:=bel.size
 have lB:=B0.lt
 obtain ⟨N0,hN0⟩:∃ n,n=W.heap.size:=⟨_,rfl⟩
 rw [← hN0] at lW lB
 have hs:N0≤W.heap.size:=by omega
 obtain ⟨jt,hjt,ht0,ht1,ht2⟩:=info_partsD info_tlv

 have eq:=B0.cell 1 _ HQ1.out
 have l0:=B0.lt
 go_wp2_with fail
 refine (k18_Time Hfr.out wF).mono ?_
 rintro e w1a ⟨es1,b1,rfl,hl5,ho5,hyes,hno,hb⟩
 clear eq l0
 replace B0:=B0.later hb
 have HL1:Hid (es1.length=5):=hl5
 have HO1:Hid (OneC es1):=ho5
 have HT1:Hid (b1=true→∃ T,timT c.frm=some T∧Dep (fun g=>N0≤g) w1a T es1):=fun h9=>by obtain ⟨T,h1,h2⟩:=hyes h9;exact ⟨T,h1,h2.next (Agr.refl _ _) (fun _ h _=>Nat.le_trans hs h)⟩
 have HN1:Hid (b1=false→timT c.frm=none):=hno
 replace bel:=below_step bel hb
 replace hs:=hsl hs hb
 clear hl5 ho5 hyes hno hb
 have HS5:Hid (es1.toArray.size=5):=by show _=_;rw [List.size_toArray];exact HL1.out
 have hz:=zero_tlv.out
 have hbx:=bal w1a (.cells es1.toArray 53)
 replace B0:=B0.later hbx
 replace HT1:Hid (b1=true→∃ T,timT c.frm=some T∧Dep (fun g=>N0≤g) (w1a.alloc (.cells es1.toArray 53)) T es1):=fun h9=>by obtain ⟨T,h1,h2⟩:=HT1.out h9;exact ⟨T,h1,h2.next (Agr.below hbx) (fun _ h _=>h)⟩
 replace hs:=hsl hs hbx
 replace bel:=below_step bel hbx
 have Q1:=Blk.new w1a es1 53 w1a.heap.size rfl
 go_upto_region 2 with (first|((with_reducible show wpList _ _ _ ({ dst:=_,op:=.store _ _ _,type:=_,pos:=_,after:=_,guard:=_ } :: _) _ _);refine wpList_store_row rfl 53 _ _ rfl w1a.heap.size es1.toArray rfl rfl 53 _ (heap_alloc_last _ _) (by rw [size_tlv,HS5.out]) (by rw [HS5.out];rfl) HO1.out ?_;rw [World.setRow_alloc_new])|fail)
 clear hz HS5 hbx
 obtain ⟨g1,hg1⟩:∃ g,g=w1a.heap.size:=⟨_,rfl⟩
 rw [← hg1] at Q1 ⊢
 generalize (w1a.alloc (.cells es1.toArray 53))=V1 at *
 clear hg1

 have eq:=B0.cell 2 _ HQ2.out
 have l0:=B0.lt
 go_wp2_with fail
 refine (k18_Time Hti.out wT).mono ?_
 rintro e w2a ⟨es2,b2,rfl,hl5,ho5,hyes,hno,hb⟩
 clear eq l0
 replace B0:=B0.later hb
 replace Q1:=Q1.later hb
 replace HT1:Hid (b1=true→∃ T,timT c.frm=some T∧Dep (fun g=>N0≤g) w2a T es1):=fun h9=>by obtain ⟨T,h1,h2⟩:=HT1.out h9;exact ⟨T,h1,h2.next (Agr.below hb) (fun _ h _=>h)⟩
 have HL2:Hid (es2.length=5):=hl5
 have HO2:Hid (OneC es2):=ho5
 have HT2:Hid (b2=true→∃ T,timT c.til=some T∧Dep (fun g=>N0≤g) w2a T es2):=fun h9=>by obtain ⟨T,h1,h2⟩:=hyes h9;exact ⟨T,h1,h2.next (Agr.refl _ _) (fun _ h _=>Nat.le_trans hs h)⟩
 have HN2:Hid (b2=false→timT c.til=none):=hno
 replace bel:=below_step bel hb
 replace hs:=hsl hs hb
 clear hl5 ho5 hyes hno hb
 have HS5:Hid (es2.toArray.size=5):=by show _=_;rw [List.size_toArray];exact HL2.out
 have hz:=zero_tlv.out
 have hbx:=bal w2a (.cells es2.toArray 53)
 replace B0:=B0.later hbx
 replace Q1:=Q1.later hbx
 replace HT1:Hid (b1=true→∃ T,timT c.frm=some T∧Dep (fun g=>N0≤g) (w2a.alloc (.cells es2.toArray 53)) T es1):=fun h9=>by obtain ⟨T,h1,h2⟩:=HT1.out h9;exact ⟨T,h1,h2.next (Agr.below hbx) (fun _ h _=>h)⟩
 replace HT2:Hid (b2=true→∃ T,timT c.til=some T∧Dep (fun g=>N0≤g) (w2a.alloc (.cells es2.toArray 53)) T es2):=fun h9=>by obtain ⟨T,h1,h2⟩:=HT2.out h9;exact ⟨T,h1,h2.next (Agr.below hbx) (fun _ h _=>h)⟩
 replace hs:=hsl hs hbx
 replace bel:=below_step bel hbx
 have Q2:=Blk.new w2a es2 53 w2a.heap.size rfl
 go_upto_region 3 with (first|((with_reducible show wpList _ _ _ ({ dst:=_,op:=.store _ _ _,type:=_,pos:=_,after:=_,guard:=_ } :: _) _ _);refine wpList_store_row rfl 53 _ _ rfl w2a.heap.size es2.toArray rfl rfl 53 _ (heap_alloc_last _ _) (by rw [size_tlv,HS5.out]) (by rw [HS5.out];rfl) HO2.out ?_;rw [World.setRow_alloc_new])|fail)
 clear hz HS5 hbx
 obtain ⟨g2,hg2⟩:∃ g,g=w2a.heap.size:=⟨_,rfl⟩
 rw [← hg2] at Q2 ⊢
 generalize (w2a.alloc (.cells es2.toArray 53))=V2 at *
 clear hg2

 have e0:=B0.cell 0 _ HQ0.out
 have l0:=B0.lt
 go_wp2_with fail
 refine (r16_May (HI.out.later bel) HWI.out).mono ?_
 rintro e w3 ⟨rfl,hb⟩
 clear e0 l0
 replace B0:=B0.later hb
 replace Q1:=Q1.later hb
 replace Q2:=Q2.later hb
 replace HT1:Hid (b1=true→∃ T,timT c.frm=some T∧Dep (fun g=>N0≤g) w3 T es1):=fun h9=>by obtain ⟨T,h1,h2⟩:=HT1.out h9;exact ⟨T,h1,h2.next (Agr.below hb) (fun _ h _=>h)⟩
 replace HT2:Hid (b2=true→∃ T,timT c.til=some T∧Dep (fun g=>N0≤g) w3 T es2):=fun h9=>by obtain ⟨T,h1,h2⟩:=HT2.out h9;exact ⟨T,h1,h2.next (Agr.below hb) (fun _ h _=>h)⟩
 replace bel:=below_step bel hb
 replace hs:=hsl hs hb
 clear hb
 obtain ⟨bm,hbm⟩:∃ z,mayN c.issuer=z:=⟨_,rfl⟩
 have HM:Hid (mayN c.issuer=bm):=hbm
 rw [hbm]
 clear hbm
 go_upto_region 4 with fail
 have e3:=B0.cell 3 _ HQ3.out
 have l0:=B0.lt
 cases b1 with
 | false =>
  have H:Hid (¬ MayR8 c):=fun h=>by obtain ⟨T,hT⟩:=h.2.1;rw [HN1.out rfl] at hT;cases hT
  go_wp2_with fail
  refine bodyPost_ret (results_tmp2 rfl _ _ _) rfl ?_
  exact BodyD8.no H.out bel
 | true =>
 cases b2 with
 | false =>
  have H:Hid (¬ MayR8 c):=fun h=>by obtain ⟨T,hT⟩:=h.2.2.1;rw [HN2.out rfl] at hT;cases hT
  go_wp2_with fail
  refine bodyPost_ret (results_tmp2 rfl _ _ _) rfl ?_
  exact BodyD8.no H.out bel
 | true =>
 cases bm with
 | false =>
  have H:Hid (¬ MayR8 c):=fun h=>by have:=h.1;rw [HM.out] at this;cases this
  go_wp2_with fail
  refine bodyPost_ret (results_tmp2 rfl _ _ _) rfl ?_
  exact BodyD8.no H.out bel
 | true =>
 by_cases k64:64 < GL
 ·have g64:(64:Int) < (GL:Int):=by omega
  have H:Hid (¬ MayR8 c):=fun h=>by have:=h.2.2.2.1;rw [HGL.out] at this;omega
  clear k64
  go_wp2_with fail
  refine bodyPost_ret (results_tmp2 rfl _ _ _) rfl ?_
  exact BodyD8.no H.out bel
 have g64:¬ (64:Int) < (GL:Int):=by omega
 have HK64:Hid (GL≤64):=by show _≤_;omega
 clear k64
 obtain ⟨T1,hT1,hd1⟩:=HT1.out rfl
 obtain ⟨T2,hT2,hd2⟩:=HT2.out rfl
 have HX1:Hid (timT c.frm=some T1):=hT1
 have HX2:Hid (timT c.til=some T2):=hT2
 have HD1:Hid (Dep (fun g=>N0≤g) w3 T1 es1):=hd1
 have HD2:Hid (Dep (fun g=>N0≤g) w3 T2 es2):=hd2
 clear HT1 HT2 HN1 HN2 hT1 hT2 hd1 hd2
 go_upto_region 6 with fail
 clear g64 e3 l0
 have HBB:Hid (Blk w3 w.heap.size cs):=B0
 have HBel:Hid (Below w.heap.size w w3):=bel
 obtain ⟨S1,hS1,KB1,KI1,KD1,KL1,KA1⟩:∃ S:World→Prop,Hd S w3∧Hid (∀ wx,Hd S wx→Below w3.heap.size w3 wx)∧Hid (∀ wx,Below w3.heap.size w3 wx→Hd S wx)∧Hid (∀ wx,Hd S wx→Hd S wx.drew)∧Hid (∀ w1 w2,Hd S w1→Below w1.heap.size w1 w2→Hd S w2)∧Hid (∀ w1 o,Hd S w1→Hd S (w1.alloc o)):=⟨fun wx=>Below w3.heap.size w3 wx,Below.refl _ _,fun _ h=>h,fun _ h=>h,fun wx h=>Below.drew h,fun w1 w2 h hb=>below_step h hb,fun w1 o h=>Below.alloc h h.size o⟩
 have R1:Hid (∀ wx,Hd S1 wx→(loadVar 53 ⟨g1,0,none⟩).run Tryz.prog wx=.ok (.agg es1.toArray) wx):=fun wx h=>(Q1.later (KB1.out wx h)).load Tryz.underlying53 rfl size_tlv HL1.out
 have R2:Hid (∀ wx,Hd S1 wx→(loadVar 53 ⟨g2,0,none⟩).run Tryz.prog wx=.ok (.agg es2.toArray) wx):=fun wx h=>(Q2.later (KB1.out wx h)).load Tryz.underlying53 rfl size_tlv HL2.out
 have ra:∀ wx,Hd S1 wx→wx.cell? ⟨w.heap.size,0,none⟩=some (.slice ia IL ic):=fun wx h=>(HBB.out.later (KB1.out wx h)).cell 0 _ HQ0.out
 have rl:∀ wx,Hd S1 wx→w.heap.size < wx.heap.size:=fun wx h=>(HBB.out.later (KB1.out wx h)).lt
 have hszj:N0≤w3.heap.size:=hs
 clear B0 bel hs Q1 Q2
 refine wp_region_noPanic ?_
 refine wp_region_held_drew (S:=Hd S1) (by kernel_rfl) (KD1.out _ hS1) (fun hHeld=>?_)
 clear hS1
 generalize World.drew _=wd1 at *
 refine wpAnyH_take (i:=2) (v:=?_) rfl (by kernel_rfl) (by kernel_rfl) (by kernel_rfl) (fun _ _ _ h=>h) (Or.inl ⟨by rfl,?_⟩) (by assumption) ?_
 rotate_left
 ·intro w hSw
  go_simp
  with_reducible rfl
 refine wpAnyH_take (i:=3) (v:=?_) rfl (by kernel_rfl) (by kernel_rfl) (by kernel_rfl) (fun _ _ _ h=>h) (Or.inl ⟨by rfl,?_⟩) (by assumption) ?_
 rotate_left
 ·intro w hSw
  go_simp
  with_reducible rfl
 refine wpAnyH_take (i:=5) (v:=.agg es1.toArray) rfl (by kernel_rfl) (by kernel_rfl) (by kernel_rfl) (fun _ _ _ h=>h) (Or.inl ⟨by rfl,fun wx h=>exec_load rfl rfl (R1.out wx h)⟩) (by assumption) ?_
 refine wpAnyH_take (i:=6) (v:=.agg es2.toArray) rfl (by kernel_rfl) (by kernel_rfl) (by kernel_rfl) (fun _ _ _ h=>h) (Or.inl ⟨by rfl,fun wx h=>exec_load rfl rfl (R2.out wx h)⟩) (by assumption) ?_
 refine wpAnyH_ready (rs:=[0]) (by kernel_rfl) (by simp) ?_
 refine AllReadyH.cons rfl (fun K hK=>?_) ?_
 ·have HB0:Hid (Below w3.heap.size w3 wd1):=KB1.out _ hHeld
  go_simp
  refine r18_version.mono ?_
  rintro e z0 ⟨dv,rfl,hd,hb⟩
  refine hK.out _ _ ?_ (fun hHeld2=>?_)
  ·exact KL1.out _ _ hHeld hb
  ·clear hK K
   try clear hHeld
   have hHeld:=hHeld2
   clear hHeld2
   have hDv:Dep (fun g=>N0≤g) z0 (intT 1) dv:=hd.next (Agr.refl _ _) (fun b h _=>by have:=HB0.out.size;omega)
   clear hb hd HB0
   refine wpAnyH_ready (rs:=[1]) (by kernel_rfl) (by simp) ?_
   refine AllReadyH.cons rfl (fun K hK=>?_) ?_
   ·have HB0:Hid (Below w3.heap.size w3 z0):=KB1.out _ hHeld
    go_simp
    refine r16_Algorithm.mono ?_
    rintro e z1 ⟨da,rfl,hd,hb⟩
    refine hK.out _ _ ?_ (fun hHeld2=>?_)
    ·exact KL1.out _ _ hHeld hb
    ·clear hK K
     try clear hHeld
     have hHeld:=hHeld2
     clear hHeld2
     have hDa:Dep (fun g=>N0≤g) z1 (algT) da:=hd.next (Agr.refl _ _) (fun b h _=>by have:=HB0.out.size;omega)
     replace hDv:=dpm hDv hb
     clear hb hd HB0
     refine wpAnyH_ready (rs:=[4]) (by kernel_rfl) (by simp) ?_
     refine AllReadyH.cons rfl (fun K hK=>?_) ?_
     ·have HB0:Hid (Below w3.heap.size w3 z1):=KB1.out _ hHeld
      go_simp
      refine (k18_Element (HI.out.later (below_step HBel.out HB0.out)) HWI.out HM.out).mono ?_
      rintro e z4 ⟨de,rfl,hd,hb⟩
      refine hK.out _ _ ?_ (fun hHeld2=>?_)
      ·exact KL1.out _ _ hHeld hb
      ·clear hK K
       try clear hHeld
       have hHeld:=hHeld2
       clear hHeld2
       have hDe:Dep (fun g=>N0≤g) z4 (elemN c.issuer) de:=hd.next (Agr.refl _ _) (fun b h _=>by have:=HB0.out.size;omega)
       replace hDv:=dpm hDv hb
       replace hDa:=dpm hDa hb
       clear hb hd HB0
       refine wpAnyH_ready (rs:=[7]) (by kernel_rfl) (by simp) ?_
       refine AllReadyH.cons rfl (fun K hK=>?_) ?_
       ·have HB0:Hid (Below w3.heap.size w3 z4):=KB1.out _ hHeld
        have hdv5:dv.length=5:=hDv.now.five
        have hda5:da.length=5:=hDa.now.five
        have hde5:de.length=5:=hDe.now.five
        rw [if_pos (by rfl)]
        refine wp_buildSlice 51 53 5 _ rfl (dv++(da++(de++(es1++(es2++[]))))).toArray jt _ Tryz.underlying51 hjt ht0 (by rw [ht1];decide) (by rw [ht1];decide) (by rw [ht1];refine (congrArg _ (?_:_=[(0,Value.agg dv.toArray),(1,.agg da.toArray),(2,.agg de.toArray),(3,.agg es1.toArray),(4,.agg es2.toArray)])).trans (fill_25d hdv5 hda5 hde5 HL1.out HL2.out);kernel_rfl) ?_
        refine hK.out _ _ ?_ (fun hHeld2=>?_)
        ·exact KA1.out _ _ hHeld
        ·clear hK K
         try clear hHeld
         have hHeld:=hHeld2
         clear hHeld2
         have hD9:RwS (fun g=>N0≤g) (z4.alloc (.cells (dv++(da++(de++(es1++(es2++[]))))).toArray 53)) (Value.slice (some ⟨z4.heap.size,0,none⟩) 5 5) [intT 1,algT,elemN c.issuer,T1,T2]:=RwS.lits (ks:=[intT 1,algT,elemN c.issuer,T1,T2]) (by simp [hdv5,hda5,hde5,HL1.out,HL2.out]) (by show 5≤maxLen;decide) (kc_c hDv hdv5 (kc_c hDa hda5 (kc_c hDe hde5 (kc_c (HD1.out.next (Agr.below HB0.out) (fun _ h _=>h)) HL1.out (kc_c (HD2.out.next (Agr.below HB0.out) (fun _ h _=>h)) HL2.out kc_n)))))
         have lg9:N0≤z4.heap.size:=Nat.le_trans hszj HB0.out.size
         obtain ⟨g9,hg9⟩:∃ g,g=z4.heap.size:=⟨_,rfl⟩
         rw [← hg9] at hD9 lg9 ⊢
         clear hg9 HB0 hDv hDa hDe
         generalize (z4.alloc (.cells (dv++(da++(de++(es1++(es2++[]))))).toArray 53))=z7 at *
         refine wpAnyH_ready (rs:=[8]) (by kernel_rfl) (by simp) ?_
         refine AllReadyH.cons rfl (fun K hK=>?_) ?_
         ·go_simp
          refine hK.out _ _ ?_ (fun hHeld2=>?_)
          ·exact hHeld
          ·clear hK K
           try clear hHeld
           have hHeld:=hHeld2
           clear hHeld2
           refine wpAnyH_done (by kernel_rfl) ?_ _
           refine NoPanic.normal ?_
           have st:=KB1.out _ hHeld
           have B0:=HBB.out.later st
           have bel:=below_step HBel.out st
           have hs:N0≤z7.heap.size:=Nat.le_trans hszj st.size
           clear st hHeld ra rl R1 R2
           have l9:=hD9.lt (b:=g9) rfl
           obtain ⟨N1,hN1⟩:∃ n,n=z7.heap.size:=⟨_,rfl⟩
           have HD9:Hid (RwS (fun b=>N0≤b∧b < N1) z7 (Value.slice (some ⟨g9,0,none⟩) 5 5) [intT 1,algT,elemN c.issuer,T1,T2]):=hD9.mono (fun b h hl=>⟨h,by omega⟩)
           have lg9:g9 < N1:=by omega
           have hs1:N1≤z7.heap.size:=by omega
           have h01:N0≤N1:=by omega
           clear hN1 hD9 l9 hs
           go_wp2_with fail
           go_loopw [10,11] (fun gvv iv wx=>∃ (i:Nat) (ka:Option Addr) (kc:Nat),i≤GL∧gvv=.slice ka i kc∧iv=.int .i64 (i:Int)∧Hid (RwT wx N1 (.slice ka i kc) ((c.gone.take i).map gonD))∧Hid (∀ g∈c.gone.take i,∃ T,goneO g=some T)∧Hid (RwS (fun b=>N0≤b∧b < N1) wx (Value.slice (some ⟨g9,0,none⟩) 5 5) [intT 1,algT,elemN c.issuer,T1,T2])∧Blk wx w.heap.size cs∧Below w.heap.size w wx∧N1≤wx.heap.size) (fun _ iv _=>GL - (intOf iv).toNat)
           case atStart=>exact ⟨0,none,0,by omega,rfl,rfl,by rw [List.take_zero,List.map_nil];exact RwT.nil0 _ _,fun l hl=>by simp at hl,HD9,B0,bel,hs1⟩
           case round =>
            clear HD9 B0 bel hs1
            obtain ⟨i,ka,kc,hi,rfl,rfl,HR,HA,HD9,B0,bel,hs1⟩:=hrel
            have h8:=HK64.out
            have HLi:Hid (((c.gone.take i).map gonD).length=i):=by show _=_;rw [List.length_map,List.length_take,HGL.out];omega
            have e3:=B0.cell 3 _ HQ3.out
            have l0:=B0.lt
            by_cases hil:i < GL
            rotate_left
            ·obtain rfl:i=GL:=by omega
             have g1:¬ (i:Int) < (i:Int):=by omega
             have H:Hid (MayR8 c):=⟨HM.out,⟨T1,HX1.out⟩,⟨T2,HX2.out⟩,by rw [HGL.out];exact h8,by have h:=HA.out;rw [List.take_of_length_le (by rw [HGL.out];omega)] at h;exact h⟩
             by_cases k0:i=0
             ·have HDl:Hid (Dep (fun b=>N0≤b) wr (listT [intT 1,algT,elemN c.issuer,T1,T2]) [.int .i64 0,.int .i64 16,.bool true,.slice none 0 0,.slice (some ⟨g9,0,none⟩) 5 5]):=HD9.out.dep 0 16 true (fun b h=>h.1) (fun g hg=>by simp only [Value.ownBlock,Option.some.injEq] at hg;omega)
              have d0:¬ (0:Int) < (i:Int):=by omega
              clear g1 HD9 HR HA
              go_wp2_with fail
              clear e3 l0
              refine r16_List.mono ?_
              rintro e wl ⟨rfl,hb⟩
              have HTl:Hid (TlAt wl (listT [intT 1,algT,elemN c.issuer,T1,T2]) [.int .i64 0,.int .i64 16,.bool true,.slice none 0 0,.slice (some ⟨g9,0,none⟩) 5 5]):=(HDl.out.next (S':=(fun b=>N0≤b)) (Agr.below hb) (fun _ h _=>h)).now
              replace bel:=below_step bel hb
              clear hb
              have HEq:Hid (crBody c=listT [intT 1,algT,elemN c.issuer,T1,T2]):=by show _=_;unfold crBody goneL;rw [if_neg (by rw [HGL.out];omega),HX1.out,HX2.out];rfl
              have HZ:Hid (Sm 6000 (crBody c)):=sm_crBody H.out
              have HW0:Hid (wrN (crBody c)=0):=wr_crBody H.out
              rw [HEq.out] at HZ HW0
              go_wp2_with fail
              refine (r12_Write (by have:=HZ.out.2;omega) (fun _=>by have:=HZ.out.1;omega) HTl.out).mono ?_
              rintro e wz ⟨v9,rfl,hw,-,hb⟩
              have own9:=hw HW0.out
              have HBz:Hid (Bs wz v9 (bytesT (crBody c))):=by rw [HEq.out];exact Bs.of_own own9
              replace bel:=below_step bel hb
              rw [HW0.out]
              clear hb hw own9 HTl HZ
              obtain ⟨va,vc,hve,-,-,-⟩:=id HBz.out
              obtain ⟨VL,hVL⟩:∃ z,(bytesT (crBody c)).length=z:=⟨_,rfl⟩
              rw [hVL] at hve
              subst hve
              clear hVL
              go_wp2_with fail
              refine bodyPost_ret (results_tmp2 rfl _ _ _) rfl ?_
              exact BodyD8.yes H.out HBz.out bel
             have d0:(0:Int) < (i:Int):=by omega
             have HKi:Hid (¬ i=0):=k0
             clear k0
             have HDg:Hid (Dep (fun b=>N1≤b) wr (listT (c.gone.map gonD)) [.int .i64 0,.int .i64 16,.bool true,.slice none 0 0,.slice ka i kc]):=by
              have h:=HR.out.dep 0 16 true
              rw [List.take_of_length_le (by rw [HGL.out];omega)] at h
              exact h
             clear g1 HA
             go_wp2_with fail
             clear e3 l0
             refine k16_ListL.mono ?_
             rintro e w5 ⟨cs5,rfl,hc5,hb⟩
             have HD5:Hid (Dep (fun b=>N1≤b) w5 (listT (c.gone.map gonD)) cs5):=by rw [hc5.out];exact HDg.out.next (Agr.below hb) (fun _ h _=>h)
             have HL5:Hid (cs5.length=5):=by rw [hc5.out];rfl
             have HO5:Hid (OneC cs5):=HD5.out.now.ones
             replace HD9:Hid (RwS (fun b=>N0≤b∧b < N1) w5 (Value.slice (some ⟨g9,0,none⟩) 5 5) [intT 1,algT,elemN c.issuer,T1,T2]):=HD9.out.later hb
             replace bel:=below_step bel hb
             replace hs1:=hsl hs1 hb
             clear hb hc5 HDg HR B0
             have HF5:Hid _:=fill_5 HL5.out
             have hz:=zero_tlv.out
             have hbx:=bal w5 (.cells cs5.toArray 53)
             have B5:=Blk.new w5 cs5 53 w5.heap.size rfl
             replace HD5:=dpl HD5 hbx
             have HD9x:Hid (RwS (fun b=>N0≤b) (w5.alloc (.cells cs5.toArray 53)) (Value.slice (some ⟨g9,0,none⟩) 5 5) [intT 1,algT,elemN c.issuer,T1,T2]):=(HD9.out.later hbx).mono (fun b h _=>h.1)
             replace bel:=below_step bel hbx
             replace hs1:=hsl hs1 hbx
             clear hbx HD9
             go_wp2_with (first|((with_reducible show wpList _ _ _ ({ dst:=_,op:=.buildSlice _ _ _,type:=_,pos:=_,after:=_,guard:=_ } :: _) _ _);refine Go.wpList_buildSlice rfl 51 53 1 _ rfl cs5.toArray jt _ Tryz.underlying51 hjt ht0 (by rw [ht1];decide) (by rw [ht1];decide) (by rw [ht1];refine (congrArg _ (?_:_=[(0,Value.agg cs5.toArray)])).trans HF5.out;kernel_rfl) ?_)|(at_builtin;refine wpList_append_rws (by rfl) _ _ (by rfl) (fun b=>N0≤b) (Value.slice (some ⟨g9,0,none⟩) 5 5) [intT 1,algT,elemN c.issuer,T1,T2] (by rfl) HD9x.out w5.heap.size (by rfl) cs5 B5 HL5.out HO5.out (listT (c.gone.map gonD)) (HD5.out.next (Agr.refl _ _) (fun b h9 _=>⟨by show N0≤b;omega,fun e9=>by simp only [Value.ownBlock,Option.some.injEq] at e9;omega⟩)) (by show 5≤1000000;omega) ?_;intro kv9 w9 hr9 hgrow9 hat9;obtain ⟨ka9,kc9,hkv9⟩:=hr9.sl;replace hkv9:kv9=Value.slice ka9 6 kc9:=hkv9;subst hkv9)|fail)
             have hzb:=bel.size
             replace bel:=Below.grown bel hgrow9 hzb (fun k hk=>by simp only [Value.ownBlock,Option.some.injEq] at hk;omega)
             have HDl:Hid (Dep (fun b=>N0≤b) w9 (listT ([intT 1,algT,elemN c.issuer,T1,T2]++[listT (c.gone.map gonD)])) [.int .i64 0,.int .i64 16,.bool true,.slice none 0 0,.slice ka9 6 kc9]):=hr9.dep 0 16 true (fun b h=>h) (fun g hg=>by
              rcases hat9 with h|h
              ·rw [h] at hg
               simp only [Value.ownBlock,Option.some.injEq] at hg
               omega
              ·rw [h] at hg
               simp only [Option.some.injEq] at hg
               omega)
             clear hgrow9 hat9 hr9 HD5 HD9x B5 HF5 hz hzb
             go_wp2_with fail
             refine r16_List.mono ?_
             rintro e wl ⟨rfl,hb⟩
             have HTl:Hid (TlAt wl (listT ([intT 1,algT,elemN c.issuer,T1,T2]++[listT (c.gone.map gonD)])) [.int .i64 0,.int .i64 16,.bool true,.slice none 0 0,.slice ka9 6 kc9]):=(HDl.out.next (S':=(fun b=>N0≤b)) (Agr.below hb) (fun _ h _=>h)).now
             replace bel:=below_step bel hb
             clear hb
             have HEq:Hid (crBody c=listT ([intT 1,algT,elemN c.issuer,T1,T2]++[listT (c.gone.map gonD)])):=by show _=_;unfold crBody goneL;rw [if_pos (by rw [HGL.out];omega),HX1.out,HX2.out];rfl
             have HZ:Hid (Sm 6000 (crBody c)):=sm_crBody H.out
             have HW0:Hid (wrN (crBody c)=0):=wr_crBody H.out
             rw [HEq.out] at HZ HW0
             go_wp2_with fail
             refine (r12_Write (by have:=HZ.out.2;omega) (fun _=>by have:=HZ.out.1;omega) HTl.out).mono ?_
             rintro e wz ⟨v9,rfl,hw,-,hb⟩
             have own9:=hw HW0.out
             have HBz:Hid (Bs wz v9 (bytesT (crBody c))):=by rw [HEq.out];exact Bs.of_own own9
             replace bel:=below_step bel hb
             rw [HW0.out]
             clear hb hw own9 HTl HZ
             obtain ⟨va,vc,hve,-,-,-⟩:=id HBz.out
             obtain ⟨VL,hVL⟩:∃ z,(bytesT (crBody c)).length=z:=⟨_,rfl⟩
             rw [hVL] at hve
             subst hve
             clear hVL
             go_wp2_with fail
             refine bodyPost_ret (results_tmp2 rfl _ _ _) rfl ?_
             exact BodyD8.yes H.out HBz.out bel
            obtain ⟨x,hx⟩:∃ x,c.gone[i]?=some x:=⟨_,List.getElem?_eq_getElem (by rw [HGL.out];exact hil)⟩
            obtain ⟨ub,uo,hua,ult,ucl⟩:=HVc.out (by omega)
            subst hua
            have HX:Hid (c.gone[i]?=some x):=hx
            have HXw:Hid _:=HWG.out x (List.mem_of_getElem? hx)
            obtain ⟨y,c0,c1,c2⟩:=ucl i x hx
            have HUs:Hid (Bs w y x.1):=c1
            have HC0:Hid (w.cell? ⟨ub,uo + i * 2,none⟩=some y):=c0
            have HC2:Hid (w.cell? ⟨ub,uo + i * 2 + 1,none⟩=some (.int .i64 x.2)):=c2
            obtain ⟨ns,ta⟩:=x
            simp only at HUs HXw HC2
            obtain ⟨ya,yc,hye,-,-,-⟩:=id HUs.out
            obtain ⟨YL,hYL⟩:∃ z,ns.length=z:=⟨_,rfl⟩
            rw [hYL] at hye
            subst hye
            have HUlt:Hid (ub < w.heap.size):=ult
            clear hx ucl hYL c0 c1 c2 ult
            have x0:=cell_later HC0.out bel
            have ly:ub < wr.heap.size:=Nat.lt_of_lt_of_le HUlt.out bel.size
            have g1:(i:Int) < (GL:Int):=by omega
            have g2:(0:Int)≤(i:Int):=by omega
            have gi:IntKind.i64.wrap ((i:Int) + 1)=(i:Int) + 1:=by rw [IntKind.wrap_i64];omega
            obtain ⟨M,hM⟩:∃ n,n=wr.heap.size:=⟨_,rfl⟩
            have HM9:Hid (∀ b,(Value.slice ka i kc).ownBlock=some b→N1≤b∧b < M):=fun b h9=>by rw [hM];exact HR.out.ltE h9
            have hNM:N1≤M:=by omega
            have HMr:Hid (M≤wr.heap.size):=by show _≤_;omega
            clear hM
            go_wp2_with fail
            refine (k18_Serial (HUs.out.later bel) HXw.out.1).mono ?_
            rintro e w2 ⟨es,bs,rfl,hl5,ho5,hyes,hno,hb⟩
            clear x0 ly e3 l0
            replace B0:=B0.later hb
            replace HR:=RwTL HR hb
            replace HD9:Hid (RwS (fun b=>N0≤b∧b < N1) w2 (Value.slice (some ⟨g9,0,none⟩) 5 5) [intT 1,algT,elemN c.issuer,T1,T2]):=HD9.out.later hb
            replace bel:=below_step bel hb
            have hs2:M≤w2.heap.size:=Nat.le_trans HMr.out hb.size
            have HLe:Hid (es.length=5):=hl5
            have HOe:Hid (OneC es):=ho5
            have HTe:Hid (bs=true→∃ T,serT ns=some T∧Dep (fun b=>M≤b) w2 T es):=fun h9=>by obtain ⟨T,h1,h2⟩:=hyes h9;exact ⟨T,h1,h2.next (Agr.refl _ _) (fun _ h _=>Nat.le_trans HMr.out h)⟩
            have HNe:Hid (bs=false→serT ns=none):=hno
            clear hl5 ho5 hyes hno hb
            have HS5:Hid (es.toArray.size=5):=by show _=_;rw [List.size_toArray];exact HLe.out
            have hz:=zero_tlv.out
            have hbx:=bal w2 (.cells es.toArray 53)
            replace B0:=B0.later hbx
            replace HR:=RwTL HR hbx
            replace HD9:Hid (RwS (fun b=>N0≤b∧b < N1) (w2.alloc (.cells es.toArray 53)) (Value.slice (some ⟨g9,0,none⟩) 5 5) [intT 1,algT,elemN c.issuer,T1,T2]):=HD9.out.later hbx
            replace HTe:Hid (bs=true→∃ T,serT ns=some T∧Dep (fun b=>M≤b) (w2.alloc (.cells es.toArray 53)) T es):=fun h9=>by obtain ⟨T,h1,h2⟩:=HTe.out h9;exact ⟨T,h1,h2.next (Agr.below hbx) (fun _ h _=>h)⟩
            replace hs2:=hsl hs2 hbx
            replace bel:=below_step bel hbx
            have Qe:=Blk.new w2 es 53 w2.heap.size rfl
            go_upto_region 12 with (first|((with_reducible show wpList _ _ _ ({ dst:=_,op:=.store _ _ _,type:=_,pos:=_,after:=_,guard:=_ } :: _) _ _);refine wpList_store_row rfl 53 _ _ rfl w2.heap.size es.toArray rfl rfl 53 _ (heap_alloc_last _ _) (by rw [size_tlv,HS5.out]) (by rw [HS5.out];rfl) HOe.out ?_;rw [World.setRow_alloc_new])|fail)
            clear hz HS5 hbx
            obtain ⟨ge,hge⟩:∃ g,g=w2.heap.size:=⟨_,rfl⟩
            rw [← hge] at Qe ⊢
            generalize (w2.alloc (.cells es.toArray 53))=V2 at *
            clear hge

            have e3:=B0.cell 3 _ HQ3.out
            have l0:=B0.lt
            have x1:=cell_later HC2.out bel
            have ly:ub < V2.heap.size:=Nat.lt_of_lt_of_le HUlt.out bel.size
            go_wp2_with fail
            refine (k18_Time rfl HXw.out.2).mono ?_
            rintro e w4 ⟨fs,bt,rfl,hl5,ho5,hyes,hno,hb⟩
            clear x1 ly e3 l0
            replace B0:=B0.later hb
            replace HR:=RwTL HR hb
            replace HD9:Hid (RwS (fun b=>N0≤b∧b < N1) w4 (Value.slice (some ⟨g9,0,none⟩) 5 5) [intT 1,algT,elemN c.issuer,T1,T2]):=HD9.out.later hb
            replace bel:=below_step bel hb
            replace Qe:=Qe.later hb
            replace HTe:Hid (bs=true→∃ T,serT ns=some T∧Dep (fun b=>M≤b) w4 T es):=fun h9=>by obtain ⟨T,h1,h2⟩:=HTe.out h9;exact ⟨T,h1,h2.next (Agr.below hb) (fun _ h _=>h)⟩
            have HLf:Hid (fs.length=5):=hl5
            have HOf:Hid (OneC fs):=ho5
            have HTf:Hid (bt=true→∃ T,timT ta=some T∧Dep (fun b=>M≤b) w4 T fs):=fun h9=>by obtain ⟨T,h1,h2⟩:=hyes h9;exact ⟨T,h1,h2.next (Agr.refl _ _) (fun _ h _=>Nat.le_trans hs2 h)⟩
            have HNf:Hid (bt=false→timT ta=none):=hno
            replace hs2:=hsl hs2 hb
            clear hl5 ho5 hyes hno hb
            have HS5:Hid (fs.toArray.size=5):=by show _=_;rw [List.size_toArray];exact HLf.out
            have hz:=zero_tlv.out
            have hbx:=bal w4 (.cells fs.toArray 53)
            replace B0:=B0.later hbx
            replace Qe:=Qe.later hbx
            replace HR:=RwTL HR hbx
            replace HD9:Hid (RwS (fun b=>N0≤b∧b < N1) (w4.alloc (.cells fs.toArray 53)) (Value.slice (some ⟨g9,0,none⟩) 5 5) [intT 1,algT,elemN c.issuer,T1,T2]):=HD9.out.later hbx
            replace HTe:Hid (bs=true→∃ T,serT ns=some T∧Dep (fun b=>M≤b) (w4.alloc (.cells fs.toArray 53)) T es):=fun h9=>by obtain ⟨T,h1,h2⟩:=HTe.out h9;exact ⟨T,h1,h2.next (Agr.below hbx) (fun _ h _=>h)⟩
            replace HTf:Hid (bt=true→∃ T,timT ta=some T∧Dep (fun b=>M≤b) (w4.alloc (.cells fs.toArray 53)) T fs):=fun h9=>by obtain ⟨T,h1,h2⟩:=HTf.out h9;exact ⟨T,h1,h2.next (Agr.below hbx) (fun _ h _=>h)⟩
            replace hs2:=hsl hs2 hbx
            replace bel:=below_step bel hbx
            have Qf:=Blk.new w4 fs 53 w4.heap.size rfl
            go_upto_region 13 with (first|((with_reducible show wpList _ _ _ ({ dst:=_,op:=.store _ _ _,type:=_,pos:=_,after:=_,guard:=_ } :: _) _ _);refine wpList_store_row rfl 53 _ _ rfl w4.heap.size fs.toArray rfl rfl 53 _ (heap_alloc_last _ _) (by rw [size_tlv,HS5.out]) (by rw [HS5.out];rfl) HOf.out ?_;rw [World.setRow_alloc_new])|fail)
            clear hz HS5 hbx
            obtain ⟨gf,hgf⟩:∃ g,g=w4.heap.size:=⟨_,rfl⟩
            rw [← hgf] at Qf ⊢
            generalize (w4.alloc (.cells fs.toArray 53))=V4 at *
            clear hgf

            cases bs with
            | false =>
             have H:Hid (¬ MayR8 c):=fun h=>by obtain ⟨T,h2⟩:=h.2.2.2.2 (ns,ta) (List.mem_of_getElem? HX.out);rw [goneO_no (Or.inl (HNe.out rfl))] at h2;cases h2
             go_wp2_with fail
             refine bodyPost_ret (results_tmp2 rfl _ _ _) rfl ?_
             exact BodyD8.no H.out bel
            | true =>
            cases bt with
            | false =>
             have H:Hid (¬ MayR8 c):=fun h=>by obtain ⟨T,h2⟩:=h.2.2.2.2 (ns,ta) (List.mem_of_getElem? HX.out);rw [goneO_no (Or.inr (HNf.out rfl))] at h2;cases h2
             go_wp2_with fail
             refine bodyPost_ret (results_tmp2 rfl _ _ _) rfl ?_
             exact BodyD8.no H.out bel
            | true =>
            obtain ⟨T3,hT3,hd3⟩:=HTe.out rfl
            obtain ⟨T4,hT4,hd4⟩:=HTf.out rfl
            have HS1:Hid (serT ns=some T3):=hT3
            have HS2:Hid (timT ta=some T4):=hT4
            have HG9:Hid (gonD (ns,ta)=listT [T3,T4]):=gonD_is hT3 hT4
            have HD3:Hid (Dep (fun b=>M≤b) (V4.alloc (.cells (es++fs).toArray 53)) (gonD (ns,ta)) [.int .i64 0,.int .i64 16,.bool true,.slice none 0 0,.slice (some ⟨V4.heap.size,0,none⟩) 2 2]):=by rw [HG9.out];exact list_dep (ks:=[T3,T4]) (by rw [List.length_append,HLe.out,HLf.out];rfl) hs2 (by show 2≤maxLen;decide) (two_kids (P:=Dep (fun b=>M≤b) V4) hd3 hd4 HLe.out HLf.out) 0 16 true
            clear HTe HTf HNe HNf hT3 hT4 hd3 hd4
            have hlde:(loadVar 53 ⟨ge,0,none⟩).run Tryz.prog V4=.ok (.agg es.toArray) V4:=Qe.load Tryz.underlying53 rfl size_tlv HLe.out
            have hldf:(loadVar 53 ⟨gf,0,none⟩).run Tryz.prog V4=.ok (.agg fs.toArray) V4:=Qf.load Tryz.underlying53 rfl size_tlv HLf.out
            have le:=Qe.lt
            have lf:=Qf.lt
            have HF10:Hid _:=fill_10 HLe.out HLf.out
            have hz:=zero_tlv.out
            have hbx:=bal V4 (.cells (es++fs).toArray 53)
            replace B0:=B0.later hbx
            replace HR:=RwTL HR hbx
            replace HD9:Hid (RwS (fun b=>N0≤b∧b < N1) (V4.alloc (.cells (es++fs).toArray 53)) (Value.slice (some ⟨g9,0,none⟩) 5 5) [intT 1,algT,elemN c.issuer,T1,T2]):=HD9.out.later hbx
            replace bel:=below_step bel hbx
            replace hs2:=hsl hs2 hbx
            clear hbx
            go_wp2_with (first|((with_reducible show wpList _ _ _ ({ dst:=_,op:=.load _ _,type:=_,pos:=_,after:=_,guard:=_ } :: _) _ _);refine wpList_load_run (by rfl) (by rfl) (by rfl) hlde ?_)|((with_reducible show wpList _ _ _ ({ dst:=_,op:=.load _ _,type:=_,pos:=_,after:=_,guard:=_ } :: _) _ _);refine wpList_load_run (by rfl) (by rfl) (by rfl) hldf ?_)|((with_reducible show wpList _ _ _ ({ dst:=_,op:=.buildSlice _ _ _,type:=_,pos:=_,after:=_,guard:=_ } :: _) _ _);refine Go.wpList_buildSlice rfl 51 53 2 _ rfl (es++fs).toArray jt _ Tryz.underlying51 hjt ht0 (by rw [ht1];decide) (by rw [ht1];decide) (by rw [ht1];refine (congrArg _ (?_:_=[(0,Value.agg es.toArray),(1,Value.agg fs.toArray)])).trans HF10.out;kernel_rfl) ?_)|fail)
            clear hlde hldf le lf HF10 hz Qe Qf
            obtain ⟨g3,hg3⟩:∃ g,g=V4.heap.size:=⟨_,rfl⟩
            rw [← hg3] at HD3 ⊢
            generalize (V4.alloc (.cells (es++fs).toArray 53))=V5 at *
            clear hg3
            refine k16_ListL.mono ?_
            rintro e w6 ⟨cs5,rfl,hc5,hb⟩
            have HD5:Hid (Dep (fun b=>M≤b) w6 (gonD (ns,ta)) cs5):=by rw [hc5.out];exact HD3.out.next (Agr.below hb) (fun _ h _=>h)
            have HL5:Hid (cs5.length=5):=by rw [hc5.out];rfl
            have HO5:Hid (OneC cs5):=HD5.out.now.ones
            replace B0:=B0.later hb
            replace HR:=RwTL HR hb
            replace HD9:Hid (RwS (fun b=>N0≤b∧b < N1) w6 (Value.slice (some ⟨g9,0,none⟩) 5 5) [intT 1,algT,elemN c.issuer,T1,T2]):=HD9.out.later hb
            replace bel:=below_step bel hb
            replace hs2:=hsl hs2 hb
            clear hb hc5 HD3
            have HF5:Hid _:=fill_5 HL5.out
            have hz:=zero_tlv.out
            have hbx:=bal w6 (.cells cs5.toArray 53)
            have B5:=Blk.new w6 cs5 53 w6.heap.size rfl
            replace HD5:=dpl HD5 hbx
            replace B0:=B0.later hbx
            replace HR:=RwTL HR hbx
            replace HD9:Hid (RwS (fun b=>N0≤b∧b < N1) (w6.alloc (.cells cs5.toArray 53)) (Value.slice (some ⟨g9,0,none⟩) 5 5) [intT 1,algT,elemN c.issuer,T1,T2]):=HD9.out.later hbx
            replace bel:=below_step bel hbx
            replace hs2:=hsl hs2 hbx
            clear hbx
            go_wp2_with (first|((with_reducible show wpList _ _ _ ({ dst:=_,op:=.buildSlice _ _ _,type:=_,pos:=_,after:=_,guard:=_ } :: _) _ _);refine Go.wpList_buildSlice rfl 51 53 1 _ rfl cs5.toArray jt _ Tryz.underlying51 hjt ht0 (by rw [ht1];decide) (by rw [ht1];decide) (by rw [ht1];refine (congrArg _ (?_:_=[(0,Value.agg cs5.toArray)])).trans HF5.out;kernel_rfl) ?_)|(at_builtin;refine wpList_append_tlv (by rfl) _ _ (by rfl) N1 (.slice ka i kc) ((c.gone.take i).map gonD) (by rfl) HR.out w6.heap.size (by rfl) cs5 B5 HL5.out HO5.out (gonD (ns,ta)) (HD5.out.next (Agr.refl _ _) (fun b h9 _=>⟨by omega,fun e9=>by have:=(HM9.out b e9).2;omega⟩)) (by rw [HLi.out];omega) (by omega) ?_;intro kv9 w9 hr9 hgrow9 hge9 hat9;obtain ⟨ka9,kc9,hkv9⟩:=hr9.sl;have HK9:(((c.gone.take i).map gonD)++[gonD (ns,ta)]).length=i + 1:=(by rw [List.length_append,HLi.out];rfl);rw [HK9] at hkv9;subst hkv9;clear HK9)|fail)

            have hzb:=bel.size
            replace B0:=B0.grown hgrow9 (fun k hk e=>by have:=hge9 k hk;omega)
            replace bel:=Below.grown bel hgrow9 hzb (fun k hk=>by have:=hge9 k hk;omega)
            replace HD9:Hid (RwS (fun b=>N0≤b∧b < N1) w9 (Value.slice (some ⟨g9,0,none⟩) 5 5) [intT 1,algT,elemN c.issuer,T1,T2]):=HD9.out.grown hgrow9 (fun k hk=>⟨fun h=>by have:=hge9 k hk;omega,fun e=>by simp only [Value.ownBlock,Option.some.injEq] at e;have:=hge9 k hk;omega⟩)
            have hs9:N1≤w9.heap.size:=Nat.le_trans (by omega) hgrow9.size
            have HNx:Hid (RwT w9 N1 (.slice ka9 (i + 1) kc9) ((c.gone.take (i + 1)).map gonD)):=by
             have h:=hr9
             rw [← map_next (f:=gonD) HX.out] at h
             exact h
            have HAn:Hid (∀ g∈c.gone.take (i + 1),∃ T,goneO g=some T):=take_mem HA.out HX.out ⟨_,goneO_yes HS1.out HS2.out⟩
            clear hgrow9 hge9 hat9 hr9 HR HA HD5 B5 HF5 hz hzb
            go_roundw
            case rel=>exact ⟨i + 1,ka9,kc9,by omega,by go_num,by go_num,HNx,HAn,HD9,B0,bel,hs9⟩
            case measure=>simp [intOf];omega
         exact AllReadyH.nil
       exact AllReadyH.nil
     exact AllReadyH.nil
   exact AllReadyH.nil
 exact AllReadyH.nil
end Go.Proofs.YtohcdbifhnfcbaaGreatDoor
