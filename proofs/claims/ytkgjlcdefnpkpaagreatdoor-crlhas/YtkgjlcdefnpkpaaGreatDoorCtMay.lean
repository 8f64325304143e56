/- The document's Text of layer 13; bits of a byte. The document's kind. Texts that may be, part by part. The document's May: is something a name? -/
import Derived.Test.YtkgjlcdefnpkpaaGreatDoorPmNG
import Derived.Test.YtkgjlcdefnpkpaaGreatDoorCtBase
import Derived.Test.YtkgjlcdefnpkpaaGreatDoorNlSG
import Derived.Test.YtkgjlcdefnpkpaaGreatDoorCtSize
import Derived.Test.YtkgjlcdefnpkpaaGreatDoorNlElem
import Derived.Test.YtkgjlcdefnpkpaaGreatDoorRows
import Derived.Deep.OwnRows
import Derived.Deep.AppendLies
import Derived.Deep.WholeRow
import Derived.Deep.RegionHeld3
import Derived.Deep.DeepCutAuto
import Derived.Deep.DeepFit
import Derived.BigQuiet
namespace Go.Proofs.YtkgjlcdefnpkpaaGreatDoor
open Go.RowKit
set_option linter.unusedSimpArgs false in
set_option maxRecDepth 100000 in
set_option maxHeartbeats 1000000 in
theorem r13_Text {v:Value} {B:List Int} {w:World} (hv:Bs w v B) (b:byt B) :
  Calls Tryz.prog 51 #[v] w fun e w'=>(∀ n,textP B=.ok n→e=.returned (.tuple #[.string (strOfNums n),.int .i64 0])∧w'=w)∧(∀ c,textP B=.error c→e=.returned (.tuple #[.string (strOfNums []),.int .i64 (c:Int)])∧w'=w):=by
 have cv:=conv_any hv
 have HB:Hid (byt B):=b
 obtain ⟨ao,cap,rfl,h1,h2,h3⟩:=hv
 obtain ⟨N,hN⟩:∃ N,B.length=N:=⟨_,rfl⟩
 have HN:Hid (B.length=N):=hN
 rw [hN] at h2 h3 cv ⊢
 have HC:Hid (∀ j,j < N→∃ g o,ao=some ⟨g,o,none⟩∧w.cell? ⟨g,o + j,none⟩=some (.int .u8 (B.getD j 0))∧g < w.heap.size):=fun j hj=>by
  obtain ⟨g,o,e1,e2,e3⟩:=h3 (by omega)
  exact ⟨g,o,e1,e3 j hj,e2⟩
 unfold maxLen at h1
 clear b h3 hN
 by_cases c0:64 < N
 ·have H:Hid (textP B=.error 2):=by show _=_;unfold textP;rw [if_pos (by rw [HN.out];exact c0)]
  have g0:(64:Int) < (N:Int):=by omega
  go_enter Tryz.func51,Tryz.ntmps51
  go_wp2_with fail
  refine bodyPost_ret (results_tmp2 rfl _ _ _) rfl ?_
  exact ⟨fun n h=>(by rw [H.out] at h;cases h),fun c h=>(by rw [H.out] at h;cases h;exact ⟨rfl,rfl⟩)⟩
 have g0:¬ (64:Int) < (N:Int):=by omega
 by_cases c1:N=0
 ·have H:Hid (textP B=.error 7):=by show _=_;unfold textP;rw [if_neg (by rw [HN.out];exact c0),if_pos (by rw [HN.out];exact c1)]
  have g1:(N:Int)=0:=by omega
  go_enter Tryz.func51,Tryz.ntmps51
  go_wp2_with fail
  refine bodyPost_ret (results_tmp2 rfl _ _ _) rfl ?_
  exact ⟨fun n h=>(by rw [H.out] at h;cases h),fun c h=>(by rw [H.out] at h;cases h;exact ⟨rfl,rfl⟩)⟩
 have g1:¬ (N:Int)=0:=by omega
 have H0:Hid (textP B=if ∃ j,j < N∧(B.getD j 0 < 32∨126 < B.getD j 0) then .error 7 else .ok B):=by show _=_;unfold textP;rw [HN.out,if_neg c0,if_neg c1]
 go_enter Tryz.func51,Tryz.ntmps51
 go_wp2_with fail
 go_loop [4] (fun iv=>∃ (i:Nat),i≤N∧iv=.int .i64 (i:Int)∧Hid (∀ j,j < i→¬ (B.getD j 0 < 32∨126 < B.getD j 0))) (fun iv=>N - (intOf iv).toNat)
 case atStart=>exact ⟨0,by omega,rfl,fun j h=>absurd h (by omega)⟩
 case round =>
  obtain ⟨i,hi,rfl,HE⟩:=hrel
  by_cases hil:i < N
  ·have k1:(i:Int) < (N:Int):=by omega
   have k2:(0:Int)≤(i:Int):=by omega
   have gi:IntKind.i64.wrap ((i:Int) + 1)=(i:Int) + 1:=by rw [IntKind.wrap_i64];omega
   obtain ⟨g,o,rfl,cy,lg⟩:=HC.out i hil
   have yb:=HB.out i
   obtain ⟨y,hy⟩:∃ y,B.getD i 0=y:=⟨_,rfl⟩
   have HY:Hid (B.getD i 0=y):=hy
   rw [hy] at cy yb
   clear hy
   by_cases d1:y < 32
   ·have H:Hid (textP B=.error 7):=by show _=_;rw [H0.out,if_pos ⟨i,hil,.inl (by rw [HY.out];exact d1)⟩]
    go_wp2_with fail
    refine bodyPost_ret (results_tmp2 rfl _ _ _) rfl ?_
    exact ⟨fun n h=>(by rw [H.out] at h;cases h),fun c h=>(by rw [H.out] at h;cases h;exact ⟨rfl,rfl⟩)⟩
   by_cases d2:126 < y
   ·have H:Hid (textP B=.error 7):=by show _=_;rw [H0.out,if_pos ⟨i,hil,.inr (by rw [HY.out];exact d2)⟩]
    go_wp2_with fail
    refine bodyPost_ret (results_tmp2 rfl _ _ _) rfl ?_
    exact ⟨fun n h=>(by rw [H.out] at h;cases h),fun c h=>(by rw [H.out] at h;cases h;exact ⟨rfl,rfl⟩)⟩
   have HE2:Hid (∀ j,j < i + 1→¬ (B.getD j 0 < 32∨126 < B.getD j 0)):=fun j hj=>by
    by_cases hji:j < i
    ·exact HE.out j hji
    ·obtain rfl:j=i:=by omega
     rw [HY.out];omega
   go_wp2_with fail
   go_round
   case rel=>exact ⟨i + 1,by omega,by go_num,HE2⟩
   case measure=>simp [intOf];omega
  ·have k1:¬ (i:Int) < (N:Int):=by omega
   have H:Hid (textP B=.ok B):=by
    show _=_
    rw [H0.out,if_neg (by rintro ⟨j,hj,h⟩;exact HE.out j (by omega) h)]
   go_wp2_with fail
   refine bodyPost_ret (results_tmp2 rfl _ _ _) rfl ?_
   exact ⟨fun n h=>(by rw [H.out] at h;cases h;exact ⟨rfl,rfl⟩),fun c h=>(by rw [H.out] at h;cases h)⟩
set_option maxRecDepth 100000 in
theorem r16_kind {k:Int} {w:World}:Calls Tryz.prog 52 #[.int .i64 k] w fun e w'=>e=.returned (.bool (kindN k))∧w'=w:=by
 have e3:(k == 3)=decide (k=3):=rfl
 have e6:(k == 6)=decide (k=6):=rfl
 have e10:(k == 10)=decide (k=10):=rfl
 have e11:(k == 11)=decide (k=11):=rfl
 have HK:Hid (kindN k=(decide (k=3) || decide (k=6) || decide (k=10) || decide (k=11))):=rfl
 generalize decide (k=3)=b3 at *
 generalize decide (k=6)=b6 at *
 generalize decide (k=10)=b10 at *
 generalize decide (k=11)=b11 at *
 go_enter Tryz.func52,Tryz.ntmps52
 cases b3
 ·cases b6
  ·cases b10
   ·go_wp2_with fail
    go_ret
    exact ⟨by rw [HK.out];rfl,rfl⟩
   ·go_wp2_with fail
    go_ret
    exact ⟨by rw [HK.out];rfl,rfl⟩
  ·go_wp2_with fail
   go_ret
   exact ⟨by rw [HK.out];rfl,rfl⟩
 ·go_wp2_with fail
  go_ret
  exact ⟨by rw [HK.out];rfl,rfl⟩
theorem all_drop {n:List Pn} {i:Nat} {p:Pn} (h:n[i]?=some p):(n.drop i).all partN=(partN p && (n.drop (i + 1)).all partN):=by
 have e:=List.getElem?_eq_some_iff.1 h
 rw [List.drop_eq_getElem_cons e.1,e.2,List.all_cons]
/-- does prim.Text take it? -/
def textB (B:List Int):Bool:=match textP B with|.ok _=>true|.error _=>false
theorem text_err {B:List Int} {c:Nat} (h:textP B=.error c):c=2∨c=7:=by
 unfold textP at h
 split at h
 ·cases h;exact .inl rfl
 ·split at h
  ·cases h;exact .inr rfl
  ·split at h
   ·cases h;exact .inr rfl
   ·cases h
set_option linter.unusedSimpArgs false in
set_option maxRecDepth 100000 in
set_option maxHeartbeats 1000000 in
theorem r16_May {v:Value} {n:List Pn} {w:World} (hn:NmAt w v n) (wn:WfN n) :
  Calls Tryz.prog 23 #[v] w fun e w'=>e=.returned (.bool (mayN n))∧Below w.heap.size w w':=by
 have HN:Hid (NmAt w v n):=hn
 obtain ⟨a1,c1,rfl,-,-,-⟩:=hn
 obtain ⟨L,hL⟩:∃ L,n.length=L:=⟨_,rfl⟩
 have HL:Hid (n.length=L):=hL
 rw [hL] at HN ⊢
 clear hL
 have hl1:Hid (L≤9223372036854775807):=by obtain ⟨_,c,e,h1,h2,_⟩:=HN.out;show _≤_;rw [HL.out] at h1;simp only [maxLen] at h2;omega
 have HM:Hid (mayN n=(decide (L≤8) && n.all partN)):=by show _=_;unfold mayN;rw [HL.out]
 go_enter Tryz.func23,Tryz.ntmps23
 go_wp2_with fail
 go_loopw [3] (fun iv wx=>∃ i:Nat,i≤L∧iv=.int .i64 (i:Int)∧Hid (n.all partN=(n.drop i).all partN)∧Below w.heap.size w wx) (fun iv _=>L - (intOf iv).toNat)
 case atStart=>exact ⟨0,by omega,rfl,rfl,Below.refl _ _⟩
 case round =>
  obtain ⟨i,hi,rfl,HT,bel⟩:=hrel
  by_cases hil:i < L
  ·have g1:(i:Int) < (L:Int):=by omega
   have g2:(0:Int)≤(i:Int):=by omega
   have gi:IntKind.i64.wrap ((i:Int) + 1)=(i:Int) + 1:=by have:=hl1.out;rw [IntKind.wrap_i64];omega
   obtain ⟨p,b1,o1,hp,e1,-,l1,x0,x1⟩:=(HN.out.later bel).at (i:=i) (by rw [HL.out];exact hil)
   subst e1
   have hw:=wn i p hp
   have HS:Hid _:=all_drop hp
   obtain ⟨k1,s1⟩:=p
   simp only at x0 x1 hw
   have HP:Hid (partN (k1,s1)=(kindN k1 && textB s1)):=rfl
   obtain ⟨cap,w2,hcv,hbs,hb⟩:=conv_text hw.2.1 hw.2.2 wr
   have HBs:Hid (Bs w2 (.slice (some ⟨wr.heap.size,0,none⟩) s1.length cap) s1):=hbs
   have y0:w2.cell? ⟨b1,o1 + i * 2,none⟩=some (.int .i64 k1):=(hb.cell (p:=⟨b1,o1 + i * 2,none⟩) l1).trans x0
   have l2:b1 < w2.heap.size:=Nat.lt_of_lt_of_le l1 hb.size
   have bel2:=below_step bel hb
   have hby:=hw.2.1
   clear hp hbs hb hw
   go_wp2_with fail
   refine (r13_Text HBs.out hby).mono ?_
   rintro e w3 ⟨hok,hbad⟩
   have HX:Hid (∃ (tv:ByteArray) (c:Int),e=.returned (.tuple #[.string tv,.int .i64 c])∧w3=w2∧(textB s1=true∧c=0∨textB s1=false∧¬ c=0)):=by
    cases ht:textP s1 with
    | ok m =>
     obtain ⟨rfl,rfl⟩:=hok m ht
     exact ⟨_,0,rfl,rfl,.inl ⟨by unfold textB;rw [ht],rfl⟩⟩
    | error c =>
     obtain ⟨rfl,rfl⟩:=hbad c ht
     exact ⟨_,_,rfl,rfl,.inr ⟨by unfold textB;rw [ht],by rcases text_err ht with rfl|rfl<;>decide⟩⟩
   obtain ⟨tv,c,rfl,hw3,hcase⟩:=HX.out
   rw [hw3]
   clear hok hbad HX hw3 hcv x0 x1
   go_wp2_with fail
   refine r16_kind.mono ?_
   rintro e w4 ⟨rfl,hw4⟩
   rw [hw4]
   clear hw4
   cases hk:kindN k1 with
   | false =>
    have H:Hid (mayN n=false):=by show _=_;rw [HM.out,HT.out,HS.out,HP.out,hk];simp
    clear hk
    go_wp2_with fail
    go_ret
    exact ⟨by rw [H.out];rfl,bel2⟩
   | true =>
    rcases hcase with ⟨ht,rfl⟩|⟨ht,hc⟩
    ·have HT2:Hid (n.all partN=(n.drop (i + 1)).all partN):=by show _=_;rw [HT.out,HS.out,HP.out,hk,ht];rfl
     clear hk ht
     go_wp2_with fail
     go_roundw
     case rel=>exact ⟨i + 1,by omega,by go_num,HT2,bel2⟩
     case measure=>simp [intOf];omega
    ·have H:Hid (mayN n=false):=by show _=_;rw [HM.out,HT.out,HS.out,HP.out,hk,ht];simp
     have g5:(c == 0)=false:=by rw [beq_eq_false_iff_ne];exact hc
     have g6:(c != 0)=true:=by rw [bne,g5];rfl
     clear hk ht hc
     go_wp2_with fail
     go_ret
     exact ⟨by rw [H.out];rfl,bel2⟩
  ·have g1:¬ (i:Int) < (L:Int):=by omega
   have H:Hid (mayN n=decide (L≤8)):=by show _=_;rw [HM.out,HT.out,List.drop_of_length_le (by rw [HL.out];omega)];simp
   by_cases h8:L≤8
   ·have g2:(L:Int)≤8:=by omega
    have H2:Hid (mayN n=true):=by show _=_;rw [H.out,decide_eq_true h8]
    clear h8
    go_wp2_with fail
    go_ret
    exact ⟨by rw [H2.out];rfl,bel⟩
   ·have g2:¬ (L:Int)≤8:=by omega
    have H2:Hid (mayN n=false):=by show _=_;rw [H.out,decide_eq_false h8]
    clear h8
    go_wp2_with fail
    go_ret
    exact ⟨by rw [H2.out];rfl,bel⟩
end Go.Proofs.YtkgjlcdefnpkpaaGreatDoor
