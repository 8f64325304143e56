import Derived.Test.YtdfmoghjimghhaaGreatDoorCtBase
import Derived.Test.YtdfmoghjimghhaaGreatDoorCtSize
import Derived.Test.YtdfmoghjimghhaaGreatDoorNlSG
import Derived.Test.YtdfmoghjimghhaaGreatDoorNlElem
import Derived.Test.YtdfmoghjimghhaaGreatDoorLBytes
import Derived.Test.YtdfmoghjimghhaaGreatDoorCRef
import Derived.Test.YtdfmoghjimghhaaGreatDoorDrTG
import Derived.Test.YtdfmoghjimghhaaGreatDoorPmOidO
import Derived.Test.YtdfmoghjimghhaaGreatDoorPmNumO
import Derived.Test.YtdfmoghjimghhaaGreatDoorPmTofR
import Derived.Test.YtdfmoghjimghhaaGreatDoorClCa
import Derived.Test.YtdfmoghjimghhaaGreatDoorRows
import Derived.Deep.OwnRows
import Derived.Deep.AppendLies
import Derived.Deep.WholeRow
import Derived.Deep.RegionHeld3
import Derived.Deep.DeepCutAuto
import Derived.Deep.DeepFit
import Derived.BigQuiet
import Derived.Great.BuildSlice
import Derived.Laws.Rows
namespace Go.Proofs.YtdfmoghjimghhaaGreatDoor
open Go.RowKit
open Classical
set_option linter.unusedSimpArgs false
set_option maxRecDepth 100000
set_option maxHeartbeats 4000000
theorem Zni {v:Value} {B:List Int} {w:World} (hv:Bs w v B) (b:byt B) :
  Calls Tryz.prog 121 #[v] w fun e w'=>(∀ n,ZbF B=.ok n→e=.returned (.tuple #[.string (strOfNums n),.int .i64 0])∧w'=w)∧(∀ c,ZbF B=.error c→e=.returned (.tuple #[.string (strOfNums []),.int .i64 (c:Int)])∧w'=w):=by
 have cv:=ZdS hv;have HB:Hid (byt B):=b;obtain ⟨ao,cap,rfl,h1,h2,h3⟩:=hv;obtain ⟨N,hN⟩:∃ N,B.length=N:=⟨_,rfl⟩;have HN:Hid (B.length=N):=hN;rw[hN] at h2 h3 cv ⊢;have HC:Hid (∀ j,j<N→∃ g o,ao=some ⟨g,o,none⟩∧w.cell? ⟨g,o+j,none⟩=some (.int .u8 (B.getD j 0))∧g<w.heap.size):=fun j hj=>by
  obtain⟨g,o,e1,e2,e3⟩:=h3 (by omega);exact ⟨g,o,e1,e3 j hj,e2⟩
 unfold maxLen at h1;clear b h3 hN
 by_cases c0:64<N
 ·have H:Hid (ZbF B=.error 2):=by show _=_;unfold ZbF;rw[if_pos (by rw[HN.out];exact c0)]
  have g0:(64:Int)<(N:Int):=by omega
  go_enter Tryz.func121,Tryz.ntmps121;go_wp2_with fail;refine bodyPost_ret (results_tmp2 rfl _ _ _) rfl ?_;exact ⟨fun n h=>(by rw[H.out] at h;cases h),fun c h=>(by rw[H.out] at h;cases h;exact ⟨rfl,rfl⟩)⟩
 have g0:¬ (64:Int)<(N:Int):=by omega
 by_cases c1:N=0
 ·have H:Hid (ZbF B=.error 7):=by show _=_;unfold ZbF;rw[if_neg (by rw[HN.out];exact c0),if_pos (by rw[HN.out];exact c1)]
  have g1:(N:Int)=0:=by omega
  go_enter Tryz.func121,Tryz.ntmps121;go_wp2_with fail;refine bodyPost_ret (results_tmp2 rfl _ _ _) rfl ?_;exact ⟨fun n h=>(by rw[H.out] at h;cases h),fun c h=>(by rw[H.out] at h;cases h;exact ⟨rfl,rfl⟩)⟩
 have g1:¬ (N:Int)=0:=by omega
 have H0:Hid (ZbF B=if ∃ j,j<N∧(B.getD j 0<32∨126<B.getD j 0) then .error 7 else .ok B):=by show _=_;unfold ZbF;rw[HN.out,if_neg c0,if_neg c1]
 go_enter Tryz.func121,Tryz.ntmps121;go_wp2_with fail;go_loop [4] (fun iv=>∃ (i:Nat),i≤N∧iv=.int .i64 (i:Int)∧Hid (∀ j,j<i→¬ (B.getD j 0<32∨126<B.getD j 0))) (fun iv=>N-(intOf iv).toNat)
 case atStart=>exact ⟨0,by omega,rfl,fun j h=>absurd h (by omega)⟩
 case round =>
  obtain⟨i,hi,rfl,HE⟩:=hrel
  by_cases hil:i<N
  ·have k1:(i:Int)<(N:Int):=by omega
   have k2:(0:Int)≤(i:Int):=by omega
   have gi:IntKind.i64.wrap ((i:Int)+1)=(i:Int)+1:=by rw[IntKind.wrap_i64];omega
   obtain⟨g,o,rfl,cy,lg⟩:=HC.out i hil;have yb:=HB.out i;obtain ⟨y,hy⟩:∃ y,B.getD i 0=y:=⟨_,rfl⟩;have HY:Hid (B.getD i 0=y):=hy;rw[hy] at cy yb;clear hy
   by_cases d1:y<32
   ·have H:Hid (ZbF B=.error 7):=by show _=_;rw[H0.out,if_pos ⟨i,hil,.inl (by rw[HY.out];exact d1)⟩]
    go_wp2_with fail;refine bodyPost_ret (results_tmp2 rfl _ _ _) rfl ?_;exact ⟨fun n h=>(by rw[H.out] at h;cases h),fun c h=>(by rw[H.out] at h;cases h;exact ⟨rfl,rfl⟩)⟩
   by_cases d2:126<y
   ·have H:Hid (ZbF B=.error 7):=by show _=_;rw[H0.out,if_pos ⟨i,hil,.inr (by rw[HY.out];exact d2)⟩]
    go_wp2_with fail;refine bodyPost_ret (results_tmp2 rfl _ _ _) rfl ?_;exact ⟨fun n h=>(by rw[H.out] at h;cases h),fun c h=>(by rw[H.out] at h;cases h;exact ⟨rfl,rfl⟩)⟩
   have HE2:Hid (∀ j,j<i+1→¬ (B.getD j 0<32∨126<B.getD j 0)):=fun j hj=>by
    by_cases hji:j<i
    ·exact HE.out j hji
    ·obtain rfl:j=i:=by omega
     rw[HY.out];omega
   go_wp2_with fail;go_round
   case rel=>exact ⟨i+1,by omega,by go_num,HE2⟩
   case measure=>simp[intOf];omega
  ·have k1:¬ (i:Int)<(N:Int):=by omega
   have H:Hid (ZbF B=.ok B):=by
    show _=_;rw[H0.out,if_neg (by rintro ⟨j,hj,h⟩;exact HE.out j (by omega) h)]
   go_wp2_with fail;refine bodyPost_ret (results_tmp2 rfl _ _ _) rfl ?_;exact ⟨fun n h=>(by rw[H.out] at h;cases h;exact ⟨rfl,rfl⟩),fun c h=>(by rw[H.out] at h;cases h)⟩
theorem Znj {k:Int} {w:World}:Calls Tryz.prog 122 #[.int .i64 k] w fun e w'=>e=.returned (.bool (ZcQ k))∧w'=w:=by
 have e3:(k == 3)=decide (k=3):=rfl;have e6:(k == 6)=decide (k=6):=rfl;have e10:(k == 10)=decide (k=10):=rfl;have e11:(k == 11)=decide (k=11):=rfl;have HK:Hid (ZcQ k=(decide (k=3) || decide (k=6) || decide (k=10) || decide (k=11))):=rfl;generalize decide (k=3)=b3 at *;generalize decide (k=6)=b6 at *;generalize decide (k=10)=b10 at *;generalize decide (k=11)=b11 at *;go_enter Tryz.func122,Tryz.ntmps122
 cases b3
 ·cases b6
  ·cases b10
   ·go_wp2_with fail
    go_ret;exact ⟨by rw[HK.out];rfl,rfl⟩
   ·go_wp2_with fail
    go_ret;exact ⟨by rw[HK.out];rfl,rfl⟩
  ·go_wp2_with fail
   go_ret;exact ⟨by rw[HK.out];rfl,rfl⟩
 ·go_wp2_with fail
  go_ret;exact ⟨by rw[HK.out];rfl,rfl⟩
theorem Zl5 {n:List Pn} {i:Nat} {p:Pn} (h:n[i]?=some p):(n.drop i).all ZbB=(ZbB p && (n.drop (i+1)).all ZbB):=by
 have e:=List.getElem?_eq_some_iff.1 h;rw[List.drop_eq_getElem_cons e.1,e.2,List.all_cons]
def ZlK (B:List Int):Bool:=match ZbF B with|.ok _=>true|.error _=>false
theorem ZnI {B:List Int} {c:Nat} (h:ZbF B=.error c):c=2∨c=7:=by
 unfold ZbF at h
 split at h
 ·cases h;exact .inl rfl
 ·split at h
  ·cases h;exact .inr rfl
  ·split at h
   ·cases h;exact .inr rfl
   ·cases h
theorem ZoP {v:Value} {n:List Pn} {w:World} (hn:Zb3 w v n) (wn:WfN n) :
  Calls Tryz.prog 63 #[v] w fun e w'=>e=.returned (.bool (Zcl n))∧Below w.heap.size w w':=by
 have HN:Hid (Zb3 w v n):=hn;obtain ⟨a1,c1,rfl,-,-,-⟩:=hn;obtain ⟨L,hL⟩:∃ L,n.length=L:=⟨_,rfl⟩;have HL:Hid (n.length=L):=hL;rw[hL] at HN ⊢;clear hL;have hl1:Hid (L≤9223372036854775807):=by obtain ⟨_,c,e,h1,h2,_⟩:=HN.out;show _≤_;rw[HL.out] at h1;simp only[maxLen] at h2;omega
 have HM:Hid (Zcl n=(decide (L≤8) && n.all ZbB)):=by show _=_;unfold Zcl;rw[HL.out]
 go_enter Tryz.func63,Tryz.ntmps63;go_wp2_with fail;go_loopw [3] (fun iv wx=>∃ i:Nat,i≤L∧iv=.int .i64 (i:Int)∧Hid (n.all ZbB=(n.drop i).all ZbB)∧Below w.heap.size w wx) (fun iv _=>L-(intOf iv).toNat)
 case atStart=>exact ⟨0,by omega,rfl,rfl,Below.refl _ _⟩
 case round =>
  obtain⟨i,hi,rfl,HT,bel⟩:=hrel
  by_cases hil:i<L
  ·have g1:(i:Int)<(L:Int):=by omega
   have g2:(0:Int)≤(i:Int):=by omega
   have gi:IntKind.i64.wrap ((i:Int)+1)=(i:Int)+1:=by have:=hl1.out;rw[IntKind.wrap_i64];omega
   obtain⟨p,b1,o1,hp,e1,-,l1,x0,x1⟩:=(HN.out.later bel).at (i:=i) (by rw[HL.out];exact hil);subst e1;have hw:=wn i p hp;have HS:Hid _:=Zl5 hp;obtain ⟨k1,s1⟩:=p;simp only at x0 x1 hw;have HP:Hid (ZbB (k1,s1)=(ZcQ k1 && ZlK s1)):=rfl;obtain ⟨cap,w2,hcv,hbs,hb⟩:=Zc8 hw.2.1 hw.2.2 wr;have HBs:Hid (Bs w2 (.slice (some ⟨wr.heap.size,0,none⟩) s1.length cap) s1):=hbs;have y0:w2.cell? ⟨b1,o1+i*2,none⟩=some (.int .i64 k1):=(hb.cell (p:=⟨b1,o1+i*2,none⟩) l1).trans x0;have l2:b1<w2.heap.size:=Nat.lt_of_lt_of_le l1 hb.size;have bel2:=Zaa bel hb;have hby:=hw.2.1;clear hp hbs hb hw;go_wp2_with fail;refine (Zni HBs.out hby).mono ?_;rintro e w3 ⟨hok,hbad⟩;have HX:Hid (∃ (tv:ByteArray) (c:Int),e=.returned (.tuple #[.string tv,.int .i64 c])∧w3=w2∧(ZlK s1=true∧c=0∨ZlK s1=false∧¬ c=0)):=by
    cases ht:ZbF s1 with
    | ok m =>
     obtain⟨rfl,rfl⟩:=hok m ht;exact ⟨_,0,rfl,rfl,.inl ⟨by unfold ZlK;rw[ht],rfl⟩⟩
    | error c =>
     obtain⟨rfl,rfl⟩:=hbad c ht;exact ⟨_,_,rfl,rfl,.inr ⟨by unfold ZlK;rw[ht],by rcases ZnI ht with rfl|rfl<;>decide⟩⟩
   obtain⟨tv,c,rfl,hw3,hcase⟩:=HX.out;rw[hw3];clear hok hbad HX hw3 hcv x0 x1;go_wp2_with fail;refine Znj.mono ?_;rintro e w4 ⟨rfl,hw4⟩;rw[hw4];clear hw4
   cases hk:ZcQ k1 with
   | false =>
    have H:Hid (Zcl n=false):=by show _=_;rw[HM.out,HT.out,HS.out,HP.out,hk];simp
    clear hk;go_wp2_with fail;go_ret;exact ⟨by rw[H.out];rfl,bel2⟩
   | true =>
    rcases hcase with ⟨ht,rfl⟩|⟨ht,hc⟩
    ·have HT2:Hid (n.all ZbB=(n.drop (i+1)).all ZbB):=by show _=_;rw[HT.out,HS.out,HP.out,hk,ht];rfl
     clear hk ht;go_wp2_with fail;go_roundw
     case rel=>exact ⟨i+1,by omega,by go_num,HT2,bel2⟩
     case measure=>simp[intOf];omega
    ·have H:Hid (Zcl n=false):=by show _=_;rw[HM.out,HT.out,HS.out,HP.out,hk,ht];simp
     have g5:(c == 0)=false:=by rw[beq_eq_false_iff_ne];exact hc
     have g6:(c != 0)=true:=by rw[bne,g5];rfl
     clear hk ht hc;go_wp2_with fail;go_ret;exact ⟨by rw[H.out];rfl,bel2⟩
  ·have g1:¬ (i:Int)<(L:Int):=by omega
   have H:Hid (Zcl n=decide (L≤8)):=by show _=_;rw[HM.out,HT.out,List.drop_of_length_le (by rw[HL.out];omega)];simp
   by_cases h8:L≤8
   ·have g2:(L:Int)≤8:=by omega
    have H2:Hid (Zcl n=true):=by show _=_;rw[H.out,decide_eq_true h8]
    clear h8;go_wp2_with fail;go_ret;exact ⟨by rw[H2.out];rfl,bel⟩
   ·have g2:¬ (L:Int)≤8:=by omega
    have H2:Hid (Zcl n=false):=by show _=_;rw[H.out,decide_eq_false h8]
    clear h8;go_wp2_with fail;go_ret;exact ⟨by rw[H2.out];rfl,bel⟩
def okO {α:Type}:Except Nat α→Option α
 | .ok a=>some a
 | .error _=>none
def numD:Tl→Option (List Int)
 | .mk c t m b _=>if c=0∧t=2∧m=false then okO (Zdc b) else none
def Zij:Tl→Bool
 | .mk c t m _ _=>decide (c=0∧t=16∧m=true)
theorem ZbJ {ka:Option Addr} {n kc:Nat} {w:World}:Calls Tryz.prog 26 #[.slice ka n kc] w fun e w'=>e=.returned (.agg #[.int .i64 0,.int .i64 16,.bool true,.slice none 0 0,.slice ka n kc])∧Below w.heap.size w w':=by
 have R0:=Blk.new w [.int .i64 0,.int .i64 0,.bool false,.slice none 0 0,.slice none 0 0] 57 w.heap.size rfl;have bel:=bal w (.cells #[.int .i64 0,.int .i64 0,.bool false,.slice none 0 0,.slice none 0 0] 57);have hz:=Zad.out;go_enter Tryz.func26,Tryz.ntmps26;go_upto_region 1 with fail;have lW:=bel.size;generalize w.alloc (.cells #[.int .i64 0,.int .i64 0,.bool false,.slice none 0 0,.slice none 0 0] 57)=W at *;obtain ⟨tR,hR⟩:=R0;have HR1:Hid _:=hR;clear hR;go_wp2_with (first|((with_reducible show wpList _ _ _ ({ dst:=_,op:=.store _ _ _,type:=_,pos:=_,after:=_,guard:=_ } :: _) _ _);refine wpList_store_row rfl 57 _ _ rfl w.heap.size #[.int .i64 0,.int .i64 16,.bool true,.slice none 0 0,.slice ka n kc] rfl rfl tR _ HR1.out (by rw[Zab];rfl) rfl (by simp[Value.oneCell']) ?_)|fail);refine bodyPost_ret (results_cell_row rfl _ _ w.heap.size tR #[.int .i64 0,.int .i64 16,.bool true,.slice none 0 0,.slice ka n kc] (0,0) _ rfl (setRow_heap _ _ _ _ _ _ HR1.out) Tryz.underlying57 rfl (by rw[Zab];rfl)) rfl ?_;exact ⟨rfl,below_setRow bel (by omega) _⟩
theorem Ze6 {v:Value} {L:List Int} {w:World} (hv:Us w v L) (b:wrd L) :
  Calls Tryz.prog 28 #[v] w fun e w'=>∃ cs:List Value,e=.returned (.agg cs.toArray)∧Dep (fun g=>w.heap.size≤g) w' (ZaV L) cs∧Below w.heap.size w w':=by
 have HV:Hid (Us w v L):=hv;obtain ⟨ao,cap,rfl,-,-,-⟩:=hv;have R0:=Blk.new w [.int .i64 0,.int .i64 0,.bool false,.slice none 0 0,.slice none 0 0] 57 w.heap.size rfl;have bel:=bal w (.cells #[.int .i64 0,.int .i64 0,.bool false,.slice none 0 0,.slice none 0 0] 57);have hz:=Zad.out;go_enter Tryz.func28,Tryz.ntmps28;go_upto_region 1 with fail;have lW:=bel.size;generalize w.alloc (.cells #[.int .i64 0,.int .i64 0,.bool false,.slice none 0 0,.slice none 0 0] 57)=W at *;have lR:=R0.lt;go_wp2_with fail;refine (ZfG (HV.out.later bel) b).mono ?_;rintro e w1 ⟨hok,hbad⟩;have HX:∃ (ba:Option Addr) (n bc:Nat) (cc:Int),e=.returned (.tuple #[.slice ba n bc,.int .i64 cc])∧Hid (Dep (fun g=>W.heap.size≤g) w1 (ZaV L) [.int .i64 0,.int .i64 6,.bool false,.slice ba n bc,.slice none 0 0])∧Below W.heap.size W w1:=by
  cases ho:ZaD L with
  | ok X =>
   obtain⟨v',rfl,h1,h2,hb⟩:=hok X ho;have hd:=ZbZ h1 h2 0 6 false;obtain ⟨ba,bc,rfl,-,-,-⟩:=id h1;exact ⟨ba,_,bc,0,rfl,by show Dep _ _ _ _;unfold ZaV;rw[ho];exact hd,hb⟩
  | error c =>
   obtain⟨rfl,hb⟩:=hbad c ho;exact ⟨none,0,0,_,rfl,by show Dep _ _ _ _;unfold ZaV;rw[ho];exact ZbZ (b:=[]) ⟨none,0,rfl,Nat.zero_le _,Nat.zero_le _,fun h=>absurd h (Nat.lt_irrefl 0)⟩ (fun a m c e=>by cases e) 0 6 false,hb⟩
 obtain⟨ba,n,bc,cc,rfl,HD,hb⟩:=HX;replace R0:=R0.later hb;replace bel:=Zaa bel hb;clear hok hbad hb;obtain ⟨tR,hR⟩:=R0;have HR1:Hid _:=hR;clear hR;go_wp2_with (first|((with_reducible show wpList _ _ _ ({ dst:=_,op:=.store _ _ _,type:=_,pos:=_,after:=_,guard:=_ } :: _) _ _);refine wpList_store_row rfl 57 _ _ rfl w.heap.size #[.int .i64 0,.int .i64 6,.bool false,.slice ba n bc,.slice none 0 0] rfl rfl tR _ HR1.out (by rw[Zab];rfl) rfl (by simp[Value.oneCell']) ?_)|fail);refine bodyPost_ret (results_cell_row rfl _ _ w.heap.size tR #[.int .i64 0,.int .i64 6,.bool false,.slice ba n bc,.slice none 0 0] (0,0) _ rfl (setRow_heap _ _ _ _ _ _ HR1.out) Tryz.underlying57 rfl (by rw[Zab];rfl)) rfl ?_;exact ⟨_,rfl,ZaB HD.out lR lW,below_setRow bel (by omega) _⟩
theorem ZbI {w:World}:Calls Tryz.prog 35 #[] w fun e w'=>∃ cs:List Value,e=.returned (.agg cs.toArray)∧Dep (fun g=>w.heap.size≤g) w' Zc0 cs∧Below w.heap.size w w':=by
 have R0:=Blk.new w [.int .i64 0,.int .i64 0,.bool false,.slice none 0 0,.slice none 0 0] 57 w.heap.size rfl;have bel:=bal w (.cells #[.int .i64 0,.int .i64 0,.bool false,.slice none 0 0,.slice none 0 0] 57);have hz:=Zad.out;go_enter Tryz.func35,Tryz.ntmps35;go_upto_region 1 with fail;have lW:=bel.size;generalize w.alloc (.cells #[.int .i64 0,.int .i64 0,.bool false,.slice none 0 0,.slice none 0 0] 57)=W at *;clear hz;have lR:=R0.lt;obtain ⟨N0,hN0⟩:∃ n,n=W.heap.size:=⟨_,rfl⟩;have st:Below W.heap.size W W:=Below.refl _ _;rw[← hN0] at lR lW;obtain ⟨jt,hjt,ht0,ht1,ht2⟩:=Zap ZaI;have HU1:Hid (Us (W.alloc (.cells #[.int .u64 1,.int .u64 2,.int .u64 840,.int .u64 10045,.int .u64 4,.int .u64 3,.int .u64 3] 25)) (.slice (some ⟨W.heap.size,0,none⟩) 7 7) [1,2,840,10045,4,3,3]):=Zhc (Blk.new W (us [1,2,840,10045,4,3,3]) 25 W.heap.size rfl) rfl (by decide);replace R0:=R0.alloc (.cells #[.int .u64 1,.int .u64 2,.int .u64 840,.int .u64 10045,.int .u64 4,.int .u64 3,.int .u64 3] 25);replace st:=Zaf (o:=.cells #[.int .u64 1,.int .u64 2,.int .u64 840,.int .u64 10045,.int .u64 4,.int .u64 3,.int .u64 3] 25) st;replace bel:=Zaf (o:=.cells #[.int .u64 1,.int .u64 2,.int .u64 840,.int .u64 10045,.int .u64 4,.int .u64 3,.int .u64 3] 25) bel;go_wp2_with fail;refine (Ze6 HU1.out (Zfe (by decide))).mono ?_;rintro e w1 ⟨cs,rfl,hd1,hb⟩;have HD1:Hid (Dep (fun g=>N0≤g) w1 (ZaV [1,2,840,10045,4,3,3]) cs):=hd1.next (Agr.refl _ _) (fun _ h _=>by rw[hN0];exact Nat.le_trans st.size h);have HL1:Hid (cs.length=5):=hd1.now.five;replace R0:=R0.later hb;replace st:=Zaa st hb;replace bel:=Zaa bel hb;clear hd1;have HF:Hid _:=Zay HL1.out;have HT:Hid (Dep (fun g=>N0≤g) (w1.alloc (.cells cs.toArray 57)) Zc0 [.int .i64 0,.int .i64 16,.bool true,.slice none 0 0,.slice (some ⟨w1.heap.size,0,none⟩) 1 1]):=Zav (ks:=[ZaV [1,2,840,10045,4,3,3]]) HL1.out (by rw[hN0];exact st.size) (by decide) (ZaY (P:=Dep (fun g=>N0≤g) w1) HD1.out HL1.out) 0 16 true;replace R0:=R0.alloc (.cells cs.toArray 57);replace bel:=Zaf (o:=.cells cs.toArray 57) bel;have hz:=Zad.out;obtain ⟨tR,hR⟩:=R0;have HR1:Hid _:=hR;clear hR;go_wp2_with (first|((with_reducible show wpList _ _ _ ({ dst:=_,op:=.buildSlice _ _ _,type:=_,pos:=_,after:=_,guard:=_ } :: _) _ _);refine Go.wpList_buildSlice rfl 55 57 1 _ rfl cs.toArray jt _ Tryz.underlying55 hjt ht0 (by rw[ht1];decide) (by rw[ht1];decide) (by rw[ht1];refine (congrArg _ (?_:_=[(0,Value.agg cs.toArray)])).trans HF.out;kernel_rfl) ?_)|((with_reducible show wpList _ _ _ ({ dst:=_,op:=.store _ _ _,type:=_,pos:=_,after:=_,guard:=_ } :: _) _ _);refine wpList_store_row rfl 57 _ _ rfl w.heap.size #[.int .i64 0,.int .i64 16,.bool true,.slice none 0 0,.slice (some ⟨w1.heap.size,0,none⟩) 1 1] rfl rfl tR _ HR1.out (by rw[Zab];rfl) rfl (by simp[Value.oneCell']) ?_)|fail);refine bodyPost_ret (results_cell_row rfl _ _ w.heap.size tR #[.int .i64 0,.int .i64 16,.bool true,.slice none 0 0,.slice (some ⟨w1.heap.size,0,none⟩) 1 1] (0,0) _ rfl (setRow_heap _ _ _ _ _ _ HR1.out) Tryz.underlying57 rfl (by rw[Zab];rfl)) rfl ?_;exact ⟨_,rfl,ZaB HT.out lR lW,below_setRow bel (by omega) _⟩
theorem ZcG {v:Value} {n:List Int} {w:World} (hv:Bs w v n) (b:byt n) :
  Calls Tryz.prog 30 #[v] w fun e w'=>(Zd0 n=none→e=.returned (.tuple #[.agg #[.int .i64 0,.int .i64 0,.bool false,.slice none 0 0,.slice none 0 0],.bool false])∧Below w.heap.size w w')∧(∀ T,Zd0 n=some T→∃ cs:List Value,e=.returned (.tuple #[.agg cs.toArray,.bool true])∧Dep (fun g=>w.heap.size≤g) w' T cs∧Below w.heap.size w w'):=by
 have HV:Hid (Bs w v n):=hv;have HB:Hid (byt n):=b;obtain ⟨ao,cap,rfl,h1,h2,h3⟩:=hv;unfold maxLen at h1;obtain ⟨N,hN⟩:∃ N,n.length=N:=⟨_,rfl⟩;have HN:Hid (n.length=N):=hN;rw[hN] at HV h2 h3 ⊢;clear b hN;have R0:=Blk.new w [.int .i64 0,.int .i64 0,.bool false,.slice none 0 0,.slice none 0 0] 57 w.heap.size rfl;have bel:=bal w (.cells #[.int .i64 0,.int .i64 0,.bool false,.slice none 0 0,.slice none 0 0] 57);have hz:=Zad.out;go_enter Tryz.func30,Tryz.ntmps30;go_upto_region 1 with fail;have lW:=bel.size;generalize w.alloc (.cells #[.int .i64 0,.int .i64 0,.bool false,.slice none 0 0,.slice none 0 0] 57)=W at *;have lR:=R0.lt;clear hz
 by_cases c1:N<1
 ·have H:Hid (Zd0 n=none):=by show _=_;unfold Zd0;rw[if_pos (.inl (by rw[HN.out];exact c1))]
  have g1:(N:Int)<1:=by omega
  clear c1 h3;obtain ⟨tR,hR⟩:=R0;have HR1:Hid _:=hR;clear hR;have hz:=Zad.out;go_wp2_with (first|((with_reducible show wpList _ _ _ ({ dst:=_,op:=.store _ _ _,type:=_,pos:=_,after:=_,guard:=_ } :: _) _ _);refine wpList_store_row rfl 57 _ _ rfl w.heap.size #[.int .i64 0,.int .i64 0,.bool false,.slice none 0 0,.slice none 0 0] rfl rfl tR _ HR1.out (by rw[Zab];rfl) rfl (by simp[Value.oneCell']) ?_)|fail);refine bodyPost_ret (Zag rfl _ _ w.heap.size tR #[.int .i64 0,.int .i64 0,.bool false,.slice none 0 0,.slice none 0 0] (0,0) _ rfl (setRow_heap _ _ _ _ _ _ HR1.out) Tryz.underlying57 rfl (by rw[Zab];rfl)) rfl ?_;exact ⟨fun _=>⟨rfl,below_setRow bel (by omega) _⟩,fun T hT=>by rw[H.out] at hT;cases hT⟩
 have g1:¬ (N:Int)<1:=by omega
 by_cases c2:20<N
 ·have H:Hid (Zd0 n=none):=by show _=_;unfold Zd0;rw[if_pos (.inr (.inl (by rw[HN.out];exact c2)))]
  have g2:(20:Int)<(N:Int):=by omega
  clear c1 c2 h3;obtain ⟨tR,hR⟩:=R0;have HR1:Hid _:=hR;clear hR;have hz:=Zad.out;go_wp2_with (first|((with_reducible show wpList _ _ _ ({ dst:=_,op:=.store _ _ _,type:=_,pos:=_,after:=_,guard:=_ } :: _) _ _);refine wpList_store_row rfl 57 _ _ rfl w.heap.size #[.int .i64 0,.int .i64 0,.bool false,.slice none 0 0,.slice none 0 0] rfl rfl tR _ HR1.out (by rw[Zab];rfl) rfl (by simp[Value.oneCell']) ?_)|fail);refine bodyPost_ret (Zag rfl _ _ w.heap.size tR #[.int .i64 0,.int .i64 0,.bool false,.slice none 0 0,.slice none 0 0] (0,0) _ rfl (setRow_heap _ _ _ _ _ _ HR1.out) Tryz.underlying57 rfl (by rw[Zab];rfl)) rfl ?_;exact ⟨fun _=>⟨rfl,below_setRow bel (by omega) _⟩,fun T hT=>by rw[H.out] at hT;cases hT⟩
 have g2:¬ (20:Int)<(N:Int):=by omega
 obtain⟨b0,o0,ea,l0,hc⟩:=h3 (by omega);subst ea;obtain ⟨x,hx⟩:∃ x,n.getD 0 0=x:=⟨_,rfl⟩;have x0:W.cell? ⟨b0,o0,none⟩=some (.int .u8 x):=by
  have h:=hc 0 (by omega);rw[hx,Nat.add_zero] at h;exact (bel.cell (p:=⟨b0,o0,none⟩) l0).trans h
 have lw0:b0<W.heap.size:=Nat.lt_of_lt_of_le l0 lW;have g3:(0:Int)<(N:Int):=by omega
 have HX:Hid (n.getD 0 0=x):=hx;clear hc hx
 by_cases c3:x=0
 ·have H:Hid (Zd0 n=none):=by show _=_;unfold Zd0;rw[if_pos (.inr (.inr (by rw[HX.out];exact c3)))]
  subst c3;clear c1 c2;obtain ⟨tR,hR⟩:=R0;have HR1:Hid _:=hR;clear hR;have hz:=Zad.out;go_wp2_with (first|((with_reducible show wpList _ _ _ ({ dst:=_,op:=.store _ _ _,type:=_,pos:=_,after:=_,guard:=_ } :: _) _ _);refine wpList_store_row rfl 57 _ _ rfl w.heap.size #[.int .i64 0,.int .i64 0,.bool false,.slice none 0 0,.slice none 0 0] rfl rfl tR _ HR1.out (by rw[Zab];rfl) rfl (by simp[Value.oneCell']) ?_)|fail);refine bodyPost_ret (Zag rfl _ _ w.heap.size tR #[.int .i64 0,.int .i64 0,.bool false,.slice none 0 0,.slice none 0 0] (0,0) _ rfl (setRow_heap _ _ _ _ _ _ HR1.out) Tryz.underlying57 rfl (by rw[Zab];rfl)) rfl ?_;exact ⟨fun _=>⟨rfl,below_setRow bel (by omega) _⟩,fun T hT=>by rw[H.out] at hT;cases hT⟩
 have d1:(x == 0)=false:=by rw[beq_eq_false_iff_ne];exact c3
 have H:Hid (Zd0 n=some (.mk 0 2 false (ZdE (ZaK n)) [])):=by show _=_;unfold Zd0;rw[if_neg (by rw[HN.out,HX.out];rintro (h|h|h);exact c1 h;exact c2 h;exact c3 h)]
 clear c1 c2 c3;go_wp2_with fail;refine (ZdY (HV.out.later bel) HB.out (by rw[HN.out];omega)).mono ?_;rintro e w1 ⟨hok,hbad⟩;have HX1:∃ (ba:Option Addr) (m bc:Nat) (cc:Int),e=.returned (.tuple #[.slice ba m bc,.int .i64 cc])∧Hid (Dep (fun g=>W.heap.size≤g) w1 (.mk 0 2 false (ZdE (ZaK n)) []) [.int .i64 0,.int .i64 2,.bool false,.slice ba m bc,.slice none 0 0])∧Below W.heap.size W w1:=by
  cases ho:ZaK n with
  | ok X =>
   obtain⟨v',rfl,k1,k2,hb⟩:=hok X ho;have hd:=ZbZ k1 k2 0 2 false;obtain ⟨ba,bc,rfl,-,-,-⟩:=id k1;exact ⟨ba,_,bc,0,rfl,hd,hb⟩
  | error c =>
   obtain⟨rfl,hb⟩:=hbad c ho;exact ⟨none,0,0,_,rfl,ZbZ (b:=[]) ⟨none,0,rfl,Nat.zero_le _,Nat.zero_le _,fun h=>absurd h (Nat.lt_irrefl 0)⟩ (fun a m c e=>by cases e) 0 2 false,hb⟩
 obtain⟨ba,m,bc,cc,rfl,HD,hb⟩:=HX1;replace R0:=R0.later hb;replace bel:=Zaa bel hb;clear hok hbad hb x0;obtain ⟨tR,hR⟩:=R0;have HR1:Hid _:=hR;clear hR;have hz:=Zad.out;go_wp2_with (first|((with_reducible show wpList _ _ _ ({ dst:=_,op:=.store _ _ _,type:=_,pos:=_,after:=_,guard:=_ } :: _) _ _);refine wpList_store_row rfl 57 _ _ rfl w.heap.size #[.int .i64 0,.int .i64 2,.bool false,.slice ba m bc,.slice none 0 0] rfl rfl tR _ HR1.out (by rw[Zab];rfl) rfl (by simp[Value.oneCell']) ?_)|fail);refine bodyPost_ret (Zag rfl _ _ w.heap.size tR #[.int .i64 0,.int .i64 2,.bool false,.slice ba m bc,.slice none 0 0] (0,0) _ rfl (setRow_heap _ _ _ _ _ _ HR1.out) Tryz.underlying57 rfl (by rw[Zab];rfl)) rfl ?_;exact ⟨fun hT=>(by rw[H.out] at hT;cases hT),fun T hT=>by rw[H.out] at hT;cases hT;exact ⟨_,rfl,ZaB HD.out lR lW,below_setRow bel (by omega) _⟩⟩
theorem ZnK {t:Int} {c:Nat} (h:ZaQ t=.error c):¬ c=0:=by
 unfold ZaQ at h
 repeat' split at h
 all_goals first|(cases h;decide)|cases h
theorem ZbK {t:Int} {w:World} (ht:-9223372036854775808≤t∧t≤9223372036854775807) :
  Calls Tryz.prog 31 #[.int .i64 t] w fun e w'=>(ZcI t=none→e=.returned (.tuple #[.agg #[.int .i64 0,.int .i64 0,.bool false,.slice none 0 0,.slice none 0 0],.bool false])∧Below w.heap.size w w')∧(∀ T,ZcI t=some T→∃ cs:List Value,e=.returned (.tuple #[.agg cs.toArray,.bool true])∧Dep (fun g=>w.heap.size≤g) w' T cs∧Below w.heap.size w w'):=by
 have R0:=Blk.new w [.int .i64 0,.int .i64 0,.bool false,.slice none 0 0,.slice none 0 0] 57 w.heap.size rfl;have bel:=bal w (.cells #[.int .i64 0,.int .i64 0,.bool false,.slice none 0 0,.slice none 0 0] 57);have hz:=Zad.out;go_enter Tryz.func31,Tryz.ntmps31;go_upto_region 1 with fail;have lW:=bel.size;generalize w.alloc (.cells #[.int .i64 0,.int .i64 0,.bool false,.slice none 0 0,.slice none 0 0] 57)=W at *;have lR:=R0.lt;clear hz;go_wp2_with fail;refine (ZhO ht).mono ?_;rintro e w1 ⟨hok,hbad⟩
 cases ho:ZaQ t with
 | ok aX =>
  obtain⟨ta,X⟩:=aX;obtain ⟨v',rfl,k1,k2,hb⟩:=hok ta X ho;have HD:Hid (Dep (fun g=>W.heap.size≤g) w1 (.mk 0 ta false X []) [.int .i64 0,.int .i64 ta,.bool false,v',.slice none 0 0]):=ZbZ k1 k2 0 ta false;obtain ⟨ba,bc,rfl,-,-,-⟩:=k1;obtain ⟨m,hm⟩:∃ m,X.length=m:=⟨_,rfl⟩;rw[hm] at HD ⊢;have H:Hid (ZcI t=some (.mk 0 ta false X [])):=by show _=_;unfold ZcI;rw[ho]
  replace R0:=R0.later hb;replace bel:=Zaa bel hb;clear hok hbad hb k2 hm ho;obtain ⟨tR,hR⟩:=R0;have HR1:Hid _:=hR;clear hR;have hz:=Zad.out;go_wp2_with (first|((with_reducible show wpList _ _ _ ({ dst:=_,op:=.store _ _ _,type:=_,pos:=_,after:=_,guard:=_ } :: _) _ _);refine wpList_store_row rfl 57 _ _ rfl w.heap.size #[.int .i64 0,.int .i64 ta,.bool false,.slice ba m bc,.slice none 0 0] rfl rfl tR _ HR1.out (by rw[Zab];rfl) rfl (by simp[Value.oneCell']) ?_)|fail);refine bodyPost_ret (Zag rfl _ _ w.heap.size tR #[.int .i64 0,.int .i64 ta,.bool false,.slice ba m bc,.slice none 0 0] (0,0) _ rfl (setRow_heap _ _ _ _ _ _ HR1.out) Tryz.underlying57 rfl (by rw[Zab];rfl)) rfl ?_;exact ⟨fun hT=>(by rw[H.out] at hT;cases hT),fun T hT=>by rw[H.out] at hT;cases hT;exact ⟨_,rfl,ZaB HD.out lR lW,below_setRow bel (by omega) _⟩⟩
 | error c =>
  obtain⟨rfl,hb⟩:=hbad c ho;have H:Hid (ZcI t=none):=by show _=_;unfold ZcI;rw[ho]
  have hc:¬ c=0:=ZnK ho;have d1:((c:Int) == 0)=false:=by rw[beq_eq_false_iff_ne];omega
  replace R0:=R0.later hb;replace bel:=Zaa bel hb;clear hok hbad hb ho hc;obtain ⟨tR,hR⟩:=R0;have HR1:Hid _:=hR;clear hR;have hz:=Zad.out;go_wp2_with (first|((with_reducible show wpList _ _ _ ({ dst:=_,op:=.store _ _ _,type:=_,pos:=_,after:=_,guard:=_ } :: _) _ _);refine wpList_store_row rfl 57 _ _ rfl w.heap.size #[.int .i64 0,.int .i64 0,.bool false,.slice none 0 0,.slice none 0 0] rfl rfl tR _ HR1.out (by rw[Zab];rfl) rfl (by simp[Value.oneCell']) ?_)|fail);refine bodyPost_ret (Zag rfl _ _ w.heap.size tR #[.int .i64 0,.int .i64 0,.bool false,.slice none 0 0,.slice none 0 0] (0,0) _ rfl (setRow_heap _ _ _ _ _ _ HR1.out) Tryz.underlying57 rfl (by rw[Zab];rfl)) rfl ?_;exact ⟨fun _=>⟨rfl,below_setRow bel (by omega) _⟩,fun T hT=>by rw[H.out] at hT;cases hT⟩
theorem ZcB {O:Option Tl} {w w':World} {e:Ending} (h:(O=none→e=.returned (.tuple #[.agg #[.int .i64 0,.int .i64 0,.bool false,.slice none 0 0,.slice none 0 0],.bool false])∧Below w.heap.size w w')∧(∀ T,O=some T→∃ cs:List Value,e=.returned (.tuple #[.agg cs.toArray,.bool true])∧Dep (fun g=>w.heap.size≤g) w' T cs∧Below w.heap.size w w')) :
  ∃ (ds:List Value) (b:Bool),e=.returned (.tuple #[.agg ds.toArray,.bool b])∧ds.length=5∧Zbp ds∧(b=true↔∃ T,O=some T)∧(∀ T,O=some T→Dep (fun g=>w.heap.size≤g) w' T ds)∧Below w.heap.size w w':=by
 cases O with
 | none =>
  obtain⟨rfl,hb⟩:=h.1 rfl;exact ⟨_,_,rfl,rfl,by simp[Zbp,Value.oneCell'],by simp,fun T k=>(by cases k),hb⟩
 | some T =>
  obtain⟨cs,rfl,hd,hb⟩:=h.2 T rfl;exact ⟨cs,true,rfl,hd.now.five,hd.now.ones,by simp,fun T' k=>(by cases k;exact hd),hb⟩
theorem Zgs {α:Type} {P:α→Prop} {L:List α} {i:Nat} {x:α} (h:∀ y∈L.take i,P y) (hx:L[i]?=some x) (k:P x):∀ y∈L.take (i+1),P y:=fun y hy=>by
 rw[List.take_add_one,hx] at hy;rcases List.mem_append.1 hy with h1|h1
 ·exact h y h1
 ·simp only[Option.toList_some,List.mem_singleton] at h1
  rw[h1];exact k
theorem Zgr {α:Type} {P:α→Prop} {L:List α} {i:Nat} (h:∀ y∈L.take i,P y) (hi:L.length≤i):∀ y∈L,P y:=by
 rw[List.take_of_length_le hi] at h;exact h
theorem Zmy {u v:Value} (hu:∃ a n c,u=.slice a n c) (hv:∃ a n c,v=.slice a n c):Instr.fill (fun i=>some (i*1,1)) ((Array.range (2*1)).map ((Value.slice none 0 0).cells[· % (Value.slice none 0 0).cells.size]!)) [(0,u),(1,v)]=some #[u,v]:=by
 obtain⟨_,_,_,rfl⟩:=hu;obtain ⟨_,_,_,rfl⟩:=hv;kernel_rfl
theorem ZkT {l:List Int} {c:Nat} (h:ZaD l=.error c):c=1:=by
 unfold ZaD at h
 split at h
 ·cases h;rfl
 ·split at h
  ·cases h;rfl
  ·cases h
theorem ZiT.of_own {w:World} {base:Nat} {e:TypeId} {v:Value} {n:Nat} {xs:List Value} (h:w.ownsRow base e 1 v n xs):ZiT w v xs:=by
 obtain⟨hl,h⟩:=h;rcases h with ⟨h1,h2⟩|⟨g,cap,cur,h1,h2,h3,h4,h5,h6,h7⟩
 ·exact ⟨none,0,by rw[h1];congr 1;omega,by omega,by decide,fun h=>by omega⟩
 ·refine ⟨_,cap,by rw[show xs.length=n by omega];exact h1,by omega,h5,fun _=>⟨g,0,rfl,(Array.getElem?_eq_some_iff.1 h3).1,fun i y hy=>?_⟩⟩
  have hi:=(List.getElem?_eq_some_iff.1 hy).1;rw[← h7,List.getElem?_take,if_pos (by omega)] at hy;rw[Nat.zero_add];simp only[World.cell?,h3,Option.isSome_none,Bool.false_eq_true,if_false]
  simpa using hy
theorem ZkW {w:World} {L:List (List Pn)} {ys:List Value} (hl:ys.length=L.length) (h:∀ (i:Nat) (n:List Pn) (y:Value),L[i]?=some n→ys[i]?=some y→Zb3 w y n):∀ y∈ys,y.oneCell'=true:=fun y hy=>by
 obtain⟨i,hi⟩:=List.mem_iff_getElem?.1 hy;have hlt:=(List.getElem?_eq_some_iff.1 hi).1;obtain ⟨_,_,rfl,_⟩:=h i _ y (List.getElem?_eq_getElem (by omega)) hi
 rfl
theorem ZkN {w:World} {u v:Value} {a b:List Pn} {P E:List (List Pn)} {ps es:List Value} (ha:Zb3 w u a) (hb:Zb3 w v b) (hl:ps.length=P.length) (hp:∀ (i:Nat) (n:List Pn) (y:Value),P[i]?=some n→ps[i]?=some y→Zb3 w y n) (he:∀ (i:Nat) (n:List Pn) (y:Value),E[i]?=some n→es[i]?=some y→Zb3 w y n) :
  ∀ (i:Nat) (n:List Pn) (y:Value),([a,b]++P++E)[i]?=some n→([u,v]++ps++es)[i]?=some y→Zb3 w y n:=fun i n y h1 h2=>by
 match i,h1,h2 with
 | 0,h1,h2 =>
  simp at h1 h2;rw[← h1,← h2];exact ha
 | 1,h1,h2 =>
  simp at h1 h2;rw[← h1,← h2];exact hb
 | i+2,h1,h2 =>
  have h1':(P++E)[i]?=some n:=h1;have h2':(ps++es)[i]?=some y:=h2
  by_cases hi:i<P.length
  ·rw[List.getElem?_append_left hi] at h1'
   rw[List.getElem?_append_left (by omega)] at h2';exact hp i n y h1' h2'
  ·rw[List.getElem?_append_right (by omega)] at h1'
   rw[List.getElem?_append_right (by omega),hl] at h2';exact he _ n y h1' h2'
def Zh1 (w:World) (c:Ct) (e:Ending) (w':World):Prop:=∃ b:Bool,e=.returned (.bool b)∧(b=true↔Zcn c)∧Below w.heap.size w w'
theorem Zh1.no {w w':World} {c:Ct} (h:¬ Zcn c) (hb:Below w.heap.size w w'):Zh1 w c (.returned (.bool false)) w':=⟨false,rfl,⟨fun k=>(by cases k),fun k=>absurd k h⟩,hb⟩
theorem Zh1.yes {w w':World} {c:Ct} (h:Zcn c) (hb:Below w.heap.size w w'):Zh1 w c (.returned (.bool true)) w':=⟨true,rfl,⟨fun _=>h,fun _=>rfl⟩,hb⟩
def Zdt (c:Ct):Prop:=c.odd=false∧¬ c.path < -1∧¬ (-1<c.path∧c.ca=false)∧¬ 2147483647<c.path∧¬ c.usage=0∧¬ c.usage < -1∧¬ 65535<c.usage∧c.uses.length≤8∧c.permit.length≤8∧c.exclude.length≤8
theorem Zcn.head {c:Ct} (h:Zcn c):Zdt c:=⟨h.1,h.2.1,h.2.2.1,h.2.2.2.1,h.2.2.2.2.1,h.2.2.2.2.2.1,h.2.2.2.2.2.2.1,h.2.2.2.2.2.2.2.1,h.2.2.2.2.2.2.2.2.1,h.2.2.2.2.2.2.2.2.2.1⟩
theorem Zdt.may {c:Ct} (h:Zdt c) (hu:∀ l∈c.uses,∃ b,ZaD l=.ok b) (hn:∀ n∈[c.issuer,c.subject]++c.permit++c.exclude,Zcl n=true) (h1:∃ T,Zd0 c.serial=some T) (h2:∃ T,ZcI c.frm=some T) (h3:∃ T,ZcI c.til=some T) (h4:Zd5 c.kn c.kx c.ky) (h5:c.kn=false):Zcn c:=⟨h.1,h.2.1,h.2.2.1,h.2.2.2.1,h.2.2.2.2.1,h.2.2.2.2.2.1,h.2.2.2.2.2.2.1,h.2.2.2.2.2.2.2.1,h.2.2.2.2.2.2.2.2.1,h.2.2.2.2.2.2.2.2.2,hu,hn,h1,h2,h3,h4,h5⟩
open Classical in
theorem ZoQ {c : Ct} {cs : List Value} {w : World} (h : Zds w c cs) (wf : WfC c) (sm : c.uses.length<100 ∧ c.permit.length<100 ∧ c.exclude.length<100) :
    Calls Tryz.prog 22 #[.agg cs.toArray] w (Zh1 w c) := by
  have HC : Hid (Zds w c cs) := h;have HOn : Hid (Zbp cs) := h.ones;obtain ⟨sv, iv, jv, xs, ys, uv, pv, ev, bv, rs, zs, hl, q0, q1, q2, q3, q4, q17, q18, q19, q20, q21, q22, q23, q24, -, qk, -, hS, hI, hJ, hX, hY, hU, hP, hE, -, -, -⟩ := h.open;have HL38 : Hid (cs.length = 38) := hl;have HS : Hid (Bs w sv c.serial) := hS;have HI : Hid (Zb3 w iv c.issuer) := hI;have HJ : Hid (Zb3 w jv c.subject) := hJ;have HU : Hid (Zgo w uv c.uses) := hU;have HP : Hid (ZcY w pv c.permit) := hP;have HE : Hid (ZcY w ev c.exclude) := hE;have HX : Hid (U6 xs c.kx ∧ U6 ys c.ky) := ⟨hX, hY⟩;have HQk : Hid _ := qk;obtain ⟨wS, wI, wJ, wF, wT, wPa, wUs, wUses, wPer, wExc, -⟩ := wf;have HWf : Hid _ := wUses;have HWN : Hid (∀ n ∈ [c.issuer, c.subject] ++ c.permit ++ c.exclude, WfN n) := fun n hn => by
    simp only[List.mem_append, List.mem_cons, List.not_mem_nil, or_false] at hn;rcases hn with ((rfl | rfl) | hn) | hn
    · exact wI
    · exact wJ
    · exact wPer n hn
    · exact wExc n hn
  clear wI wJ wPer wExc wUses hS hI hJ hX hY qk h;obtain ⟨sa, sc, rfl, -, -, -⟩ := id HS.out;obtain ⟨ia, ic, rfl, -, -, -⟩ := id HI.out;obtain ⟨ja, jc, rfl, -, -, -⟩ := id HJ.out;obtain ⟨ua, uc, rfl, -, -, -⟩ := hU;obtain ⟨pa, pc, rfl, -, -, -⟩ := hP;obtain ⟨ea, ec, rfl, -, -, -⟩ := hE;obtain ⟨SL, hSL⟩ : ∃ z, c.serial.length = z := ⟨_, rfl⟩;have HSL : Hid (c.serial.length = SL) := hSL;obtain ⟨IL, hIL⟩ : ∃ z, c.issuer.length = z := ⟨_, rfl⟩;have HIL : Hid (c.issuer.length = IL) := hIL;obtain ⟨JL, hJL⟩ : ∃ z, c.subject.length = z := ⟨_, rfl⟩;have HJL : Hid (c.subject.length = JL) := hJL;obtain ⟨UL, hUL⟩ : ∃ z, c.uses.length = z := ⟨_, rfl⟩;have HUL : Hid (c.uses.length = UL) := hUL;obtain ⟨PL, hPL⟩ : ∃ z, c.permit.length = z := ⟨_, rfl⟩;have HPL : Hid (c.permit.length = PL) := hPL;obtain ⟨EL, hEL⟩ : ∃ z, c.exclude.length = z := ⟨_, rfl⟩;have HEL : Hid (c.exclude.length = EL) := hEL;rw[hSL] at q0 HS;rw[hIL] at q1 HI;rw[hJL] at q2 HJ;rw[hUL] at q21 HU sm;rw[hPL] at q22 HP sm;rw[hEL] at q23 HE sm;clear hSL hIL hJL hUL hPL hEL hl;have HSm : Hid (UL<100 ∧ PL<100 ∧ EL<100) := sm;clear sm;obtain ⟨pth, hpth⟩ : ∃ z, c.path = z := ⟨_, rfl⟩;have Hpth : Hid (c.path = pth) := hpth;obtain ⟨usg, husg⟩ : ∃ z, c.usage = z := ⟨_, rfl⟩;have Husg : Hid (c.usage = usg) := husg;obtain ⟨frm, hfrm⟩ : ∃ z, c.frm = z := ⟨_, rfl⟩;have Hfrm : Hid (c.frm = frm) := hfrm;obtain ⟨til, htil⟩ : ∃ z, c.til = z := ⟨_, rfl⟩;have Htil : Hid (c.til = til) := htil;obtain ⟨od, hod⟩ : ∃ z, c.odd = z := ⟨_, rfl⟩;have Hod : Hid (c.odd = od) := hod;obtain ⟨cb, hcb⟩ : ∃ z, c.ca = z := ⟨_, rfl⟩;have Hcb : Hid (c.ca = cb) := hcb;obtain ⟨kb, hkb⟩ : ∃ z, c.kn = z := ⟨_, rfl⟩;have Hkb : Hid (c.kn = kb) := hkb;rw[hpth] at q19 wPa;rw[husg] at q20 wUs;rw[hfrm] at q3 wF;rw[htil] at q4 wT;rw[hod] at q24;rw[hcb] at q18;rw[hkb] at q17;clear hpth husg hfrm htil hod hcb hkb;have B0 := Blk.new w cs 35 w.heap.size rfl;have bel:=bal w (.cells cs.toArray 35);go_enter Tryz.func22, Tryz.ntmps22;go_upto_region 1 with fail;generalize w.alloc (.cells cs.toArray 35) = W at *;go_cut [70] (fun v wx => ∃ bb : Bool, v = .bool bb ∧ Hid (bb = false ↔ Zdt c) ∧ Hid (wx = W))
  case first =>
    have e18 := B0.cell 18 _ q18;have e19 := B0.cell 19 _ q19;have e20 := B0.cell 20 _ q20;have e21 := B0.cell 21 _ q21;have e22 := B0.cell 22 _ q22;have e23 := B0.cell 23 _ q23;have e24 := B0.cell 24 _ q24;have l0 := B0.lt
    cases od with
    | true =>
      have H : Hid (¬ Zdt c) := fun h => (by have := h.1; rw[Hod.out] at this; cases this);go_wp2_with fail;go_meet;exact ⟨true, rfl, ⟨fun h => (by cases h), fun h => absurd h H.out⟩, rfl⟩
    | false =>
    by_cases hq : pth < -1
    · have H : Hid (¬ Zdt c) := fun h => h.2.1 (by rw[Hpth.out]; exact hq)
      go_wp2_with fail;go_meet;exact ⟨true, rfl, ⟨fun h => (by cases h), fun h => absurd h H.out⟩, rfl⟩
    have c1 : ¬ pth < -1 := hq;clear hq
    by_cases hq : -1<pth ∧ cb = false
    · obtain ⟨hq, rfl⟩ := hq
      have H : Hid (¬ Zdt c) := fun h => (h.2.2.1) ⟨by rw[Hpth.out]; exact hq, Hcb.out⟩;go_wp2_with fail;go_meet;exact ⟨true, rfl, ⟨fun h => (by cases h), fun h => absurd h H.out⟩, rfl⟩
    have HPC : Hid (¬ (-1<pth ∧ cb = false)) := hq;clear hq;have hpc : (¬ -1<pth) ∨ (-1<pth ∧ cb = true) := by
      by_cases h1 : -1<pth
      · cases cb with
        | true => exact .inr ⟨h1, rfl⟩
        | false => exact absurd ⟨h1, rfl⟩ HPC.out
      · exact .inl h1
    rcases hpc with hp1 | ⟨hp1, rfl⟩
    all_goals
      by_cases hq : 2147483647<pth
      · first
        | omega
        | (have H : Hid (¬ Zdt c) := fun h => (h.2.2.2.1) (by rw[Hpth.out]; exact hq)
           go_wp2_with fail;go_meet;exact ⟨true, rfl, ⟨fun h => (by cases h), fun h => absurd h H.out⟩, rfl⟩)
      have c3 : ¬ 2147483647<pth := hq;clear hq
      by_cases hq : usg = 0
      · have d1 : (usg == 0) = true := by rw[hq]; rfl
        have H : Hid (¬ Zdt c) := fun h => (h.2.2.2.2.1) (by rw[Husg.out]; exact hq);go_wp2_with fail;go_meet;exact ⟨true, rfl, ⟨fun h => (by cases h), fun h => absurd h H.out⟩, rfl⟩
      have d4 : (usg == 0) = false := by rw[beq_eq_false_iff_ne]; exact hq
      have HQ4 : Hid (¬ usg = 0) := hq;clear hq
      by_cases hq : usg < -1
      · have H : Hid (¬ Zdt c) := fun h => (h.2.2.2.2.2.1) (by rw[Husg.out]; exact hq)
        go_wp2_with fail;go_meet;exact ⟨true, rfl, ⟨fun h => (by cases h), fun h => absurd h H.out⟩, rfl⟩
      have c5 : ¬ usg < -1 := hq;clear hq
      by_cases hq : 65535<usg
      · have H : Hid (¬ Zdt c) := fun h => (h.2.2.2.2.2.2.1) (by rw[Husg.out]; exact hq)
        go_wp2_with fail;go_meet;exact ⟨true, rfl, ⟨fun h => (by cases h), fun h => absurd h H.out⟩, rfl⟩
      have c6 : ¬ 65535<usg := hq;clear hq
      by_cases hq : 8<UL
      · have d7 : (8 : Int)<(UL : Int) := by omega
        have H : Hid (¬ Zdt c) := fun h => absurd (h.2.2.2.2.2.2.2.1) (by rw[HUL.out]; omega);go_wp2_with fail;go_meet;exact ⟨true, rfl, ⟨fun h => (by cases h), fun h => absurd h H.out⟩, rfl⟩
      have c7 : ¬ (8 : Int)<(UL : Int) := by omega
      have HQ7 : Hid (UL ≤ 8) := by show _ ≤ _; omega
      clear hq
      by_cases hq : 8<PL
      · have d8 : (8 : Int)<(PL : Int) := by omega
        have H : Hid (¬ Zdt c) := fun h => absurd (h.2.2.2.2.2.2.2.2.1) (by rw[HPL.out]; omega);go_wp2_with fail;go_meet;exact ⟨true, rfl, ⟨fun h => (by cases h), fun h => absurd h H.out⟩, rfl⟩
      have c8 : ¬ (8 : Int)<(PL : Int) := by omega
      have HQ8 : Hid (PL ≤ 8) := by show _ ≤ _; omega
      clear hq
      by_cases hq : 8<EL
      · have d9 : (8 : Int)<(EL : Int) := by omega
        have H : Hid (¬ Zdt c) := fun h => absurd (h.2.2.2.2.2.2.2.2.2) (by rw[HEL.out]; omega);go_wp2_with fail;go_meet;exact ⟨true, rfl, ⟨fun h => (by cases h), fun h => absurd h H.out⟩, rfl⟩
      have c9 : ¬ (8 : Int)<(EL : Int) := by omega
      have HQ9 : Hid (EL ≤ 8) := by show _ ≤ _; omega
      clear hq;have H : Hid (Zdt c) := ⟨Hod.out, by rw[Hpth.out]; exact c1, by rw[Hpth.out, Hcb.out]; exact HPC.out, by rw[Hpth.out]; exact c3, by rw[Husg.out]; exact HQ4.out, by rw[Husg.out]; exact c5, by rw[Husg.out]; exact c6, by rw[HUL.out]; exact HQ7.out, by rw[HPL.out]; exact HQ8.out, by rw[HEL.out]; exact HQ9.out⟩;go_wp2_with fail;go_meet;exact ⟨false, rfl, ⟨fun _ => H.out, fun _ => rfl⟩, rfl⟩
  case rest =>
    obtain⟨bb, rfl, HBB, HW⟩ := hcut;obtain rfl := HW.out
    cases bb with
    | true =>
      have H : Hid (¬ Zcn c) := fun h => by have := HBB.out.2 h.head; cases this
      go_wp2_with fail;go_ret;exact Zh1.no H.out bel
    | false =>
      have HHd : Hid (Zdt c) := HBB.out.1 rfl;clear HBB HW;obtain ⟨sm1, sm2, sm3⟩ := HSm.out;go_wp2_with fail;go_loopw [3] (fun iv wx => ∃ i : Nat, i ≤ UL ∧ iv = .int .i64 (i : Int) ∧ Hid (∀ l ∈ c.uses.take i, ∃ b, ZaD l = .ok b) ∧ Blk wx w.heap.size cs ∧ Below w.heap.size w wx) (fun iv _ => UL-(intOf iv).toNat)
      case atStart => exact ⟨0, by omega, rfl, fun l hl => by simp at hl, B0, bel⟩
      case round =>
        clear B0 bel;obtain ⟨i, hi, rfl, HA, B0, bel⟩ := hrel;have e21 := B0.cell 21 _ q21;have l0 := B0.lt
        by_cases hil : i<UL
        · have g1 : (i : Int)<(UL : Int) := by omega
          have g2 : (0 : Int) ≤ (i : Int) := by omega
          have gi : IntKind.i64.wrap ((i : Int)+1) = (i : Int)+1 := by rw[IntKind.wrap_i64]; omega
          obtain⟨l, hln⟩ : ∃ l, c.uses[i]? = some l := ⟨_, List.getElem?_eq_getElem (by rw[HUL.out]; exact hil)⟩;obtain ⟨ao, cap, ev9, -, -, h3⟩ := HU.out.later bel;obtain ⟨b1, o1, ea9, l1, hc⟩ := h3 (by rw[HUL.out]; omega);simp only[Value.slice.injEq] at ev9;obtain ⟨rfl, -, -⟩ := ev9;subst ea9;obtain ⟨u, x0, hus⟩ := hc i l hln;have HUs : Hid (Us wr u l) := hus;obtain ⟨la, lc, rfl, -, -, -⟩ := hus;have HWl : Hid (wrd l) := HWf.out l (List.mem_of_getElem? hln);have HLn : Hid (c.uses[i]? = some l) := hln;obtain ⟨LL, hLL⟩ : ∃ z, l.length = z := ⟨_, rfl⟩;rw[hLL] at HUs x0;clear h3 hc hln hLL;go_wp2_with fail;refine (Zk9 HUs.out HWl.out).mono ?_;rintro e w1 ⟨hok, hbad⟩
          cases ho : ZaD l with
          | error cc =>
            obtain⟨rfl, hb⟩ := hbad cc ho;have H : Hid (¬ Zcn c) := fun h => by
              obtain⟨b9, h9⟩ := h.2.2.2.2.2.2.2.2.2.2.1 l (List.mem_of_getElem? HLn.out);rw[ho] at h9; cases h9
            have hcc : ¬ (cc : Int) = 0 := by have := ZkT ho; omega
            have d1 : ((cc : Int) == 0) = false := by rw[beq_eq_false_iff_ne]; exact hcc
            have d2 : ((cc : Int) != 0) = true := by rw[bne, d1]; rfl
            replace bel := Zaa bel hb;clear hok hbad ho hcc;go_wp2_with fail;go_ret;exact Zh1.no H.out bel
          | ok ob =>
            obtain⟨v1, rfl, -, hb⟩ := hok ob ho;have HA2 : Hid (∀ l ∈ c.uses.take (i+1), ∃ b, ZaD l = .ok b) := Zgs HA.out HLn.out ⟨ob, ho⟩;replace B0 := B0.later hb;replace bel := Zaa bel hb;clear hok hbad ho hb;go_wp2_with fail;go_roundw
            case rel => exact ⟨i+1, by omega, by go_num, HA2, B0, bel⟩
            case measure => simp[intOf]; omega
        · have g1 : ¬ (i : Int)<(UL : Int) := by omega
          have HUo : Hid (∀ l ∈ c.uses, ∃ b, ZaD l = .ok b) := Zgr HA.out (by rw[HUL.out]; omega);clear HA;generalize wr = w2 at *;obtain ⟨N0, hN0⟩ : ∃ n, n = w2.heap.size := ⟨_, rfl⟩;have lN : w.heap.size<N0 := by rw[hN0]; exact l0
          have e1 := B0.cell 1 _ q1;have e2 := B0.cell 2 _ q2;have e22 := B0.cell 22 _ q22;obtain ⟨ps, hps, hpv, hpp⟩ := (HP.out.later bel).vals;obtain ⟨es, hes, hev, hep⟩ := (HE.out.later bel).vals;have HPs : Hid (ps.length = PL) := by show _ = _; rw[hps, HPL.out]
          have HEs : Hid (es.length = EL) := by show _ = _; rw[hes, HEL.out]
          have HPv : Hid (ZiT w2 (.slice pa PL pc) ps) := hpv;have HEv : Hid (ZiT w2 (.slice ea EL ec) es) := hev;have HIv : Hid (Zb3 w2 (.slice ia IL ic) c.issuer) := HI.out.later bel;have HJv : Hid (Zb3 w2 (.slice ja JL jc) c.subject) := HJ.out.later bel;have HNs : Hid (∀ i n y, ([c.issuer, c.subject] ++ c.permit ++ c.exclude)[i]? = some n → ([Value.slice ia IL ic, .slice ja JL jc] ++ ps ++ es)[i]? = some y → Zb3 w2 y n) := ZkN HIv.out HJv.out hps hpp hep;have HPo : Hid (∀ y ∈ ps, y.oneCell' = true) := ZkW hps hpp;have HEo : Hid (∀ y ∈ es, y.oneCell' = true) := ZkW hes hep;clear hps hpv hpp hes hev hep;obtain ⟨jn, hjn, hn0, hn1, hn2⟩ := Zap Zkw;have HF : Hid _ := Zmy (u := .slice ia IL ic) (v := .slice ja JL jc) ⟨_, _, _, rfl⟩ ⟨_, _, _, rfl⟩;have own0 : (w2.alloc (.cells #[.slice ia IL ic, .slice ja JL jc] 24)).ownsRow N0 24 1 (.slice (some ⟨w2.heap.size, 0, none⟩) 2 2) 2 [.slice ia IL ic, .slice ja JL jc] := Zax w2 [.slice ia IL ic, .slice ja JL jc] 24 2 N0 rfl (by omega) (by decide);have st:=bal w2 (.cells #[.slice ia IL ic, .slice ja JL jc] 24);have HPv2 : Hid (ZiT (w2.alloc (.cells #[.slice ia IL ic, .slice ja JL jc] 24)) (.slice pa PL pc) ps) := HPv.out.later st;replace B0 := B0.later st;replace bel := Zaa bel st;have hzn : ∀ w : World, (zeroValue 24).run Tryz.prog w = .ok (.slice none 0 0) w := fun w => by kernel_rfl
          go_upto_region 10 with (first | ((with_reducible show wpList _ _ _ ({ dst := _, op := .buildSlice _ _ _, type := _, pos := _, after := _, guard := _ } :: _) _ _); refine Go.wpList_buildSlice rfl 31 24 2 _ rfl #[.slice ia IL ic, .slice ja JL jc] jn _ Tryz.underlying31 hjn hn0 (by rw[hn1]; decide) (by rw[hn1]; decide) (by rw[hn1]; refine (congrArg _ (?_ : _ = [(0, Value.slice ia IL ic), (1, .slice ja JL jc)])).trans HF.out; kernel_rfl) ?_; have e22b := B0.cell 22 _ q22; have l0b := B0.lt) | (at_builtin; refine ZcH (by rfl) _ _ (by rfl) N0 _ 2 _ (by rfl) own0 _ ps (by rfl) HPv2.out HPo.out (by rw[HPs.out]; omega) (by rw[hN0]; exact st.size) ?_; intro v3 w3 own3 hgrow3) | fail);have hsz := st.size;have hszb := bel.size;replace B0 := B0.grown hgrow3 (fun k hk e => by have := (Zat own0 hk).1; omega);replace bel := Below.grown bel hgrow3 hszb (fun k hk => by have := (Zat own0 hk).1; omega);replace st := Below.grown st hgrow3 hsz (fun k hk => by have := (Zat own0 hk).1; omega);obtain ⟨a3, k3, hv3, -⟩ := Zf7 own3;rw[HPs.out] at own3 hv3;subst hv3;clear hgrow3 own0 HPv2 HF hsz hszb e1 e2 e22 e21 l0 hzn;have HEv2 : Hid (ZiT w3 (.slice ea EL ec) es) := HEv.out.later st;have e23 := B0.cell 23 _ q23;have l0 := B0.lt;have hsz := st.size;have hszb := bel.size;go_upto_region 11 with (first | (at_builtin; refine ZcH (by rfl) _ _ (by rfl) N0 _ (2+PL) _ (by rfl) own3 _ es (by rfl) HEv2.out HEo.out (by rw[HEs.out]; omega) (by rw[hN0]; exact st.size) ?_; intro v4 w4 own4 hgrow4) | fail);replace B0 := B0.grown hgrow4 (fun k hk e => by have := (Zat own3 hk).1; omega);replace bel := Below.grown bel hgrow4 hszb (fun k hk => by have := (Zat own3 hk).1; omega);replace st := Below.grown st hgrow4 hsz (fun k hk => by have := (Zat own3 hk).1; omega);obtain ⟨a4, k4, hv4, -⟩ := Zf7 own4;rw[HEs.out] at own4 hv4;subst hv4;obtain ⟨T, hT⟩ : ∃ T, 2+PL+EL = T := ⟨_, rfl⟩;rw[hT] at own4 ⊢;have HVs : Hid (ZiT w4 (.slice a4 T k4) ([.slice ia IL ic, .slice ja JL jc] ++ ps ++ es)) := ZiT.of_own own4;have HTl : Hid (([Value.slice ia IL ic, .slice ja JL jc] ++ ps ++ es).length = T) := by show _ = _; rw[List.length_append, List.length_append, HPs.out, HEs.out]; exact hT
          have HNl : Hid (([c.issuer, c.subject] ++ c.permit ++ c.exclude).length = T) := by show _ = _; rw[List.length_append, List.length_append, HPL.out, HEL.out]; exact hT
          have hT9 : T<300 := by omega
          have HNs4 : Hid (∀ (i : Nat) (n : List Pn) (y : Value), ([c.issuer, c.subject] ++ c.permit ++ c.exclude)[i]? = some n → ([Value.slice ia IL ic, .slice ja JL jc] ++ ps ++ es)[i]? = some y → Zb3 w4 y n) := fun i n y h1 h2 => (HNs.out i n y h1 h2).later st;obtain ⟨Ns, hNs⟩ : ∃ z, [c.issuer, c.subject] ++ c.permit ++ c.exclude = z := ⟨_, rfl⟩;obtain ⟨Vs, hVs⟩ : ∃ z, [Value.slice ia IL ic, .slice ja JL jc] ++ ps ++ es = z := ⟨_, rfl⟩;have HNN : Hid ([c.issuer, c.subject] ++ c.permit ++ c.exclude = Ns) := hNs;rw[hVs] at HVs HTl HNs4;rw[hNs] at HNl HNs4 HWN;clear hgrow4 own3 own4 HEv2 hsz hszb e23 l0 hT hNs hVs HNs st HPv HEv HPs HEs HPo HEo HIv HJv;have st4 : Below w4.heap.size w4 w4 := Below.refl _ _;go_wp2_with fail;go_loopw [7] (fun iv wx => ∃ i : Nat, i ≤ T ∧ iv = .int .i64 (i : Int) ∧ Hid (∀ n ∈ Ns.take i, Zcl n = true) ∧ Blk wx w.heap.size cs ∧ Below w.heap.size w wx ∧ Below w4.heap.size w4 wx) (fun iv _ => T-(intOf iv).toNat)
          case atStart => exact ⟨0, by omega, rfl, fun l hl => by simp at hl, B0, bel, st4⟩
          case round =>
            clear B0 bel st4;obtain ⟨i, hi, rfl, HA, B0, bel, st4⟩ := hrel
            by_cases hil : i<T
            · have g1 : (i : Int)<(T : Int) := by omega
              have g2 : (0 : Int) ≤ (i : Int) := by omega
              have gi : IntKind.i64.wrap ((i : Int)+1) = (i : Int)+1 := by rw[IntKind.wrap_i64]; omega
              obtain⟨n, hnn⟩ : ∃ n, Ns[i]? = some n := ⟨_, List.getElem?_eq_getElem (by rw[HNl.out]; exact hil)⟩;obtain ⟨y, hyy⟩ : ∃ y, Vs[i]? = some y := ⟨_, List.getElem?_eq_getElem (by rw[HTl.out]; exact hil)⟩;obtain ⟨ao, cap, ev9, -, -, h3⟩ := HVs.out.later st4;obtain ⟨b1, o1, ea9, l1, hc⟩ := h3 (by rw[HTl.out]; omega);simp only[Value.slice.injEq] at ev9;obtain ⟨rfl, -, -⟩ := ev9;subst ea9;have x0 := hc i y hyy;have HNy : Hid (Zb3 wr y n) := (HNs4.out i n y hnn hyy).later st4;obtain ⟨na, nc, rfl, -, -, -⟩ := id HNy.out;have HWn : Hid (WfN n) := HWN.out n (List.mem_of_getElem? hnn);have HNn : Hid (Ns[i]? = some n) := hnn;obtain ⟨nL, hnL⟩ : ∃ z, n.length = z := ⟨_, rfl⟩;rw[hnL] at HNy x0;clear h3 hc hnn hyy hnL;go_wp2_with fail;refine (ZoP HNy.out HWn.out).mono ?_;rintro e w5 ⟨rfl, hb⟩;replace B0 := B0.later hb;replace bel := Zaa bel hb;replace st4 := Zaa st4 hb;clear hb
              cases hmy : Zcl n with
              | false =>
                have H : Hid (¬ Zcn c) := fun h => by
                  have h9 := h.2.2.2.2.2.2.2.2.2.2.2.1 n (by rw[HNN.out]; exact List.mem_of_getElem? HNn.out);rw[hmy] at h9; cases h9
                clear hmy;go_wp2_with fail;go_ret;exact Zh1.no H.out bel
              | true =>
                have HA2 : Hid (∀ n ∈ Ns.take (i+1), Zcl n = true) := Zgs HA.out HNn.out hmy;clear hmy;go_wp2_with fail;go_roundw
                case rel => exact ⟨i+1, by omega, by go_num, HA2, B0, bel, st4⟩
                case measure => simp[intOf]; omega
            · have g1 : ¬ (i : Int)<(T : Int) := by omega
              have HNo : Hid (∀ n ∈ [c.issuer, c.subject] ++ c.permit ++ c.exclude, Zcl n = true) := by rw[HNN.out]; exact Zgr HA.out (by rw[HNl.out]; omega)
              clear HA HVs HNs4 HNN HTl HNl st4;generalize wr = w6 at *;have e0 := B0.cell 0 _ q0;have l0 := B0.lt;go_wp2_with fail;refine (ZcG (HS.out.later bel) wS).mono ?_;rintro e w79 he;obtain ⟨ds, b1, rfl, hd5, hd1, hdi, -, hb⟩ := ZcB he;have HBb1 : Hid (b1 = true ↔ ∃ T, Zd0 c.serial = some T) := hdi;have HD5 : Hid (ds.length = 5) := hd5;have HS5 : Hid (ds.toArray.size = 5) := by show _ = _; rw[List.size_toArray]; exact hd5
              have HO5 : Hid (Zbp ds) := hd1;replace B0 := B0.later hb;replace bel := Zaa bel hb;clear he hd5 hd1 hdi hb e0 l0;have hz := Zad.out;replace B0 := B0.alloc (.cells ds.toArray 57);replace bel := Zaf (o := .cells ds.toArray 57) bel;go_upto_region 18 with (first | ((with_reducible show wpList _ _ _ ({ dst := _, op := .store _ _ _, type := _, pos := _, after := _, guard := _ } :: _) _ _); refine wpList_store_row rfl 57 _ _ rfl w79.heap.size ds.toArray rfl rfl 57 _ (heap_alloc_last _ _) (by rw[Zab, HS5.out]) (by rw[HS5.out]; rfl) HO5.out ?_; rw[World.setRow_alloc_new]) | fail);clear hz HD5 HS5 HO5;generalize w79.alloc (.cells ds.toArray 57) = w7 at *;have e3 := B0.cell 3 _ q3;have l0 := B0.lt;go_wp2_with fail;refine (ZbK (by omega)).mono ?_;rintro e w89 he;obtain ⟨ds, b2, rfl, hd5, hd1, hdi, -, hb⟩ := ZcB he;have HBb2 : Hid (b2 = true ↔ ∃ T, ZcI frm = some T) := hdi;have HD5 : Hid (ds.length = 5) := hd5;have HS5 : Hid (ds.toArray.size = 5) := by show _ = _; rw[List.size_toArray]; exact hd5
              have HO5 : Hid (Zbp ds) := hd1;replace B0 := B0.later hb;replace bel := Zaa bel hb;clear he hd5 hd1 hdi hb e3 l0;have hz := Zad.out;replace B0 := B0.alloc (.cells ds.toArray 57);replace bel := Zaf (o := .cells ds.toArray 57) bel;go_upto_region 19 with (first | ((with_reducible show wpList _ _ _ ({ dst := _, op := .store _ _ _, type := _, pos := _, after := _, guard := _ } :: _) _ _); refine wpList_store_row rfl 57 _ _ rfl w89.heap.size ds.toArray rfl rfl 57 _ (heap_alloc_last _ _) (by rw[Zab, HS5.out]) (by rw[HS5.out]; rfl) HO5.out ?_; rw[World.setRow_alloc_new]) | fail);clear hz HD5 HS5 HO5;generalize w89.alloc (.cells ds.toArray 57) = w8 at *;have e4 := B0.cell 4 _ q4;have l0 := B0.lt;go_wp2_with fail;refine (ZbK (by omega)).mono ?_;rintro e w99 he;obtain ⟨ds, b3, rfl, hd5, hd1, hdi, -, hb⟩ := ZcB he;have HBb3 : Hid (b3 = true ↔ ∃ T, ZcI til = some T) := hdi;have HD5 : Hid (ds.length = 5) := hd5;have HS5 : Hid (ds.toArray.size = 5) := by show _ = _; rw[List.size_toArray]; exact hd5
              have HO5 : Hid (Zbp ds) := hd1;replace B0 := B0.later hb;replace bel := Zaa bel hb;clear he hd5 hd1 hdi hb e4 l0;have hz := Zad.out;replace B0 := B0.alloc (.cells ds.toArray 57);replace bel := Zaf (o := .cells ds.toArray 57) bel;go_upto_region 20 with (first | ((with_reducible show wpList _ _ _ ({ dst := _, op := .store _ _ _, type := _, pos := _, after := _, guard := _ } :: _) _ _); refine wpList_store_row rfl 57 _ _ rfl w99.heap.size ds.toArray rfl rfl 57 _ (heap_alloc_last _ _) (by rw[Zab, HS5.out]) (by rw[HS5.out]; rfl) HO5.out ?_; rw[World.setRow_alloc_new]) | fail);clear hz HD5 HS5 HO5;generalize w99.alloc (.cells ds.toArray 57) = w9 at *;obtain ⟨x0, x1, x2, x3, x4, x5, hxs, fX, vX⟩ := HX.out.1;obtain ⟨y0, y1, y2, y3, y4, y5, hys, fY, vY⟩ := HX.out.2;have hkey : (loadVar 29 ⟨w.heap.size, 5, none⟩).run Tryz.prog w9 = .ok (.agg #[.int .u64 x0, .int .u64 x1, .int .u64 x2, .int .u64 x3, .int .u64 x4, .int .u64 x5, .int .u64 y0, .int .u64 y1, .int .u64 y2, .int .u64 y3, .int .u64 y4, .int .u64 y5, .bool kb]) w9 := Zb8 (n := 13) (F := [.int .u64 x0, .int .u64 x1, .int .u64 x2, .int .u64 x3, .int .u64 x4, .int .u64 x5, .int .u64 y0, .int .u64 y1, .int .u64 y2, .int .u64 y3, .int .u64 y4, .int .u64 y5, .bool kb]) (fun j v hv => B0.cell _ _ (HQk.out j v (by rw[hxs, hys, Hkb.out]; exact hv))) rfl Tryz.underlying29 rfl ZiE;obtain ⟨b4, hb4⟩ : ∃ b : Bool, b = true ↔ Zd5 kb (v64 [x0, x1, x2, x3, x4, x5]) (v64 [y0, y1, y2, y3, y4, y5]) := ⟨decide (Zd5 kb (v64 [x0, x1, x2, x3, x4, x5]) (v64 [y0, y1, y2, y3, y4, y5])), by simp⟩;have HB4 : Hid (b4 = true ↔ Zd5 kb c.kx c.ky) := by rw[← vX, ← vY]; exact hb4
              have l0 := B0.lt;clear hxs hys vX vY;go_wp2_with (first | ((with_reducible show wpList _ _ _ ({ dst := _, op := .load _ _, type := _, pos := _, after := _, guard := _ } :: _) _ _); refine Zae (by rfl) (by rfl) (by rfl) hkey ?_) | fail);refine (r5_On fX fY hb4).mono ?_;rintro e wa ⟨rfl, hb⟩;replace B0 := B0.later hb;replace bel := Zaa bel hb;clear hb hkey hb4 fX fY l0;have e17 := B0.cell 17 _ q17;have l0 := B0.lt
              cases b1 with
              | false =>
                have H : Hid (¬ Zcn c) := fun h => by have := HBb1.out.2 (h.2.2.2.2.2.2.2.2.2.2.2.2.1); cases this
                go_wp2_with fail;go_ret;exact Zh1.no H.out bel
              | true =>
              cases b2 with
              | false =>
                have H : Hid (¬ Zcn c) := fun h => by have := HBb2.out.2 (by rw[← Hfrm.out]; exact h.2.2.2.2.2.2.2.2.2.2.2.2.2.1); cases this
                go_wp2_with fail;go_ret;exact Zh1.no H.out bel
              | true =>
              cases b3 with
              | false =>
                have H : Hid (¬ Zcn c) := fun h => by have := HBb3.out.2 (by rw[← Htil.out]; exact h.2.2.2.2.2.2.2.2.2.2.2.2.2.2.1); cases this
                go_wp2_with fail;go_ret;exact Zh1.no H.out bel
              | true =>
              cases b4 with
              | false =>
                have H : Hid (¬ Zcn c) := fun h => by have := HB4.out.2 (by rw[← Hkb.out]; exact h.2.2.2.2.2.2.2.2.2.2.2.2.2.2.2.1); cases this
                go_wp2_with fail;go_ret;exact Zh1.no H.out bel
              | true =>
              cases kb with
              | true =>
                have H : Hid (¬ Zcn c) := fun h => by have := h.2.2.2.2.2.2.2.2.2.2.2.2.2.2.2.2; rw[Hkb.out] at this; cases this
                go_wp2_with fail;go_ret;exact Zh1.no H.out bel
              | false =>
                have H : Hid (Zcn c) := HHd.out.may HUo.out HNo.out (HBb1.out.1 rfl) (by rw[Hfrm.out]; exact HBb2.out.1 rfl) (by rw[Htil.out]; exact HBb3.out.1 rfl) (by rw[Hkb.out]; exact HB4.out.1 rfl) Hkb.out;go_wp2_with fail;go_ret;exact Zh1.yes H.out bel
end Go.Proofs.YtdfmoghjimghhaaGreatDoor
