import Derived.Test.YtohcdbifhnfcbaaGreatDoorRefA
import Derived.Test.YtohcdbifhnfcbaaGreatDoorEdDecG
import Derived.Test.YtohcdbifhnfcbaaGreatDoorCtSize
import Derived.Test.YtohcdbifhnfcbaaGreatDoorPmNG
import Derived.Test.YtohcdbifhnfcbaaGreatDoorDrDG
import Derived.Test.YtohcdbifhnfcbaaGreatDoorNlSG
import Derived.Test.YtohcdbifhnfcbaaGreatDoorKrRg
import Derived.Test.YtohcdbifhnfcbaaGreatDoorPmNumO
import Derived.Test.YtohcdbifhnfcbaaGreatDoorKdBody0
import Derived.Test.YtohcdbifhnfcbaaGreatDoorDrTG
import Derived.Test.YtohcdbifhnfcbaaGreatDoorRows
import Derived.Laws.BytesArg
import Derived.Deep.AppendLies
import Derived.Deep.OwnRows
import Derived.Great.BuildSlice
import Derived.Laws.Rows
import Derived.BigQuiet
import Derived.Deep.WholeRow
import Derived.Deep.RegionHeld3
import Derived.Deep.DeepCutAuto
import Derived.Deep.DeepFit
namespace Go.Proofs.YtohcdbifhnfcbaaGreatDoor
open Go.RowKit
set_option linter.unusedSimpArgs false
set_option maxRecDepth 100000
set_option maxHeartbeats 2000000
def ZbS (D:List Int):List Int:=(List.range 48).map fun i=>D.getD ((47-i)/4) 0/256 ^ ((47-i)%4)%256
theorem Zcw (D:List Int):(ZbS D).length=48:=by simp[ZbS]
theorem Zd0 (D:List Int) (i:Nat) (h:i<48):(ZbS D).getD i 0=D.getD ((47-i)/4) 0/256 ^ ((47-i)%4)%256:=by
 rw[List.getD_eq_getElem?_getD,ZbS,List.getElem?_map,List.getElem?_range h]
 rfl
theorem Zik (D:List Int):byt (ZbS D):=by
 apply Zls;intro j hj;rw[Zcw] at hj;rw[Zd0 D j hj];omega
theorem Zil (D:List Int) (lD:D.length≤12) (dD:dig D):beN (ZbS D)=v32 D:=by
 have hl:(ZbS D).reverse.length=48:=by rw[List.length_reverse,Zcw]
 have hR:∀ t,t<(ZbS D).reverse.length→(ZbS D).reverse.getD t 0=D.getD (t/4) 0/256 ^ (t%4)%256:=by
  intro t ht;rw[hl] at ht;have e:=ZiM (ZbS D) (47-t) (by rw[Zcw];omega);rw[Zcw,show 48-1-(47-t)=t by omega] at e;rw[e,Zd0 D _ (by omega),show 47-(47-t)=t by omega]
 have e1:(256:Int) ^ 4=4294967296:=by decide
 have h:=spread 4 (by decide) D (ZbS D).reverse (fun j=>by rw[e1];exact dD j) hR 12 (by rw[hl];decide);rw[List.take_of_length_le (by rw[hl];decide),List.take_of_length_le (by omega),e1] at h;exact h
theorem Zra (d:Int) (j:Nat):d/256 ^ j/256=d/256 ^ (j+1):=by
 rw[Int.pow_succ,Int.ediv_ediv_of_nonneg (Int.le_of_lt (Int.pow_pos (by decide)))]
theorem Zk3 (d:Int) (j:Nat) (h0:0≤d) (h1:d<4294967296):0≤d/256 ^ j∧d/256 ^ j<4294967296:=by
 have hp:(0:Int)<256 ^ j:=Int.pow_pos (by decide);exact ⟨Int.ediv_nonneg h0 (Int.le_of_lt hp),Int.lt_of_le_of_lt (Int.ediv_le_self _ h0) h1⟩
theorem Zgt (v:Value) (N:Int) (w:World) (hv:Zcr w v N) (hN:N<4294967296 ^ 12) :
  Calls Tryz.prog 146 #[v,.int .i64 48] w fun e w'=>∃ (g:Nat) (X:List Int),e=.returned (.slice (some ⟨g,0,none⟩) 48 48)∧Blk w' g (u8s X)∧X.length=48∧byt X∧beN X=N∧Below w.heap.size w w':=by
 obtain⟨D,sD,dD,tD,rfl⟩:=hv;have lD:=Zrw D dD tD 12 hN;have HQ:Hid (byt (ZbS D)∧beN (ZbS D)=v32 D):=⟨Zik D,Zil D lD dD⟩;have hmk:=run_make_row' 22 5 (.int .u8 0) 1 Tryz.underlying22 ZqH rfl .i64 .i64 48 (by omega) (by omega);rw[ZqL] at hmk;have b1:=Blk.new w (u8s (List.replicate 48 0)) 5 w.heap.size rfl;have bel:=bal w (.cells (u8s (List.replicate 48 0)).toArray 5);generalize (u8s (List.replicate 48 0)).toArray=cs at hmk b1 bel;replace hmk:∀ w:World,(Instr.makeSlice 22 (.int .i64 48) (.int .i64 48)).run Tryz.prog w=.ok (.slice (some ⟨w.heap.size,0,none⟩) 48 48) (w.alloc (.cells cs 5)):=hmk;have gX:Hid (∀ i,i<48→(ZbS D).getD i 0=D.getD ((47-i)/4) 0/256 ^ ((47-i)%4)%256):=Zd0 D;have lX:=Zcw D;obtain ⟨X,hX⟩:∃ X,ZbS D=X:=⟨_,rfl⟩;obtain ⟨N,hNN⟩:∃ N,v32 D=N:=⟨_,rfl⟩;rw[hX] at gX lX HQ;rw[hNN] at HQ ⊢;clear hX hNN hN tD;obtain ⟨ao,c1,rfl,-,-,-⟩:=sD.form;obtain ⟨l,hl⟩:∃ l,D.length=l:=⟨_,rfl⟩;rw[hl] at sD ⊢;clear hl lD;go_enter Tryz.func146,Tryz.ntmps146;go_wp2;clear hmk;generalize w.alloc (.cells cs 5)=W at *;go_loopw [6] (fun iv wr=>∃ (i:Nat) (T:List Int),i≤48∧iv=.int .i64 i∧T.length=48∧Hid (∀ j,48-i≤j→j<48→T.getD j 0=X.getD j 0)∧Blk wr w.heap.size (u8s T)∧Below w.heap.size w wr)
  (fun i _=>48-(intOf i).toNat)
 case atStart=>exact ⟨0,List.replicate 48 0,by omega,rfl,by simp,fun j hj hj2=>absurd hj (by omega),b1,bel⟩
 case round =>
  obtain⟨i,T,hi,rfl,lT,hJ,hT,hbel⟩:=hrel;clear b1 bel
  by_cases hlt:i<48
  ·obtain ⟨d,hd⟩:∃ d,D.getD (i/4) 0=d:=⟨_,rfl⟩
   have bd:0≤d∧d<4294967296:=hd ▸ dD _;have gk:=gX.out (47-i) (by omega);rw[show 47-(47-i)=i by omega,hd] at gk;have GK:Hid _:=gk;have sD':=sD.later hbel;have x2:=hT.cell (47-i) _ (Zd9 T (47-i) (by omega));have fz:=hT.frozen (47-i);obtain ⟨t,ht⟩:∃ t,T.getD (47-i) 0=t:=⟨_,rfl⟩;rw[ht] at x2;have g1:(i:Int)<48:=by omega
   have g2:(0:Int)≤47-(i:Int):=by omega
   have g3:47-(i:Int)<48:=by omega
   have g4:(47-(i:Int)).toNat=47-i:=by omega
   clear ht gk;go_wp2_with fail;have AT:=at_any _ D (i/4) wr sD';have ei:((i/4:Nat):Int)=(i:Int)/4:=by omega
   rw[ei] at AT;refine AT.mono ?_;rintro e1 w' ⟨rfl,hw⟩;obtain rfl:=hw.symm;rw[hd];clear AT ei hd;go_wp2_with fail;go_loop [7,8] (fun vv jv=>∃ j:Nat,j≤i%4∧jv=.int .i64 j∧vv=.int .u64 (d/256 ^ j)) (fun _ jv=>4-(intOf jv).toNat)
   case atStart=>exact ⟨0,by omega,rfl,by simp⟩
   case round =>
    obtain⟨j,hj,rfl,rfl⟩:=hrel;have bj:=Zk3 d j bd.1 bd.2;have bj0:=bj.1;have bj1:=bj.2
    by_cases hjl:j<i%4
    ·have HZ:Hid (d/256 ^ j/256=d/256 ^ (j+1)):=Zra d j
     obtain⟨y,hy⟩:∃ y,d/256 ^ j=y:=⟨_,rfl⟩;rw[hy] at bj0 bj1 HZ ⊢;have g5:(j:Int)<(i:Int)%4:=by omega
     clear hy bj;go_wp2;go_round
     case rel=>exact ⟨j+1,by omega,by go_num,by rw[HZ.out]⟩
     case measure=>simp[intOf];omega
    ·have g5:¬ (j:Int)<(i:Int)%4:=by omega
     have hje:j=i%4:=by omega
     have GK':Hid (X.getD (47-i) 0=d/256 ^ j%256):=by rw[hje];exact GK
     obtain⟨y,hy⟩:∃ y,d/256 ^ j=y:=⟨_,rfl⟩;rw[hy] at bj0 bj1 GK' ⊢;clear hy bj hje;go_wp2;go_roundw
     case rel =>
      refine⟨i+1,T.set (47-i) (y%256),by omega,by go_num,by simpa using lT,fun q hq hq2=>?_,hT.set8 _ _,hbel.setCell (by simp) _⟩
      by_cases hjk:47-i=q
      ·subst hjk
       rw[Zbr _ _ _ (by omega),GK'.out]
      ·have e:(T.set (47-i) (y%256)).getD q 0=T.getD q 0:=by simp[List.getD_eq_getElem?_getD,hjk]
       rw[e];exact hJ.out q (by omega) hq2
     case measure=>simp[intOf];omega
  ·have h6:(48:Int)≤(i:Int):=by omega
   have hTX:T=X:=by
    apply List.ext_getElem (by omega);intro k h1 h2;have:=hJ.out k (by omega) (by omega)
    simpa [List.getD_eq_getElem?_getD,h1,h2] using this
   subst hTX;clear hJ;go_wp2;go_ret;exact ⟨_,T,rfl,hT,lX,HQ.out.1,HQ.out.2,hbel⟩
theorem Zhg:(Tryz.prog.info? 29).map (·.size)=some 6:=by kernel_rfl
def ZpP (w:World) (r s:Int) (e:Ending) (w':World):Prop:=Below w.heap.size w w'∧(¬ (ZbL r∧ZbL s)→e=.returned (.tuple #[.slice none 0 0,.bool false]))∧(ZbL r∧ZbL s→∃ (v:Value) (X Y x y:List Int),SigB r s X Y x y∧e=.returned (.tuple #[v,.bool true])∧Bs w' v (Zak (Zet x y)))
theorem ZpP.no {w w':World} {r s:Int} (h:¬ (ZbL r∧ZbL s)) (hb:Below w.heap.size w w'):ZpP w r s (.returned (.tuple #[.slice none 0 0,.bool false])) w':=⟨hb,fun _=>rfl,fun k=>absurd k h⟩
theorem ZpP.yes {w w':World} {r s:Int} {v:Value} {X Y x y:List Int} (h:ZbL r∧ZbL s) (hx:SigB r s X Y x y) (hv:Bs w' v (Zak (Zet x y))) (hb:Below w.heap.size w w'):ZpP w r s (.returned (.tuple #[v,.bool true])) w':=⟨hb,fun k=>absurd h k,fun _=>⟨v,X,Y,x,y,hx,rfl,hv⟩⟩
theorem u_lt {cs:List Value} {x:Int} (h:U6 cs x):x<4294967296 ^ 12:=by
 have:=h.bd.2;rw[show (4294967296:Int) ^ 12=18446744073709551616 ^ 6 by decide];exact this
theorem Zgs {v:Value} {X:Int} {w:World} (h:Zcr w v X) (h0:0≤X) :
  Calls Tryz.prog 144 #[v] w fun e w'=>e=.returned (.bool (decide (ZbL X)))∧Below w.heap.size w w':=by
 have HN:Hid (Zcr w v X):=h;obtain ⟨ao,n,cap,rfl,hnc,hcm,hn0⟩:=ZqO h;go_enter Tryz.func144,Tryz.ntmps144
 by_cases c1:X=0
 ·have g1:¬ (0:Int)<(n:Int):=by have:=hn0.2 c1;omega
  have H:Hid (decide (ZbL X)=false):=decide_eq_false (fun k=>by have:=k.1;omega);clear hn0 c1 h;go_wp2_with fail;go_ret;exact ⟨by rw[H.out];rfl,Below.refl _ _⟩
 have g1:(0:Int)<(n:Int):=by
  have:¬ (n:Int)=0:=fun k=>c1 (hn0.1 k);omega
 have H1:Hid (1≤X):=by show _≤_;omega
 clear hn0 c1 h;go_wp2_with fail;refine n_any.mono ?_;rintro e w1 ⟨v1,rfl,N1,hb⟩;have HN1:Hid (Zcr w1 v1 QQ):=N1;have bel:Below w.heap.size w w1:=hb;replace HN:Hid (Zcr w1 (.slice ao n cap) X):=HN.out.later hb;clear N1 hb;go_wp2_with fail;refine (Zqo _ _ _ _ _ HN.out HN1.out).mono ?_;rintro e w2 ⟨rfl,hb⟩;replace bel:=Zaa bel hb;clear hb
 by_cases c2:X<QQ
 ·have e9:=Zip c2
  have H:Hid (decide (ZbL X)=true):=decide_eq_true ⟨H1.out,c2⟩;rw[← e9];clear e9 c2;go_wp2_with fail;go_ret;exact ⟨by rw[H.out];rfl,bel⟩
 ·have H:Hid (decide (ZbL X)=false):=decide_eq_false (fun k=>c2 k.2)
  obtain⟨cc,hcc,hc0⟩:∃ cc,ZpV X QQ=cc∧¬ cc<0:=by
   rcases(show X=QQ∨QQ<X by omega) with k|k
   ·exact ⟨0,(ZlK k).symm,by omega⟩
   ·exact ⟨1,(Zio k).symm,by omega⟩
  rw[hcc];clear c2 hcc;go_wp2_with fail;go_ret;exact ⟨by rw[H.out];show Ending.returned (Value.bool (decide (cc<0)))=_;rw[decide_eq_false (by omega)],bel⟩
theorem ZkQ {rs ss:List Value} {r s:Int} {w:World} (hr:U6 rs r) (hs:U6 ss s) :
  Calls Tryz.prog 117 #[.agg (rs++ss).toArray] w (ZpP w r s):=by
 have HR:Hid (U6 rs r):=hr;have HS:Hid (U6 ss s):=hs;obtain ⟨ts,hts⟩:∃ ts,rs++ss=ts:=⟨_,rfl⟩;have HT:Hid (rs++ss=ts):=hts;rw[hts];have B0:=Blk.new w ts 31 w.heap.size rfl;have bel:=bal w (.cells ts.toArray 31);go_enter Tryz.func117,Tryz.ntmps117;go_upto_region 1 with fail;generalize w.alloc (.cells ts.toArray 31)=W at *;clear hts hr hs;have hld:(loadVar 29 ⟨w.heap.size,0,none⟩).run Tryz.prog W=.ok (.agg rs.toArray) W:=Zb9 (n:=6) (F:=rs) (fun j v hv=>B0.cell _ _ (by rw[← HT.out,Nat.zero_add,List.getElem?_append_left (List.getElem?_eq_some_iff.1 hv).1];exact hv)) HR.out.len Tryz.underlying29 rfl Zhg;have l0:=B0.lt;go_wp2_with (first|((with_reducible show wpList _ _ _ (⟨_,.load _ _,_,_,_,_⟩::_) _ _);refine Zab (by rfl) (by rfl) (by rfl) hld ?_)|fail);refine (uOf6 HR.out).mono ?_;rintro e w1 ⟨v1,rfl,hn,hb⟩;replace B0:=B0.later hb;replace bel:=Zaa bel hb;clear hb hld l0;go_wp2_with fail;refine (Zgs hn HR.out.bd.1).mono ?_;rintro e w2 ⟨rfl,hb⟩;replace B0:=B0.later hb;replace bel:=Zaa bel hb;clear hb hn
 by_cases c1:ZbL r
 rotate_left
 ·rw[decide_eq_false c1]
  have H:Hid (¬ (ZbL r∧ZbL s)):=fun h=>c1 h.1;go_wp2_with fail;refine bodyPost_ret (results_tmp2 rfl _ _ _) rfl ?_;exact ZpP.no H.out bel
 rw[decide_eq_true c1];have HC1:Hid (ZbL r):=c1;clear c1;have hld:(loadVar 29 ⟨w.heap.size,6,none⟩).run Tryz.prog w2=.ok (.agg ss.toArray) w2:=Zb9 (n:=6) (F:=ss) (fun j v hv=>B0.cell _ _ (by rw[← HT.out,List.getElem?_append_right (by rw[HR.out.len];omega),HR.out.len,Nat.add_sub_cancel_left];exact hv)) HS.out.len Tryz.underlying29 rfl Zhg;have l0:=B0.lt;go_wp2_with (first|((with_reducible show wpList _ _ _ (⟨_,.load _ _,_,_,_,_⟩::_) _ _);refine Zab (by rfl) (by rfl) (by rfl) hld ?_)|fail);refine (uOf6 HS.out).mono ?_;rintro e w3 ⟨v3,rfl,hn,hb⟩;replace B0:=B0.later hb;replace bel:=Zaa bel hb;clear hb hld l0;go_wp2_with fail;refine (Zgs hn HS.out.bd.1).mono ?_;rintro e w4 ⟨rfl,hb⟩;replace B0:=B0.later hb;replace bel:=Zaa bel hb;clear hb hn
 by_cases c2:ZbL s
 rotate_left
 ·rw[decide_eq_false c2]
  have H:Hid (¬ (ZbL r∧ZbL s)):=fun h=>c2 h.2;go_wp2_with fail;refine bodyPost_ret (results_tmp2 rfl _ _ _) rfl ?_;exact ZpP.no H.out bel
 rw[decide_eq_true c2];have HC2:Hid (ZbL s):=c2;clear c2;have hld:(loadVar 29 ⟨w.heap.size,0,none⟩).run Tryz.prog w4=.ok (.agg rs.toArray) w4:=Zb9 (n:=6) (F:=rs) (fun j v hv=>B0.cell _ _ (by rw[← HT.out,Nat.zero_add,List.getElem?_append_left (List.getElem?_eq_some_iff.1 hv).1];exact hv)) HR.out.len Tryz.underlying29 rfl Zhg;have l0:=B0.lt;go_wp2_with (first|((with_reducible show wpList _ _ _ (⟨_,.load _ _,_,_,_,_⟩::_) _ _);refine Zab (by rfl) (by rfl) (by rfl) hld ?_)|fail);refine (uOf6 HR.out).mono ?_;rintro e w5a ⟨ua,rfl,hn,hb⟩;replace B0:=B0.later hb;replace bel:=Zaa bel hb;clear hb hld l0;have hN:Zcr w5a ua r:=hn;clear hn;go_wp2_with fail;refine (Zgt _ _ _ hN (u_lt HR.out)).mono ?_;rintro e w5b ⟨g0,X0,rfl,hB,hX1,hX2,hX3,hb⟩;have HX0:Hid (X0.length=48∧byt X0∧beN X0=r):=⟨hX1,hX2,hX3⟩;have hBs:Bs w5b (.slice (some ⟨g0,0,none⟩) 48 48) X0:=Blk.bs hB hX1 (by decide);replace B0:=B0.later hb;replace bel:=Zaa bel hb;clear hb hN hB hX1 hX2 hX3;go_wp2_with fail;refine (ZeZ hBs HX0.out.2.1 (by rw[HX0.out.1];omega)).mono ?_;rintro e w5c ⟨hok,-⟩;obtain ⟨x0,hx0,hxl0⟩:=ZoN HX0.out.1;obtain ⟨nv0,rfl,hnv,hb⟩:=hok x0 hx0;have HNx0:Hid (ZaG X0=.ok x0∧x0.length≤49):=⟨hx0,hxl0⟩;obtain ⟨na0,nc0,hv0,-,-,-⟩:=id hnv;obtain ⟨nl0,hnl0⟩:∃ z,x0.length=z:=⟨_,rfl⟩;rw[hnl0] at hv0;subst hv0;have HBx0:Hid (Bs w5c (.slice na0 nl0 nc0) x0):=hnv;replace B0:=B0.later hb;replace bel:=Zaa bel hb;clear hb hok hnv hBs hx0 hxl0 hnl0;go_upto_region 4 with fail;have hld:(loadVar 29 ⟨w.heap.size,6,none⟩).run Tryz.prog w5c=.ok (.agg ss.toArray) w5c:=Zb9 (n:=6) (F:=ss) (fun j v hv=>B0.cell _ _ (by rw[← HT.out,List.getElem?_append_right (by rw[HR.out.len];omega),HR.out.len,Nat.add_sub_cancel_left];exact hv)) HS.out.len Tryz.underlying29 rfl Zhg;have l0:=B0.lt;go_wp2_with (first|((with_reducible show wpList _ _ _ (⟨_,.load _ _,_,_,_,_⟩::_) _ _);refine Zab (by rfl) (by rfl) (by rfl) hld ?_)|fail);refine (uOf6 HS.out).mono ?_;rintro e w6a ⟨ub,rfl,hn,hb⟩;replace HBx0:=BsL HBx0 hb;replace B0:=B0.later hb;replace bel:=Zaa bel hb;clear hb hld l0;have hN:Zcr w6a ub s:=hn;clear hn;go_wp2_with fail;refine (Zgt _ _ _ hN (u_lt HS.out)).mono ?_;rintro e w6b ⟨g1,X1,rfl,hB,hX1,hX2,hX3,hb⟩;have HX1:Hid (X1.length=48∧byt X1∧beN X1=s):=⟨hX1,hX2,hX3⟩;have hBs:Bs w6b (.slice (some ⟨g1,0,none⟩) 48 48) X1:=Blk.bs hB hX1 (by decide);replace HBx0:=BsL HBx0 hb;replace B0:=B0.later hb;replace bel:=Zaa bel hb;clear hb hN hB hX1 hX2 hX3;go_wp2_with fail;refine (ZeZ hBs HX1.out.2.1 (by rw[HX1.out.1];omega)).mono ?_;rintro e w6c ⟨hok,-⟩;obtain ⟨x1,hx1,hxl1⟩:=ZoN HX1.out.1;obtain ⟨nv1,rfl,hnv,hb⟩:=hok x1 hx1;have HNx1:Hid (ZaG X1=.ok x1∧x1.length≤49):=⟨hx1,hxl1⟩;obtain ⟨na1,nc1,hv1,-,-,-⟩:=id hnv;obtain ⟨nl1,hnl1⟩:∃ z,x1.length=z:=⟨_,rfl⟩;rw[hnl1] at hv1;subst hv1;have HBx1:Hid (Bs w6c (.slice na1 nl1 nc1) x1):=hnv;replace HBx0:=BsL HBx0 hb;replace B0:=B0.later hb;replace bel:=Zaa bel hb;clear hb hok hnv hBs hx1 hxl1 hnl1;go_upto_region 5 with fail;have K10:=Blk.new w6c [.int .i64 0,.int .i64 2,.bool false,.slice na0 nl0 nc0,.slice none 0 0,.int .i64 0,.int .i64 2,.bool false,.slice na1 nl1 nc1,.slice none 0 0] 53 w6c.heap.size rfl;have hb:=bal w6c (.cells #[.int .i64 0,.int .i64 2,.bool false,.slice na0 nl0 nc0,.slice none 0 0,.int .i64 0,.int .i64 2,.bool false,.slice na1 nl1 nc1,.slice none 0 0] 53);have HTs:Hid (Zav (w6c.alloc (.cells #[.int .i64 0,.int .i64 2,.bool false,.slice na0 nl0 nc0,.slice none 0 0,.int .i64 0,.int .i64 2,.bool false,.slice na1 nl1 nc1,.slice none 0 0] 53)) (Zet x0 x1) [.int .i64 0,.int .i64 16,.bool true,.slice none 0 0,.slice (some ⟨w6c.heap.size,0,none⟩) 2 2]):=sig_at (HBx0.out.later hb) (HBx1.out.later hb) K10;replace bel:=Zaa bel hb;clear hb K10;have hz:=Zaj.out;go_wp2_with fail;clear hz;refine (ZfQ (by rw[sig_sz];omega) (fun _=>by have:=ZiV HNx0.out.2 HNx1.out.2;omega) HTs.out).mono ?_;rintro e w7 ⟨bv,rfl,hw,-,hb⟩;have hw0:=sig_wr HNx0.out.2 HNx1.out.2;have HBb:Hid (Bs w7 bv (Zak (Zet x0 x1))):=Bs.of_own (hw hw0);replace bel:=Zaa bel hb;rw[hw0];clear hw hb hw0 HTs;go_wp2_with fail;refine bodyPost_ret (results_tmp2 rfl _ _ _) rfl ?_;exact ZpP.yes ⟨HC1.out,HC2.out⟩ ⟨HX0.out,HX1.out,HNx0.out.1,HNx1.out.1⟩ HBb.out bel
end Go.Proofs.YtohcdbifhnfcbaaGreatDoor
