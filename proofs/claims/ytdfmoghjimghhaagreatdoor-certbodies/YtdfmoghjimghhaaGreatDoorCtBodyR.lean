import Derived.Test.YtdfmoghjimghhaaGreatDoorRefA
import Derived.Test.YtdfmoghjimghhaaGreatDoorLBytes
import Derived.Test.YtdfmoghjimghhaaGreatDoorCtSize
import Derived.Test.YtdfmoghjimghhaaGreatDoorCEncC
import Derived.Test.YtdfmoghjimghhaaGreatDoorNlSG
import Derived.Test.YtdfmoghjimghhaaGreatDoorDrTG
import Derived.Test.YtdfmoghjimghhaaGreatDoorCtMayC
import Derived.Test.YtdfmoghjimghhaaGreatDoorCtUse
import Derived.Test.YtdfmoghjimghhaaGreatDoorCtElm
import Derived.Test.YtdfmoghjimghhaaGreatDoorPmNumO
import Derived.Test.YtdfmoghjimghhaaGreatDoorClCa
import Derived.Test.YtdfmoghjimghhaaGreatDoorCtExt
import Derived.Test.YtdfmoghjimghhaaGreatDoorDrWrite
import Derived.Test.YtdfmoghjimghhaaGreatDoorRows
import Derived.Deep.OwnRows
import Derived.Deep.AppendLies
import Derived.Great.BuildSlice
import Derived.Laws.Rows
import Derived.BigQuiet
import Derived.Deep.WholeRow
import Derived.Deep.RegionHeld3
import Derived.Deep.DeepCutAuto
import Derived.Deep.DeepFit
import Derived.Deep.Cut
namespace Go.Proofs.YtdfmoghjimghhaaGreatDoor
open Go.RowKit
def Zby (D:List Int):List Int:=(List.range 48).map fun i=>D.getD ((47-i)/4) 0/256 ^ ((47-i)%4)%256
theorem Zcd (D:List Int):(Zby D).length=48:=by simp[Zby]
theorem Zdx (D:List Int) (i:Nat) (h:i<48):(Zby D).getD i 0=D.getD ((47-i)/4) 0/256 ^ ((47-i)%4)%256:=by
 rw[List.getD_eq_getElem?_getD,Zby,List.getElem?_map,List.getElem?_range h]
 rfl
theorem Zhj (D:List Int):byt (Zby D):=by
 apply Zgu;intro j hj;rw[Zcd] at hj;rw[Zdx D j hj];omega
theorem Zhk (D:List Int) (lD:D.length≤12) (dD:dig D):beN (Zby D)=v32 D:=by
 have hl:(Zby D).reverse.length=48:=by rw[List.length_reverse,Zcd]
 have hR:∀ t,t<(Zby D).reverse.length→(Zby D).reverse.getD t 0=D.getD (t/4) 0/256 ^ (t%4)%256:=by
  intro t ht;rw[hl] at ht;have e:=Zlm (Zby D) (47-t) (by rw[Zcd];omega);rw[Zcd,show 48-1-(47-t)=t by omega] at e;rw[e,Zdx D _ (by omega),show 47-(47-t)=t by omega]
 have e1:(256:Int) ^ 4=4294967296:=by decide
 have h:=Zn6 4 (by decide) D (Zby D).reverse (fun j=>by rw[e1];exact dD j) hR 12 (by rw[hl];decide);rw[List.take_of_length_le (by rw[hl];decide),List.take_of_length_le (by omega),e1] at h;exact h
theorem ZoV (d:Int) (j:Nat):d/256 ^ j/256=d/256 ^ (j+1):=by
 rw[Int.pow_succ,Int.ediv_ediv_of_nonneg (Int.le_of_lt (Int.pow_pos (by decide)))]
theorem Zjx (d:Int) (j:Nat) (h0:0≤d) (h1:d<4294967296):0≤d/256 ^ j∧d/256 ^ j<4294967296:=by
 have hp:(0:Int)<256 ^ j:=Int.pow_pos (by decide);exact ⟨Int.ediv_nonneg h0 (Int.le_of_lt hp),Int.lt_of_le_of_lt (Int.ediv_le_self _ h0) h1⟩
set_option maxRecDepth 100000 in
set_option maxHeartbeats 1000000 in
theorem ZfH (v:Value) (N:Int) (w:World) (hv:ZaG w v N) (hN:N<4294967296 ^ 12) :
  Calls Tryz.prog 67 #[v,.int .i64 48] w fun e w'=>∃ (g:Nat) (X:List Int),e=.returned (.slice (some ⟨g,0,none⟩) 48 48)∧Blk w' g (u8s X)∧X.length=48∧byt X∧beN X=N∧Below w.heap.size w w':=by
 obtain⟨D,sD,dD,tD,rfl⟩:=hv;have lD:=ZdL D dD tD 12 hN;have HQ:Hid (byt (Zby D)∧beN (Zby D)=v32 D):=⟨Zhj D,Zhk D lD dD⟩;have hmk:=run_make_row' 22 5 (.int .u8 0) 1 Tryz.underlying22 Zkx rfl .i64 .i64 48 (by omega) (by omega);rw[ZkG] at hmk;have b1:=Blk.new w (u8s (List.replicate 48 0)) 5 w.heap.size rfl;have bel:Below w.heap.size w (w.alloc (.cells (u8s (List.replicate 48 0)).toArray 5)):=(Below.refl _ _).alloc (Nat.le_refl _) _;generalize (u8s (List.replicate 48 0)).toArray=cs at hmk b1 bel;replace hmk:∀ w:World,(Instr.makeSlice 22 (.int .i64 48) (.int .i64 48)).run Tryz.prog w=.ok (.slice (some ⟨w.heap.size,0,none⟩) 48 48) (w.alloc (.cells cs 5)):=hmk;have gX:Hid (∀ i,i<48→(Zby D).getD i 0=D.getD ((47-i)/4) 0/256 ^ ((47-i)%4)%256):=Zdx D;have lX:=Zcd D;obtain ⟨X,hX⟩:∃ X,Zby D=X:=⟨_,rfl⟩;obtain ⟨N,hNN⟩:∃ N,v32 D=N:=⟨_,rfl⟩;rw[hX] at gX lX HQ;rw[hNN] at HQ ⊢;clear hX hNN hN tD;obtain ⟨ao,c1,rfl,-,-,-⟩:=sD.form;obtain ⟨l,hl⟩:∃ l,D.length=l:=⟨_,rfl⟩;rw[hl] at sD ⊢;clear hl lD;go_enter Tryz.func67,Tryz.ntmps67;go_wp2;clear hmk;generalize w.alloc (.cells cs 5)=W at *;go_loopw [6] (fun iv wr=>∃ (i:Nat) (T:List Int),i≤48∧iv=.int .i64 i∧T.length=48∧Hid (∀ j,48-i≤j→j<48→T.getD j 0=X.getD j 0)∧Blk wr w.heap.size (u8s T)∧Below w.heap.size w wr)
  (fun i _=>48-(intOf i).toNat)
 case atStart=>exact ⟨0,List.replicate 48 0,by omega,rfl,by simp,fun j hj hj2=>absurd hj (by omega),b1,bel⟩
 case round =>
  obtain⟨i,T,hi,rfl,lT,hJ,hT,hbel⟩:=hrel;clear b1 bel
  by_cases hlt:i<48
  ·obtain ⟨d,hd⟩:∃ d,D.getD (i/4) 0=d:=⟨_,rfl⟩
   have bd:0≤d∧d<4294967296:=hd ▸ dD _;have gk:=gX.out (47-i) (by omega);rw[show 47-(47-i)=i by omega,hd] at gk;have GK:Hid _:=gk;have sD':=sD.later hbel;have x2:=hT.cell (47-i) _ (ZdK T (47-i) (by omega));have fz:=hT.frozen (47-i);obtain ⟨t,ht⟩:∃ t,T.getD (47-i) 0=t:=⟨_,rfl⟩;rw[ht] at x2;have g1:(i:Int)<48:=by omega
   have g2:(0:Int)≤47-(i:Int):=by omega
   have g3:47-(i:Int)<48:=by omega
   have g4:(47-(i:Int)).toNat=47-i:=by omega
   clear ht gk;go_wp2_with fail;have AT:=Zfm _ D (i/4) wr sD';have ei:((i/4:Nat):Int)=(i:Int)/4:=by omega
   rw[ei] at AT;refine AT.mono ?_;rintro e1 w' ⟨rfl,hw⟩;obtain rfl:=hw.symm;rw[hd];clear AT ei hd;go_wp2_with fail;go_loop [7,8] (fun vv jv=>∃ j:Nat,j≤i%4∧jv=.int .i64 j∧vv=.int .u64 (d/256 ^ j)) (fun _ jv=>4-(intOf jv).toNat)
   case atStart=>exact ⟨0,by omega,rfl,by simp⟩
   case round =>
    obtain⟨j,hj,rfl,rfl⟩:=hrel;have bj:=Zjx d j bd.1 bd.2;have bj0:=bj.1;have bj1:=bj.2
    by_cases hjl:j<i%4
    ·have HZ:Hid (d/256 ^ j/256=d/256 ^ (j+1)):=ZoV d j
     obtain⟨y,hy⟩:∃ y,d/256 ^ j=y:=⟨_,rfl⟩;rw[hy] at bj0 bj1 HZ ⊢;have g5:(j:Int)<(i:Int)%4:=by omega
     clear hy bj;go_wp2;go_round
     case rel=>exact ⟨j+1,by omega,by go_num,by rw[HZ.out]⟩
     case measure=>simp[intOf];omega
    ·have g5:¬ (j:Int)<(i:Int)%4:=by omega
     have hje:j=i%4:=by omega
     have GK':Hid (X.getD (47-i) 0=d/256 ^ j%256):=by rw[hje];exact GK
     obtain⟨y,hy⟩:∃ y,d/256 ^ j=y:=⟨_,rfl⟩;rw[hy] at bj0 bj1 GK' ⊢;clear hy bj hje;go_wp2;go_roundw
     case rel =>
      refine⟨i+1,T.set (47-i) (y%256),by omega,by go_num,by simpa using lT,fun q hq hq2=>?_,hT.set8 _ _,hbel.setCell (by simp) _⟩
      by_cases hjk:47-i=q
      ·subst hjk
       rw[Za7 _ _ _ (by omega),GK'.out]
      ·have e:(T.set (47-i) (y%256)).getD q 0=T.getD q 0:=by simp[List.getD_eq_getElem?_getD,hjk]
       rw[e];exact hJ.out q (by omega) hq2
     case measure=>simp[intOf];omega
  ·have h6:(48:Int)≤(i:Int):=by omega
   have hTX:T=X:=by
    apply List.ext_getElem (by omega);intro k h1 h2;have:=hJ.out k (by omega) (by omega)
    simpa [List.getD_eq_getElem?_getD,h1,h2] using this
   subst hTX;clear hJ;go_wp2;go_ret;exact ⟨_,T,rfl,hT,lX,HQ.out.1,HQ.out.2,hbel⟩
theorem Zlz:(Tryz.prog.info? 27).map (·.size)=some 6:=by kernel_rfl
theorem ZoW {x0 x1 x2 x3 x4 x5 y0 y1 y2 y3 y4 y5:Int} {n:Bool} {j:Nat} {v:Value} (h:([.int .u64 x0,.int .u64 x1,.int .u64 x2,.int .u64 x3,.int .u64 x4,.int .u64 x5]:List Value)[j]?=some v):([.int .u64 x0,.int .u64 x1,.int .u64 x2,.int .u64 x3,.int .u64 x4,.int .u64 x5,.int .u64 y0,.int .u64 y1,.int .u64 y2,.int .u64 y3,.int .u64 y4,.int .u64 y5,.bool n]:List Value)[0+j]?=some v:=by
 rw[Nat.zero_add]
 match j,h with
 | 0,h=>exact h
 | 1,h=>exact h
 | 2,h=>exact h
 | 3,h=>exact h
 | 4,h=>exact h
 | 5,h=>exact h
 | j+6,h=>simp at h
theorem ZoX {x0 x1 x2 x3 x4 x5 y0 y1 y2 y3 y4 y5:Int} {n:Bool} {j:Nat} {v:Value} (h:([.int .u64 y0,.int .u64 y1,.int .u64 y2,.int .u64 y3,.int .u64 y4,.int .u64 y5]:List Value)[j]?=some v):([.int .u64 x0,.int .u64 x1,.int .u64 x2,.int .u64 x3,.int .u64 x4,.int .u64 x5,.int .u64 y0,.int .u64 y1,.int .u64 y2,.int .u64 y3,.int .u64 y4,.int .u64 y5,.bool n]:List Value)[6+j]?=some v:=by
 match j,h with
 | 0,h=>exact h
 | 1,h=>exact h
 | 2,h=>exact h
 | 3,h=>exact h
 | 4,h=>exact h
 | 5,h=>exact h
 | j+6,h=>simp at h
theorem Zn4 {x0 x1 x2 x3 x4 x5:Int} (h:Zaz [x0,x1,x2,x3,x4,x5]):v64 [x0,x1,x2,x3,x4,x5]<4294967296 ^ 12:=by
 have:=(ZaN _ rfl h).2;rw[show (4294967296:Int) ^ 12=18446744073709551616 ^ 6 by decide];exact this
theorem Zcu {w:World} {base size:Nat} {e:TypeId} {v:Value} {n:Nat} {xs:List Value} (h:w.ownsRow base e size v n xs):∃ ao cap,v=.slice ao n cap:=by
 rcases h.2 with ⟨h1,h2⟩|⟨g,cap,cur,h1,_⟩
 ·exact ⟨none,0,by rw[h1,h2]⟩
 ·exact ⟨_,cap,h1⟩
theorem Zm7 {w:World} {base b2 size:Nat} {e:TypeId} {v:Value} {n:Nat} {xs:List Value} (h:w.ownsRow base e size v n xs) (hb:b2≤base):w.ownsRow b2 e size v n xs:=by
 obtain⟨hl,h⟩:=h;rcases h with h|⟨g,cap,cur,h1,h2,h3⟩
 ·exact ⟨hl,.inl h⟩
 ·exact ⟨hl,.inr ⟨g,cap,cur,h1,Nat.le_trans hb h2,h3⟩⟩
set_option linter.unusedSimpArgs false in
set_option maxRecDepth 100000 in
set_option maxHeartbeats 1000000 in
theorem Znl {x0 x1 x2 x3 x4 x5 y0 y1 y2 y3 y4 y5:Int} {n:Bool} {w:World} (fX:Zaz [x0,x1,x2,x3,x4,x5]) (fY:Zaz [y0,y1,y2,y3,y4,y5]) :
  Calls Tryz.prog 32 #[.agg #[.int .u64 x0,.int .u64 x1,.int .u64 x2,.int .u64 x3,.int .u64 x4,.int .u64 x5,.int .u64 y0,.int .u64 y1,.int .u64 y2,.int .u64 y3,.int .u64 y4,.int .u64 y5,.bool n]] w fun e w'=>∃ (v:Value) (p:List Int),e=.returned v∧w'.ownsRow w.heap.size 5 1 v 97 (u8s p)∧Ziv (v64 [x0,x1,x2,x3,x4,x5]) (v64 [y0,y1,y2,y3,y4,y5]) p∧Below w.heap.size w w':=by
 have HFx:Hid (Zaz [x0,x1,x2,x3,x4,x5]):=fX;have HFy:Hid (Zaz [y0,y1,y2,y3,y4,y5]):=fY;have B0:=Blk.new w [.int .u64 x0,.int .u64 x1,.int .u64 x2,.int .u64 x3,.int .u64 x4,.int .u64 x5,.int .u64 y0,.int .u64 y1,.int .u64 y2,.int .u64 y3,.int .u64 y4,.int .u64 y5,.bool n] 29 w.heap.size rfl;have bel:Below w.heap.size w (w.alloc (.cells #[.int .u64 x0,.int .u64 x1,.int .u64 x2,.int .u64 x3,.int .u64 x4,.int .u64 x5,.int .u64 y0,.int .u64 y1,.int .u64 y2,.int .u64 y3,.int .u64 y4,.int .u64 y5,.bool n] 29)):=(Below.refl _ _).alloc (Nat.le_refl _) _;go_enter Tryz.func32,Tryz.ntmps32;go_upto_region 1 with fail;have lW:=bel.size;generalize w.alloc (.cells #[.int .u64 x0,.int .u64 x1,.int .u64 x2,.int .u64 x3,.int .u64 x4,.int .u64 x5,.int .u64 y0,.int .u64 y1,.int .u64 y2,.int .u64 y3,.int .u64 y4,.int .u64 y5,.bool n] 29)=W at *;obtain ⟨N0,hN0⟩:∃ n,n=W.heap.size:=⟨_,rfl⟩;have lN:w.heap.size<N0:=by rw[hN0];exact B0.lt
 rw[← hN0] at lW;have own0:(W.alloc (.cells (u8s [4]).toArray 5)).ownsRow N0 5 1 (.slice (some ⟨W.heap.size,0,none⟩) 1 1) 1 (u8s [4]):=Zax W (u8s [4]) 5 1 N0 rfl (by omega) (by decide);have st:Below W.heap.size W (W.alloc (.cells (u8s [4]).toArray 5)):=(Below.refl _ _).alloc (Nat.le_refl _) _;replace B0:=B0.later st;replace bel:=Zaa bel st;have hs:N0≤(W.alloc (.cells (u8s [4]).toArray 5)).heap.size:=by rw[hN0];exact st.size
 clear st;have hld:(loadVar 27 ⟨w.heap.size,0,none⟩).run Tryz.prog (W.alloc (.cells (u8s [4]).toArray 5))=.ok (.agg #[.int .u64 x0,.int .u64 x1,.int .u64 x2,.int .u64 x3,.int .u64 x4,.int .u64 x5]) (W.alloc (.cells (u8s [4]).toArray 5)):=Zb8 (n:=6) (F:=[.int .u64 x0,.int .u64 x1,.int .u64 x2,.int .u64 x3,.int .u64 x4,.int .u64 x5]) (fun j v hv=>B0.cell _ _ (ZoW hv)) rfl Tryz.underlying27 rfl Zlz;have l0:=B0.lt;go_wp2_with (first|((with_reducible show wpList _ _ _ ({ dst:=_,op:=.load _ _,type:=_,pos:=_,after:=_,guard:=_ } :: _) _ _);refine Zae (by rfl) (by rfl) (by rfl) hld ?_)|fail);refine (Zf4 [x0,x1,x2,x3,x4,x5] _ rfl HFx.out).mono ?_;rintro e w1 ⟨v1,rfl,hn,hb⟩;clear hld l0;replace own0:=Zbr (S:=fun _=>True) own0 (Agr.below hb) (fun _ _=>trivial);replace B0:=B0.later hb;replace bel:=Zaa bel hb;replace hs:N0≤_:=Nat.le_trans hs hb.size;have HN1:Hid (ZaG w1 v1 (v64 [x0,x1,x2,x3,x4,x5])):=hn;clear hn hb;go_wp2_with fail;refine (ZfH _ _ _ HN1.out (Zn4 HFx.out)).mono ?_;rintro e w1b ⟨g1,X1,rfl,hB,hX1,hX2,hX3,hb⟩;have HX1:Hid (X1.length=48∧byt X1∧beN X1=v64 [x0,x1,x2,x3,x4,x5]):=⟨hX1,hX2,hX3⟩;have HBs:Hid (Bs w1b (.slice (some ⟨g1,0,none⟩) 48 48) X1):=Blk.bs hB hX1 (by decide);replace own0:=Zbr (S:=fun _=>True) own0 (Agr.below hb) (fun _ _=>trivial);replace B0:=B0.later hb;replace bel:=Zaa bel hb;have hsz:N0≤w1b.heap.size:=Nat.le_trans hs hb.size;clear hs;clear hB hX1 hX2 hX3 hb

 go_upto_region 2 with (first|(at_builtin;refine Zac (by rfl) _ _ (by rfl) N0 _ 1 [4] (by rfl) own0 _ X1 (by rfl) HBs.out (by rw[HX1.out.1];omega) hsz ?_;intro v3 w3 own3 hgrow hat)|fail);have hszb:=bel.size;replace B0:=B0.grown hgrow (fun k hk e=>by have:=(Zat own0 hk).1;omega);replace bel:=Below.grown bel hgrow hszb (fun k hk=>by have:=(Zat own0 hk).1;omega);have hs:N0≤w3.heap.size:=Nat.le_trans hsz hgrow.size;rw[HX1.out.1] at own3;obtain ⟨a3,k3,hv3⟩:=Zcu own3;subst hv3;clear hgrow hat own0 HBs hsz hszb;have hld:(loadVar 27 ⟨w.heap.size,6,none⟩).run Tryz.prog (w3)=.ok (.agg #[.int .u64 y0,.int .u64 y1,.int .u64 y2,.int .u64 y3,.int .u64 y4,.int .u64 y5]) (w3):=Zb8 (n:=6) (F:=[.int .u64 y0,.int .u64 y1,.int .u64 y2,.int .u64 y3,.int .u64 y4,.int .u64 y5]) (fun j v hv=>B0.cell _ _ (ZoX hv)) rfl Tryz.underlying27 rfl Zlz;have l0:=B0.lt;go_wp2_with (first|((with_reducible show wpList _ _ _ ({ dst:=_,op:=.load _ _,type:=_,pos:=_,after:=_,guard:=_ } :: _) _ _);refine Zae (by rfl) (by rfl) (by rfl) hld ?_)|fail);refine (Zf4 [y0,y1,y2,y3,y4,y5] _ rfl HFy.out).mono ?_;rintro e w4 ⟨v2,rfl,hn,hb⟩;clear hld l0;replace own3:=Zbr (S:=fun _=>True) own3 (Agr.below hb) (fun _ _=>trivial);replace B0:=B0.later hb;replace bel:=Zaa bel hb;replace hs:N0≤_:=Nat.le_trans hs hb.size;have HN2:Hid (ZaG w4 v2 (v64 [y0,y1,y2,y3,y4,y5])):=hn;clear hn hb;go_wp2_with fail;refine (ZfH _ _ _ HN2.out (Zn4 HFy.out)).mono ?_;rintro e w4b ⟨g2,X2,rfl,hB,hX1,hX2,hX3,hb⟩;have HX2:Hid (X2.length=48∧byt X2∧beN X2=v64 [y0,y1,y2,y3,y4,y5]):=⟨hX1,hX2,hX3⟩;have HBs:Hid (Bs w4b (.slice (some ⟨g2,0,none⟩) 48 48) X2):=Blk.bs hB hX1 (by decide);replace own3:=Zbr (S:=fun _=>True) own3 (Agr.below hb) (fun _ _=>trivial);replace B0:=B0.later hb;replace bel:=Zaa bel hb;have hsz:N0≤w4b.heap.size:=Nat.le_trans hs hb.size;clear hs;clear hB hX1 hX2 hX3 hb

 go_wp2_with (first|(at_builtin;refine Zac (by rfl) _ _ (by rfl) N0 _ 49 ([4]++X1) (by rfl) own3 _ X2 (by rfl) HBs.out (by rw[HX2.out.1];omega) hsz ?_;intro v6 w6 own6 hgrow hat)|fail);have hszb:=bel.size;replace bel:=Below.grown bel hgrow hszb (fun k hk=>by have:=(Zat own3 hk).1;omega);rw[HX2.out.1] at own6;have HP:Hid (Ziv (v64 [x0,x1,x2,x3,x4,x5]) (v64 [y0,y1,y2,y3,y4,y5]) (([4]++X1)++X2)):=⟨X1,X2,HX1.out.1,HX1.out.2.1,HX1.out.2.2,HX2.out.1,HX2.out.2.1,HX2.out.2.2,rfl⟩;clear hgrow hat own3 HBs hsz hszb;go_ret;exact ⟨v6,_,rfl,Zm7 own6 (by omega),HP.out,bel⟩
def nmT (n:List Pn):Tl:=Zak [Zbf 4 [ZaH n]]
set_option linter.unusedSimpArgs false in
set_option maxRecDepth 100000 in
set_option maxHeartbeats 2000000 in
theorem Zg1 {tag:Int} {v:Value} {l:List (List Pn)} {w:World} (hv:ZcY w v l) (wf:∀ n∈l,WfN n) (hm:∀ n∈l,Zcl n=true) (hl:l.length≤1000) :
  Calls Tryz.prog 29 #[.int .i64 tag,v] w fun e w'=>∃ cs:List Value,e=.returned (.agg cs.toArray)∧Dep (fun g=>w.heap.size≤g) w' (ZaA tag l) cs∧Below w.heap.size w w':=by
 have HV:Hid (ZcY w v l):=hv;obtain ⟨va,vc,rfl,-,-,-⟩:=hv;obtain ⟨L,hL⟩:∃ L,l.length=L:=⟨_,rfl⟩;have HL:Hid (l.length=L):=hL;rw[hL] at HV hl ⊢;clear hL;have R0:=Blk.new w [.int .i64 0,.int .i64 0,.bool false,.slice none 0 0,.slice none 0 0] 57 w.heap.size rfl;have bel:Below w.heap.size w (w.alloc (.cells #[.int .i64 0,.int .i64 0,.bool false,.slice none 0 0,.slice none 0 0] 57)):=(Below.refl _ _).alloc (Nat.le_refl _) _;have hz:=Zad.out;go_enter Tryz.func29,Tryz.ntmps29;go_upto_region 1 with fail;have lW:=bel.size;generalize w.alloc (.cells #[.int .i64 0,.int .i64 0,.bool false,.slice none 0 0,.slice none 0 0] 57)=W at *;have lR:=R0.lt;obtain ⟨N0,hN0⟩:∃ n,n=W.heap.size:=⟨_,rfl⟩;rw[← hN0] at lR lW;clear hz;have hs:N0≤W.heap.size:=by omega
 clear hN0;obtain ⟨jt,hjt,ht0,ht1,ht2⟩:=Zap ZaI;go_wp2_with fail;go_loopw [5,6] (fun kv iv wx=>∃ i:Nat,i≤L∧iv=.int .i64 (i:Int)∧RwT wx N0 kv ((l.take i).map nmT)∧Blk wx w.heap.size [.int .i64 0,.int .i64 0,.bool false,.slice none 0 0,.slice none 0 0]∧Below w.heap.size w wx∧N0≤wx.heap.size) (fun _ iv _=>L-(intOf iv).toNat)
 case atStart=>exact ⟨0,by omega,rfl,RwT.nil0 _ _,R0,bel,hs⟩
 case round =>
  clear R0 bel hs;obtain ⟨i,hi,rfl,hr,R0,bel,hs⟩:=hrel;have HR:Hid (RwT wr N0 u5 ((l.take i).map nmT)):=hr
  by_cases hil:i<L
  rotate_left
  ·have g1:¬ (i:Int)<(L:Int):=by omega
   have HTk:Hid ((l.take i).map nmT=l.map nmT):=by show _=_;rw[List.take_of_length_le (by rw[HL.out];omega)]
   rw[HTk.out] at hr;obtain ⟨ka,kc,hkv⟩:=hr.sl;subst hkv;have HD:Hid (Dep (fun b=>N0≤b) wr (ZaA tag l) [.int .i64 2,.int .i64 tag,.bool true,.slice none 0 0,.slice ka (l.map nmT).length kc]):=hr.dep 2 tag true;obtain ⟨K,hK⟩:∃ K,(l.map nmT).length=K:=⟨_,rfl⟩;rw[hK] at HD ⊢;clear hr hK HR;go_wp2_with fail;refine ZdF.mono ?_;rintro e w9 ⟨rfl,hb⟩;replace HD:Hid _:=HD.out.next (Agr.below hb) (fun _ h _=>h);replace R0:=R0.later hb;replace bel:=Zaa bel hb;clear hb;obtain ⟨tR,hR⟩:=R0;have HR1:Hid _:=hR;clear hR;go_wp2_with (first|((with_reducible show wpList _ _ _ ({ dst:=_,op:=.store _ _ _,type:=_,pos:=_,after:=_,guard:=_ } :: _) _ _);refine wpList_store_row rfl 57 _ _ rfl w.heap.size #[.int .i64 2,.int .i64 tag,.bool true,.slice none 0 0,.slice ka K kc] rfl rfl tR _ HR1.out (by rw[Zab];rfl) rfl (by simp[Value.oneCell']) ?_)|fail);refine bodyPost_ret (results_cell_row rfl _ _ w.heap.size tR #[.int .i64 2,.int .i64 tag,.bool true,.slice none 0 0,.slice ka K kc] (0,0) _ rfl (setRow_heap _ _ _ _ _ _ HR1.out) Tryz.underlying57 rfl (by rw[Zab];rfl)) rfl ?_;exact ⟨_,rfl,ZaB HD.out lR lW,below_setRow bel (by omega) _⟩
  have g1:(i:Int)<(L:Int):=by omega
  have g2:(0:Int)≤(i:Int):=by omega
  have gi:IntKind.i64.wrap ((i:Int)+1)=(i:Int)+1:=by rw[IntKind.wrap_i64];omega
  obtain⟨n,hn⟩:∃ n,l[i]?=some n:=⟨_,List.getElem?_eq_getElem (by rw[HL.out];exact hil)⟩;obtain ⟨ao,cap,ev,-,-,h3⟩:=HV.out.later bel;obtain ⟨b1,o1,ea,l1,hc⟩:=h3 (by rw[HL.out];omega);simp only[Value.slice.injEq] at ev;obtain ⟨rfl,-,-⟩:=ev;subst ea;obtain ⟨u,x0,hnu⟩:=hc i n hn;have HN:Hid (Zb3 wr u n):=hnu;obtain ⟨ua,uc,rfl,-,-,-⟩:=hnu;have hmem:=List.mem_of_getElem? hn;have HTk:Hid ((l.take (i+1)).map nmT=(l.take i).map nmT++[nmT n]):=by show _=_;rw[List.take_add_one,hn,List.map_append];rfl
  obtain⟨N1,hN1⟩:∃ n,n=wr.heap.size:=⟨_,rfl⟩;have HLt:Hid (∀ b,u5.ownBlock=some b→b<N1):=by rw[hN1];exact hr.lt
  have st:Below wr.heap.size wr wr:=Below.refl _ _;clear h3 hc hn hr;go_wp2_with fail;refine (Zbk HN.out (wf n hmem) (hm n hmem)).mono ?_;rintro e w1 ⟨kv1,xs1,rfl,own1,hk1,hb⟩;have HE:Hid (Dep (fun b=>N1≤b) w1 (ZaH n) [.int .i64 0,.int .i64 16,.bool true,.slice none 0 0,kv1]):=by rw[hN1];exact ZcX.tl own1 hk1
  obtain⟨k1a,k1c,rfl⟩:∃ ka kc,kv1=.slice ka n.length kc:=by rcases own1.2 with ⟨h,h'⟩|⟨_,_,_,h,_⟩;exact ⟨none,0,by rw[h,h']⟩;exact ⟨_,_,h⟩
  obtain⟨M,hM⟩:∃ M,n.length=M:=⟨_,rfl⟩;rw[hM] at HE ⊢;replace HR:Hid (RwT w1 N0 u5 ((l.take i).map nmT)):=HR.out.later hb;replace R0:=R0.later hb;replace bel:=Zaa bel hb;replace st:=Zaa st hb;clear own1 hk1 hb x0 hM HN;have HF9:Hid _:=Zay (cs:=[.int .i64 0,.int .i64 16,.bool true,.slice none 0 0,.slice k1a M k1c]) rfl;have st9:Below w1.heap.size w1 (w1.alloc (.cells #[.int .i64 0,.int .i64 16,.bool true,.slice none 0 0,.slice k1a M k1c] 57)):=(Below.refl _ _).alloc (Nat.le_refl _) _;have H9:Hid (Dep (fun b=>N1≤b) (w1.alloc (.cells #[.int .i64 0,.int .i64 16,.bool true,.slice none 0 0,.slice k1a M k1c] 57)) (Zbf 4 [ZaH n]) [.int .i64 2,.int .i64 4,.bool true,.slice none 0 0,.slice (some ⟨w1.heap.size,0,none⟩) 1 1]):=Zav (ks:=[ZaH n]) rfl (by rw[hN1];exact st.size) (by show 1≤maxLen;decide) (ZaY (P:=Dep (fun b=>N1≤b) w1) HE.out rfl) 2 4 true;replace HR:Hid (RwT (w1.alloc (.cells #[.int .i64 0,.int .i64 16,.bool true,.slice none 0 0,.slice k1a M k1c] 57)) N0 u5 ((l.take i).map nmT)):=HR.out.later st9;replace R0:=R0.later st9;replace bel:=Zaa bel st9;replace st:=Zaa st st9;have hz:=Zad.out;go_wp2_with (first|((with_reducible show wpList _ _ _ ({ dst:=_,op:=.buildSlice _ _ _,type:=_,pos:=_,after:=_,guard:=_ } :: _) _ _);refine Go.wpList_buildSlice rfl 55 57 1 _ rfl #[.int .i64 0,.int .i64 16,.bool true,.slice none 0 0,.slice k1a M k1c] jt _ Tryz.underlying55 hjt ht0 (by rw[ht1];decide) (by rw[ht1];decide) (by rw[ht1];refine (congrArg _ (?_:_=[(0,Value.agg #[.int .i64 0,.int .i64 16,.bool true,.slice none 0 0,.slice k1a M k1c])])).trans HF9.out;kernel_rfl) ?_)|fail);clear hz HF9 st9;refine ZdF.mono ?_;rintro e w2 ⟨rfl,hb⟩;replace HE:Hid (Dep (fun b=>N1≤b) w2 (Zbf 4 [ZaH n]) [.int .i64 2,.int .i64 4,.bool true,.slice none 0 0,.slice (some ⟨w1.heap.size,0,none⟩) 1 1]):=H9.out.next (Agr.below hb) (fun _ h _=>h);replace HR:Hid (RwT w2 N0 u5 ((l.take i).map nmT)):=HR.out.later hb;replace R0:=R0.later hb;replace bel:=Zaa bel hb;replace st:=Zaa st hb;clear hb H9;have hz:=Zad.out;have st9:Below w2.heap.size w2 (w2.alloc (.cells #[.int .i64 2,.int .i64 4,.bool true,.slice none 0 0,.slice (some ⟨w1.heap.size,0,none⟩) 1 1] 57)):=(Below.refl _ _).alloc (Nat.le_refl _) _;have K0:=Blk.new w2 [.int .i64 2,.int .i64 4,.bool true,.slice none 0 0,.slice (some ⟨w1.heap.size,0,none⟩) 1 1] 57 w2.heap.size rfl;replace HE:Hid (Dep (fun b=>N1≤b) (w2.alloc (.cells #[.int .i64 2,.int .i64 4,.bool true,.slice none 0 0,.slice (some ⟨w1.heap.size,0,none⟩) 1 1] 57)) (Zbf 4 [ZaH n]) [.int .i64 2,.int .i64 4,.bool true,.slice none 0 0,.slice (some ⟨w1.heap.size,0,none⟩) 1 1]):=HE.out.next (Agr.below st9) (fun _ h _=>h);replace HR:Hid (RwT (w2.alloc (.cells #[.int .i64 2,.int .i64 4,.bool true,.slice none 0 0,.slice (some ⟨w1.heap.size,0,none⟩) 1 1] 57)) N0 u5 ((l.take i).map nmT)):=HR.out.later st9;replace R0:=R0.later st9;replace bel:=Zaa bel st9;replace st:=Zaa st st9;go_upto_region 6 with (first|((with_reducible show wpList _ _ _ ({ dst:=_,op:=.store _ _ _,type:=_,pos:=_,after:=_,guard:=_ } :: _) _ _);refine wpList_store_row rfl 57 _ _ rfl w2.heap.size #[.int .i64 2,.int .i64 4,.bool true,.slice none 0 0,.slice (some ⟨w1.heap.size,0,none⟩) 1 1] rfl rfl 57 _ (heap_alloc_last _ _) (by rw[Zab];rfl) rfl (by simp[Value.oneCell']) ?_;rw[World.setRow_alloc_new])|fail);clear hz st9;obtain ⟨gk,hgk⟩:∃ g,g=w2.heap.size:=⟨_,rfl⟩;rw[← hgk] at K0;generalize w2.alloc (.cells #[.int .i64 2,.int .i64 4,.bool true,.slice none 0 0,.slice (some ⟨w1.heap.size,0,none⟩) 1 1] 57)=V2 at *;rw[← hgk];clear hgk;obtain ⟨gw,hgw⟩:∃ g,g=w1.heap.size:=⟨_,rfl⟩;rw[← hgw] at K0 HE ⊢;clear hgw;have hLL:(loadVar 57 ⟨gk,0,none⟩).run Tryz.prog V2=.ok (.agg #[.int .i64 2,.int .i64 4,.bool true,.slice none 0 0,.slice (some ⟨gw,0,none⟩) 1 1]) V2:=K0.load Tryz.underlying57 rfl Zab rfl;have lk:=K0.lt;have HF9:Hid _:=Zay (cs:=[.int .i64 2,.int .i64 4,.bool true,.slice none 0 0,.slice (some ⟨gw,0,none⟩) 1 1]) rfl;have st9:Below V2.heap.size V2 (V2.alloc (.cells #[.int .i64 2,.int .i64 4,.bool true,.slice none 0 0,.slice (some ⟨gw,0,none⟩) 1 1] 57)):=(Below.refl _ _).alloc (Nat.le_refl _) _;have H9:Hid (Dep (fun b=>N1≤b) (V2.alloc (.cells #[.int .i64 2,.int .i64 4,.bool true,.slice none 0 0,.slice (some ⟨gw,0,none⟩) 1 1] 57)) (nmT n) [.int .i64 0,.int .i64 16,.bool true,.slice none 0 0,.slice (some ⟨V2.heap.size,0,none⟩) 1 1]):=Zav (ks:=[Zbf 4 [ZaH n]]) rfl (by rw[hN1];exact st.size) (by show 1≤maxLen;decide) (ZaY (P:=Dep (fun b=>N1≤b) V2) HE.out rfl) 0 16 true;replace HR:Hid (RwT (V2.alloc (.cells #[.int .i64 2,.int .i64 4,.bool true,.slice none 0 0,.slice (some ⟨gw,0,none⟩) 1 1] 57)) N0 u5 ((l.take i).map nmT)):=HR.out.later st9;replace R0:=R0.later st9;replace bel:=Zaa bel st9;replace st:=Zaa st st9;have hz:=Zad.out;go_wp2_with (first|((with_reducible show wpList _ _ _ ({ dst:=_,op:=.load _ _,type:=_,pos:=_,after:=_,guard:=_ } :: _) _ _);refine Zae (by rfl) (by rfl) (by rfl) hLL ?_)|((with_reducible show wpList _ _ _ ({ dst:=_,op:=.buildSlice _ _ _,type:=_,pos:=_,after:=_,guard:=_ } :: _) _ _);refine Go.wpList_buildSlice rfl 55 57 1 _ rfl #[.int .i64 2,.int .i64 4,.bool true,.slice none 0 0,.slice (some ⟨gw,0,none⟩) 1 1] jt _ Tryz.underlying55 hjt ht0 (by rw[ht1];decide) (by rw[ht1];decide) (by rw[ht1];refine (congrArg _ (?_:_=[(0,Value.agg #[.int .i64 2,.int .i64 4,.bool true,.slice none 0 0,.slice (some ⟨gw,0,none⟩) 1 1])])).trans HF9.out;kernel_rfl) ?_)|fail);clear hz HF9 st9 hLL lk K0;refine ZbJ.mono ?_;rintro e w3 ⟨rfl,hb⟩;replace HE:Hid (Dep (fun b=>N1≤b) w3 (nmT n) [.int .i64 0,.int .i64 16,.bool true,.slice none 0 0,.slice (some ⟨V2.heap.size,0,none⟩) 1 1]):=H9.out.next (Agr.below hb) (fun _ h _=>h);replace HR:Hid (RwT w3 N0 u5 ((l.take i).map nmT)):=HR.out.later hb;replace R0:=R0.later hb;replace bel:=Zaa bel hb;replace st:=Zaa st hb;clear hb H9;have HF9:Hid _:=Zay (cs:=[.int .i64 0,.int .i64 16,.bool true,.slice none 0 0,.slice (some ⟨V2.heap.size,0,none⟩) 1 1]) rfl;have B9:=Blk.new w3 [.int .i64 0,.int .i64 16,.bool true,.slice none 0 0,.slice (some ⟨V2.heap.size,0,none⟩) 1 1] 57 w3.heap.size rfl;have st9:Below w3.heap.size w3 (w3.alloc (.cells #[.int .i64 0,.int .i64 16,.bool true,.slice none 0 0,.slice (some ⟨V2.heap.size,0,none⟩) 1 1] 57)):=(Below.refl _ _).alloc (Nat.le_refl _) _;have HD9:Hid (Dep (fun b=>N0≤b∧u5.ownBlock≠some b) (w3.alloc (.cells #[.int .i64 0,.int .i64 16,.bool true,.slice none 0 0,.slice (some ⟨V2.heap.size,0,none⟩) 1 1] 57)) (nmT n) [.int .i64 0,.int .i64 16,.bool true,.slice none 0 0,.slice (some ⟨V2.heap.size,0,none⟩) 1 1]):=HE.out.next (Agr.below st9) (fun b hb _=>⟨by omega,fun e=>by have:=HLt.out b e;omega⟩);replace HR:Hid (RwT (w3.alloc (.cells #[.int .i64 0,.int .i64 16,.bool true,.slice none 0 0,.slice (some ⟨V2.heap.size,0,none⟩) 1 1] 57)) N0 u5 ((l.take i).map nmT)):=HR.out.later st9;replace R0:=R0.later st9;replace bel:=Zaa bel st9;replace st:=Zaa st st9;have hsV:N0≤(w3.alloc (.cells #[.int .i64 0,.int .i64 16,.bool true,.slice none 0 0,.slice (some ⟨V2.heap.size,0,none⟩) 1 1] 57)).heap.size:=Nat.le_trans hs st.size;have hlen:((l.take i).map nmT).length≤1000000:=by rw[List.length_map,List.length_take];omega
  have hz:=Zad.out;go_wp2_with (first|((with_reducible show wpList _ _ _ ({ dst:=_,op:=.buildSlice _ _ _,type:=_,pos:=_,after:=_,guard:=_ } :: _) _ _);refine Go.wpList_buildSlice rfl 55 57 1 _ rfl #[.int .i64 0,.int .i64 16,.bool true,.slice none 0 0,.slice (some ⟨V2.heap.size,0,none⟩) 1 1] jt _ Tryz.underlying55 hjt ht0 (by rw[ht1];decide) (by rw[ht1];decide) (by rw[ht1];refine (congrArg _ (?_:_=[(0,Value.agg #[.int .i64 0,.int .i64 16,.bool true,.slice none 0 0,.slice (some ⟨V2.heap.size,0,none⟩) 1 1])])).trans HF9.out;kernel_rfl) ?_)|(at_builtin;refine Zal (by rfl) _ _ (by rfl) N0 u5 ((l.take i).map nmT) (by rfl) HR.out w3.heap.size (by rfl) [.int .i64 0,.int .i64 16,.bool true,.slice none 0 0,.slice (some ⟨V2.heap.size,0,none⟩) 1 1] B9 rfl (by simp[Zbp,Value.oneCell']) (nmT n) HD9.out hlen hsV ?_;intro kz wz hr9 hgrow9 hge9 hat9)|fail);have hsz:=bel.size;have bel9:=Below.grown bel hgrow9 hsz (fun k hk=>by have:=hge9 k hk;omega);have R9:=R0.grown hgrow9 (fun k hk e=>by have:=hge9 k hk;omega);have hs9:N0≤wz.heap.size:=Nat.le_trans hsV hgrow9.size;rw[← HTk.out] at hr9;clear hz HF9 st9 HD9 B9 HE hgrow9 hge9 hat9 HR R0 bel st;go_roundw
  case rel=>exact ⟨i+1,by omega,by go_num,hr9,R9,bel9,hs9⟩
  case measure=>simp[intOf];omega
theorem ZoF {B:List Int} {c:Nat} (h:Zdc B=.error c):c=7∨c=2:=by
 unfold Zdc at h;obtain ⟨R,hR⟩:∃ R,(if B.getD 0 0=0 then B.drop 1 else B)=R:=⟨_,rfl⟩;rw[hR] at h
 by_cases g:B.length=0∨127<B.getD 0 0∨(1<B.length∧B.getD 0 0=0∧B.getD 1 0<128)
 ·rw[if_pos g] at h;cases h;exact .inl rfl
 ·rw[if_neg g] at h
  by_cases g2:64<R.length
  ·rw[if_pos g2] at h;cases h;exact .inr rfl
  ·rw[if_neg g2] at h;cases h
theorem ZmZ {B n:List Int} (b:byt B) (h:Zdc B=.ok n):byt n∧n.length≤64:=by
 unfold Zdc at h;obtain ⟨R,hR⟩:∃ R,(if B.getD 0 0=0 then B.drop 1 else B)=R:=⟨_,rfl⟩;rw[hR] at h;have hb:byt R:=by
  rw[← hR]
  split
  ·exact Zcc b 1
  ·exact b
 by_cases g:B.length=0∨127<B.getD 0 0∨(1<B.length∧B.getD 0 0=0∧B.getD 1 0<128)
 ·rw[if_pos g] at h;cases h
 ·rw[if_neg g] at h
  by_cases g2:64<R.length
  ·rw[if_pos g2] at h;cases h
  ·rw[if_neg g2] at h;cases h;exact ⟨hb,by omega⟩
theorem Zkn {n:List Int} {i:Nat} (h:i<n.length) (v:Int):beW (n.drop i) v=beW (n.drop (i+1)) (256*v+n.getD i 0):=by
 rw[List.drop_eq_getElem_cons h,beW]
 congr 2
 simp[List.getD_eq_getElem?_getD,h]
set_option linter.unusedSimpArgs false in
set_option maxRecDepth 100000 in
set_option maxHeartbeats 1000000 in
theorem r13_Small {v:Value} {B:List Int} {w:World} (hv:Bs w v B) (b:byt B) (hl:B.length≤140737488355328) :
  Calls Tryz.prog 229 #[v] w fun e w'=>(∀ n,Zet B=.ok n→e=.returned (.tuple #[.int .i64 n,.int .i64 0])∧Below w.heap.size w w')∧(∀ c,Zet B=.error c→e=.returned (.tuple #[.int .i64 0,.int .i64 (c:Int)])∧Below w.heap.size w w'):=by
 have HV:Hid (Bs w v B):=hv;have HB:Hid (byt B):=b;clear hv b;go_enter Tryz.func229,Tryz.ntmps229;go_wp2_with fail;refine (Zjt HV.out HB.out hl).mono ?_;rintro e w1 ⟨hok,hbad⟩
 cases hp:Zdc B with
 | error c =>
  obtain⟨rfl,bel⟩:=hbad c hp;have hc:=ZoF hp;have H:Hid (Zet B=.error c):=by show _=_;unfold Zet;rw[hp]
  have g1:¬ (c:Int)=0:=by omega
  clear hok hbad hp;go_wp2_with fail;refine bodyPost_ret (results_tmp2 rfl _ _ _) rfl ?_;exact ⟨fun n h=>(by rw[H.out] at h;cases h),fun c h=>(by rw[H.out] at h;cases h;exact ⟨rfl,bel⟩)⟩
 | ok n =>
  obtain⟨v',rfl,bs,bel⟩:=hok n hp;obtain ⟨hb,hn⟩:=ZmZ HB.out hp;have H0:Hid (Zet B=if 2147483647<beW n 0 then .error 3 else .ok (beW n 0)):=by show _=_;unfold Zet;rw[hp]
  have HBn:Hid (byt n):=hb;obtain ⟨ao,cap,rfl,h1,h2,h3⟩:=bs;obtain ⟨N,hN⟩:∃ N,n.length=N:=⟨_,rfl⟩;have HN:Hid (n.length=N):=hN;rw[hN] at hn h2 h3 ⊢;have HC:Hid (∀ j,j<N→∃ g o,ao=some ⟨g,o,none⟩∧w1.cell? ⟨g,o+j,none⟩=some (.int .u8 (n.getD j 0))∧g<w1.heap.size):=fun j hj=>by
   obtain⟨g,o,e1,e2,e3⟩:=h3 (by omega);exact ⟨g,o,e1,e3 j hj,e2⟩
  clear hok hbad hp hb h3 hN;unfold maxLen at h1;go_wp2_with fail;go_loop [6,7] (fun vv iv=>∃ (i:Nat) (x:Int),i≤N∧iv=.int .i64 (i:Int)∧vv=.int .i64 x∧(0≤x∧x≤2147483647)∧Hid (beW n 0=beW (n.drop i) x)) (fun _ iv=>N-(intOf iv).toNat)
  case atStart=>exact ⟨0,0,by omega,rfl,rfl,by omega,rfl⟩
  case round =>
   obtain⟨i,x,hi,rfl,rfl,hx,HE⟩:=hrel
   by_cases hil:i<N
   ·have g1:(i:Int)<(N:Int):=by omega
    have g2:(0:Int)≤(i:Int):=by omega
    have gi:IntKind.i64.wrap ((i:Int)+1)=(i:Int)+1:=by rw[IntKind.wrap_i64];omega
    obtain⟨g,o,rfl,cy,lg⟩:=HC.out i hil;have yb:=HBn.out i;have HE2:Hid (beW n 0=beW (n.drop (i+1)) (256*x+n.getD i 0)):=by show _=_;rw[HE.out,Zkn (by rw[HN.out];exact hil)]
    obtain⟨y,hy⟩:∃ y,n.getD i 0=y:=⟨_,rfl⟩;rw[hy] at cy yb HE2;have w1':IntKind.i64.wrap (256*x)=256*x:=by rw[IntKind.wrap_i64];omega
    have w2':IntKind.i64.wrap y=y:=by rw[IntKind.wrap_i64];omega
    have w3':IntKind.i64.wrap (256*x+y)=256*x+y:=by rw[IntKind.wrap_i64];omega
    clear hy HE
    by_cases c1:2147483647<256*x+y
    ·have H:Hid (Zet B=.error 3):=by
      have:=ZnR (n.drop (i+1)) (256*x+y) (Zcc HBn.out _) (by omega);show _=_;rw[H0.out,if_pos (by rw[HE2.out];omega)]
     go_wp2_with fail;refine bodyPost_ret (results_tmp2 rfl _ _ _) rfl ?_;exact ⟨fun n h=>(by rw[H.out] at h;cases h),fun c h=>(by rw[H.out] at h;cases h;exact ⟨rfl,bel⟩)⟩
    ·go_wp2_with fail
     go_round
     case rel=>exact ⟨i+1,256*x+y,by omega,by go_num,rfl,by omega,HE2⟩
     case measure=>simp[intOf];omega
   ·have g1:¬ (i:Int)<(N:Int):=by omega
    have H:Hid (Zet B=.ok x):=by
     have e:beW n 0=x:=by
      have:=HE.out;rw[List.drop_of_length_le (by rw[HN.out];omega),beW] at this;exact this
     show _=_;rw[H0.out,e,if_neg (by omega)]
    go_wp2_with fail;refine bodyPost_ret (results_tmp2 rfl _ _ _) rfl ?_;exact ⟨fun n h=>(by rw[H.out] at h;cases h;exact ⟨rfl,bel⟩),fun c h=>(by rw[H.out] at h;cases h)⟩
set_option linter.unusedSimpArgs false in
set_option maxRecDepth 100000 in
set_option maxHeartbeats 1000000 in
theorem Zg0 {x:Int} {w:World} (hx:-9223372036854775808≤x∧x≤9223372036854775807) :
  Calls Tryz.prog 24 #[.int .i64 x] w fun e w'=>(∀ n,Zau x=.ok n→∃ v':Value,e=.returned (.tuple #[v',.int .i64 0])∧Bs w' v' n∧ZbR w v'∧Below w.heap.size w w')∧(∀ c,Zau x=.error c→e=.returned (.tuple #[.slice none 0 0,.int .i64 (c:Int)])∧Below w.heap.size w w'):=by
 by_cases c1:x<0
 ·have H:Hid (Zau x=.error 3):=by show _=_;unfold Zau;rw[if_pos (.inl c1)]
  go_enter Tryz.func24,Tryz.ntmps24;go_wp2_with fail;refine bodyPost_ret (results_tmp2 rfl _ _ _) rfl ?_;exact ⟨fun n h=>(by rw[H.out] at h;cases h),fun c h=>(by rw[H.out] at h;cases h;exact ⟨rfl,Below.refl _ _⟩)⟩
 by_cases c2:2147483647<x
 ·have H:Hid (Zau x=.error 3):=by show _=_;unfold Zau;rw[if_pos (.inr c2)]
  go_enter Tryz.func24,Tryz.ntmps24;go_wp2_with fail;refine bodyPost_ret (results_tmp2 rfl _ _ _) rfl ?_;exact ⟨fun n h=>(by rw[H.out] at h;cases h),fun c h=>(by rw[H.out] at h;cases h;exact ⟨rfl,Below.refl _ _⟩)⟩
 have H0:Hid (Zau x=ZaK (ZeW 4 x.toNat [])):=by show _=_;unfold Zau;rw[if_neg (by omega)]
 obtain⟨n,rfl⟩:=Int.eq_ofNat_of_zero_le (by omega:0≤x);rw[Int.toNat_natCast] at H0;have hn:n<256 ^ 4:=by
  have:(256:Nat) ^ 4=4294967296:=by decide
  omega
 have HN:Hid (n<256 ^ 4):=hn;clear hn hx;go_enter Tryz.func24,Tryz.ntmps24;go_wp2_with fail;obtain ⟨W,hW⟩:∃ z,z=w:=⟨_,rfl⟩;rw[← hW];have HW:Hid (W=w):=hW;clear hW;go_loopw [0,4] (fun nv lv wx=>∃ (m f:Nat) (X:List Int),m≤2147483647∧f≤4∧nv=.int .i64 (m:Int)∧Bs wx lv X∧Hid (byt X)∧X.length+f≤4∧Hid (m<256 ^ f)∧Hid (ZeW 4 n []=ZeW f m X)∧Below W.heap.size W wx) (fun nv _ _=>(intOf nv).toNat)
 case atStart=>exact ⟨n,4,[],by omega,by omega,rfl,⟨none,0,rfl,by decide,by decide,fun h=>by simp at h⟩,fun j=>by simp,by simp,HN,rfl,Below.refl _ _⟩
 case round =>
  obtain⟨m,f,X,hm,hf,rfl,bs,HX,hXl,HM,HE,bel⟩:=hrel
  by_cases h0:0<m
  ·have g1:(0:Int)<(m:Int):=by omega
   have q1:(m:Int).tmod 256=((m%256:Nat):Int):=by rw[Int.tmod_eq_emod_of_nonneg (by omega)];omega
   have q2:(m:Int).tdiv 256=((m/256:Nat):Int):=by rw[Int.tdiv_eq_ediv_of_nonneg (by omega)];omega
   have q3:IntKind.i64.wrap ((m/256:Nat):Int)=((m/256:Nat):Int):=by rw[IntKind.wrap_i64];omega
   have q4:IntKind.u8.wrap ((m%256:Nat):Int)=((m%256:Nat):Int):=by rw[IntKind.wrap_u8];omega
   obtain⟨f',rfl⟩:∃ f',f=f'+1:=⟨f-1,by have:=HM.out;cases f with|zero=>simp at this;omega|succ f=>omega⟩;have HE2:Hid (ZeW 4 n []=ZeW f' (m/256) (((m%256:Nat):Int)::X)):=by show _=_;rw[HE.out,ZeW,if_neg (by omega)]
   have HM2:Hid (m/256<256 ^ f'):=by have:=HM.out;rw[Nat.pow_succ] at this;show _<_;omega
   have hme:m/256<m:=by omega
   have yb:m%256<256:=by omega
   obtain⟨y,hy⟩:∃ y,m%256=y:=⟨_,rfl⟩;obtain ⟨d,hd⟩:∃ d,m/256=d:=⟨_,rfl⟩;rw[hy] at q1 q4 HE2 yb;rw[hd] at q2 q3 HE2 HM2 hme;clear hy hd HE HM;have own4:=Zax wr [.int .u8 (y:Int)] 5 1 wr.heap.size rfl (Nat.le_refl _) (by decide);have hbl:Below wr.heap.size wr (wr.alloc (.cells #[.int .u8 (y:Int)] 5)):=(Below.refl _ _).alloc (Nat.le_refl _) _;have bs4:=bs.later hbl;have HX2:Hid (byt ((y:Int)::X)):=fun j=>by
    cases j with
    | zero=>rw[List.getD_cons_zero];omega
    | succ j=>rw[List.getD_cons_succ];exact HX.out j
   go_upto_region 6 with (first|(at_builtin;refine Zac (by rfl) _ _ (by rfl) wr.heap.size _ 1 [(y:Int)] (by rfl) own4 _ X (by rfl) bs4 (by omega) (by simp) ?_;intro v5 w5 own5 hgrow hat)|fail);have hb5:=Zai (base:=wr.heap.size) hbl hgrow (by simp) (fun g hg=>Zan own4 hg) (Nat.le_refl _);have b5:=Bs.of_own own5;replace bel:=bel.trans (hb5.mono bel.size);clear own4 hbl bs4 hgrow hat own5 hb5 bs;go_wp2_with fail;go_roundw
   case rel=>exact ⟨d,f',(y:Int)::X,by omega,by omega,rfl,b5,HX2,by rw[List.length_cons];omega,HM2,HE2,bel⟩
   case measure=>simp[intOf];omega
  ·have g1:¬ (0:Int)<(m:Int):=by omega
   have hm0:m=0:=by omega
   subst hm0;have H1:Hid (Zau (n:Int)=ZaK X):=by show _=_;rw[H0.out,HE.out,Zkl]
   go_wp2_with fail;refine (ZdY bs HX.out (by omega)).mono ?_;rintro e w6 ⟨hok,hbad⟩
   cases hp:ZaK X with
   | ok k =>
    obtain⟨v6,rfl,b6,hn6,hb6⟩:=hok k hp;have hs6:=bel.size;have H:Hid (Zau (n:Int)=.ok k):=by show _=_;rw[H1.out,hp]
    replace bel:=bel.trans (hb6.mono bel.size);go_wp2_with fail;refine bodyPost_ret (results_tmp2 rfl _ _ _) rfl ?_;exact ⟨fun n h=>(by rw[H.out] at h;cases h;exact ⟨_,rfl,b6,fun a m c e h0=>(by have:=hn6 a m c e h0;have:=HW.out;subst this;omega),by rw[← HW.out];exact bel⟩),fun c h=>(by rw[H.out] at h;cases h)⟩
   | error k =>
    obtain⟨rfl,hb6⟩:=hbad k hp;have H:Hid (Zau (n:Int)=.error k):=by show _=_;rw[H1.out,hp]
    replace bel:=bel.trans (hb6.mono bel.size);go_wp2_with fail;refine bodyPost_ret (results_tmp2 rfl _ _ _) rfl ?_;exact ⟨fun n h=>(by rw[H.out] at h;cases h),fun c h=>(by rw[H.out] at h;cases h;exact ⟨rfl,by rw[← HW.out];exact bel⟩)⟩
set_option linter.unusedSimpArgs false in
set_option maxRecDepth 100000 in
set_option maxHeartbeats 400000 in
theorem Zgd {w:World}:Calls Tryz.prog 33 #[] w fun e w'=>∃ cs:List Value,e=.returned (.agg cs.toArray)∧Dep (fun g=>w.heap.size≤g) w' Zbe cs∧Below w.heap.size w w':=by
 have R0:=Blk.new w [.int .i64 0,.int .i64 0,.bool false,.slice none 0 0,.slice none 0 0] 57 w.heap.size rfl;have bel:Below w.heap.size w (w.alloc (.cells #[.int .i64 0,.int .i64 0,.bool false,.slice none 0 0,.slice none 0 0] 57)):=(Below.refl _ _).alloc (Nat.le_refl _) _;have hz:=Zad.out;go_enter Tryz.func33,Tryz.ntmps33;go_upto_region 1 with fail;have lW:=bel.size;generalize w.alloc (.cells #[.int .i64 0,.int .i64 0,.bool false,.slice none 0 0,.slice none 0 0] 57)=W at *;clear hz;have lR:=R0.lt;obtain ⟨N0,hN0⟩:∃ n,n=W.heap.size:=⟨_,rfl⟩;have st:Below W.heap.size W W:=Below.refl _ _;rw[← hN0] at lR lW;obtain ⟨jt,hjt,ht0,ht1,ht2⟩:=Zap ZaI;have HU1:Hid (Us (W.alloc (.cells #[.int .u64 1,.int .u64 2,.int .u64 840,.int .u64 10045,.int .u64 2,.int .u64 1] 25)) (.slice (some ⟨W.heap.size,0,none⟩) 6 6) [1,2,840,10045,2,1]):=Zhc (Blk.new W (us [1,2,840,10045,2,1]) 25 W.heap.size rfl) rfl (by decide);replace R0:=R0.alloc (.cells #[.int .u64 1,.int .u64 2,.int .u64 840,.int .u64 10045,.int .u64 2,.int .u64 1] 25);replace st:=Zaf (o:=.cells #[.int .u64 1,.int .u64 2,.int .u64 840,.int .u64 10045,.int .u64 2,.int .u64 1] 25) st;replace bel:=Zaf (o:=.cells #[.int .u64 1,.int .u64 2,.int .u64 840,.int .u64 10045,.int .u64 2,.int .u64 1] 25) bel;go_wp2_with fail;refine (Ze6 HU1.out (Zfe (by decide))).mono ?_;rintro e w1 ⟨cs,rfl,hd1,hb⟩;have HD1:Hid (Dep (fun g=>N0≤g) w1 (ZaV [1,2,840,10045,2,1]) cs):=hd1.next (Agr.refl _ _) (fun _ h _=>by rw[hN0];exact Nat.le_trans st.size h);have HL1:Hid (cs.length=5):=hd1.now.five;replace R0:=R0.later hb;replace st:=Zaa st hb;replace bel:=Zaa bel hb;clear hd1;have st1:Below w1.heap.size w1 w1:=Below.refl _ _;clear hb;have HU2:Hid (Us (w1.alloc (.cells #[.int .u64 1,.int .u64 3,.int .u64 132,.int .u64 0,.int .u64 34] 25)) (.slice (some ⟨w1.heap.size,0,none⟩) 5 5) [1,3,132,0,34]):=Zhc (Blk.new w1 (us [1,3,132,0,34]) 25 w1.heap.size rfl) rfl (by decide);replace R0:=R0.alloc (.cells #[.int .u64 1,.int .u64 3,.int .u64 132,.int .u64 0,.int .u64 34] 25);replace st1:=Zaf (o:=.cells #[.int .u64 1,.int .u64 3,.int .u64 132,.int .u64 0,.int .u64 34] 25) st1;replace st:=Zaf (o:=.cells #[.int .u64 1,.int .u64 3,.int .u64 132,.int .u64 0,.int .u64 34] 25) st;replace bel:=Zaf (o:=.cells #[.int .u64 1,.int .u64 3,.int .u64 132,.int .u64 0,.int .u64 34] 25) bel;go_wp2_with fail;refine (Ze6 HU2.out (Zfe (by decide))).mono ?_;rintro e w2 ⟨ds,rfl,hd2,hb⟩;have HD2:Hid (Dep (fun g=>N0≤g) w2 (ZaV [1,3,132,0,34]) ds):=hd2.next (Agr.refl _ _) (fun _ h _=>by rw[hN0];exact Nat.le_trans st.size h);have HL2:Hid (ds.length=5):=hd2.now.five;replace R0:=R0.later hb;replace st:=Zaa st hb;replace bel:=Zaa bel hb;clear hd2;have HD1b:Hid (Dep (fun g=>N0≤g) w2 (ZaV [1,2,840,10045,2,1]) cs):=HD1.out.next (Agr.below (Zaa st1 hb)) (fun _ h _=>h);clear hb;have HF:Hid _:=ZbO HL1.out HL2.out;have HT:Hid (Dep (fun g=>N0≤g) (w2.alloc (.cells (cs++ds).toArray 57)) Zbe [.int .i64 0,.int .i64 16,.bool true,.slice none 0 0,.slice (some ⟨w2.heap.size,0,none⟩) 2 2]):=Zav (ks:=[ZaV [1,2,840,10045,2,1],ZaV [1,3,132,0,34]]) (by rw[List.length_append,HL1.out,HL2.out];rfl) (by rw[hN0];exact st.size) (by decide) (Zbo (P:=Dep (fun g=>N0≤g) w2) HD1b.out HD2.out HL1.out HL2.out) 0 16 true;replace R0:=R0.alloc (.cells (cs++ds).toArray 57);replace bel:=Zaf (o:=.cells (cs++ds).toArray 57) bel;have hz:=Zad.out;go_wp2_with (first|((with_reducible show wpList _ _ _ ({ dst:=_,op:=.buildSlice _ _ _,type:=_,pos:=_,after:=_,guard:=_ } :: _) _ _);refine Go.wpList_buildSlice rfl 55 57 2 _ rfl (cs++ds).toArray jt _ Tryz.underlying55 hjt ht0 (by rw[ht1];decide) (by rw[ht1];decide) (by rw[ht1];refine (congrArg _ (?_:_=[(0,Value.agg cs.toArray),(1,Value.agg ds.toArray)])).trans HF.out;kernel_rfl) ?_)|fail);clear hz;refine ZbJ.mono ?_;rintro e w3 ⟨rfl,hb⟩;replace R0:=R0.later hb;replace bel:=Zaa bel hb;have HT3:Hid (Dep (fun g=>N0≤g) w3 Zbe [.int .i64 0,.int .i64 16,.bool true,.slice none 0 0,.slice (some ⟨w2.heap.size,0,none⟩) 2 2]):=HT.out.next (Agr.below hb) (fun _ h _=>h);clear hb HT;obtain ⟨tR,hR⟩:=R0;have HR1:Hid _:=hR;clear hR;go_wp2_with (first|((with_reducible show wpList _ _ _ ({ dst:=_,op:=.store _ _ _,type:=_,pos:=_,after:=_,guard:=_ } :: _) _ _);refine wpList_store_row rfl 57 _ _ rfl w.heap.size #[.int .i64 0,.int .i64 16,.bool true,.slice none 0 0,.slice (some ⟨w2.heap.size,0,none⟩) 2 2] rfl rfl tR _ HR1.out (by rw[Zab];rfl) rfl (by simp[Value.oneCell']) ?_)|fail);refine bodyPost_ret (results_cell_row rfl _ _ w.heap.size tR #[.int .i64 0,.int .i64 16,.bool true,.slice none 0 0,.slice (some ⟨w2.heap.size,0,none⟩) 2 2] (0,0) _ rfl (setRow_heap _ _ _ _ _ _ HR1.out) Tryz.underlying57 rfl (by rw[Zab];rfl)) rfl ?_;exact ⟨_,rfl,ZaB HT3.out lR lW,below_setRow bel (by omega) _⟩
theorem kid_n {P:Tl→List Value→Prop}:∀ (i:Nat) (k:Tl),([]:List Tl)[i]?=some k→P k ((([]:List Value).drop (5*i)).take 5):=fun i k h=>by simp at h
theorem ZgM {P:Tl→List Value→Prop} {T:Tl} {cs xs:List Value} {Ts:List Tl} (h:P T cs) (l:cs.length=5) (hr:∀ (i:Nat) (k:Tl),Ts[i]?=some k→P k ((xs.drop (5*i)).take 5)):∀ (i:Nat) (k:Tl),(T::Ts)[i]?=some k→P k (((cs++xs).drop (5*i)).take 5):=fun i k hk=>by
 match i,hk with
 | 0,hk =>
  simp only[List.getElem?_cons_zero,Option.some.injEq] at hk;subst hk;rw[Nat.mul_zero,List.drop_zero,List.take_append_of_le_length (by omega),List.take_of_length_le (by omega)];exact h
 | i+1,hk =>
  rw[List.getElem?_cons_succ] at hk;have:=hr i k hk;rw[show 5*(i+1)=cs.length+5*i by omega,← List.drop_drop,List.drop_left];exact this
theorem Zor {c0 c1 c2 c3 c4 c5 c6 c7:List Value} (h0:c0.length=5) (h1:c1.length=5) (h2:c2.length=5) (h3:c3.length=5) (h4:c4.length=5) (h5:c5.length=5) (h6:c6.length=5) (h7:c7.length=5):Instr.fill (fun i=>some (i*5,5)) ((Array.range (8*5)).map ((Value.agg #[.int .i64 0,.int .i64 0,.bool false,.slice none 0 0,.slice none 0 0]).cells[· % (Value.agg #[.int .i64 0,.int .i64 0,.bool false,.slice none 0 0,.slice none 0 0]).cells.size]!)) [(0,.agg c0.toArray),(1,.agg c1.toArray),(2,.agg c2.toArray),(3,.agg c3.toArray),(4,.agg c4.toArray),(5,.agg c5.toArray),(6,.agg c6.toArray),(7,.agg c7.toArray)]=some (c0++(c1++(c2++(c3++(c4++(c5++(c6++(c7++[])))))))).toArray:=by
 obtain⟨_,_,_,_,_,rfl⟩:=five h0;obtain ⟨_,_,_,_,_,rfl⟩:=five h1;obtain ⟨_,_,_,_,_,rfl⟩:=five h2;obtain ⟨_,_,_,_,_,rfl⟩:=five h3;obtain ⟨_,_,_,_,_,rfl⟩:=five h4;obtain ⟨_,_,_,_,_,rfl⟩:=five h5;obtain ⟨_,_,_,_,_,rfl⟩:=five h6;obtain ⟨_,_,_,_,_,rfl⟩:=five h7;kernel_rfl
def caL (c:Ct):List Tl:=if c.ca=true then [Zcm] else []
noncomputable def m1L (c:Ct):List Tl:=[Zcf 19 true (Zak (ZbD c))]
noncomputable def m2L (c:Ct):List Tl:=m1L c++(if 0<c.usage then [Zcf 15 true (ZeA c.usage.toNat)] else [])
noncomputable def m3L (c:Ct):List Tl:=m2L c++(if 0<c.uses.length then [Zcf 37 false (Zak (c.uses.map ZaV))] else [])
def l1L (c:Ct):List Tl:=if 0<c.permit.length then [ZaA 0 c.permit] else []
theorem ZkJ (c:Ct):Zbl c=m3L c++(if 0<(ZaT c).length then [Zcf 30 true (Zak (ZaT c))] else []):=rfl
theorem Zio (c:Ct):ZaT c=l1L c++(if 0<c.exclude.length then [ZaA 1 c.exclude] else []):=rfl
theorem Zh3 (c:Ct):ZbD c=caL c++(if 0≤c.path then [.mk 0 2 false (ZdE (Zau c.path)) []] else []):=rfl
theorem ZnA {n:Int} (h:0≤n) (h2:¬ 2147483647<n):∃ b,Zau n=.ok b:=by
 unfold Zau;rw[if_neg (by omega)];unfold ZaK;have hl:(Za4 (ZeW 4 n.toNat [])).length≤4:=by
  have hz:∀ X:List Int,(Za4 X).length≤X.length:=by
   intro X
   induction X with
   | nil=>simp[Za4]
   | cons x X ih =>
    rw[Za4]
    split
    ·rw[List.length_cons];omega
    ·exact Nat.le_refl _
  have h1:=hz (ZeW 4 n.toNat []);have h3:=ZdT 4 n.toNat [];rw[List.length_nil] at h3;omega
 rw[if_neg (by omega)]
 split
 ·exact ⟨_,rfl⟩
 ·exact ⟨_,rfl⟩
theorem Znk {w:World}:Calls Tryz.prog 23 #[] w fun e w'=>∃ cs:List Value,e=.returned (.agg cs.toArray)∧Dep (fun g=>w.heap.size≤g) w' Zcm cs∧Below w.heap.size w w':=Zlb.mono (fun _ _ ⟨gy,h1,h2,h3,h4⟩=>⟨_,h1,ZcD (Blk.bs (P:=[255]) h3 rfl (by decide)) (fun a m c e _=>by
 simp only[Value.slice.injEq,Option.some.injEq] at e;rw[← e.1];exact Nat.le_of_lt h2) 0 1 false,h4⟩)
def Zhh (w:World) (c:Ct) (e:Ending) (w':World):Prop:=Below w.heap.size w w'∧(¬ Zcn c→e=.returned (.tuple #[.slice none 0 0,.int .i64 1]))∧(Zcn c→∃ (v:Value) (p:List Int),Ziv c.kx c.ky p∧e=.returned (.tuple #[v,.int .i64 ((wrN (ZaX c p):Nat):Int)])∧Bs w' v (wrB (ZaX c p)))
theorem Zhh.no {w w':World} {c:Ct} (h:¬ Zcn c) (hb:Below w.heap.size w w'):Zhh w c (.returned (.tuple #[.slice none 0 0,.int .i64 1])) w':=⟨hb,fun _=>rfl,fun k=>absurd k h⟩
theorem Zhh.yes {w w':World} {c:Ct} {v:Value} {p:List Int} (h:Zcn c) (hp:Ziv c.kx c.ky p) (hv:Bs w' v (wrB (ZaX c p))) (hb:Below w.heap.size w w'):Zhh w c (.returned (.tuple #[v,.int .i64 ((wrN (ZaX c p):Nat):Int)])) w':=⟨hb,fun k=>absurd h k,fun _=>⟨v,p,hp,rfl,hv⟩⟩
set_option linter.unusedSimpArgs false in
set_option maxRecDepth 100000 in
set_option maxHeartbeats 8000000 in
theorem Ziw {c:Ct} {cs:List Value} {w:World} (h:Zds w c cs) (wf:WfC c) (sm:c.uses.length<100∧c.permit.length<100∧c.exclude.length<100) :
  Calls Tryz.prog 10 #[.agg cs.toArray] w (Zhh w c):=by
 have HC:Hid (Zds w c cs):=h;obtain ⟨sv,iv,jv,xs,ys,uv,pv,ev,bv,rs,zs,hl,q0,q1,q2,q3,q4,q17,q18,q19,q20,q21,q22,q23,q24,-,qk,-,hS,hI,hJ,hX,hY,hU,hP,hE,-,-,-⟩:=h.open;have HL38:Hid (cs.length=38):=hl;have HS:Hid (Bs w sv c.serial):=hS;have HI:Hid (Zb3 w iv c.issuer):=hI;have HJ:Hid (Zb3 w jv c.subject):=hJ;have HU:Hid (Zgo w uv c.uses):=hU;have HP:Hid (ZcY w pv c.permit):=hP;have HE:Hid (ZcY w ev c.exclude):=hE;have HX:Hid (U6 xs c.kx∧U6 ys c.ky):=⟨hX,hY⟩;have HQk:Hid _:=qk;have HWc:Hid (WfC c):=wf;obtain ⟨wS,wI,wJ,wF,wT,wPa,wUs,wUses,wPer,wExc,-⟩:=wf;clear hS hI hJ hX hY qk h;obtain ⟨sa,sc,rfl,-,-,-⟩:=id HS.out;obtain ⟨ia,ic,rfl,-,-,-⟩:=id HI.out;obtain ⟨ja,jc,rfl,-,-,-⟩:=id HJ.out;obtain ⟨ua,uc,rfl,-,-,-⟩:=hU;obtain ⟨pa,pc,rfl,-,-,-⟩:=hP;obtain ⟨ea,ec,rfl,-,-,-⟩:=hE;have HSm:Hid (c.uses.length<100∧c.permit.length<100∧c.exclude.length<100):=sm;clear sm;obtain ⟨SL,hSL⟩:∃ z,c.serial.length=z:=⟨_,rfl⟩;have HSL:Hid (c.serial.length=SL):=hSL;obtain ⟨IL,hIL⟩:∃ z,c.issuer.length=z:=⟨_,rfl⟩;have HIL:Hid (c.issuer.length=IL):=hIL;obtain ⟨JL,hJL⟩:∃ z,c.subject.length=z:=⟨_,rfl⟩;have HJL:Hid (c.subject.length=JL):=hJL;obtain ⟨UL,hUL⟩:∃ z,c.uses.length=z:=⟨_,rfl⟩;have HUL:Hid (c.uses.length=UL):=hUL;obtain ⟨PL,hPL⟩:∃ z,c.permit.length=z:=⟨_,rfl⟩;have HPL:Hid (c.permit.length=PL):=hPL;obtain ⟨EL,hEL⟩:∃ z,c.exclude.length=z:=⟨_,rfl⟩;have HEL:Hid (c.exclude.length=EL):=hEL;rw[hSL] at q0 HS;rw[hIL] at q1 HI;rw[hJL] at q2 HJ;rw[hUL] at q21 HU;rw[hPL] at q22 HP;rw[hEL] at q23 HE;clear hSL hIL hJL hUL hPL hEL hl;obtain ⟨pth,hpth⟩:∃ z,c.path=z:=⟨_,rfl⟩;have Hpth:Hid (c.path=pth):=hpth;obtain ⟨usg,husg⟩:∃ z,c.usage=z:=⟨_,rfl⟩;have Husg:Hid (c.usage=usg):=husg;obtain ⟨frm,hfrm⟩:∃ z,c.frm=z:=⟨_,rfl⟩;have Hfrm:Hid (c.frm=frm):=hfrm;obtain ⟨til,htil⟩:∃ z,c.til=z:=⟨_,rfl⟩;have Htil:Hid (c.til=til):=htil;obtain ⟨cb,hcb⟩:∃ z,c.ca=z:=⟨_,rfl⟩;have Hcb:Hid (c.ca=cb):=hcb;obtain ⟨kb,hkb⟩:∃ z,c.kn=z:=⟨_,rfl⟩;have Hkb:Hid (c.kn=kb):=hkb;rw[hpth] at q19 wPa;rw[husg] at q20 wUs;rw[hfrm] at q3 wF;rw[htil] at q4 wT;rw[hcb] at q18;rw[hkb] at q17;clear hpth husg hfrm htil hcb hkb;have B0:=Blk.new w cs 35 w.heap.size rfl;have bel:Below w.heap.size w (w.alloc (.cells cs.toArray 35)):=(Below.refl _ _).alloc (Nat.le_refl _) _;go_enter Tryz.func10,Tryz.ntmps10;go_upto_region 1 with fail;generalize w.alloc (.cells cs.toArray 35)=W at *;have hld:(loadVar 35 ⟨w.heap.size,0,none⟩).run Tryz.prog W=.ok (.agg cs.toArray) W:=B0.load Tryz.underlying35 rfl ZoY HL38.out;have l0:=B0.lt;go_wp2_with (first|((with_reducible show wpList _ _ _ ({ dst:=_,op:=.load _ _,type:=_,pos:=_,after:=_,guard:=_ } :: _) _ _);refine Zae (by rfl) (by rfl) (by rfl) hld ?_)|fail);refine (ZoQ (HC.out.later bel) HWc.out HSm.out).mono ?_;rintro e w1 ⟨bb,rfl,hbb,hb⟩;replace B0:=B0.later hb;replace bel:=Zaa bel hb;clear hb hld l0
 cases bb with
 | false =>
  have H:Hid (¬ Zcn c):=fun h=>by have:=hbb.2 h;cases this
  clear hbb;go_wp2_with fail;refine bodyPost_ret (results_tmp2 rfl _ _ _) rfl ?_;exact Zhh.no H.out bel
 | true =>
  have HM:Hid (Zcn c):=hbb.1 rfl;clear hbb;obtain ⟨N0,hN0⟩:∃ n,n=w1.heap.size:=⟨_,rfl⟩;have lN:w.heap.size<N0:=by rw[hN0];exact B0.lt
  have hs:N0≤w1.heap.size:=by omega
  clear hN0;obtain ⟨jt,hjt,ht0,ht1,ht2⟩:=Zap ZaI;have e18:=B0.cell 18 _ q18;have l0:=B0.lt;go_upto_if 26 with fail;clear l0 e18;go_cut [5] (fun sv wx=>RwT wx N0 sv (caL c)∧Blk wx w.heap.size cs∧Below w.heap.size w wx∧N0≤wx.heap.size)
  case first =>
   cases cb with
   | false =>
    have HL:Hid (caL c=[]):=by show (if c.ca=true then [Zcm] else [])=[];rw[Hcb.out];rfl
    go_wp2_with fail;go_meet;exact ⟨by rw[HL.out];exact RwT.nil0 _ _,B0,bel,hs⟩
   | true =>
    have HL:Hid (caL c=[]++[Zcm]):=by show (if c.ca=true then [Zcm] else [])=_;rw[Hcb.out];rfl
    go_wp2_with fail;refine Znk.mono ?_;rintro e w2 ⟨ds,rfl,hd,hb⟩;have HD:Hid (Dep (fun g=>w1.heap.size≤g) w2 Zcm ds):=hd;have HL5:Hid (ds.length=5):=HD.out.now.five;have HO5:Hid (Zbp ds):=HD.out.now.ones;have HR:Hid (RwT w2 N0 (.slice none 0 0) []):=RwT.nil0 _ _;have HKb:Hid (∀ b,(Value.slice none 0 0).ownBlock=some b→b<w1.heap.size):=fun b h=>by simp[Value.ownBlock] at h
    have hs2:N0≤w2.heap.size:=Nat.le_trans hs hb.size;replace B0:=B0.later hb;replace bel:=Zaa bel hb;clear hb hd;have HF9:Hid _:=Zay HL5.out;have hz:=Zad.out;have B9:=Blk.new w2 ds 57 w2.heap.size rfl;have st9:Below w2.heap.size w2 (w2.alloc (.cells ds.toArray 57)):=(Below.refl _ _).alloc (Nat.le_refl _) _;have HD9:Hid (Dep (fun b=>N0≤b∧(Value.slice none 0 0).ownBlock≠some b) (w2.alloc (.cells ds.toArray 57)) (Zcm) ds):=HD.out.next (Agr.below st9) (fun b hb _=>⟨by omega,fun e=>by have:=HKb.out b e;omega⟩);have HR9:Hid (RwT (w2.alloc (.cells ds.toArray 57)) N0 (Value.slice none 0 0) []):=HR.out.later st9;have hs9:N0≤((w2.alloc (.cells ds.toArray 57))).heap.size:=Nat.le_trans hs2 st9.size;replace B0:=B0.later st9;replace bel:=Zaa bel st9;go_wp2_with (first|((with_reducible show wpList _ _ _ ({ dst:=_,op:=.buildSlice _ _ _,type:=_,pos:=_,after:=_,guard:=_ } :: _) _ _);refine Go.wpList_buildSlice rfl 55 57 1 _ rfl ds.toArray jt _ Tryz.underlying55 hjt ht0 (by rw[ht1];decide) (by rw[ht1];decide) (by rw[ht1];refine (congrArg _ (?_:_=[(0,Value.agg ds.toArray)])).trans HF9.out;kernel_rfl) ?_)|(at_builtin;refine Zal (by rfl) _ _ (by rfl) N0 (Value.slice none 0 0) [] (by rfl) HR9.out w2.heap.size (by rfl) ds B9 HL5.out HO5.out (Zcm) HD9.out (by simp) hs9 ?_;intro kv9 w9 hr9 hgrow9 hge9 hat9)|fail);have hsz9:=bel.size;replace B0:=B0.grown hgrow9 (fun k hk e=>by have:=hge9 k hk;omega);replace bel:=Below.grown bel hgrow9 hsz9 (fun k hk=>by have:=hge9 k hk;omega);have hs10:N0≤w9.heap.size:=Nat.le_trans hs9 hgrow9.size;clear hgrow9 hge9 hat9 hs9 B9 HR9 HD9 HF9 hz hsz9 st9;go_meet;exact ⟨by rw[HL.out];exact hr9,B0,bel,hs10⟩
  case rest =>
   clear B0 bel hs;obtain ⟨hr,B0,bel,hs⟩:=hcut;obtain ⟨ka,kc,hkv⟩:=hr.sl;subst hkv;obtain ⟨K,hK⟩:∃ z,(caL c).length=z:=⟨_,rfl⟩;have HKl:Hid ((caL c).length=K):=hK;rw[hK] at hr ⊢;have HR:Hid (RwT wc N0 (.slice ka K kc) (caL c)):=hr;have HKb:Hid (∀ b,(Value.slice ka K kc).ownBlock=some b→b<wc.heap.size):=hr.lt;clear hr hK;have e19:=B0.cell 19 _ q19;have l0:=B0.lt;go_upto_if 33 with fail;clear l0 e19;go_cut [5] (fun sv wx=>RwT wx N0 sv (ZbD c)∧Blk wx w.heap.size cs∧Below w.heap.size w wx∧N0≤wx.heap.size)
   case first =>
    have hK2:K≤1:=by have:=HKl.out;unfold caL at this;split at this<;>simp at this<;>omega
    by_cases hp:0≤pth
    rotate_left
    ·have g1:¬ 0≤pth:=hp
     have HL:Hid (ZbD c=caL c):=by show _=_;rw[Zh3,if_neg (by rw[Hpth.out];exact hp),List.append_nil]
     clear hp;go_wp2_with fail;go_meet;exact ⟨by rw[HL.out];exact HR.out,B0,bel,hs⟩
    have hp2:¬ 2147483647<pth:=by rw[← Hpth.out];exact HM.out.2.2.2.1
    have HL:Hid (ZbD c=caL c++[.mk 0 2 false (ZdE (Zau pth)) []]):=by show _=_;rw[Zh3,if_pos (by rw[Hpth.out];exact hp),Hpth.out]
    obtain⟨sb,hsb⟩:=ZnA hp hp2;have e19:=B0.cell 19 _ q19;have l0:=B0.lt;go_wp2_with fail;refine (Zg0 (by omega)).mono ?_;rintro e w2 ⟨hok,-⟩;obtain ⟨v2,rfl,hv2,hn2,hb⟩:=hok sb hsb;rw[show ZdE (Zau pth)=sb by rw[hsb];rfl] at HL;obtain ⟨va,vc,hvv,-,-,-⟩:=id hv2;obtain ⟨vn,hvn⟩:∃ z,sb.length=z:=⟨_,rfl⟩;rw[hvn] at hvv;subst hvv;have HD:Hid (Dep (fun g=>wc.heap.size≤g) w2 (.mk 0 2 false sb []) [.int .i64 0,.int .i64 2,.bool false,.slice va vn vc,.slice none 0 0]):=ZbZ hv2 hn2 0 2 false;replace HR:Hid (RwT w2 N0 (.slice ka K kc) (caL c)):=HR.out.later hb;have hs0:=hs;replace B0:=B0.later hb;replace bel:=Zaa bel hb;replace hs:N0≤w2.heap.size:=Nat.le_trans hs hb.size;clear l0 e19;clear hb hok hv2 hn2 hsb hvn;go_upto_region 9 with fail;have HF9:Hid _:=Zay (cs:=[.int .i64 0,.int .i64 2,.bool false,.slice va vn vc,.slice none 0 0]) rfl;have hz:=Zad.out;have B9:=Blk.new w2 [.int .i64 0,.int .i64 2,.bool false,.slice va vn vc,.slice none 0 0] 57 w2.heap.size rfl;have st9:Below w2.heap.size w2 (w2.alloc (.cells #[.int .i64 0,.int .i64 2,.bool false,.slice va vn vc,.slice none 0 0] 57)):=(Below.refl _ _).alloc (Nat.le_refl _) _;have HD9:Hid (Dep (fun b=>N0≤b∧(Value.slice ka K kc).ownBlock≠some b) (w2.alloc (.cells #[.int .i64 0,.int .i64 2,.bool false,.slice va vn vc,.slice none 0 0] 57)) (.mk 0 2 false sb []) [.int .i64 0,.int .i64 2,.bool false,.slice va vn vc,.slice none 0 0]):=HD.out.next (Agr.below st9) (fun b hb _=>⟨by omega,fun e=>by have:=HKb.out b e;omega⟩);have HR9:Hid (RwT (w2.alloc (.cells #[.int .i64 0,.int .i64 2,.bool false,.slice va vn vc,.slice none 0 0] 57)) N0 (Value.slice ka K kc) (caL c)):=HR.out.later st9;have hs9:N0≤((w2.alloc (.cells #[.int .i64 0,.int .i64 2,.bool false,.slice va vn vc,.slice none 0 0] 57))).heap.size:=Nat.le_trans hs st9.size;replace B0:=B0.later st9;replace bel:=Zaa bel st9;go_wp2_with (first|((with_reducible show wpList _ _ _ ({ dst:=_,op:=.buildSlice _ _ _,type:=_,pos:=_,after:=_,guard:=_ } :: _) _ _);refine Go.wpList_buildSlice rfl 55 57 1 _ rfl #[.int .i64 0,.int .i64 2,.bool false,.slice va vn vc,.slice none 0 0] jt _ Tryz.underlying55 hjt ht0 (by rw[ht1];decide) (by rw[ht1];decide) (by rw[ht1];refine (congrArg _ (?_:_=[(0,Value.agg #[.int .i64 0,.int .i64 2,.bool false,.slice va vn vc,.slice none 0 0])])).trans HF9.out;kernel_rfl) ?_)|(at_builtin;refine Zal (by rfl) _ _ (by rfl) N0 (Value.slice ka K kc) (caL c) (by rfl) HR9.out w2.heap.size (by rfl) [.int .i64 0,.int .i64 2,.bool false,.slice va vn vc,.slice none 0 0] B9 rfl (by simp[Zbp,Value.oneCell']) (.mk 0 2 false sb []) HD9.out (by rw[HKl.out];omega) hs9 ?_;intro kv9 w9 hr9 hgrow9 hge9 hat9)|fail);have hsz9:=bel.size;replace B0:=B0.grown hgrow9 (fun k hk e=>by have:=hge9 k hk;omega);replace bel:=Below.grown bel hgrow9 hsz9 (fun k hk=>by have:=hge9 k hk;omega);have hs10:N0≤w9.heap.size:=Nat.le_trans hs9 hgrow9.size;clear hgrow9 hge9 hat9 hs9 B9 HR9 HD9 HF9 hz hsz9 st9;go_meet;exact ⟨by rw[HL.out];exact hr9,B0,bel,hs10⟩
   case rest =>
    clear B0 bel hs HR HKb HKl;obtain ⟨hr,B0,bel,hs⟩:=hcut;obtain ⟨ka1,kc1,hkv⟩:=hr.sl;subst hkv;obtain ⟨K1,hK⟩:∃ z,(ZbD c).length=z:=⟨_,rfl⟩;rw[hK] at hr ⊢;clear hK;generalize wc=wd at *;have HD:Hid (Dep (fun g=>N0≤g) wd (Zak (ZbD c)) [.int .i64 0,.int .i64 16,.bool true,.slice none 0 0,.slice ka1 K1 kc1]):=hr.dep 0 16 true;clear hr;go_wp2_with fail;refine ZbJ.mono ?_;rintro e w3 ⟨rfl,hb⟩;have HT3:Hid (Zbg w3 (Zak (ZbD c)) [.int .i64 0,.int .i64 16,.bool true,.slice none 0 0,.slice ka1 K1 kc1]):=(HD.out.next (Agr.below hb) (fun _ h _=>h):Dep (fun g=>N0≤g) _ _ _).now;replace B0:=B0.later hb;replace bel:=Zaa bel hb;replace hs:N0≤w3.heap.size:=Nat.le_trans hs hb.size;clear hb HD;go_wp2_with fail;have HZ:Hid (Sm 21 (Zak (ZbD c))):=ZaZ (Zgj c);refine (Zb1 (by decide) HT3.out (by have:=HZ.out.2;omega) (fun _=>by have:=HZ.out.1;omega)).mono ?_;rintro e w4 ⟨ds,rfl,hd,hb⟩;have HD:Hid (Dep (fun g=>N0≤g) w4 (Zcf 19 true (Zak (ZbD c))) ds):=hd.next (Agr.refl _ _) (fun _ h _=>Nat.le_trans hs h);have HL5:Hid (ds.length=5):=HD.out.now.five;have HO5:Hid (Zbp ds):=HD.out.now.ones;replace B0:=B0.later hb;replace bel:=Zaa bel hb;replace hs:N0≤w4.heap.size:=Nat.le_trans hs hb.size;clear hb hd HT3 HZ

    have HR:Hid (RwT (w4.alloc (.cells ds.toArray 57)) N0 (.slice (some ⟨w4.heap.size,0,none⟩) 1 1) (m1L c)):=RwT.lit HD.out HL5.out hs;have HF:Hid _:=Zay HL5.out;have hz:=Zad.out;have hb:Below w4.heap.size w4 (w4.alloc (.cells ds.toArray 57)):=(Below.refl _ _).alloc (Nat.le_refl _) _;replace B0:=B0.later hb;replace bel:=Zaa bel hb;replace hs:N0≤(w4.alloc (.cells ds.toArray 57)).heap.size:=Nat.le_trans hs hb.size;clear hb HD;go_upto_region 11 with (first|((with_reducible show wpList _ _ _ ({ dst:=_,op:=.buildSlice _ _ _,type:=_,pos:=_,after:=_,guard:=_ } :: _) _ _);refine Go.wpList_buildSlice rfl 55 57 1 _ rfl ds.toArray jt _ Tryz.underlying55 hjt ht0 (by rw[ht1];decide) (by rw[ht1];decide) (by rw[ht1];refine (congrArg _ (?_:_=[(0,Value.agg ds.toArray)])).trans HF.out;kernel_rfl) ?_)|fail);clear hz HF HL5 HO5;obtain ⟨g4,hg4⟩:∃ g,g=w4.heap.size:=⟨_,rfl⟩;rw[← hg4] at HR ⊢;generalize w4.alloc (.cells ds.toArray 57)=V4 at *;clear hg4;have HKb:Hid (∀ b,(Value.slice (some ⟨g4,0,none⟩) 1 1).ownBlock=some b→b<V4.heap.size):=HR.out.lt;have e20:=B0.cell 20 _ q20;have l0:=B0.lt;go_upto_if 51 with fail;clear l0 e20;go_cut [8] (fun sv wx=>RwT wx N0 sv (m2L c)∧Blk wx w.heap.size cs∧Below w.heap.size w wx∧N0≤wx.heap.size)
    case first =>
     by_cases hp:0<usg
     rotate_left
     ·have g1:¬ 0<usg:=hp
      have HL:Hid (m2L c=m1L c):=by show m1L c++_=_;rw[if_neg (by rw[Husg.out];exact hp),List.append_nil]
      clear hp;go_wp2_with fail;go_meet;exact ⟨by rw[HL.out];exact HR.out,B0,bel,hs⟩
     obtain⟨n,rfl⟩:=Int.eq_ofNat_of_zero_le (show 0≤usg by omega);have hu2:¬ 65535<(n:Int):=by rw[← Husg.out];exact HM.out.2.2.2.2.2.2.1
     have HL:Hid (m2L c=m1L c++[Zcf 15 true (ZeA n)]):=by show m1L c++_=_;rw[if_pos (by rw[Husg.out];exact hp),Husg.out,Int.toNat_natCast]
     have e20:=B0.cell 20 _ q20;have l0:=B0.lt;go_wp2_with fail;refine (Zla (n:=n) (by omega) (by omega)).mono ?_;rintro e w5 ⟨us5,rfl,hd,hb⟩;have HT5:Hid (Zbg w5 (ZeA n) us5):=hd.now;replace HR:Hid (RwT w5 N0 (.slice (some ⟨g4,0,none⟩) 1 1) (m1L c)):=HR.out.later hb;replace HKb:Hid (∀ b,(Value.slice (some ⟨g4,0,none⟩) 1 1).ownBlock=some b→b<w5.heap.size):=HR.out.lt;replace B0:=B0.later hb;replace bel:=Zaa bel hb;replace hs:N0≤w5.heap.size:=Nat.le_trans hs hb.size;clear l0 e20;clear hb hd;go_wp2_with fail;refine (Zb1 (by decide) HT5.out (by have:=(Zg7 n).2;omega) (fun _=>by have:=(Zg7 n).1;omega)).mono ?_;rintro e w6 ⟨ds,rfl,hd,hb⟩;have HD:Hid (Dep (fun g=>w5.heap.size≤g) w6 (Zcf 15 true (ZeA n)) ds):=hd;have HL5:Hid (ds.length=5):=HD.out.now.five;have HO5:Hid (Zbp ds):=HD.out.now.ones;replace HR:Hid (RwT w6 N0 (Value.slice (some ⟨g4,0,none⟩) 1 1) (m1L c)):=HR.out.later hb;have hs0:N0≤w5.heap.size:=hs;replace B0:=B0.later hb;replace bel:=Zaa bel hb;replace hs:N0≤w6.heap.size:=Nat.le_trans hs hb.size;clear hb hd;have HF9:Hid _:=Zay HL5.out;have hz:=Zad.out;have B9:=Blk.new w6 ds 57 w6.heap.size rfl;have st9:Below w6.heap.size w6 (w6.alloc (.cells ds.toArray 57)):=(Below.refl _ _).alloc (Nat.le_refl _) _;have HD9:Hid (Dep (fun b=>N0≤b∧(Value.slice (some ⟨g4,0,none⟩) 1 1).ownBlock≠some b) (w6.alloc (.cells ds.toArray 57)) (Zcf 15 true (ZeA n)) ds):=HD.out.next (Agr.below st9) (fun b hb _=>⟨by omega,fun e=>by have:=HKb.out b e;omega⟩);have HR9:Hid (RwT (w6.alloc (.cells ds.toArray 57)) N0 (Value.slice (some ⟨g4,0,none⟩) 1 1) (m1L c)):=HR.out.later st9;have hs9:N0≤((w6.alloc (.cells ds.toArray 57))).heap.size:=Nat.le_trans hs st9.size;replace B0:=B0.later st9;replace bel:=Zaa bel st9;go_wp2_with (first|((with_reducible show wpList _ _ _ ({ dst:=_,op:=.buildSlice _ _ _,type:=_,pos:=_,after:=_,guard:=_ } :: _) _ _);refine Go.wpList_buildSlice rfl 55 57 1 _ rfl ds.toArray jt _ Tryz.underlying55 hjt ht0 (by rw[ht1];decide) (by rw[ht1];decide) (by rw[ht1];refine (congrArg _ (?_:_=[(0,Value.agg ds.toArray)])).trans HF9.out;kernel_rfl) ?_)|(at_builtin;refine Zal (by rfl) _ _ (by rfl) N0 (Value.slice (some ⟨g4,0,none⟩) 1 1) (m1L c) (by rfl) HR9.out w6.heap.size (by rfl) ds B9 HL5.out HO5.out (Zcf 15 true (ZeA n)) HD9.out (by show 1≤1000000;omega) hs9 ?_;intro kv9 w9 hr9 hgrow9 hge9 hat9)|fail);have hsz9:=bel.size;replace B0:=B0.grown hgrow9 (fun k hk e=>by have:=hge9 k hk;omega);replace bel:=Below.grown bel hgrow9 hsz9 (fun k hk=>by have:=hge9 k hk;omega);have hs10:N0≤w9.heap.size:=Nat.le_trans hs9 hgrow9.size;clear hgrow9 hge9 hat9 hs9 B9 HR9 HD9 HF9 hz hsz9 st9;go_meet;exact ⟨by rw[HL.out];exact hr9,B0,bel,hs10⟩
    case rest =>
     clear B0 bel hs HR HKb;obtain ⟨hr,B0,bel,hs⟩:=hcut;obtain ⟨ka2,kc2,hkv⟩:=hr.sl;subst hkv;obtain ⟨K2,hK⟩:∃ z,(m2L c).length=z:=⟨_,rfl⟩;have HK2:Hid ((m2L c).length=K2):=hK;rw[hK] at hr ⊢;generalize wc=we at *;have HR8:Hid (RwT we N0 (.slice ka2 K2 kc2) (m2L c)):=hr;clear hr hK;have hK2:K2≤2:=by have:=HK2.out;unfold m2L m1L at this;split at this<;>simp at this<;>omega
     have e21:=B0.cell 21 _ q21;have l0:=B0.lt;go_upto_if 62 with fail;clear l0 e21;go_cut [8] (fun sv wx=>RwT wx N0 sv (m3L c)∧Blk wx w.heap.size cs∧Below w.heap.size w wx∧N0≤wx.heap.size)
     case first =>
      by_cases hp:0<UL
      rotate_left
      ·have g1:¬ (0:Int)<(UL:Int):=by omega
       have HL:Hid (m3L c=m2L c):=by show m2L c++_=_;rw[if_neg (by rw[HUL.out];exact hp),List.append_nil]
       clear hp;go_wp2_with fail;go_meet;exact ⟨by rw[HL.out];exact HR8.out,B0,bel,hs⟩
      have HL:Hid (m3L c=m2L c++[Zcf 37 false (Zak (c.uses.map ZaV))]):=by show m2L c++_=_;rw[if_pos (by rw[HUL.out];exact hp)]
      have g0:(0:Int)<(UL:Int):=by omega
      have hul:UL≤8:=by rw[← HUL.out];exact HM.out.lims.1
      obtain⟨N2,hN2⟩:∃ n,n=we.heap.size:=⟨_,rfl⟩;have lN2:N0≤N2:=by omega
      have st2:Below we.heap.size we we:=Below.refl _ _;have gd:decide ((0:Int)<(UL:Int))=true:=decide_eq_true (by omega);have gd2:decide (0<UL)=true:=decide_eq_true hp
      try simp only[gd,gd2]
      go_wp2_with fail;go_loopw [9,10] (fun kv iv wx=>∃ i:Nat,i≤UL∧iv=.int .i64 (i:Int)∧RwT wx N2 kv ((c.uses.take i).map ZaV)∧Blk wx w.heap.size cs∧Below w.heap.size w wx∧Below we.heap.size we wx) (fun _ iv _=>UL-(intOf iv).toNat)
      case atStart=>exact ⟨0,by omega,rfl,by simpa using RwT.nil0 _ _,B0,bel,st2⟩
      case round =>
       clear B0 bel st2;obtain ⟨i,hi,rfl,hr,B0,bel,st2⟩:=hrel;obtain ⟨ka9,kc9,hkv⟩:=hr.sl;have HLi:Hid (((c.uses.take i).map ZaV).length=i):=by show _=_;rw[List.length_map,List.length_take,HUL.out];omega
       rw[HLi.out] at hkv;subst hkv;have hst:N2≤wr.heap.size:=by rw[hN2];exact st2.size
       have e21:=B0.cell 21 _ q21;have l0:=B0.lt
       by_cases hil:i<UL
       ·have g1:(i:Int)<(UL:Int):=by omega
        have g2:(0:Int)≤(i:Int):=by omega
        have gi:IntKind.i64.wrap ((i:Int)+1)=(i:Int)+1:=by rw[IntKind.wrap_i64];omega
        obtain⟨l,hln⟩:∃ l,c.uses[i]?=some l:=⟨_,List.getElem?_eq_getElem (by rw[HUL.out];exact hil)⟩;obtain ⟨ao,cap,ev9,-,-,h3⟩:=HU.out.later bel;obtain ⟨b1,o1,ea9,l1,hc⟩:=h3 (by rw[HUL.out];omega);simp only[Value.slice.injEq] at ev9;obtain ⟨rfl,-,-⟩:=ev9;subst ea9;obtain ⟨u,x0,hus⟩:=hc i l hln;have HUs:Hid (Us wr u l):=hus;obtain ⟨la,lc,rfl,-,-,-⟩:=hus;have HWl:Hid (wrd l):=wUses l (List.mem_of_getElem? hln);have HTk:Hid ((c.uses.take (i+1)).map ZaV=(c.uses.take i).map ZaV++[ZaV l]):=by show _=_;rw[List.take_add_one,hln,List.map_append];rfl
        obtain⟨LL,hLL⟩:∃ z,l.length=z:=⟨_,rfl⟩;rw[hLL] at HUs x0;clear h3 hc hln hLL;go_wp2_with fail;refine (Ze6 HUs.out HWl.out).mono ?_;rintro e w5 ⟨ds,rfl,hd,hb⟩;have HD:Hid (Dep (fun g=>wr.heap.size≤g) w5 (ZaV l) ds):=hd;have HL5:Hid (ds.length=5):=HD.out.now.five;have HO5:Hid (Zbp ds):=HD.out.now.ones;have HR:Hid (RwT w5 N2 (.slice ka9 i kc9) ((c.uses.take i).map ZaV)):=hr.later hb;have HKb:Hid (∀ b,(Value.slice ka9 i kc9).ownBlock=some b→b<wr.heap.size):=hr.lt;replace B0:=B0.later hb;replace bel:=Zaa bel hb;replace st2:=Zaa st2 hb;have hs2:N2≤w5.heap.size:=Nat.le_trans hst hb.size;clear hb hd hr e21 l0 x0;have HF9:Hid _:=Zay HL5.out;have hz:=Zad.out;have B9:=Blk.new w5 ds 57 w5.heap.size rfl;have st9:Below w5.heap.size w5 (w5.alloc (.cells ds.toArray 57)):=(Below.refl _ _).alloc (Nat.le_refl _) _;have HD9:Hid (Dep (fun b=>N2≤b∧(Value.slice ka9 i kc9).ownBlock≠some b) (w5.alloc (.cells ds.toArray 57)) (ZaV l) ds):=HD.out.next (Agr.below st9) (fun b hb _=>⟨by omega,fun e=>by have:=HKb.out b e;omega⟩);have HR9:Hid (RwT (w5.alloc (.cells ds.toArray 57)) N2 (Value.slice ka9 i kc9) ((c.uses.take i).map ZaV)):=HR.out.later st9;have hs9:N2≤((w5.alloc (.cells ds.toArray 57))).heap.size:=Nat.le_trans hs2 st9.size;replace B0:=B0.later st9;replace bel:=Zaa bel st9;replace st2:=Zaa st2 st9;go_wp2_with (first|((with_reducible show wpList _ _ _ ({ dst:=_,op:=.buildSlice _ _ _,type:=_,pos:=_,after:=_,guard:=_ } :: _) _ _);refine Go.wpList_buildSlice rfl 55 57 1 _ rfl ds.toArray jt _ Tryz.underlying55 hjt ht0 (by rw[ht1];decide) (by rw[ht1];decide) (by rw[ht1];refine (congrArg _ (?_:_=[(0,Value.agg ds.toArray)])).trans HF9.out;kernel_rfl) ?_)|(at_builtin;refine Zal (by rfl) _ _ (by rfl) N2 (Value.slice ka9 i kc9) ((c.uses.take i).map ZaV) (by rfl) HR9.out w5.heap.size (by rfl) ds B9 HL5.out HO5.out (ZaV l) HD9.out (by rw[HLi.out];omega) hs9 ?_;intro kv9 w9 hr9 hgrow9 hge9 hat9)|fail);have hsz9:=bel.size;replace B0:=B0.grown hgrow9 (fun k hk e=>by have:=hge9 k hk;omega);replace bel:=Below.grown bel hgrow9 hsz9 (fun k hk=>by have:=hge9 k hk;omega);have hz_st2:=st2.size;replace st2:=Below.grown st2 hgrow9 hz_st2 (fun k hk=>by have:=hge9 k hk;omega);clear hz_st2;have hs10:N2≤w9.heap.size:=Nat.le_trans hs9 hgrow9.size;clear hgrow9 hge9 hat9 hs9 B9 HR9 HD9 HF9 hz hsz9 st9;rw[← HTk.out] at hr9;go_roundw
        case rel=>exact ⟨i+1,by omega,by go_num,hr9,B0,bel,st2⟩
        case measure=>simp[intOf];omega
       ·have g1:¬ (i:Int)<(UL:Int):=by omega
        have hr2:RwT wr N2 (.slice ka9 i kc9) (c.uses.map ZaV):=by have h9:=hr;rw[List.take_of_length_le (by rw[HUL.out];omega)] at h9;exact h9
        have HDl:Hid (Dep (fun g=>N2≤g) wr (Zak (c.uses.map ZaV)) [.int .i64 0,.int .i64 16,.bool true,.slice none 0 0,.slice ka9 i kc9]):=hr2.dep 0 16 true;have HR:Hid (RwT wr N0 (.slice ka2 K2 kc2) (m2L c)):=HR8.out.later st2;have hs:N0≤wr.heap.size:=by omega
        clear hr hr2;go_wp2_with fail;clear e21 l0;refine ZbJ.mono ?_;rintro e w5 ⟨rfl,hb⟩;have HT5:Hid (Zbg w5 (Zak (c.uses.map ZaV)) [.int .i64 0,.int .i64 16,.bool true,.slice none 0 0,.slice ka9 i kc9]):=(HDl.out.next (Agr.below hb) (fun _ h _=>h):Dep (fun g=>N2≤g) _ _ _).now;replace HR:Hid (RwT w5 N0 (.slice ka2 K2 kc2) (m2L c)):=HR.out.later hb;have HKb:Hid (∀ b,(Value.slice ka2 K2 kc2).ownBlock=some b→b<w5.heap.size):=HR.out.lt;have HZ:Hid (Sm 1245 (Zak (c.uses.map ZaV))):=ZaZ (ZhT HM.out);replace B0:=B0.later hb;replace bel:=Zaa bel hb;replace hs:N0≤w5.heap.size:=Nat.le_trans hs hb.size;clear hb HDl;go_wp2_with fail;refine (Zb1 (by decide) HT5.out (by have:=HZ.out.2;omega) (fun _=>by have:=HZ.out.1;omega)).mono ?_;rintro e w6 ⟨ds,rfl,hd,hb⟩;have HD:Hid (Dep (fun g=>w5.heap.size≤g) w6 (Zcf 37 false (Zak (c.uses.map ZaV))) ds):=hd;have HL5:Hid (ds.length=5):=HD.out.now.five;have HO5:Hid (Zbp ds):=HD.out.now.ones;replace HR:Hid (RwT w6 N0 (Value.slice ka2 K2 kc2) (m2L c)):=HR.out.later hb;have hs0:N0≤w5.heap.size:=hs;replace B0:=B0.later hb;replace bel:=Zaa bel hb;replace hs:N0≤w6.heap.size:=Nat.le_trans hs hb.size;clear hb hd;have HF9:Hid _:=Zay HL5.out;have hz:=Zad.out;have B9:=Blk.new w6 ds 57 w6.heap.size rfl;have st9:Below w6.heap.size w6 (w6.alloc (.cells ds.toArray 57)):=(Below.refl _ _).alloc (Nat.le_refl _) _;have HD9:Hid (Dep (fun b=>N0≤b∧(Value.slice ka2 K2 kc2).ownBlock≠some b) (w6.alloc (.cells ds.toArray 57)) (Zcf 37 false (Zak (c.uses.map ZaV))) ds):=HD.out.next (Agr.below st9) (fun b hb _=>⟨by omega,fun e=>by have:=HKb.out b e;omega⟩);have HR9:Hid (RwT (w6.alloc (.cells ds.toArray 57)) N0 (Value.slice ka2 K2 kc2) (m2L c)):=HR.out.later st9;have hs9:N0≤((w6.alloc (.cells ds.toArray 57))).heap.size:=Nat.le_trans hs st9.size;replace B0:=B0.later st9;replace bel:=Zaa bel st9;go_wp2_with (first|((with_reducible show wpList _ _ _ ({ dst:=_,op:=.buildSlice _ _ _,type:=_,pos:=_,after:=_,guard:=_ } :: _) _ _);refine Go.wpList_buildSlice rfl 55 57 1 _ rfl ds.toArray jt _ Tryz.underlying55 hjt ht0 (by rw[ht1];decide) (by rw[ht1];decide) (by rw[ht1];refine (congrArg _ (?_:_=[(0,Value.agg ds.toArray)])).trans HF9.out;kernel_rfl) ?_)|(at_builtin;refine Zal (by rfl) _ _ (by rfl) N0 (Value.slice ka2 K2 kc2) (m2L c) (by rfl) HR9.out w6.heap.size (by rfl) ds B9 HL5.out HO5.out (Zcf 37 false (Zak (c.uses.map ZaV))) HD9.out (by rw[HK2.out];omega) hs9 ?_;intro kv9 w9 hr9 hgrow9 hge9 hat9)|fail);have hsz9:=bel.size;replace B0:=B0.grown hgrow9 (fun k hk e=>by have:=hge9 k hk;omega);replace bel:=Below.grown bel hgrow9 hsz9 (fun k hk=>by have:=hge9 k hk;omega);have hs10:N0≤w9.heap.size:=Nat.le_trans hs9 hgrow9.size;clear hgrow9 hge9 hat9 hs9 B9 HR9 HD9 HF9 hz hsz9 st9;go_meet;exact ⟨by rw[HL.out];exact hr9,B0,bel,hs10⟩
     case rest =>
      clear B0 bel hs HR8;obtain ⟨hr,B0,bel,hs⟩:=hcut;obtain ⟨ka3,kc3,hkv⟩:=hr.sl;subst hkv;obtain ⟨K3,hK⟩:∃ z,(m3L c).length=z:=⟨_,rfl⟩;have HK3:Hid ((m3L c).length=K3):=hK;rw[hK] at hr ⊢;generalize wc=wf at *;have HR8:Hid (RwT wf N0 (.slice ka3 K3 kc3) (m3L c)):=hr;clear hr hK;have hK3:K3≤3:=by have:=HK3.out;unfold m3L m2L m1L at this;simp only[List.length_append] at this;split at this<;>split at this<;>simp at this<;>omega
      obtain⟨N3,hN3⟩:∃ n,n=wf.heap.size:=⟨_,rfl⟩;have lN3:N0≤N3:=by omega
      have st3:Below wf.heap.size wf wf:=Below.refl _ _;have e22:=B0.cell 22 _ q22;have l0:=B0.lt;go_upto_if 88 with fail;clear l0 e22;go_cut [11] (fun sv wx=>RwT wx N3 sv (l1L c)∧Blk wx w.heap.size cs∧Below w.heap.size w wx∧Below wf.heap.size wf wx)
      case first =>
       have hst:N3≤wf.heap.size:=by omega
       have hpl:PL≤8:=by rw[← HPL.out];exact HM.out.lims.2.1
       by_cases hp:0<PL
       rotate_left
       ·have g1:¬ (0:Int)<(PL:Int):=by omega
        have HL:Hid (l1L c=[]):=by show (if 0<c.permit.length then _ else _)=_;rw[if_neg (by rw[HPL.out];exact hp)]
        clear hp;go_wp2_with fail;go_meet;exact ⟨by rw[HL.out];exact RwT.nil0 _ _,B0,bel,st3⟩
       have g1:(0:Int)<(PL:Int):=by omega
       have HL:Hid (l1L c=[]++[ZaA 0 c.permit]):=by show (if 0<c.permit.length then _ else _)=_;rw[if_pos (by rw[HPL.out];exact hp)];rfl
       have e22:=B0.cell 22 _ q22;have l0:=B0.lt;go_wp2_with fail;refine (Zg1 (HP.out.later bel) wPer HM.out.nm.2.2.1 (by rw[HPL.out];omega)).mono ?_;rintro e w5 ⟨ds,rfl,hd,hb⟩;have HD:Hid (Dep (fun g=>wf.heap.size≤g) w5 (ZaA 0 c.permit) ds):=hd;have HL5:Hid (ds.length=5):=HD.out.now.five;have HO5:Hid (Zbp ds):=HD.out.now.ones;have HR:Hid (RwT w5 N3 (.slice none 0 0) []):=RwT.nil0 _ _;have HKb:Hid (∀ b,(Value.slice none 0 0).ownBlock=some b→b<wf.heap.size):=fun b h=>by simp[Value.ownBlock] at h
       replace B0:=B0.later hb;replace bel:=Zaa bel hb;replace st3:=Zaa st3 hb;have hs2:N3≤w5.heap.size:=Nat.le_trans hst hb.size;clear hb hd e22 l0;have HF9:Hid _:=Zay HL5.out;have hz:=Zad.out;have B9:=Blk.new w5 ds 57 w5.heap.size rfl;have st9:Below w5.heap.size w5 (w5.alloc (.cells ds.toArray 57)):=(Below.refl _ _).alloc (Nat.le_refl _) _;have HD9:Hid (Dep (fun b=>N3≤b∧(Value.slice none 0 0).ownBlock≠some b) (w5.alloc (.cells ds.toArray 57)) (ZaA 0 c.permit) ds):=HD.out.next (Agr.below st9) (fun b hb _=>⟨by omega,fun e=>by have:=HKb.out b e;omega⟩);have HR9:Hid (RwT (w5.alloc (.cells ds.toArray 57)) N3 (Value.slice none 0 0) []):=HR.out.later st9;have hs9:N3≤((w5.alloc (.cells ds.toArray 57))).heap.size:=Nat.le_trans hs2 st9.size;replace B0:=B0.later st9;replace bel:=Zaa bel st9;replace st3:=Zaa st3 st9;go_wp2_with (first|((with_reducible show wpList _ _ _ ({ dst:=_,op:=.buildSlice _ _ _,type:=_,pos:=_,after:=_,guard:=_ } :: _) _ _);refine Go.wpList_buildSlice rfl 55 57 1 _ rfl ds.toArray jt _ Tryz.underlying55 hjt ht0 (by rw[ht1];decide) (by rw[ht1];decide) (by rw[ht1];refine (congrArg _ (?_:_=[(0,Value.agg ds.toArray)])).trans HF9.out;kernel_rfl) ?_)|(at_builtin;refine Zal (by rfl) _ _ (by rfl) N3 (Value.slice none 0 0) [] (by rfl) HR9.out w5.heap.size (by rfl) ds B9 HL5.out HO5.out (ZaA 0 c.permit) HD9.out (by simp) hs9 ?_;intro kv9 w9 hr9 hgrow9 hge9 hat9)|fail);have hsz9:=bel.size;replace B0:=B0.grown hgrow9 (fun k hk e=>by have:=hge9 k hk;omega);replace bel:=Below.grown bel hgrow9 hsz9 (fun k hk=>by have:=hge9 k hk;omega);have hz_st3:=st3.size;replace st3:=Below.grown st3 hgrow9 hz_st3 (fun k hk=>by have:=hge9 k hk;omega);clear hz_st3;have hs10:N3≤w9.heap.size:=Nat.le_trans hs9 hgrow9.size;clear hgrow9 hge9 hat9 hs9 B9 HR9 HD9 HF9 hz hsz9 st9;go_meet;exact ⟨by rw[HL.out];exact hr9,B0,bel,st3⟩
      case rest =>
       clear B0 bel hs st3;obtain ⟨hr,B0,bel,st3⟩:=hcut;obtain ⟨ka4,kc4,hkv⟩:=hr.sl;subst hkv;obtain ⟨K4,hK⟩:∃ z,(l1L c).length=z:=⟨_,rfl⟩;have HK4:Hid ((l1L c).length=K4):=hK;rw[hK] at hr ⊢;have hK4:K4≤1:=by rw[← hK];unfold l1L;split<;>simp
       generalize wc=wg at *;have HR:Hid (RwT wg N3 (.slice ka4 K4 kc4) (l1L c)):=hr;have HKb:Hid (∀ b,(Value.slice ka4 K4 kc4).ownBlock=some b→b<wg.heap.size):=hr.lt;clear hr hK;have e23:=B0.cell 23 _ q23;have l0:=B0.lt;go_upto_if 98 with fail;clear l0 e23;go_cut [11] (fun sv wx=>RwT wx N3 sv (ZaT c)∧Blk wx w.heap.size cs∧Below w.heap.size w wx∧Below wf.heap.size wf wx)
       case first =>
        have hst:N3≤wg.heap.size:=by rw[hN3];exact st3.size
        have hpl:EL≤8:=by rw[← HEL.out];exact HM.out.lims.2.2.1
        by_cases hp:0<EL
        rotate_left
        ·have g1:¬ (0:Int)<(EL:Int):=by omega
         have HL:Hid (ZaT c=l1L c):=by show _=_;rw[Zio,if_neg (by rw[HEL.out];exact hp),List.append_nil]
         clear hp;go_wp2_with fail;go_meet;exact ⟨by rw[HL.out];exact HR.out,B0,bel,st3⟩
        have g1:(0:Int)<(EL:Int):=by omega
        have HL:Hid (ZaT c=l1L c++[ZaA 1 c.exclude]):=by show _=_;rw[Zio,if_pos (by rw[HEL.out];exact hp)]
        have e23:=B0.cell 23 _ q23;have l0:=B0.lt;go_wp2_with fail;refine (Zg1 (HE.out.later bel) wExc HM.out.nm.2.2.2 (by rw[HEL.out];omega)).mono ?_;rintro e w5 ⟨ds,rfl,hd,hb⟩;have HD:Hid (Dep (fun g=>wg.heap.size≤g) w5 (ZaA 1 c.exclude) ds):=hd;have HL5:Hid (ds.length=5):=HD.out.now.five;have HO5:Hid (Zbp ds):=HD.out.now.ones;replace HR:Hid (RwT w5 N3 (.slice ka4 K4 kc4) (l1L c)):=HR.out.later hb;replace B0:=B0.later hb;replace bel:=Zaa bel hb;replace st3:=Zaa st3 hb;have hs2:N3≤w5.heap.size:=Nat.le_trans hst hb.size;clear hb hd e23 l0;have HF9:Hid _:=Zay HL5.out;have hz:=Zad.out;have B9:=Blk.new w5 ds 57 w5.heap.size rfl;have st9:Below w5.heap.size w5 (w5.alloc (.cells ds.toArray 57)):=(Below.refl _ _).alloc (Nat.le_refl _) _;have HD9:Hid (Dep (fun b=>N3≤b∧(Value.slice ka4 K4 kc4).ownBlock≠some b) (w5.alloc (.cells ds.toArray 57)) (ZaA 1 c.exclude) ds):=HD.out.next (Agr.below st9) (fun b hb _=>⟨by omega,fun e=>by have:=HKb.out b e;omega⟩);have HR9:Hid (RwT (w5.alloc (.cells ds.toArray 57)) N3 (Value.slice ka4 K4 kc4) (l1L c)):=HR.out.later st9;have hs9:N3≤((w5.alloc (.cells ds.toArray 57))).heap.size:=Nat.le_trans hs2 st9.size;replace B0:=B0.later st9;replace bel:=Zaa bel st9;replace st3:=Zaa st3 st9;go_wp2_with (first|((with_reducible show wpList _ _ _ ({ dst:=_,op:=.buildSlice _ _ _,type:=_,pos:=_,after:=_,guard:=_ } :: _) _ _);refine Go.wpList_buildSlice rfl 55 57 1 _ rfl ds.toArray jt _ Tryz.underlying55 hjt ht0 (by rw[ht1];decide) (by rw[ht1];decide) (by rw[ht1];refine (congrArg _ (?_:_=[(0,Value.agg ds.toArray)])).trans HF9.out;kernel_rfl) ?_)|(at_builtin;refine Zal (by rfl) _ _ (by rfl) N3 (Value.slice ka4 K4 kc4) (l1L c) (by rfl) HR9.out w5.heap.size (by rfl) ds B9 HL5.out HO5.out (ZaA 1 c.exclude) HD9.out (by rw[HK4.out];omega) hs9 ?_;intro kv9 w9 hr9 hgrow9 hge9 hat9)|fail);have hsz9:=bel.size;replace B0:=B0.grown hgrow9 (fun k hk e=>by have:=hge9 k hk;omega);replace bel:=Below.grown bel hgrow9 hsz9 (fun k hk=>by have:=hge9 k hk;omega);have hz_st3:=st3.size;replace st3:=Below.grown st3 hgrow9 hz_st3 (fun k hk=>by have:=hge9 k hk;omega);clear hz_st3;have hs10:N3≤w9.heap.size:=Nat.le_trans hs9 hgrow9.size;clear hgrow9 hge9 hat9 hs9 B9 HR9 HD9 HF9 hz hsz9 st9;go_meet;exact ⟨by rw[HL.out];exact hr9,B0,bel,st3⟩
       case rest =>
        clear B0 bel st3 HR HKb;obtain ⟨hr,B0,bel,st3⟩:=hcut;obtain ⟨ka5,kc5,hkv⟩:=hr.sl;subst hkv;obtain ⟨K5,hK⟩:∃ z,(ZaT c).length=z:=⟨_,rfl⟩;have HK5:Hid ((ZaT c).length=K5):=hK;rw[hK] at hr ⊢;generalize wc=wh at *;have HDl:Hid (Dep (fun g=>N3≤g) wh (Zak (ZaT c)) [.int .i64 0,.int .i64 16,.bool true,.slice none 0 0,.slice ka5 K5 kc5]):=hr.dep 0 16 true;have HR:Hid (RwT wh N0 (.slice ka3 K3 kc3) (m3L c)):=HR8.out.later st3;have hs:N0≤wh.heap.size:=by have:=st3.size;omega
        clear hr hK HR8 st3;go_upto_if 107 with fail;go_cut [8] (fun sv wx=>RwT wx N0 sv (Zbl c)∧Blk wx w.heap.size cs∧Below w.heap.size w wx∧N0≤wx.heap.size)
        case first =>
         by_cases hp:0<K5
         rotate_left
         ·have g1:¬ (0:Int)<(K5:Int):=by omega
          have HL:Hid (Zbl c=m3L c):=by show _=_;rw[ZkJ,if_neg (by rw[HK5.out];exact hp),List.append_nil]
          clear hp;go_wp2_with fail;go_meet;exact ⟨by rw[HL.out];exact HR.out,B0,bel,hs⟩
         have g1:(0:Int)<(K5:Int):=by omega
         have HL:Hid (Zbl c=m3L c++[Zcf 30 true (Zak (ZaT c))]):=by show _=_;rw[ZkJ,if_pos (by rw[HK5.out];exact hp)]
         clear hp;go_wp2_with fail;refine ZbJ.mono ?_;rintro e w5 ⟨rfl,hb⟩;have HT5:Hid (Zbg w5 (Zak (ZaT c)) [.int .i64 0,.int .i64 16,.bool true,.slice none 0 0,.slice ka5 K5 kc5]):=(HDl.out.next (Agr.below hb) (fun _ h _=>h):Dep (fun g=>N3≤g) _ _ _).now;replace HR:Hid (RwT w5 N0 (.slice ka3 K3 kc3) (m3L c)):=HR.out.later hb;have HKb:Hid (∀ b,(Value.slice ka3 K3 kc3).ownBlock=some b→b<w5.heap.size):=HR.out.lt;have HZ:Hid (Sm 13055 (Zak (ZaT c))):=ZaZ (Ze8 HM.out);replace B0:=B0.later hb;replace bel:=Zaa bel hb;replace hs:N0≤w5.heap.size:=Nat.le_trans hs hb.size;clear hb HDl;go_wp2_with fail;refine (Zb1 (by decide) HT5.out (by have:=HZ.out.2;omega) (fun _=>by have:=HZ.out.1;omega)).mono ?_;rintro e w6 ⟨ds,rfl,hd,hb⟩;have HD:Hid (Dep (fun g=>w5.heap.size≤g) w6 (Zcf 30 true (Zak (ZaT c))) ds):=hd;have HL5:Hid (ds.length=5):=HD.out.now.five;have HO5:Hid (Zbp ds):=HD.out.now.ones;replace HR:Hid (RwT w6 N0 (Value.slice ka3 K3 kc3) (m3L c)):=HR.out.later hb;have hs0:N0≤w5.heap.size:=hs;replace B0:=B0.later hb;replace bel:=Zaa bel hb;replace hs:N0≤w6.heap.size:=Nat.le_trans hs hb.size;clear hb hd;have HF9:Hid _:=Zay HL5.out;have hz:=Zad.out;have B9:=Blk.new w6 ds 57 w6.heap.size rfl;have st9:Below w6.heap.size w6 (w6.alloc (.cells ds.toArray 57)):=(Below.refl _ _).alloc (Nat.le_refl _) _;have HD9:Hid (Dep (fun b=>N0≤b∧(Value.slice ka3 K3 kc3).ownBlock≠some b) (w6.alloc (.cells ds.toArray 57)) (Zcf 30 true (Zak (ZaT c))) ds):=HD.out.next (Agr.below st9) (fun b hb _=>⟨by omega,fun e=>by have:=HKb.out b e;omega⟩);have HR9:Hid (RwT (w6.alloc (.cells ds.toArray 57)) N0 (Value.slice ka3 K3 kc3) (m3L c)):=HR.out.later st9;have hs9:N0≤((w6.alloc (.cells ds.toArray 57))).heap.size:=Nat.le_trans hs st9.size;replace B0:=B0.later st9;replace bel:=Zaa bel st9;go_wp2_with (first|((with_reducible show wpList _ _ _ ({ dst:=_,op:=.buildSlice _ _ _,type:=_,pos:=_,after:=_,guard:=_ } :: _) _ _);refine Go.wpList_buildSlice rfl 55 57 1 _ rfl ds.toArray jt _ Tryz.underlying55 hjt ht0 (by rw[ht1];decide) (by rw[ht1];decide) (by rw[ht1];refine (congrArg _ (?_:_=[(0,Value.agg ds.toArray)])).trans HF9.out;kernel_rfl) ?_)|(at_builtin;refine Zal (by rfl) _ _ (by rfl) N0 (Value.slice ka3 K3 kc3) (m3L c) (by rfl) HR9.out w6.heap.size (by rfl) ds B9 HL5.out HO5.out (Zcf 30 true (Zak (ZaT c))) HD9.out (by rw[HK3.out];omega) hs9 ?_;intro kv9 w9 hr9 hgrow9 hge9 hat9)|fail);have hsz9:=bel.size;replace B0:=B0.grown hgrow9 (fun k hk e=>by have:=hge9 k hk;omega);replace bel:=Below.grown bel hgrow9 hsz9 (fun k hk=>by have:=hge9 k hk;omega);have hs10:N0≤w9.heap.size:=Nat.le_trans hs9 hgrow9.size;clear hgrow9 hge9 hat9 hs9 B9 HR9 HD9 HF9 hz hsz9 st9;go_meet;exact ⟨by rw[HL.out];exact hr9,B0,bel,hs10⟩
        case rest =>
         clear B0 bel hs HR HK5;obtain ⟨hr,B0,bel,hs⟩:=hcut;obtain ⟨ka6,kc6,hkv⟩:=hr.sl;subst hkv;obtain ⟨K6,hK⟩:∃ z,(Zbl c).length=z:=⟨_,rfl⟩;have HK6:Hid ((Zbl c).length=K6):=hK;rw[hK] at hr ⊢;generalize wc=wi at *;have HR8:Hid (RwT wi N0 (.slice ka6 K6 kc6) (Zbl c)):=hr;clear hr hK;have HDm:Hid (Dep (fun g=>N0≤g) wi (Zak (Zbl c)) [.int .i64 0,.int .i64 16,.bool true,.slice none 0 0,.slice ka6 K6 kc6]):=by have h9:=HR8.out.dep 0 16 true;exact h9
         clear HR8;obtain ⟨T1,hT1⟩:=HM.out.2.2.2.2.2.2.2.2.2.2.2.2.1;obtain ⟨T2,hT2⟩:=HM.out.2.2.2.2.2.2.2.2.2.2.2.2.2.1;obtain ⟨T3,hT3⟩:=HM.out.2.2.2.2.2.2.2.2.2.2.2.2.2.2.1;rw[Hfrm.out] at hT2;rw[Htil.out] at hT3;have HT1:Hid _:=hT1;have HT2:Hid _:=hT2;have HT3:Hid _:=hT3;clear hT1 hT2 hT3;have e0:=B0.cell 0 _ q0;have l0:=B0.lt;go_wp2_with fail;refine (ZcG (HS.out.later bel) wS).mono ?_;rintro e w7 he;obtain ⟨ds1,b1,rfl,hd5,hd1,-,hdd,hb⟩:=ZcB he;have HD1:Hid (Dep (fun g=>N0≤g) w7 T1 ds1):=(hdd T1 HT1.out).next (Agr.refl _ _) (fun _ h _=>Nat.le_trans hs h);have HL1:Hid (ds1.length=5):=hd5;have HS1:Hid (ds1.toArray.size=5):=by show _=_;rw[List.size_toArray];exact hd5
         have HO1:Hid (Zbp ds1):=hd1;replace B0:=B0.later hb;replace HDm:Hid (Dep (fun g=>N0≤g) w7 (Zak (Zbl c)) [.int .i64 0,.int .i64 16,.bool true,.slice none 0 0,.slice ka6 K6 kc6]):=HDm.out.next (Agr.below hb) (fun _ h _=>h);replace bel:=Zaa bel hb;replace hs:N0≤w7.heap.size:=Nat.le_trans hs hb.size;clear he hd5 hd1 hdd hb;clear l0 e0;have hz:=Zad.out;have Q1:=Blk.new w7 ds1 57 w7.heap.size rfl;have hb:Below w7.heap.size w7 (w7.alloc (.cells ds1.toArray 57)):=(Below.refl _ _).alloc (Nat.le_refl _) _;replace B0:=B0.later hb;replace HDm:Hid (Dep (fun g=>N0≤g) (w7.alloc (.cells ds1.toArray 57)) (Zak (Zbl c)) [.int .i64 0,.int .i64 16,.bool true,.slice none 0 0,.slice ka6 K6 kc6]):=HDm.out.next (Agr.below hb) (fun _ h _=>h);replace HD1:Hid (Dep (fun g=>N0≤g) (w7.alloc (.cells ds1.toArray 57)) (T1) ds1):=HD1.out.next (Agr.below hb) (fun _ h _=>h);replace bel:=Zaa bel hb;replace hs:N0≤(w7.alloc (.cells ds1.toArray 57)).heap.size:=Nat.le_trans hs hb.size;clear hb;go_upto_region 28 with (first|((with_reducible show wpList _ _ _ ({ dst:=_,op:=.store _ _ _,type:=_,pos:=_,after:=_,guard:=_ } :: _) _ _);refine wpList_store_row rfl 57 _ _ rfl w7.heap.size ds1.toArray rfl rfl 57 _ (heap_alloc_last _ _) (by rw[Zab,HS1.out]) (by rw[HS1.out];rfl) HO1.out ?_;rw[World.setRow_alloc_new])|fail);clear hz;obtain ⟨g1,hg9⟩:∃ g,g=w7.heap.size:=⟨_,rfl⟩;rw[← hg9] at Q1 ⊢;generalize w7.alloc (.cells ds1.toArray 57)=V7 at *;clear hg9;have e3:=B0.cell 3 _ q3;have l0:=B0.lt;go_wp2_with fail;refine (ZbK (by omega)).mono ?_;rintro e w8 he;obtain ⟨ds2,b2,rfl,hd5,hd1,-,hdd,hb⟩:=ZcB he;have HD2:Hid (Dep (fun g=>N0≤g) w8 T2 ds2):=(hdd T2 HT2.out).next (Agr.refl _ _) (fun _ h _=>Nat.le_trans hs h);have HL2:Hid (ds2.length=5):=hd5;have HS2:Hid (ds2.toArray.size=5):=by show _=_;rw[List.size_toArray];exact hd5
         have HO2:Hid (Zbp ds2):=hd1;replace B0:=B0.later hb;replace Q1:=Q1.later hb;replace HDm:Hid (Dep (fun g=>N0≤g) w8 (Zak (Zbl c)) [.int .i64 0,.int .i64 16,.bool true,.slice none 0 0,.slice ka6 K6 kc6]):=HDm.out.next (Agr.below hb) (fun _ h _=>h);replace HD1:Hid (Dep (fun g=>N0≤g) w8 (T1) ds1):=HD1.out.next (Agr.below hb) (fun _ h _=>h);replace bel:=Zaa bel hb;replace hs:N0≤w8.heap.size:=Nat.le_trans hs hb.size;clear he hd5 hd1 hdd hb;clear l0 e3;have hz:=Zad.out;have Q2:=Blk.new w8 ds2 57 w8.heap.size rfl;have hb:Below w8.heap.size w8 (w8.alloc (.cells ds2.toArray 57)):=(Below.refl _ _).alloc (Nat.le_refl _) _;replace B0:=B0.later hb;replace Q1:=Q1.later hb;replace HDm:Hid (Dep (fun g=>N0≤g) (w8.alloc (.cells ds2.toArray 57)) (Zak (Zbl c)) [.int .i64 0,.int .i64 16,.bool true,.slice none 0 0,.slice ka6 K6 kc6]):=HDm.out.next (Agr.below hb) (fun _ h _=>h);replace HD1:Hid (Dep (fun g=>N0≤g) (w8.alloc (.cells ds2.toArray 57)) (T1) ds1):=HD1.out.next (Agr.below hb) (fun _ h _=>h);replace HD2:Hid (Dep (fun g=>N0≤g) (w8.alloc (.cells ds2.toArray 57)) (T2) ds2):=HD2.out.next (Agr.below hb) (fun _ h _=>h);replace bel:=Zaa bel hb;replace hs:N0≤(w8.alloc (.cells ds2.toArray 57)).heap.size:=Nat.le_trans hs hb.size;clear hb;go_upto_region 29 with (first|((with_reducible show wpList _ _ _ ({ dst:=_,op:=.store _ _ _,type:=_,pos:=_,after:=_,guard:=_ } :: _) _ _);refine wpList_store_row rfl 57 _ _ rfl w8.heap.size ds2.toArray rfl rfl 57 _ (heap_alloc_last _ _) (by rw[Zab,HS2.out]) (by rw[HS2.out];rfl) HO2.out ?_;rw[World.setRow_alloc_new])|fail);clear hz;obtain ⟨g2,hg9⟩:∃ g,g=w8.heap.size:=⟨_,rfl⟩;rw[← hg9] at Q2 ⊢;generalize w8.alloc (.cells ds2.toArray 57)=V8 at *;clear hg9;have e4:=B0.cell 4 _ q4;have l0:=B0.lt;go_wp2_with fail;refine (ZbK (by omega)).mono ?_;rintro e w9 he;obtain ⟨ds3,b3,rfl,hd5,hd1,-,hdd,hb⟩:=ZcB he;have HD3:Hid (Dep (fun g=>N0≤g) w9 T3 ds3):=(hdd T3 HT3.out).next (Agr.refl _ _) (fun _ h _=>Nat.le_trans hs h);have HL3:Hid (ds3.length=5):=hd5;have HS3:Hid (ds3.toArray.size=5):=by show _=_;rw[List.size_toArray];exact hd5
         have HO3:Hid (Zbp ds3):=hd1;replace B0:=B0.later hb;replace Q1:=Q1.later hb;replace Q2:=Q2.later hb;replace HDm:Hid (Dep (fun g=>N0≤g) w9 (Zak (Zbl c)) [.int .i64 0,.int .i64 16,.bool true,.slice none 0 0,.slice ka6 K6 kc6]):=HDm.out.next (Agr.below hb) (fun _ h _=>h);replace HD1:Hid (Dep (fun g=>N0≤g) w9 (T1) ds1):=HD1.out.next (Agr.below hb) (fun _ h _=>h);replace HD2:Hid (Dep (fun g=>N0≤g) w9 (T2) ds2):=HD2.out.next (Agr.below hb) (fun _ h _=>h);replace bel:=Zaa bel hb;replace hs:N0≤w9.heap.size:=Nat.le_trans hs hb.size;clear he hd5 hd1 hdd hb;clear l0 e4;have hz:=Zad.out;have Q3:=Blk.new w9 ds3 57 w9.heap.size rfl;have hb:Below w9.heap.size w9 (w9.alloc (.cells ds3.toArray 57)):=(Below.refl _ _).alloc (Nat.le_refl _) _;replace B0:=B0.later hb;replace Q1:=Q1.later hb;replace Q2:=Q2.later hb;replace HDm:Hid (Dep (fun g=>N0≤g) (w9.alloc (.cells ds3.toArray 57)) (Zak (Zbl c)) [.int .i64 0,.int .i64 16,.bool true,.slice none 0 0,.slice ka6 K6 kc6]):=HDm.out.next (Agr.below hb) (fun _ h _=>h);replace HD1:Hid (Dep (fun g=>N0≤g) (w9.alloc (.cells ds3.toArray 57)) (T1) ds1):=HD1.out.next (Agr.below hb) (fun _ h _=>h);replace HD2:Hid (Dep (fun g=>N0≤g) (w9.alloc (.cells ds3.toArray 57)) (T2) ds2):=HD2.out.next (Agr.below hb) (fun _ h _=>h);replace HD3:Hid (Dep (fun g=>N0≤g) (w9.alloc (.cells ds3.toArray 57)) (T3) ds3):=HD3.out.next (Agr.below hb) (fun _ h _=>h);replace bel:=Zaa bel hb;replace hs:N0≤(w9.alloc (.cells ds3.toArray 57)).heap.size:=Nat.le_trans hs hb.size;clear hb;go_upto_region 30 with (first|((with_reducible show wpList _ _ _ ({ dst:=_,op:=.store _ _ _,type:=_,pos:=_,after:=_,guard:=_ } :: _) _ _);refine wpList_store_row rfl 57 _ _ rfl w9.heap.size ds3.toArray rfl rfl 57 _ (heap_alloc_last _ _) (by rw[Zab,HS3.out]) (by rw[HS3.out];rfl) HO3.out ?_;rw[World.setRow_alloc_new])|fail);clear hz;obtain ⟨g3,hg9⟩:∃ g,g=w9.heap.size:=⟨_,rfl⟩;rw[← hg9] at Q3 ⊢;generalize w9.alloc (.cells ds3.toArray 57)=V9 at *;clear hg9;obtain ⟨x0,x1,x2,x3,x4,x5,hxs,fX,vX⟩:=HX.out.1;obtain ⟨y0,y1,y2,y3,y4,y5,hys,fY,vY⟩:=HX.out.2;have hkey:(loadVar 29 ⟨w.heap.size,5,none⟩).run Tryz.prog V9=.ok (.agg #[.int .u64 x0,.int .u64 x1,.int .u64 x2,.int .u64 x3,.int .u64 x4,.int .u64 x5,.int .u64 y0,.int .u64 y1,.int .u64 y2,.int .u64 y3,.int .u64 y4,.int .u64 y5,.bool kb]) V9:=Zb8 (n:=13) (F:=[.int .u64 x0,.int .u64 x1,.int .u64 x2,.int .u64 x3,.int .u64 x4,.int .u64 x5,.int .u64 y0,.int .u64 y1,.int .u64 y2,.int .u64 y3,.int .u64 y4,.int .u64 y5,.bool kb]) (fun j v hv=>B0.cell _ _ (HQk.out j v (by rw[hxs,hys,Hkb.out];exact hv))) rfl Tryz.underlying29 rfl ZiE;have l0:=B0.lt;have HV:Hid (v64 [x0,x1,x2,x3,x4,x5]=c.kx∧v64 [y0,y1,y2,y3,y4,y5]=c.ky):=⟨vX,vY⟩;clear hxs hys vX vY;go_wp2_with (first|((with_reducible show wpList _ _ _ ({ dst:=_,op:=.load _ _,type:=_,pos:=_,after:=_,guard:=_ } :: _) _ _);refine Zae (by rfl) (by rfl) (by rfl) hkey ?_)|fail);refine (Znl fX fY).mono ?_;rintro e wa ⟨pv9,p,rfl,hown,hpn,hb⟩;have HPn:Hid (Ziv c.kx c.ky p):=by rw[← HV.out.1,← HV.out.2];exact hpn
         have HPl:Hid (p.length=97):=by obtain ⟨A,B,a1,-,-,b1,-,-,rfl⟩:=hpn;show _=_;simp;omega
         have HPb:Hid (Bs wa pv9 p):=Bs.of_own hown;obtain ⟨ppa,ppc,hpv⟩:=Zcu hown;subst hpv;replace B0:=B0.later hb;replace Q1:=Q1.later hb;replace Q2:=Q2.later hb;replace Q3:=Q3.later hb;replace HDm:Hid (Dep (fun g=>N0≤g) wa (Zak (Zbl c)) [.int .i64 0,.int .i64 16,.bool true,.slice none 0 0,.slice ka6 K6 kc6]):=HDm.out.next (Agr.below hb) (fun _ h _=>h);replace HD1:Hid (Dep (fun g=>N0≤g) wa (T1) ds1):=HD1.out.next (Agr.below hb) (fun _ h _=>h);replace HD2:Hid (Dep (fun g=>N0≤g) wa (T2) ds2):=HD2.out.next (Agr.below hb) (fun _ h _=>h);replace HD3:Hid (Dep (fun g=>N0≤g) wa (T3) ds3):=HD3.out.next (Agr.below hb) (fun _ h _=>h);replace bel:=Zaa bel hb;replace hs:N0≤wa.heap.size:=Nat.le_trans hs hb.size;clear hb hown hpn hkey l0 fX fY;go_wp2_with fail;refine Zgd.mono ?_;rintro e wb ⟨dc,rfl,hd,hb⟩;have HDc:Hid (Dep (fun g=>N0≤g) wb Zbe dc):=hd.next (Agr.refl _ _) (fun _ h _=>Nat.le_trans hs h);have HLc:Hid (dc.length=5):=HDc.out.now.five;replace HPb:Hid (Bs wb (.slice ppa 97 ppc) p):=HPb.out.later hb;replace B0:=B0.later hb;replace Q1:=Q1.later hb;replace Q2:=Q2.later hb;replace Q3:=Q3.later hb;replace HDm:Hid (Dep (fun g=>N0≤g) wb (Zak (Zbl c)) [.int .i64 0,.int .i64 16,.bool true,.slice none 0 0,.slice ka6 K6 kc6]):=HDm.out.next (Agr.below hb) (fun _ h _=>h);replace HD1:Hid (Dep (fun g=>N0≤g) wb (T1) ds1):=HD1.out.next (Agr.below hb) (fun _ h _=>h);replace HD2:Hid (Dep (fun g=>N0≤g) wb (T2) ds2):=HD2.out.next (Agr.below hb) (fun _ h _=>h);replace HD3:Hid (Dep (fun g=>N0≤g) wb (T3) ds3):=HD3.out.next (Agr.below hb) (fun _ h _=>h);replace bel:=Zaa bel hb;replace hs:N0≤wb.heap.size:=Nat.le_trans hs hb.size;clear hb hd;have ow0:(wb.alloc (.cells (u8s [0]).toArray 5)).ownsRow wb.heap.size 5 1 (.slice (some ⟨wb.heap.size,0,none⟩) 1 1) 1 (u8s [0]):=Zax wb (u8s [0]) 5 1 wb.heap.size rfl (Nat.le_refl _) (by decide);have HPb2:Hid (Bs (wb.alloc (.cells (u8s [0]).toArray 5)) (.slice ppa 97 ppc) p):=HPb.out.later ((Below.refl _ _).alloc (Nat.le_refl _) _);have hz:=Zad.out;have HF:Hid (∀ (fa:Option Addr) (fc:Nat),Instr.fill (fun i=>some (i*5,5)) ((Array.range (2*5)).map ((Value.agg #[.int .i64 0,.int .i64 0,.bool false,.slice none 0 0,.slice none 0 0]).cells[· % (Value.agg #[.int .i64 0,.int .i64 0,.bool false,.slice none 0 0,.slice none 0 0]).cells.size]!)) [(0,.agg dc.toArray),(1,.agg #[Value.int .i64 0,Value.int .i64 3,Value.bool false,Value.slice fa 98 fc,Value.slice none 0 0])]=some (dc++[Value.int .i64 0,Value.int .i64 3,Value.bool false,Value.slice fa 98 fc,Value.slice none 0 0]).toArray):=fun fa fc=>ZbO HLc.out rfl

         have hsb:=hs;go_wp2_with (first|(at_builtin;refine Zac (by rfl) _ _ (by rfl) wb.heap.size _ 1 [0] (by rfl) ow0 _ p (by rfl) HPb2.out (by rw[HPl.out];omega) (by simp) ?_;intro v8 we own8 hgrow hat;have hown8:we.ownsRow wb.heap.size 5 1 v8 98 (u8s ([0]++p)):=by { rw[HPl.out] at own8;exact own8 };obtain ⟨fa,fc,hfv⟩:=Zcu hown8;subst hfv;have HOw8:Hid _:=hown8;have HGr:Hid _:=hgrow;clear hat own8 hown8 hgrow)|((with_reducible show wpList _ _ _ ({ dst:=_,op:=.buildSlice _ _ _,type:=_,pos:=_,after:=_,guard:=_ } :: _) _ _);refine Go.wpList_buildSlice rfl 55 57 2 _ rfl (dc++[Value.int .i64 0,Value.int .i64 3,Value.bool false,Value.slice fa 98 fc,Value.slice none 0 0]).toArray jt _ Tryz.underlying55 hjt ht0 (by rw[ht1];decide) (by rw[ht1];decide) (by rw[ht1];refine (congrArg _ (?_:_=[(0,Value.agg dc.toArray),(1,Value.agg #[Value.int .i64 0,Value.int .i64 3,Value.bool false,Value.slice fa 98 fc,Value.slice none 0 0])])).trans (HF.out fa fc);kernel_rfl) ?_)|fail);clear hz HF HPb2;have hb:Below wb.heap.size wb we:=Below.grown ((Below.refl _ _).alloc (Nat.le_refl _) _) HGr.out (by simp) (fun k hk=>(Zat ow0 hk).1);replace B0:=B0.later hb;replace Q1:=Q1.later hb;replace Q2:=Q2.later hb;replace Q3:=Q3.later hb;replace HDm:Hid (Dep (fun g=>N0≤g) we (Zak (Zbl c)) [.int .i64 0,.int .i64 16,.bool true,.slice none 0 0,.slice ka6 K6 kc6]):=HDm.out.next (Agr.below hb) (fun _ h _=>h);replace HD1:Hid (Dep (fun g=>N0≤g) we (T1) ds1):=HD1.out.next (Agr.below hb) (fun _ h _=>h);replace HD2:Hid (Dep (fun g=>N0≤g) we (T2) ds2):=HD2.out.next (Agr.below hb) (fun _ h _=>h);replace HD3:Hid (Dep (fun g=>N0≤g) we (T3) ds3):=HD3.out.next (Agr.below hb) (fun _ h _=>h);replace HDc:Hid (Dep (fun g=>N0≤g) we (Zbe) dc):=HDc.out.next (Agr.below hb) (fun _ h _=>h);replace bel:=Zaa bel hb;replace hs:N0≤we.heap.size:=Nat.le_trans hs hb.size;clear hb ow0 HGr HPb;have HD4:Hid (Dep (fun g=>N0≤g) we (.mk 0 3 false (0::p) []) [Value.int .i64 0,Value.int .i64 3,Value.bool false,Value.slice fa 98 fc,Value.slice none 0 0]):=Zb0 (S:=fun b=>N0≤b) HOw8.out (by rw[List.length_append,HPl.out];rfl) (fun g hg=>Nat.le_trans hsb (Zat HOw8.out hg).1) 0 3 false;have HDk0:Hid (Dep (fun g=>N0≤g) (we.alloc (.cells (dc++[Value.int .i64 0,Value.int .i64 3,Value.bool false,Value.slice fa 98 fc,Value.slice none 0 0]).toArray 57)) (Zak [Zbe,.mk 0 3 false (0::p) []]) [.int .i64 0,.int .i64 16,.bool true,.slice none 0 0,.slice (some ⟨we.heap.size,0,none⟩) 2 2]):=Zav (ks:=[Zbe,.mk 0 3 false (0::p) []]) (by rw[List.length_append,HLc.out];rfl) hs (by show 2≤maxLen;decide) (Zbo (P:=Dep (fun g=>N0≤g) we) HDc.out HD4.out HLc.out rfl) 0 16 true;have hb:Below we.heap.size we (we.alloc (.cells (dc++[Value.int .i64 0,Value.int .i64 3,Value.bool false,Value.slice fa 98 fc,Value.slice none 0 0]).toArray 57)):=(Below.refl _ _).alloc (Nat.le_refl _) _

         replace B0:=B0.later hb;replace Q1:=Q1.later hb;replace Q2:=Q2.later hb;replace Q3:=Q3.later hb;replace HDm:Hid (Dep (fun g=>N0≤g) (we.alloc (.cells (dc++[Value.int .i64 0,Value.int .i64 3,Value.bool false,Value.slice fa 98 fc,Value.slice none 0 0]).toArray 57)) (Zak (Zbl c)) [.int .i64 0,.int .i64 16,.bool true,.slice none 0 0,.slice ka6 K6 kc6]):=HDm.out.next (Agr.below hb) (fun _ h _=>h);replace HD1:Hid (Dep (fun g=>N0≤g) (we.alloc (.cells (dc++[Value.int .i64 0,Value.int .i64 3,Value.bool false,Value.slice fa 98 fc,Value.slice none 0 0]).toArray 57)) (T1) ds1):=HD1.out.next (Agr.below hb) (fun _ h _=>h);replace HD2:Hid (Dep (fun g=>N0≤g) (we.alloc (.cells (dc++[Value.int .i64 0,Value.int .i64 3,Value.bool false,Value.slice fa 98 fc,Value.slice none 0 0]).toArray 57)) (T2) ds2):=HD2.out.next (Agr.below hb) (fun _ h _=>h);replace HD3:Hid (Dep (fun g=>N0≤g) (we.alloc (.cells (dc++[Value.int .i64 0,Value.int .i64 3,Value.bool false,Value.slice fa 98 fc,Value.slice none 0 0]).toArray 57)) (T3) ds3):=HD3.out.next (Agr.below hb) (fun _ h _=>h);replace bel:=Zaa bel hb;replace hs:N0≤(we.alloc (.cells (dc++[Value.int .i64 0,Value.int .i64 3,Value.bool false,Value.slice fa 98 fc,Value.slice none 0 0]).toArray 57)).heap.size:=Nat.le_trans hs hb.size;clear hb HD4 HOw8 HDc hsb;obtain ⟨gk,hgk⟩:∃ g,g=we.heap.size:=⟨_,rfl⟩;rw[← hgk] at HDk0 ⊢;generalize (we.alloc (.cells (dc++[Value.int .i64 0,Value.int .i64 3,Value.bool false,Value.slice fa 98 fc,Value.slice none 0 0]).toArray 57))=wk0 at *;clear hgk;refine ZbJ.mono ?_;rintro e wk ⟨rfl,hb⟩;have HDk:Hid (Dep (fun g=>N0≤g) wk (Zak [Zbe,.mk 0 3 false (0::p) []]) [.int .i64 0,.int .i64 16,.bool true,.slice none 0 0,.slice (some ⟨gk,0,none⟩) 2 2]):=HDk0.out.next (Agr.below hb) (fun _ h _=>h);replace B0:=B0.later hb;replace Q1:=Q1.later hb;replace Q2:=Q2.later hb;replace Q3:=Q3.later hb;replace HDm:Hid (Dep (fun g=>N0≤g) wk (Zak (Zbl c)) [.int .i64 0,.int .i64 16,.bool true,.slice none 0 0,.slice ka6 K6 kc6]):=HDm.out.next (Agr.below hb) (fun _ h _=>h);replace HD1:Hid (Dep (fun g=>N0≤g) wk (T1) ds1):=HD1.out.next (Agr.below hb) (fun _ h _=>h);replace HD2:Hid (Dep (fun g=>N0≤g) wk (T2) ds2):=HD2.out.next (Agr.below hb) (fun _ h _=>h);replace HD3:Hid (Dep (fun g=>N0≤g) wk (T3) ds3):=HD3.out.next (Agr.below hb) (fun _ h _=>h);replace bel:=Zaa bel hb;replace hs:N0≤wk.heap.size:=Nat.le_trans hs hb.size;clear hb HDk0;have hz:=Zad.out;have Q5:=Blk.new wk [.int .i64 0,.int .i64 16,.bool true,.slice none 0 0,.slice (some ⟨gk,0,none⟩) 2 2] 57 wk.heap.size rfl;have hb:Below wk.heap.size wk (wk.alloc (.cells #[.int .i64 0,.int .i64 16,.bool true,.slice none 0 0,.slice (some ⟨gk,0,none⟩) 2 2] 57)):=(Below.refl _ _).alloc (Nat.le_refl _) _;replace B0:=B0.later hb;replace Q1:=Q1.later hb;replace Q2:=Q2.later hb;replace Q3:=Q3.later hb;replace HDm:Hid (Dep (fun g=>N0≤g) (wk.alloc (.cells #[.int .i64 0,.int .i64 16,.bool true,.slice none 0 0,.slice (some ⟨gk,0,none⟩) 2 2] 57)) (Zak (Zbl c)) [.int .i64 0,.int .i64 16,.bool true,.slice none 0 0,.slice ka6 K6 kc6]):=HDm.out.next (Agr.below hb) (fun _ h _=>h);replace HD1:Hid (Dep (fun g=>N0≤g) (wk.alloc (.cells #[.int .i64 0,.int .i64 16,.bool true,.slice none 0 0,.slice (some ⟨gk,0,none⟩) 2 2] 57)) (T1) ds1):=HD1.out.next (Agr.below hb) (fun _ h _=>h);replace HD2:Hid (Dep (fun g=>N0≤g) (wk.alloc (.cells #[.int .i64 0,.int .i64 16,.bool true,.slice none 0 0,.slice (some ⟨gk,0,none⟩) 2 2] 57)) (T2) ds2):=HD2.out.next (Agr.below hb) (fun _ h _=>h);replace HD3:Hid (Dep (fun g=>N0≤g) (wk.alloc (.cells #[.int .i64 0,.int .i64 16,.bool true,.slice none 0 0,.slice (some ⟨gk,0,none⟩) 2 2] 57)) (T3) ds3):=HD3.out.next (Agr.below hb) (fun _ h _=>h);replace HDk:Hid (Dep (fun g=>N0≤g) (wk.alloc (.cells #[.int .i64 0,.int .i64 16,.bool true,.slice none 0 0,.slice (some ⟨gk,0,none⟩) 2 2] 57)) (Zak [Zbe,.mk 0 3 false (0::p) []]) [.int .i64 0,.int .i64 16,.bool true,.slice none 0 0,.slice (some ⟨gk,0,none⟩) 2 2]):=HDk.out.next (Agr.below hb) (fun _ h _=>h);replace bel:=Zaa bel hb;replace hs:N0≤(wk.alloc (.cells #[.int .i64 0,.int .i64 16,.bool true,.slice none 0 0,.slice (some ⟨gk,0,none⟩) 2 2] 57)).heap.size:=Nat.le_trans hs hb.size;clear hb;go_upto_region 32 with (first|((with_reducible show wpList _ _ _ ({ dst:=_,op:=.store _ _ _,type:=_,pos:=_,after:=_,guard:=_ } :: _) _ _);refine wpList_store_row rfl 57 _ _ rfl wk.heap.size #[.int .i64 0,.int .i64 16,.bool true,.slice none 0 0,.slice (some ⟨gk,0,none⟩) 2 2] rfl rfl 57 _ (heap_alloc_last _ _) (by rw[Zab];rfl) rfl (by simp[Value.oneCell']) ?_;rw[World.setRow_alloc_new])|fail);clear hz;obtain ⟨g5,hg9⟩:∃ g,g=wk.heap.size:=⟨_,rfl⟩;rw[← hg9] at Q5 ⊢;generalize wk.alloc (.cells #[.int .i64 0,.int .i64 16,.bool true,.slice none 0 0,.slice (some ⟨gk,0,none⟩) 2 2] 57)=wj at *;clear hg9;obtain ⟨S1,hS1,KB1,KI1,KD1,KL1,KA1⟩:∃ S:World→Prop,Hd S wj∧Hid (∀ wx,Hd S wx→Below wj.heap.size wj wx)∧Hid (∀ wx,Below wj.heap.size wj wx→Hd S wx)∧Hid (∀ wx,Hd S wx→Hd S wx.drew)∧Hid (∀ w1 w2,Hd S w1→Below w1.heap.size w1 w2→Hd S w2)∧Hid (∀ w1 o,Hd S w1→Hd S (w1.alloc o)):=⟨fun wx=>Below wj.heap.size wj wx,Below.refl _ _,fun _ h=>h,fun _ h=>h,fun wx h=>Below.drew h,fun w1 w2 h hb=>Zaa h hb,fun w1 o h=>Below.alloc h h.size o⟩;have R1:Hid (∀ wx,Hd S1 wx→(loadVar 57 ⟨g1,0,none⟩).run Tryz.prog wx=.ok (.agg ds1.toArray) wx):=fun wx h=>(Q1.later (KB1.out wx h)).load Tryz.underlying57 rfl Zab HL1.out;have R2:Hid (∀ wx,Hd S1 wx→(loadVar 57 ⟨g2,0,none⟩).run Tryz.prog wx=.ok (.agg ds2.toArray) wx):=fun wx h=>(Q2.later (KB1.out wx h)).load Tryz.underlying57 rfl Zab HL2.out;have R3:Hid (∀ wx,Hd S1 wx→(loadVar 57 ⟨g3,0,none⟩).run Tryz.prog wx=.ok (.agg ds3.toArray) wx):=fun wx h=>(Q3.later (KB1.out wx h)).load Tryz.underlying57 rfl Zab HL3.out;have R5:Hid (∀ wx,Hd S1 wx→(loadVar 57 ⟨g5,0,none⟩).run Tryz.prog wx=.ok (.agg #[.int .i64 0,.int .i64 16,.bool true,.slice none 0 0,.slice (some ⟨gk,0,none⟩) 2 2]) wx):=fun wx h=>(Q5.later (KB1.out wx h)).load Tryz.underlying57 rfl Zab rfl;have l0:=B0.lt;have r1:∀ wx,Hd S1 wx→wx.cell? ⟨w.heap.size,1,none⟩=some (.slice ia IL ic):=fun wx h=>(B0.later (KB1.out wx h)).cell 1 _ q1;have r2:∀ wx,Hd S1 wx→wx.cell? ⟨w.heap.size,2,none⟩=some (.slice ja JL jc):=fun wx h=>(B0.later (KB1.out wx h)).cell 2 _ q2;have rl:∀ wx,Hd S1 wx→w.heap.size<wx.heap.size:=fun wx h=>Nat.lt_of_lt_of_le l0 (KB1.out wx h).size;obtain ⟨mI,mJ,-,-⟩:=HM.out.nm;have hz:=Zad.out;have hszj:N0≤wj.heap.size:=hs;refine wp_region_noPanic ?_;refine wp_region_held_drew (S:=Hd S1) (by kernel_rfl) (KD1.out _ hS1) (fun hHeld=>?_);clear hS1;generalize World.drew _=wd1 at *;refine wpAnyH_take (i:=4) (v:=.agg ds1.toArray) rfl (by kernel_rfl) (by kernel_rfl) (by kernel_rfl) (fun _ _ _ h=>h) (Or.inl ⟨by rfl,fun wx h=>Za3 rfl rfl (R1.out wx h)⟩) (by assumption) ?_
         try simp only[Act.put,List.getElem_toArray,List.getElem_cons_zero,List.getElem_cons_succ,List.setIfInBounds_toArray,List.set_cons_zero,List.set_cons_succ]
         refine wpAnyH_take (i:=6) (v:=?_) rfl (by kernel_rfl) (by kernel_rfl) (by kernel_rfl) (fun _ _ _ h=>h) (Or.inl ⟨by rfl,?_⟩) (by assumption) ?_;rotate_left
         ·intro w hSw
          go_simp
          with_reducible rfl
         try simp only[Act.put,List.getElem_toArray,List.getElem_cons_zero,List.getElem_cons_succ,List.setIfInBounds_toArray,List.set_cons_zero,List.set_cons_succ]
         refine wpAnyH_take (i:=7) (v:=?_) rfl (by kernel_rfl) (by kernel_rfl) (by kernel_rfl) (fun _ _ _ h=>h) (Or.inl ⟨by rfl,?_⟩) (by assumption) ?_;rotate_left
         ·intro w hSw
          go_simp
          with_reducible rfl
         try simp only[Act.put,List.getElem_toArray,List.getElem_cons_zero,List.getElem_cons_succ,List.setIfInBounds_toArray,List.set_cons_zero,List.set_cons_succ]
         refine wpAnyH_take (i:=9) (v:=.agg ds2.toArray) rfl (by kernel_rfl) (by kernel_rfl) (by kernel_rfl) (fun _ _ _ h=>h) (Or.inl ⟨by rfl,fun wx h=>Za3 rfl rfl (R2.out wx h)⟩) (by assumption) ?_
         try simp only[Act.put,List.getElem_toArray,List.getElem_cons_zero,List.getElem_cons_succ,List.setIfInBounds_toArray,List.set_cons_zero,List.set_cons_succ]
         refine wpAnyH_take (i:=10) (v:=.agg ds3.toArray) rfl (by kernel_rfl) (by kernel_rfl) (by kernel_rfl) (fun _ _ _ h=>h) (Or.inl ⟨by rfl,fun wx h=>Za3 rfl rfl (R3.out wx h)⟩) (by assumption) ?_
         try simp only[Act.put,List.getElem_toArray,List.getElem_cons_zero,List.getElem_cons_succ,List.setIfInBounds_toArray,List.set_cons_zero,List.set_cons_succ]
         refine wpAnyH_take (i:=13) (v:=?_) rfl (by kernel_rfl) (by kernel_rfl) (by kernel_rfl) (fun _ _ _ h=>h) (Or.inl ⟨by rfl,?_⟩) (by assumption) ?_;rotate_left
         ·intro w hSw
          go_simp
          with_reducible rfl
         try simp only[Act.put,List.getElem_toArray,List.getElem_cons_zero,List.getElem_cons_succ,List.setIfInBounds_toArray,List.set_cons_zero,List.set_cons_succ]
         refine wpAnyH_take (i:=14) (v:=?_) rfl (by kernel_rfl) (by kernel_rfl) (by kernel_rfl) (fun _ _ _ h=>h) (Or.inl ⟨by rfl,?_⟩) (by assumption) ?_;rotate_left
         ·intro w hSw
          go_simp
          with_reducible rfl
         try simp only[Act.put,List.getElem_toArray,List.getElem_cons_zero,List.getElem_cons_succ,List.setIfInBounds_toArray,List.set_cons_zero,List.set_cons_succ]
         refine wpAnyH_take (i:=16) (v:=.agg #[.int .i64 0,.int .i64 16,.bool true,.slice none 0 0,.slice (some ⟨gk,0,none⟩) 2 2]) rfl (by kernel_rfl) (by kernel_rfl) (by kernel_rfl) (fun _ _ _ h=>h) (Or.inl ⟨by rfl,fun wx h=>Za3 rfl rfl (R5.out wx h)⟩) (by assumption) ?_
         try simp only[Act.put,List.getElem_toArray,List.getElem_cons_zero,List.getElem_cons_succ,List.setIfInBounds_toArray,List.set_cons_zero,List.set_cons_succ]
         refine wpAnyH_take (i:=17) (v:=?_) rfl (by kernel_rfl) (by kernel_rfl) (by kernel_rfl) (fun _ _ _ h=>h) (Or.inl ⟨by rfl,?_⟩) (by assumption) ?_;rotate_left
         ·intro w hSw
          go_simp
          with_reducible rfl
         try simp only[Act.put,List.getElem_toArray,List.getElem_cons_zero,List.getElem_cons_succ,List.setIfInBounds_toArray,List.set_cons_zero,List.set_cons_succ]
         apply Zhf (T:=∀ (wz:World) (gv gw gt:Nat) (da:List Value) (ka7:Option Addr) (kc7:Nat),Hd S1 wz→Dep (fun g=>N0≤g) wz (Zbf 0 [.mk 0 2 false [2] []]) [.int .i64 2,.int .i64 0,.bool true,.slice none 0 0,.slice (some ⟨gw,0,none⟩) 1 1]→Dep (fun g=>N0≤g) wz (Zc0) da→Dep (fun g=>N0≤g) wz (ZaH c.issuer) [.int .i64 0,.int .i64 16,.bool true,.slice none 0 0,.slice ka7 IL kc7]→Dep (fun g=>N0≤g) wz (Zak [T2,T3]) [.int .i64 0,.int .i64 16,.bool true,.slice none 0 0,.slice (some ⟨gt,0,none⟩) 2 2]→wpAnyH _ _ _ _ _ _ _ _ wz)
         case main =>
          intro k5;refine wpAnyH_ready (rs:=[0,11]) (by kernel_rfl) (by simp) ?_;refine AllReadyH.cons rfl (fun K hK=>?_) ?_
          ·have HH:Hid (wj.heap.size≤wd1.heap.size):=(KB1.out _ hHeld).size
           go_simp;refine hK.out _ _ ?_ (fun hHeld2=>?_)
           ·exact KA1.out _ _ hHeld
           ·clear hK K
            try clear hHeld
            have hHeld:=hHeld2;clear hHeld2
            try simp only[Act.put,List.getElem_toArray,List.getElem_cons_zero,List.getElem_cons_succ,List.setIfInBounds_toArray,List.set_cons_zero,List.set_cons_succ]
            have hb:Below wd1.heap.size wd1 (wd1.alloc (.cells #[.int .u8 2] 5)):=(Below.refl _ _).alloc (Nat.le_refl _) _;have hBv:Bs (wd1.alloc (.cells #[.int .u8 2] 5)) (.slice (some ⟨wd1.heap.size,0,none⟩) 1 1) [2]:=Zbi wd1 [2] (by show 1≤maxLen;decide);obtain ⟨gv,hg9⟩:∃ g,g=wd1.heap.size:=⟨_,rfl⟩;have lgv:N0≤gv:=by rw[hg9];exact Nat.le_trans hszj HH.out
            rw[← hg9] at hBv ⊢;clear hg9 hb HH;generalize (wd1.alloc (.cells #[.int .u8 2] 5))=z0 at *;refine wpAnyH_take (i:=1) (v:=?_) rfl (by kernel_rfl) (by kernel_rfl) (by kernel_rfl) (fun _ _ _ h=>h) (Or.inl ⟨by rfl,?_⟩) (by assumption) ?_;rotate_left
            ·intro w hSw
             go_simp
             with_reducible rfl
            try simp only[Act.put,List.getElem_toArray,List.getElem_cons_zero,List.getElem_cons_succ,List.setIfInBounds_toArray,List.set_cons_zero,List.set_cons_succ]
            refine wpAnyH_ready (rs:=[2,11]) (by kernel_rfl) (by simp) ?_;refine AllReadyH.cons rfl (fun K hK=>?_) ?_
            ·have HH:Hid (wj.heap.size≤z0.heap.size):=(KB1.out _ hHeld).size
             go_simp;refine hK.out _ _ ?_ (fun hHeld2=>?_)
             ·exact KA1.out _ _ hHeld
             ·clear hK K
              try clear hHeld
              have hHeld:=hHeld2;clear hHeld2
              try simp only[Act.put,List.getElem_toArray,List.getElem_cons_zero,List.getElem_cons_succ,List.setIfInBounds_toArray,List.set_cons_zero,List.set_cons_succ]
              have hb:Below z0.heap.size z0 (z0.alloc (.cells #[.int .i64 0,.int .i64 2,.bool false,.slice (some ⟨gv,0,none⟩) 1 1,.slice none 0 0] 57)):=(Below.refl _ _).alloc (Nat.le_refl _) _;have hDv:Dep (fun g=>N0≤g) z0 (.mk 0 2 false [2] []) [.int .i64 0,.int .i64 2,.bool false,.slice (some ⟨gv,0,none⟩) 1 1,.slice none 0 0]:=ZcD hBv (fun a m c e _=>by simp only[Value.slice.injEq,Option.some.injEq] at e;rw[← e.1];exact lgv) 0 2 false;have hDw:Dep (fun g=>N0≤g) (z0.alloc (.cells #[.int .i64 0,.int .i64 2,.bool false,.slice (some ⟨gv,0,none⟩) 1 1,.slice none 0 0] 57)) (Zbf 0 [.mk 0 2 false [2] []]) [.int .i64 2,.int .i64 0,.bool true,.slice none 0 0,.slice (some ⟨z0.heap.size,0,none⟩) 1 1]:=Zav (ks:=[.mk 0 2 false [2] []]) rfl (Nat.le_trans hszj HH.out) (by show 1≤maxLen;decide) (ZaY (P:=Dep (fun g=>N0≤g) z0) hDv rfl) 2 0 true;obtain ⟨gw,hg9⟩:∃ g,g=z0.heap.size:=⟨_,rfl⟩;rw[← hg9] at hDw ⊢;clear hg9 hb HH hDv hBv lgv;generalize (z0.alloc (.cells #[.int .i64 0,.int .i64 2,.bool false,.slice (some ⟨gv,0,none⟩) 1 1,.slice none 0 0] 57))=z2 at *;refine wpAnyH_ready (rs:=[3,11]) (by kernel_rfl) (by simp) ?_;refine AllReadyH.cons rfl (fun K hK=>?_) ?_
              ·go_simp
               refine ZdF.mono ?_;rintro e z3 ⟨rfl,hb⟩;refine hK.out _ _ ?_ (fun hHeld2=>?_)
               ·exact KL1.out _ _ hHeld hb
               ·clear hK K
                try clear hHeld
                have hHeld:=hHeld2;clear hHeld2
                try simp only[Act.put,List.getElem_toArray,List.getElem_cons_zero,List.getElem_cons_succ,List.setIfInBounds_toArray,List.set_cons_zero,List.set_cons_succ]
                replace hDw:Dep (fun g=>N0≤g) z3 (Zbf 0 [.mk 0 2 false [2] []]) [.int .i64 2,.int .i64 0,.bool true,.slice none 0 0,.slice (some ⟨gw,0,none⟩) 1 1]:=hDw.next (Agr.below hb) (fun _ h _=>h);clear hb;refine wpAnyH_ready (rs:=[5,11]) (by kernel_rfl) (by simp) ?_;refine AllReadyH.cons rfl (fun K hK=>?_) ?_
                ·have HH:Hid (wj.heap.size≤z3.heap.size):=(KB1.out _ hHeld).size
                 go_simp;refine ZbI.mono ?_;rintro e z5 ⟨da,rfl,hd,hb⟩;refine hK.out _ _ ?_ (fun hHeld2=>?_)
                 ·exact KL1.out _ _ hHeld hb
                 ·clear hK K
                  try clear hHeld
                  have hHeld:=hHeld2;clear hHeld2
                  try simp only[Act.put,List.getElem_toArray,List.getElem_cons_zero,List.getElem_cons_succ,List.setIfInBounds_toArray,List.set_cons_zero,List.set_cons_succ]
                  replace hDw:Dep (fun g=>N0≤g) z5 (Zbf 0 [.mk 0 2 false [2] []]) [.int .i64 2,.int .i64 0,.bool true,.slice none 0 0,.slice (some ⟨gw,0,none⟩) 1 1]:=hDw.next (Agr.below hb) (fun _ h _=>h);have hDa:Dep (fun g=>N0≤g) z5 (Zc0) da:=hd.next (Agr.refl _ _) (fun _ h _=>Nat.le_trans (Nat.le_trans hszj HH.out) h);clear hb hd HH;refine wpAnyH_ready (rs:=[8,11]) (by kernel_rfl) (by simp) ?_;refine AllReadyH.cons rfl (fun K hK=>?_) ?_
                  ·have HH:Hid (wj.heap.size≤z5.heap.size):=(KB1.out _ hHeld).size
                   have HB0:Hid (Below wj.heap.size wj z5):=KB1.out _ hHeld;go_simp;refine (Zbk (HI.out.later (bel.trans (HB0.out.mono bel.size))) wI mI).mono ?_;rintro e z8 ⟨kv7,xs7,rfl,own7,hk7,hb⟩;refine hK.out _ _ ?_ (fun hHeld2=>?_)
                   ·exact KL1.out _ _ hHeld hb
                   ·clear hK K
                    try clear hHeld
                    have hHeld:=hHeld2;clear hHeld2
                    try simp only[Act.put,List.getElem_toArray,List.getElem_cons_zero,List.getElem_cons_succ,List.setIfInBounds_toArray,List.set_cons_zero,List.set_cons_succ]
                    replace hDw:Dep (fun g=>N0≤g) z8 (Zbf 0 [.mk 0 2 false [2] []]) [.int .i64 2,.int .i64 0,.bool true,.slice none 0 0,.slice (some ⟨gw,0,none⟩) 1 1]:=hDw.next (Agr.below hb) (fun _ h _=>h);replace hDa:Dep (fun g=>N0≤g) z8 (Zc0) da:=hDa.next (Agr.below hb) (fun _ h _=>h);have hDi0:Dep (fun b=>z5.heap.size≤b) z8 (ZaH c.issuer) [.int .i64 0,.int .i64 16,.bool true,.slice none 0 0,kv7]:=ZcX.tl own7 hk7;obtain ⟨ka7,kc7,rfl⟩:∃ ka kc,kv7=.slice ka IL kc:=by obtain ⟨a9,c9,e9⟩:=Zcu own7;exact ⟨a9,c9,by rw[e9,HIL.out]⟩
                    have hDi:Dep (fun g=>N0≤g) z8 (ZaH c.issuer) [.int .i64 0,.int .i64 16,.bool true,.slice none 0 0,.slice ka7 IL kc7]:=hDi0.next (Agr.refl _ _) (fun _ h _=>Nat.le_trans (Nat.le_trans hszj HH.out) h);clear hb own7 hk7 HH HB0 hDi0;refine wpAnyH_ready (rs:=[11]) (by kernel_rfl) (by simp) ?_;refine AllReadyH.cons rfl (fun K hK=>?_) ?_
                    ·have HH:Hid (wj.heap.size≤z8.heap.size):=(KB1.out _ hHeld).size
                     have HB0:Hid (Below wj.heap.size wj z8):=KB1.out _ hHeld;rw[if_pos (by rfl)];refine wp_buildSlice 55 57 2 _ rfl (ds2++ds3).toArray jt _ Tryz.underlying55 hjt ht0 (by rw[ht1];decide) (by rw[ht1];decide) (by rw[ht1];refine (congrArg _ (?_:_=[(0,Value.agg ds2.toArray),(1,Value.agg ds3.toArray)])).trans (ZbO HL2.out HL3.out);kernel_rfl) ?_;refine hK.out _ _ ?_ (fun hHeld2=>?_)
                     ·exact KA1.out _ _ hHeld
                     ·clear hK K
                      try clear hHeld
                      have hHeld:=hHeld2;clear hHeld2
                      try simp only[Act.put,List.getElem_toArray,List.getElem_cons_zero,List.getElem_cons_succ,List.setIfInBounds_toArray,List.set_cons_zero,List.set_cons_succ]
                      have hb:Below z8.heap.size z8 (z8.alloc (.cells (ds2++ds3).toArray 57)):=(Below.refl _ _).alloc (Nat.le_refl _) _;replace hDw:Dep (fun g=>N0≤g) (z8.alloc (.cells (ds2++ds3).toArray 57)) (Zbf 0 [.mk 0 2 false [2] []]) [.int .i64 2,.int .i64 0,.bool true,.slice none 0 0,.slice (some ⟨gw,0,none⟩) 1 1]:=hDw.next (Agr.below hb) (fun _ h _=>h);replace hDa:Dep (fun g=>N0≤g) (z8.alloc (.cells (ds2++ds3).toArray 57)) (Zc0) da:=hDa.next (Agr.below hb) (fun _ h _=>h);replace hDi:Dep (fun g=>N0≤g) (z8.alloc (.cells (ds2++ds3).toArray 57)) (ZaH c.issuer) [.int .i64 0,.int .i64 16,.bool true,.slice none 0 0,.slice ka7 IL kc7]:=hDi.next (Agr.below hb) (fun _ h _=>h);have hDt:Dep (fun g=>N0≤g) (z8.alloc (.cells (ds2++ds3).toArray 57)) (Zak [T2,T3]) [.int .i64 0,.int .i64 16,.bool true,.slice none 0 0,.slice (some ⟨z8.heap.size,0,none⟩) 2 2]:=Zav (ks:=[T2,T3]) (by rw[List.length_append,HL2.out,HL3.out];rfl) (Nat.le_trans hszj HH.out) (by show 2≤maxLen;decide) (Zbo (P:=Dep (fun g=>N0≤g) z8) (HD2.out.next (Agr.below HB0.out) (fun _ h _=>h)) (HD3.out.next (Agr.below HB0.out) (fun _ h _=>h)) HL2.out HL3.out) 0 16 true;obtain ⟨gt,hg9⟩:∃ g,g=z8.heap.size:=⟨_,rfl⟩;rw[← hg9] at hDt ⊢;clear hg9 hb HH HB0;generalize (z8.alloc (.cells (ds2++ds3).toArray 57))=z11 at *;exact k5 z11 gv gw gt da ka7 kc7 hHeld hDw hDa hDi hDt
                    exact AllReadyH.nil
                  refine AllReadyH.cons rfl (fun K hK=>?_) ?_
                  ·have HH:Hid (wj.heap.size≤z5.heap.size):=(KB1.out _ hHeld).size
                   have HB0:Hid (Below wj.heap.size wj z5):=KB1.out _ hHeld;rw[if_pos (by rfl)];refine wp_buildSlice 55 57 2 _ rfl (ds2++ds3).toArray jt _ Tryz.underlying55 hjt ht0 (by rw[ht1];decide) (by rw[ht1];decide) (by rw[ht1];refine (congrArg _ (?_:_=[(0,Value.agg ds2.toArray),(1,Value.agg ds3.toArray)])).trans (ZbO HL2.out HL3.out);kernel_rfl) ?_;refine hK.out _ _ ?_ (fun hHeld2=>?_)
                   ·exact KA1.out _ _ hHeld
                   ·clear hK K
                    try clear hHeld
                    have hHeld:=hHeld2;clear hHeld2
                    try simp only[Act.put,List.getElem_toArray,List.getElem_cons_zero,List.getElem_cons_succ,List.setIfInBounds_toArray,List.set_cons_zero,List.set_cons_succ]
                    have hb:Below z5.heap.size z5 (z5.alloc (.cells (ds2++ds3).toArray 57)):=(Below.refl _ _).alloc (Nat.le_refl _) _;replace hDw:Dep (fun g=>N0≤g) (z5.alloc (.cells (ds2++ds3).toArray 57)) (Zbf 0 [.mk 0 2 false [2] []]) [.int .i64 2,.int .i64 0,.bool true,.slice none 0 0,.slice (some ⟨gw,0,none⟩) 1 1]:=hDw.next (Agr.below hb) (fun _ h _=>h);replace hDa:Dep (fun g=>N0≤g) (z5.alloc (.cells (ds2++ds3).toArray 57)) (Zc0) da:=hDa.next (Agr.below hb) (fun _ h _=>h);have hDt:Dep (fun g=>N0≤g) (z5.alloc (.cells (ds2++ds3).toArray 57)) (Zak [T2,T3]) [.int .i64 0,.int .i64 16,.bool true,.slice none 0 0,.slice (some ⟨z5.heap.size,0,none⟩) 2 2]:=Zav (ks:=[T2,T3]) (by rw[List.length_append,HL2.out,HL3.out];rfl) (Nat.le_trans hszj HH.out) (by show 2≤maxLen;decide) (Zbo (P:=Dep (fun g=>N0≤g) z5) (HD2.out.next (Agr.below HB0.out) (fun _ h _=>h)) (HD3.out.next (Agr.below HB0.out) (fun _ h _=>h)) HL2.out HL3.out) 0 16 true;obtain ⟨gt,hg9⟩:∃ g,g=z5.heap.size:=⟨_,rfl⟩;rw[← hg9] at hDt ⊢;clear hg9 hb HH HB0;generalize (z5.alloc (.cells (ds2++ds3).toArray 57))=z11 at *;refine wpAnyH_ready (rs:=[8]) (by kernel_rfl) (by simp) ?_;refine AllReadyH.cons rfl (fun K hK=>?_) ?_
                    ·have HH:Hid (wj.heap.size≤z11.heap.size):=(KB1.out _ hHeld).size
                     have HB0:Hid (Below wj.heap.size wj z11):=KB1.out _ hHeld;go_simp;refine (Zbk (HI.out.later (bel.trans (HB0.out.mono bel.size))) wI mI).mono ?_;rintro e z8 ⟨kv7,xs7,rfl,own7,hk7,hb⟩;refine hK.out _ _ ?_ (fun hHeld2=>?_)
                     ·exact KL1.out _ _ hHeld hb
                     ·clear hK K
                      try clear hHeld
                      have hHeld:=hHeld2;clear hHeld2
                      try simp only[Act.put,List.getElem_toArray,List.getElem_cons_zero,List.getElem_cons_succ,List.setIfInBounds_toArray,List.set_cons_zero,List.set_cons_succ]
                      replace hDw:Dep (fun g=>N0≤g) z8 (Zbf 0 [.mk 0 2 false [2] []]) [.int .i64 2,.int .i64 0,.bool true,.slice none 0 0,.slice (some ⟨gw,0,none⟩) 1 1]:=hDw.next (Agr.below hb) (fun _ h _=>h);replace hDa:Dep (fun g=>N0≤g) z8 (Zc0) da:=hDa.next (Agr.below hb) (fun _ h _=>h);replace hDt:Dep (fun g=>N0≤g) z8 (Zak [T2,T3]) [.int .i64 0,.int .i64 16,.bool true,.slice none 0 0,.slice (some ⟨gt,0,none⟩) 2 2]:=hDt.next (Agr.below hb) (fun _ h _=>h);have hDi0:Dep (fun b=>z11.heap.size≤b) z8 (ZaH c.issuer) [.int .i64 0,.int .i64 16,.bool true,.slice none 0 0,kv7]:=ZcX.tl own7 hk7;obtain ⟨ka7,kc7,rfl⟩:∃ ka kc,kv7=.slice ka IL kc:=by obtain ⟨a9,c9,e9⟩:=Zcu own7;exact ⟨a9,c9,by rw[e9,HIL.out]⟩
                      have hDi:Dep (fun g=>N0≤g) z8 (ZaH c.issuer) [.int .i64 0,.int .i64 16,.bool true,.slice none 0 0,.slice ka7 IL kc7]:=hDi0.next (Agr.refl _ _) (fun _ h _=>Nat.le_trans (Nat.le_trans hszj HH.out) h);clear hb own7 hk7 HH HB0 hDi0;exact k5 z8 gv gw gt da ka7 kc7 hHeld hDw hDa hDi hDt
                    exact AllReadyH.nil
                  exact AllReadyH.nil
                refine AllReadyH.cons rfl (fun K hK=>?_) ?_
                ·have HH:Hid (wj.heap.size≤z3.heap.size):=(KB1.out _ hHeld).size
                 have HB0:Hid (Below wj.heap.size wj z3):=KB1.out _ hHeld;rw[if_pos (by rfl)];refine wp_buildSlice 55 57 2 _ rfl (ds2++ds3).toArray jt _ Tryz.underlying55 hjt ht0 (by rw[ht1];decide) (by rw[ht1];decide) (by rw[ht1];refine (congrArg _ (?_:_=[(0,Value.agg ds2.toArray),(1,Value.agg ds3.toArray)])).trans (ZbO HL2.out HL3.out);kernel_rfl) ?_;refine hK.out _ _ ?_ (fun hHeld2=>?_)
                 ·exact KA1.out _ _ hHeld
                 ·clear hK K
                  try clear hHeld
                  have hHeld:=hHeld2;clear hHeld2
                  try simp only[Act.put,List.getElem_toArray,List.getElem_cons_zero,List.getElem_cons_succ,List.setIfInBounds_toArray,List.set_cons_zero,List.set_cons_succ]
                  have hb:Below z3.heap.size z3 (z3.alloc (.cells (ds2++ds3).toArray 57)):=(Below.refl _ _).alloc (Nat.le_refl _) _;replace hDw:Dep (fun g=>N0≤g) (z3.alloc (.cells (ds2++ds3).toArray 57)) (Zbf 0 [.mk 0 2 false [2] []]) [.int .i64 2,.int .i64 0,.bool true,.slice none 0 0,.slice (some ⟨gw,0,none⟩) 1 1]:=hDw.next (Agr.below hb) (fun _ h _=>h);have hDt:Dep (fun g=>N0≤g) (z3.alloc (.cells (ds2++ds3).toArray 57)) (Zak [T2,T3]) [.int .i64 0,.int .i64 16,.bool true,.slice none 0 0,.slice (some ⟨z3.heap.size,0,none⟩) 2 2]:=Zav (ks:=[T2,T3]) (by rw[List.length_append,HL2.out,HL3.out];rfl) (Nat.le_trans hszj HH.out) (by show 2≤maxLen;decide) (Zbo (P:=Dep (fun g=>N0≤g) z3) (HD2.out.next (Agr.below HB0.out) (fun _ h _=>h)) (HD3.out.next (Agr.below HB0.out) (fun _ h _=>h)) HL2.out HL3.out) 0 16 true;obtain ⟨gt,hg9⟩:∃ g,g=z3.heap.size:=⟨_,rfl⟩;rw[← hg9] at hDt ⊢;clear hg9 hb HH HB0;generalize (z3.alloc (.cells (ds2++ds3).toArray 57))=z11 at *;refine wpAnyH_ready (rs:=[5]) (by kernel_rfl) (by simp) ?_;refine AllReadyH.cons rfl (fun K hK=>?_) ?_
                  ·have HH:Hid (wj.heap.size≤z11.heap.size):=(KB1.out _ hHeld).size
                   go_simp;refine ZbI.mono ?_;rintro e z5 ⟨da,rfl,hd,hb⟩;refine hK.out _ _ ?_ (fun hHeld2=>?_)
                   ·exact KL1.out _ _ hHeld hb
                   ·clear hK K
                    try clear hHeld
                    have hHeld:=hHeld2;clear hHeld2
                    try simp only[Act.put,List.getElem_toArray,List.getElem_cons_zero,List.getElem_cons_succ,List.setIfInBounds_toArray,List.set_cons_zero,List.set_cons_succ]
                    replace hDw:Dep (fun g=>N0≤g) z5 (Zbf 0 [.mk 0 2 false [2] []]) [.int .i64 2,.int .i64 0,.bool true,.slice none 0 0,.slice (some ⟨gw,0,none⟩) 1 1]:=hDw.next (Agr.below hb) (fun _ h _=>h);replace hDt:Dep (fun g=>N0≤g) z5 (Zak [T2,T3]) [.int .i64 0,.int .i64 16,.bool true,.slice none 0 0,.slice (some ⟨gt,0,none⟩) 2 2]:=hDt.next (Agr.below hb) (fun _ h _=>h);have hDa:Dep (fun g=>N0≤g) z5 (Zc0) da:=hd.next (Agr.refl _ _) (fun _ h _=>Nat.le_trans (Nat.le_trans hszj HH.out) h);clear hb hd HH;refine wpAnyH_ready (rs:=[8]) (by kernel_rfl) (by simp) ?_;refine AllReadyH.cons rfl (fun K hK=>?_) ?_
                    ·have HH:Hid (wj.heap.size≤z5.heap.size):=(KB1.out _ hHeld).size
                     have HB0:Hid (Below wj.heap.size wj z5):=KB1.out _ hHeld;go_simp;refine (Zbk (HI.out.later (bel.trans (HB0.out.mono bel.size))) wI mI).mono ?_;rintro e z8 ⟨kv7,xs7,rfl,own7,hk7,hb⟩;refine hK.out _ _ ?_ (fun hHeld2=>?_)
                     ·exact KL1.out _ _ hHeld hb
                     ·clear hK K
                      try clear hHeld
                      have hHeld:=hHeld2;clear hHeld2
                      try simp only[Act.put,List.getElem_toArray,List.getElem_cons_zero,List.getElem_cons_succ,List.setIfInBounds_toArray,List.set_cons_zero,List.set_cons_succ]
                      replace hDw:Dep (fun g=>N0≤g) z8 (Zbf 0 [.mk 0 2 false [2] []]) [.int .i64 2,.int .i64 0,.bool true,.slice none 0 0,.slice (some ⟨gw,0,none⟩) 1 1]:=hDw.next (Agr.below hb) (fun _ h _=>h);replace hDa:Dep (fun g=>N0≤g) z8 (Zc0) da:=hDa.next (Agr.below hb) (fun _ h _=>h);replace hDt:Dep (fun g=>N0≤g) z8 (Zak [T2,T3]) [.int .i64 0,.int .i64 16,.bool true,.slice none 0 0,.slice (some ⟨gt,0,none⟩) 2 2]:=hDt.next (Agr.below hb) (fun _ h _=>h);have hDi0:Dep (fun b=>z5.heap.size≤b) z8 (ZaH c.issuer) [.int .i64 0,.int .i64 16,.bool true,.slice none 0 0,kv7]:=ZcX.tl own7 hk7;obtain ⟨ka7,kc7,rfl⟩:∃ ka kc,kv7=.slice ka IL kc:=by obtain ⟨a9,c9,e9⟩:=Zcu own7;exact ⟨a9,c9,by rw[e9,HIL.out]⟩
                      have hDi:Dep (fun g=>N0≤g) z8 (ZaH c.issuer) [.int .i64 0,.int .i64 16,.bool true,.slice none 0 0,.slice ka7 IL kc7]:=hDi0.next (Agr.refl _ _) (fun _ h _=>Nat.le_trans (Nat.le_trans hszj HH.out) h);clear hb own7 hk7 HH HB0 hDi0;exact k5 z8 gv gw gt da ka7 kc7 hHeld hDw hDa hDi hDt
                    exact AllReadyH.nil
                  exact AllReadyH.nil
                exact AllReadyH.nil
              refine AllReadyH.cons rfl (fun K hK=>?_) ?_
              ·have HH:Hid (wj.heap.size≤z2.heap.size):=(KB1.out _ hHeld).size
               have HB0:Hid (Below wj.heap.size wj z2):=KB1.out _ hHeld;rw[if_pos (by rfl)];refine wp_buildSlice 55 57 2 _ rfl (ds2++ds3).toArray jt _ Tryz.underlying55 hjt ht0 (by rw[ht1];decide) (by rw[ht1];decide) (by rw[ht1];refine (congrArg _ (?_:_=[(0,Value.agg ds2.toArray),(1,Value.agg ds3.toArray)])).trans (ZbO HL2.out HL3.out);kernel_rfl) ?_;refine hK.out _ _ ?_ (fun hHeld2=>?_)
               ·exact KA1.out _ _ hHeld
               ·clear hK K
                try clear hHeld
                have hHeld:=hHeld2;clear hHeld2
                try simp only[Act.put,List.getElem_toArray,List.getElem_cons_zero,List.getElem_cons_succ,List.setIfInBounds_toArray,List.set_cons_zero,List.set_cons_succ]
                have hb:Below z2.heap.size z2 (z2.alloc (.cells (ds2++ds3).toArray 57)):=(Below.refl _ _).alloc (Nat.le_refl _) _;replace hDw:Dep (fun g=>N0≤g) (z2.alloc (.cells (ds2++ds3).toArray 57)) (Zbf 0 [.mk 0 2 false [2] []]) [.int .i64 2,.int .i64 0,.bool true,.slice none 0 0,.slice (some ⟨gw,0,none⟩) 1 1]:=hDw.next (Agr.below hb) (fun _ h _=>h);have hDt:Dep (fun g=>N0≤g) (z2.alloc (.cells (ds2++ds3).toArray 57)) (Zak [T2,T3]) [.int .i64 0,.int .i64 16,.bool true,.slice none 0 0,.slice (some ⟨z2.heap.size,0,none⟩) 2 2]:=Zav (ks:=[T2,T3]) (by rw[List.length_append,HL2.out,HL3.out];rfl) (Nat.le_trans hszj HH.out) (by show 2≤maxLen;decide) (Zbo (P:=Dep (fun g=>N0≤g) z2) (HD2.out.next (Agr.below HB0.out) (fun _ h _=>h)) (HD3.out.next (Agr.below HB0.out) (fun _ h _=>h)) HL2.out HL3.out) 0 16 true;obtain ⟨gt,hg9⟩:∃ g,g=z2.heap.size:=⟨_,rfl⟩;rw[← hg9] at hDt ⊢;clear hg9 hb HH HB0;generalize (z2.alloc (.cells (ds2++ds3).toArray 57))=z11 at *;refine wpAnyH_ready (rs:=[3]) (by kernel_rfl) (by simp) ?_;refine AllReadyH.cons rfl (fun K hK=>?_) ?_
                ·go_simp
                 refine ZdF.mono ?_;rintro e z3 ⟨rfl,hb⟩;refine hK.out _ _ ?_ (fun hHeld2=>?_)
                 ·exact KL1.out _ _ hHeld hb
                 ·clear hK K
                  try clear hHeld
                  have hHeld:=hHeld2;clear hHeld2
                  try simp only[Act.put,List.getElem_toArray,List.getElem_cons_zero,List.getElem_cons_succ,List.setIfInBounds_toArray,List.set_cons_zero,List.set_cons_succ]
                  replace hDw:Dep (fun g=>N0≤g) z3 (Zbf 0 [.mk 0 2 false [2] []]) [.int .i64 2,.int .i64 0,.bool true,.slice none 0 0,.slice (some ⟨gw,0,none⟩) 1 1]:=hDw.next (Agr.below hb) (fun _ h _=>h);replace hDt:Dep (fun g=>N0≤g) z3 (Zak [T2,T3]) [.int .i64 0,.int .i64 16,.bool true,.slice none 0 0,.slice (some ⟨gt,0,none⟩) 2 2]:=hDt.next (Agr.below hb) (fun _ h _=>h);clear hb;refine wpAnyH_ready (rs:=[5]) (by kernel_rfl) (by simp) ?_;refine AllReadyH.cons rfl (fun K hK=>?_) ?_
                  ·have HH:Hid (wj.heap.size≤z3.heap.size):=(KB1.out _ hHeld).size
                   go_simp;refine ZbI.mono ?_;rintro e z5 ⟨da,rfl,hd,hb⟩;refine hK.out _ _ ?_ (fun hHeld2=>?_)
                   ·exact KL1.out _ _ hHeld hb
                   ·clear hK K
                    try clear hHeld
                    have hHeld:=hHeld2;clear hHeld2
                    try simp only[Act.put,List.getElem_toArray,List.getElem_cons_zero,List.getElem_cons_succ,List.setIfInBounds_toArray,List.set_cons_zero,List.set_cons_succ]
                    replace hDw:Dep (fun g=>N0≤g) z5 (Zbf 0 [.mk 0 2 false [2] []]) [.int .i64 2,.int .i64 0,.bool true,.slice none 0 0,.slice (some ⟨gw,0,none⟩) 1 1]:=hDw.next (Agr.below hb) (fun _ h _=>h);replace hDt:Dep (fun g=>N0≤g) z5 (Zak [T2,T3]) [.int .i64 0,.int .i64 16,.bool true,.slice none 0 0,.slice (some ⟨gt,0,none⟩) 2 2]:=hDt.next (Agr.below hb) (fun _ h _=>h);have hDa:Dep (fun g=>N0≤g) z5 (Zc0) da:=hd.next (Agr.refl _ _) (fun _ h _=>Nat.le_trans (Nat.le_trans hszj HH.out) h);clear hb hd HH;refine wpAnyH_ready (rs:=[8]) (by kernel_rfl) (by simp) ?_;refine AllReadyH.cons rfl (fun K hK=>?_) ?_
                    ·have HH:Hid (wj.heap.size≤z5.heap.size):=(KB1.out _ hHeld).size
                     have HB0:Hid (Below wj.heap.size wj z5):=KB1.out _ hHeld;go_simp;refine (Zbk (HI.out.later (bel.trans (HB0.out.mono bel.size))) wI mI).mono ?_;rintro e z8 ⟨kv7,xs7,rfl,own7,hk7,hb⟩;refine hK.out _ _ ?_ (fun hHeld2=>?_)
                     ·exact KL1.out _ _ hHeld hb
                     ·clear hK K
                      try clear hHeld
                      have hHeld:=hHeld2;clear hHeld2
                      try simp only[Act.put,List.getElem_toArray,List.getElem_cons_zero,List.getElem_cons_succ,List.setIfInBounds_toArray,List.set_cons_zero,List.set_cons_succ]
                      replace hDw:Dep (fun g=>N0≤g) z8 (Zbf 0 [.mk 0 2 false [2] []]) [.int .i64 2,.int .i64 0,.bool true,.slice none 0 0,.slice (some ⟨gw,0,none⟩) 1 1]:=hDw.next (Agr.below hb) (fun _ h _=>h);replace hDa:Dep (fun g=>N0≤g) z8 (Zc0) da:=hDa.next (Agr.below hb) (fun _ h _=>h);replace hDt:Dep (fun g=>N0≤g) z8 (Zak [T2,T3]) [.int .i64 0,.int .i64 16,.bool true,.slice none 0 0,.slice (some ⟨gt,0,none⟩) 2 2]:=hDt.next (Agr.below hb) (fun _ h _=>h);have hDi0:Dep (fun b=>z5.heap.size≤b) z8 (ZaH c.issuer) [.int .i64 0,.int .i64 16,.bool true,.slice none 0 0,kv7]:=ZcX.tl own7 hk7;obtain ⟨ka7,kc7,rfl⟩:∃ ka kc,kv7=.slice ka IL kc:=by obtain ⟨a9,c9,e9⟩:=Zcu own7;exact ⟨a9,c9,by rw[e9,HIL.out]⟩
                      have hDi:Dep (fun g=>N0≤g) z8 (ZaH c.issuer) [.int .i64 0,.int .i64 16,.bool true,.slice none 0 0,.slice ka7 IL kc7]:=hDi0.next (Agr.refl _ _) (fun _ h _=>Nat.le_trans (Nat.le_trans hszj HH.out) h);clear hb own7 hk7 HH HB0 hDi0;exact k5 z8 gv gw gt da ka7 kc7 hHeld hDw hDa hDi hDt
                    exact AllReadyH.nil
                  exact AllReadyH.nil
                exact AllReadyH.nil
              exact AllReadyH.nil
            refine AllReadyH.cons rfl (fun K hK=>?_) ?_
            ·have HH:Hid (wj.heap.size≤z0.heap.size):=(KB1.out _ hHeld).size
             have HB0:Hid (Below wj.heap.size wj z0):=KB1.out _ hHeld;rw[if_pos (by rfl)];refine wp_buildSlice 55 57 2 _ rfl (ds2++ds3).toArray jt _ Tryz.underlying55 hjt ht0 (by rw[ht1];decide) (by rw[ht1];decide) (by rw[ht1];refine (congrArg _ (?_:_=[(0,Value.agg ds2.toArray),(1,Value.agg ds3.toArray)])).trans (ZbO HL2.out HL3.out);kernel_rfl) ?_;refine hK.out _ _ ?_ (fun hHeld2=>?_)
             ·exact KA1.out _ _ hHeld
             ·clear hK K
              try clear hHeld
              have hHeld:=hHeld2;clear hHeld2
              try simp only[Act.put,List.getElem_toArray,List.getElem_cons_zero,List.getElem_cons_succ,List.setIfInBounds_toArray,List.set_cons_zero,List.set_cons_succ]
              have hb:Below z0.heap.size z0 (z0.alloc (.cells (ds2++ds3).toArray 57)):=(Below.refl _ _).alloc (Nat.le_refl _) _;replace hBv:=hBv.later hb;have hDt:Dep (fun g=>N0≤g) (z0.alloc (.cells (ds2++ds3).toArray 57)) (Zak [T2,T3]) [.int .i64 0,.int .i64 16,.bool true,.slice none 0 0,.slice (some ⟨z0.heap.size,0,none⟩) 2 2]:=Zav (ks:=[T2,T3]) (by rw[List.length_append,HL2.out,HL3.out];rfl) (Nat.le_trans hszj HH.out) (by show 2≤maxLen;decide) (Zbo (P:=Dep (fun g=>N0≤g) z0) (HD2.out.next (Agr.below HB0.out) (fun _ h _=>h)) (HD3.out.next (Agr.below HB0.out) (fun _ h _=>h)) HL2.out HL3.out) 0 16 true;obtain ⟨gt,hg9⟩:∃ g,g=z0.heap.size:=⟨_,rfl⟩;rw[← hg9] at hDt ⊢;clear hg9 hb HH HB0;generalize (z0.alloc (.cells (ds2++ds3).toArray 57))=z11 at *;refine wpAnyH_ready (rs:=[2]) (by kernel_rfl) (by simp) ?_;refine AllReadyH.cons rfl (fun K hK=>?_) ?_
              ·have HH:Hid (wj.heap.size≤z11.heap.size):=(KB1.out _ hHeld).size
               go_simp;refine hK.out _ _ ?_ (fun hHeld2=>?_)
               ·exact KA1.out _ _ hHeld
               ·clear hK K
                try clear hHeld
                have hHeld:=hHeld2;clear hHeld2
                try simp only[Act.put,List.getElem_toArray,List.getElem_cons_zero,List.getElem_cons_succ,List.setIfInBounds_toArray,List.set_cons_zero,List.set_cons_succ]
                have hb:Below z11.heap.size z11 (z11.alloc (.cells #[.int .i64 0,.int .i64 2,.bool false,.slice (some ⟨gv,0,none⟩) 1 1,.slice none 0 0] 57)):=(Below.refl _ _).alloc (Nat.le_refl _) _;replace hDt:Dep (fun g=>N0≤g) (z11.alloc (.cells #[.int .i64 0,.int .i64 2,.bool false,.slice (some ⟨gv,0,none⟩) 1 1,.slice none 0 0] 57)) (Zak [T2,T3]) [.int .i64 0,.int .i64 16,.bool true,.slice none 0 0,.slice (some ⟨gt,0,none⟩) 2 2]:=hDt.next (Agr.below hb) (fun _ h _=>h);have hDv:Dep (fun g=>N0≤g) z11 (.mk 0 2 false [2] []) [.int .i64 0,.int .i64 2,.bool false,.slice (some ⟨gv,0,none⟩) 1 1,.slice none 0 0]:=ZcD hBv (fun a m c e _=>by simp only[Value.slice.injEq,Option.some.injEq] at e;rw[← e.1];exact lgv) 0 2 false;have hDw:Dep (fun g=>N0≤g) (z11.alloc (.cells #[.int .i64 0,.int .i64 2,.bool false,.slice (some ⟨gv,0,none⟩) 1 1,.slice none 0 0] 57)) (Zbf 0 [.mk 0 2 false [2] []]) [.int .i64 2,.int .i64 0,.bool true,.slice none 0 0,.slice (some ⟨z11.heap.size,0,none⟩) 1 1]:=Zav (ks:=[.mk 0 2 false [2] []]) rfl (Nat.le_trans hszj HH.out) (by show 1≤maxLen;decide) (ZaY (P:=Dep (fun g=>N0≤g) z11) hDv rfl) 2 0 true;obtain ⟨gw,hg9⟩:∃ g,g=z11.heap.size:=⟨_,rfl⟩;rw[← hg9] at hDw ⊢;clear hg9 hb HH hDv hBv lgv;generalize (z11.alloc (.cells #[.int .i64 0,.int .i64 2,.bool false,.slice (some ⟨gv,0,none⟩) 1 1,.slice none 0 0] 57))=z2 at *;refine wpAnyH_ready (rs:=[3]) (by kernel_rfl) (by simp) ?_;refine AllReadyH.cons rfl (fun K hK=>?_) ?_
                ·go_simp
                 refine ZdF.mono ?_;rintro e z3 ⟨rfl,hb⟩;refine hK.out _ _ ?_ (fun hHeld2=>?_)
                 ·exact KL1.out _ _ hHeld hb
                 ·clear hK K
                  try clear hHeld
                  have hHeld:=hHeld2;clear hHeld2
                  try simp only[Act.put,List.getElem_toArray,List.getElem_cons_zero,List.getElem_cons_succ,List.setIfInBounds_toArray,List.set_cons_zero,List.set_cons_succ]
                  replace hDw:Dep (fun g=>N0≤g) z3 (Zbf 0 [.mk 0 2 false [2] []]) [.int .i64 2,.int .i64 0,.bool true,.slice none 0 0,.slice (some ⟨gw,0,none⟩) 1 1]:=hDw.next (Agr.below hb) (fun _ h _=>h);replace hDt:Dep (fun g=>N0≤g) z3 (Zak [T2,T3]) [.int .i64 0,.int .i64 16,.bool true,.slice none 0 0,.slice (some ⟨gt,0,none⟩) 2 2]:=hDt.next (Agr.below hb) (fun _ h _=>h);clear hb;refine wpAnyH_ready (rs:=[5]) (by kernel_rfl) (by simp) ?_;refine AllReadyH.cons rfl (fun K hK=>?_) ?_
                  ·have HH:Hid (wj.heap.size≤z3.heap.size):=(KB1.out _ hHeld).size
                   go_simp;refine ZbI.mono ?_;rintro e z5 ⟨da,rfl,hd,hb⟩;refine hK.out _ _ ?_ (fun hHeld2=>?_)
                   ·exact KL1.out _ _ hHeld hb
                   ·clear hK K
                    try clear hHeld
                    have hHeld:=hHeld2;clear hHeld2
                    try simp only[Act.put,List.getElem_toArray,List.getElem_cons_zero,List.getElem_cons_succ,List.setIfInBounds_toArray,List.set_cons_zero,List.set_cons_succ]
                    replace hDw:Dep (fun g=>N0≤g) z5 (Zbf 0 [.mk 0 2 false [2] []]) [.int .i64 2,.int .i64 0,.bool true,.slice none 0 0,.slice (some ⟨gw,0,none⟩) 1 1]:=hDw.next (Agr.below hb) (fun _ h _=>h);replace hDt:Dep (fun g=>N0≤g) z5 (Zak [T2,T3]) [.int .i64 0,.int .i64 16,.bool true,.slice none 0 0,.slice (some ⟨gt,0,none⟩) 2 2]:=hDt.next (Agr.below hb) (fun _ h _=>h);have hDa:Dep (fun g=>N0≤g) z5 (Zc0) da:=hd.next (Agr.refl _ _) (fun _ h _=>Nat.le_trans (Nat.le_trans hszj HH.out) h);clear hb hd HH;refine wpAnyH_ready (rs:=[8]) (by kernel_rfl) (by simp) ?_;refine AllReadyH.cons rfl (fun K hK=>?_) ?_
                    ·have HH:Hid (wj.heap.size≤z5.heap.size):=(KB1.out _ hHeld).size
                     have HB0:Hid (Below wj.heap.size wj z5):=KB1.out _ hHeld;go_simp;refine (Zbk (HI.out.later (bel.trans (HB0.out.mono bel.size))) wI mI).mono ?_;rintro e z8 ⟨kv7,xs7,rfl,own7,hk7,hb⟩;refine hK.out _ _ ?_ (fun hHeld2=>?_)
                     ·exact KL1.out _ _ hHeld hb
                     ·clear hK K
                      try clear hHeld
                      have hHeld:=hHeld2;clear hHeld2
                      try simp only[Act.put,List.getElem_toArray,List.getElem_cons_zero,List.getElem_cons_succ,List.setIfInBounds_toArray,List.set_cons_zero,List.set_cons_succ]
                      replace hDw:Dep (fun g=>N0≤g) z8 (Zbf 0 [.mk 0 2 false [2] []]) [.int .i64 2,.int .i64 0,.bool true,.slice none 0 0,.slice (some ⟨gw,0,none⟩) 1 1]:=hDw.next (Agr.below hb) (fun _ h _=>h);replace hDa:Dep (fun g=>N0≤g) z8 (Zc0) da:=hDa.next (Agr.below hb) (fun _ h _=>h);replace hDt:Dep (fun g=>N0≤g) z8 (Zak [T2,T3]) [.int .i64 0,.int .i64 16,.bool true,.slice none 0 0,.slice (some ⟨gt,0,none⟩) 2 2]:=hDt.next (Agr.below hb) (fun _ h _=>h);have hDi0:Dep (fun b=>z5.heap.size≤b) z8 (ZaH c.issuer) [.int .i64 0,.int .i64 16,.bool true,.slice none 0 0,kv7]:=ZcX.tl own7 hk7;obtain ⟨ka7,kc7,rfl⟩:∃ ka kc,kv7=.slice ka IL kc:=by obtain ⟨a9,c9,e9⟩:=Zcu own7;exact ⟨a9,c9,by rw[e9,HIL.out]⟩
                      have hDi:Dep (fun g=>N0≤g) z8 (ZaH c.issuer) [.int .i64 0,.int .i64 16,.bool true,.slice none 0 0,.slice ka7 IL kc7]:=hDi0.next (Agr.refl _ _) (fun _ h _=>Nat.le_trans (Nat.le_trans hszj HH.out) h);clear hb own7 hk7 HH HB0 hDi0;exact k5 z8 gv gw gt da ka7 kc7 hHeld hDw hDa hDi hDt
                    exact AllReadyH.nil
                  exact AllReadyH.nil
                exact AllReadyH.nil
              exact AllReadyH.nil
            exact AllReadyH.nil
          refine AllReadyH.cons rfl (fun K hK=>?_) ?_
          ·have HH:Hid (wj.heap.size≤wd1.heap.size):=(KB1.out _ hHeld).size
           have HB0:Hid (Below wj.heap.size wj wd1):=KB1.out _ hHeld;rw[if_pos (by rfl)];refine wp_buildSlice 55 57 2 _ rfl (ds2++ds3).toArray jt _ Tryz.underlying55 hjt ht0 (by rw[ht1];decide) (by rw[ht1];decide) (by rw[ht1];refine (congrArg _ (?_:_=[(0,Value.agg ds2.toArray),(1,Value.agg ds3.toArray)])).trans (ZbO HL2.out HL3.out);kernel_rfl) ?_;refine hK.out _ _ ?_ (fun hHeld2=>?_)
           ·exact KA1.out _ _ hHeld
           ·clear hK K
            try clear hHeld
            have hHeld:=hHeld2;clear hHeld2
            try simp only[Act.put,List.getElem_toArray,List.getElem_cons_zero,List.getElem_cons_succ,List.setIfInBounds_toArray,List.set_cons_zero,List.set_cons_succ]
            have hb:Below wd1.heap.size wd1 (wd1.alloc (.cells (ds2++ds3).toArray 57)):=(Below.refl _ _).alloc (Nat.le_refl _) _;have hDt:Dep (fun g=>N0≤g) (wd1.alloc (.cells (ds2++ds3).toArray 57)) (Zak [T2,T3]) [.int .i64 0,.int .i64 16,.bool true,.slice none 0 0,.slice (some ⟨wd1.heap.size,0,none⟩) 2 2]:=Zav (ks:=[T2,T3]) (by rw[List.length_append,HL2.out,HL3.out];rfl) (Nat.le_trans hszj HH.out) (by show 2≤maxLen;decide) (Zbo (P:=Dep (fun g=>N0≤g) wd1) (HD2.out.next (Agr.below HB0.out) (fun _ h _=>h)) (HD3.out.next (Agr.below HB0.out) (fun _ h _=>h)) HL2.out HL3.out) 0 16 true;obtain ⟨gt,hg9⟩:∃ g,g=wd1.heap.size:=⟨_,rfl⟩;rw[← hg9] at hDt ⊢;clear hg9 hb HH HB0;generalize (wd1.alloc (.cells (ds2++ds3).toArray 57))=z11 at *;refine wpAnyH_ready (rs:=[0]) (by kernel_rfl) (by simp) ?_;refine AllReadyH.cons rfl (fun K hK=>?_) ?_
            ·have HH:Hid (wj.heap.size≤z11.heap.size):=(KB1.out _ hHeld).size
             go_simp;refine hK.out _ _ ?_ (fun hHeld2=>?_)
             ·exact KA1.out _ _ hHeld
             ·clear hK K
              try clear hHeld
              have hHeld:=hHeld2;clear hHeld2
              try simp only[Act.put,List.getElem_toArray,List.getElem_cons_zero,List.getElem_cons_succ,List.setIfInBounds_toArray,List.set_cons_zero,List.set_cons_succ]
              have hb:Below z11.heap.size z11 (z11.alloc (.cells #[.int .u8 2] 5)):=(Below.refl _ _).alloc (Nat.le_refl _) _;replace hDt:Dep (fun g=>N0≤g) (z11.alloc (.cells #[.int .u8 2] 5)) (Zak [T2,T3]) [.int .i64 0,.int .i64 16,.bool true,.slice none 0 0,.slice (some ⟨gt,0,none⟩) 2 2]:=hDt.next (Agr.below hb) (fun _ h _=>h);have hBv:Bs (z11.alloc (.cells #[.int .u8 2] 5)) (.slice (some ⟨z11.heap.size,0,none⟩) 1 1) [2]:=Zbi z11 [2] (by show 1≤maxLen;decide);obtain ⟨gv,hg9⟩:∃ g,g=z11.heap.size:=⟨_,rfl⟩;have lgv:N0≤gv:=by rw[hg9];exact Nat.le_trans hszj HH.out
              rw[← hg9] at hBv ⊢;clear hg9 hb HH;generalize (z11.alloc (.cells #[.int .u8 2] 5))=z0 at *;refine wpAnyH_take (i:=1) (v:=?_) rfl (by kernel_rfl) (by kernel_rfl) (by kernel_rfl) (fun _ _ _ h=>h) (Or.inl ⟨by rfl,?_⟩) (by assumption) ?_;rotate_left
              ·intro w hSw
               go_simp
               with_reducible rfl
              try simp only[Act.put,List.getElem_toArray,List.getElem_cons_zero,List.getElem_cons_succ,List.setIfInBounds_toArray,List.set_cons_zero,List.set_cons_succ]
              refine wpAnyH_ready (rs:=[2]) (by kernel_rfl) (by simp) ?_;refine AllReadyH.cons rfl (fun K hK=>?_) ?_
              ·have HH:Hid (wj.heap.size≤z0.heap.size):=(KB1.out _ hHeld).size
               go_simp;refine hK.out _ _ ?_ (fun hHeld2=>?_)
               ·exact KA1.out _ _ hHeld
               ·clear hK K
                try clear hHeld
                have hHeld:=hHeld2;clear hHeld2
                try simp only[Act.put,List.getElem_toArray,List.getElem_cons_zero,List.getElem_cons_succ,List.setIfInBounds_toArray,List.set_cons_zero,List.set_cons_succ]
                have hb:Below z0.heap.size z0 (z0.alloc (.cells #[.int .i64 0,.int .i64 2,.bool false,.slice (some ⟨gv,0,none⟩) 1 1,.slice none 0 0] 57)):=(Below.refl _ _).alloc (Nat.le_refl _) _;replace hDt:Dep (fun g=>N0≤g) (z0.alloc (.cells #[.int .i64 0,.int .i64 2,.bool false,.slice (some ⟨gv,0,none⟩) 1 1,.slice none 0 0] 57)) (Zak [T2,T3]) [.int .i64 0,.int .i64 16,.bool true,.slice none 0 0,.slice (some ⟨gt,0,none⟩) 2 2]:=hDt.next (Agr.below hb) (fun _ h _=>h);have hDv:Dep (fun g=>N0≤g) z0 (.mk 0 2 false [2] []) [.int .i64 0,.int .i64 2,.bool false,.slice (some ⟨gv,0,none⟩) 1 1,.slice none 0 0]:=ZcD hBv (fun a m c e _=>by simp only[Value.slice.injEq,Option.some.injEq] at e;rw[← e.1];exact lgv) 0 2 false;have hDw:Dep (fun g=>N0≤g) (z0.alloc (.cells #[.int .i64 0,.int .i64 2,.bool false,.slice (some ⟨gv,0,none⟩) 1 1,.slice none 0 0] 57)) (Zbf 0 [.mk 0 2 false [2] []]) [.int .i64 2,.int .i64 0,.bool true,.slice none 0 0,.slice (some ⟨z0.heap.size,0,none⟩) 1 1]:=Zav (ks:=[.mk 0 2 false [2] []]) rfl (Nat.le_trans hszj HH.out) (by show 1≤maxLen;decide) (ZaY (P:=Dep (fun g=>N0≤g) z0) hDv rfl) 2 0 true;obtain ⟨gw,hg9⟩:∃ g,g=z0.heap.size:=⟨_,rfl⟩;rw[← hg9] at hDw ⊢;clear hg9 hb HH hDv hBv lgv;generalize (z0.alloc (.cells #[.int .i64 0,.int .i64 2,.bool false,.slice (some ⟨gv,0,none⟩) 1 1,.slice none 0 0] 57))=z2 at *;refine wpAnyH_ready (rs:=[3]) (by kernel_rfl) (by simp) ?_;refine AllReadyH.cons rfl (fun K hK=>?_) ?_
                ·go_simp
                 refine ZdF.mono ?_;rintro e z3 ⟨rfl,hb⟩;refine hK.out _ _ ?_ (fun hHeld2=>?_)
                 ·exact KL1.out _ _ hHeld hb
                 ·clear hK K
                  try clear hHeld
                  have hHeld:=hHeld2;clear hHeld2
                  try simp only[Act.put,List.getElem_toArray,List.getElem_cons_zero,List.getElem_cons_succ,List.setIfInBounds_toArray,List.set_cons_zero,List.set_cons_succ]
                  replace hDw:Dep (fun g=>N0≤g) z3 (Zbf 0 [.mk 0 2 false [2] []]) [.int .i64 2,.int .i64 0,.bool true,.slice none 0 0,.slice (some ⟨gw,0,none⟩) 1 1]:=hDw.next (Agr.below hb) (fun _ h _=>h);replace hDt:Dep (fun g=>N0≤g) z3 (Zak [T2,T3]) [.int .i64 0,.int .i64 16,.bool true,.slice none 0 0,.slice (some ⟨gt,0,none⟩) 2 2]:=hDt.next (Agr.below hb) (fun _ h _=>h);clear hb;refine wpAnyH_ready (rs:=[5]) (by kernel_rfl) (by simp) ?_;refine AllReadyH.cons rfl (fun K hK=>?_) ?_
                  ·have HH:Hid (wj.heap.size≤z3.heap.size):=(KB1.out _ hHeld).size
                   go_simp;refine ZbI.mono ?_;rintro e z5 ⟨da,rfl,hd,hb⟩;refine hK.out _ _ ?_ (fun hHeld2=>?_)
                   ·exact KL1.out _ _ hHeld hb
                   ·clear hK K
                    try clear hHeld
                    have hHeld:=hHeld2;clear hHeld2
                    try simp only[Act.put,List.getElem_toArray,List.getElem_cons_zero,List.getElem_cons_succ,List.setIfInBounds_toArray,List.set_cons_zero,List.set_cons_succ]
                    replace hDw:Dep (fun g=>N0≤g) z5 (Zbf 0 [.mk 0 2 false [2] []]) [.int .i64 2,.int .i64 0,.bool true,.slice none 0 0,.slice (some ⟨gw,0,none⟩) 1 1]:=hDw.next (Agr.below hb) (fun _ h _=>h);replace hDt:Dep (fun g=>N0≤g) z5 (Zak [T2,T3]) [.int .i64 0,.int .i64 16,.bool true,.slice none 0 0,.slice (some ⟨gt,0,none⟩) 2 2]:=hDt.next (Agr.below hb) (fun _ h _=>h);have hDa:Dep (fun g=>N0≤g) z5 (Zc0) da:=hd.next (Agr.refl _ _) (fun _ h _=>Nat.le_trans (Nat.le_trans hszj HH.out) h);clear hb hd HH;refine wpAnyH_ready (rs:=[8]) (by kernel_rfl) (by simp) ?_;refine AllReadyH.cons rfl (fun K hK=>?_) ?_
                    ·have HH:Hid (wj.heap.size≤z5.heap.size):=(KB1.out _ hHeld).size
                     have HB0:Hid (Below wj.heap.size wj z5):=KB1.out _ hHeld;go_simp;refine (Zbk (HI.out.later (bel.trans (HB0.out.mono bel.size))) wI mI).mono ?_;rintro e z8 ⟨kv7,xs7,rfl,own7,hk7,hb⟩;refine hK.out _ _ ?_ (fun hHeld2=>?_)
                     ·exact KL1.out _ _ hHeld hb
                     ·clear hK K
                      try clear hHeld
                      have hHeld:=hHeld2;clear hHeld2
                      try simp only[Act.put,List.getElem_toArray,List.getElem_cons_zero,List.getElem_cons_succ,List.setIfInBounds_toArray,List.set_cons_zero,List.set_cons_succ]
                      replace hDw:Dep (fun g=>N0≤g) z8 (Zbf 0 [.mk 0 2 false [2] []]) [.int .i64 2,.int .i64 0,.bool true,.slice none 0 0,.slice (some ⟨gw,0,none⟩) 1 1]:=hDw.next (Agr.below hb) (fun _ h _=>h);replace hDa:Dep (fun g=>N0≤g) z8 (Zc0) da:=hDa.next (Agr.below hb) (fun _ h _=>h);replace hDt:Dep (fun g=>N0≤g) z8 (Zak [T2,T3]) [.int .i64 0,.int .i64 16,.bool true,.slice none 0 0,.slice (some ⟨gt,0,none⟩) 2 2]:=hDt.next (Agr.below hb) (fun _ h _=>h);have hDi0:Dep (fun b=>z5.heap.size≤b) z8 (ZaH c.issuer) [.int .i64 0,.int .i64 16,.bool true,.slice none 0 0,kv7]:=ZcX.tl own7 hk7;obtain ⟨ka7,kc7,rfl⟩:∃ ka kc,kv7=.slice ka IL kc:=by obtain ⟨a9,c9,e9⟩:=Zcu own7;exact ⟨a9,c9,by rw[e9,HIL.out]⟩
                      have hDi:Dep (fun g=>N0≤g) z8 (ZaH c.issuer) [.int .i64 0,.int .i64 16,.bool true,.slice none 0 0,.slice ka7 IL kc7]:=hDi0.next (Agr.refl _ _) (fun _ h _=>Nat.le_trans (Nat.le_trans hszj HH.out) h);clear hb own7 hk7 HH HB0 hDi0;exact k5 z8 gv gw gt da ka7 kc7 hHeld hDw hDa hDi hDt
                    exact AllReadyH.nil
                  exact AllReadyH.nil
                exact AllReadyH.nil
              exact AllReadyH.nil
            exact AllReadyH.nil
          exact AllReadyH.nil
         case kp =>
          intro wz gv gw gt da ka7 kc7 hHeld hDw hDa hDi hDt;have hda5:da.length=5:=hDa.now.five;refine wpAnyH_ready (rs:=[12]) (by kernel_rfl) (by simp) ?_;refine AllReadyH.cons rfl (fun K hK=>?_) ?_
          ·go_simp
           refine ZbJ.mono ?_;rintro e z12 ⟨rfl,hb⟩;refine hK.out _ _ ?_ (fun hHeld2=>?_)
           ·exact KL1.out _ _ hHeld hb
           ·clear hK K
            try clear hHeld
            have hHeld:=hHeld2;clear hHeld2
            try simp only[Act.put,List.getElem_toArray,List.getElem_cons_zero,List.getElem_cons_succ,List.setIfInBounds_toArray,List.set_cons_zero,List.set_cons_succ]
            replace hDw:Dep (fun g=>N0≤g) z12 (Zbf 0 [.mk 0 2 false [2] []]) [.int .i64 2,.int .i64 0,.bool true,.slice none 0 0,.slice (some ⟨gw,0,none⟩) 1 1]:=hDw.next (Agr.below hb) (fun _ h _=>h);replace hDa:Dep (fun g=>N0≤g) z12 (Zc0) da:=hDa.next (Agr.below hb) (fun _ h _=>h);replace hDi:Dep (fun g=>N0≤g) z12 (ZaH c.issuer) [.int .i64 0,.int .i64 16,.bool true,.slice none 0 0,.slice ka7 IL kc7]:=hDi.next (Agr.below hb) (fun _ h _=>h);replace hDt:Dep (fun g=>N0≤g) z12 (Zak [T2,T3]) [.int .i64 0,.int .i64 16,.bool true,.slice none 0 0,.slice (some ⟨gt,0,none⟩) 2 2]:=hDt.next (Agr.below hb) (fun _ h _=>h);clear hb;refine wpAnyH_ready (rs:=[15]) (by kernel_rfl) (by simp) ?_;refine AllReadyH.cons rfl (fun K hK=>?_) ?_
            ·have HH:Hid (wj.heap.size≤z12.heap.size):=(KB1.out _ hHeld).size
             have HB0:Hid (Below wj.heap.size wj z12):=KB1.out _ hHeld;go_simp;refine (Zbk (HJ.out.later (bel.trans (HB0.out.mono bel.size))) wJ mJ).mono ?_;rintro e z15 ⟨kv8,xs8,rfl,own8,hk8,hb⟩;refine hK.out _ _ ?_ (fun hHeld2=>?_)
             ·exact KL1.out _ _ hHeld hb
             ·clear hK K
              try clear hHeld
              have hHeld:=hHeld2;clear hHeld2
              try simp only[Act.put,List.getElem_toArray,List.getElem_cons_zero,List.getElem_cons_succ,List.setIfInBounds_toArray,List.set_cons_zero,List.set_cons_succ]
              replace hDw:Dep (fun g=>N0≤g) z15 (Zbf 0 [.mk 0 2 false [2] []]) [.int .i64 2,.int .i64 0,.bool true,.slice none 0 0,.slice (some ⟨gw,0,none⟩) 1 1]:=hDw.next (Agr.below hb) (fun _ h _=>h);replace hDa:Dep (fun g=>N0≤g) z15 (Zc0) da:=hDa.next (Agr.below hb) (fun _ h _=>h);replace hDi:Dep (fun g=>N0≤g) z15 (ZaH c.issuer) [.int .i64 0,.int .i64 16,.bool true,.slice none 0 0,.slice ka7 IL kc7]:=hDi.next (Agr.below hb) (fun _ h _=>h);replace hDt:Dep (fun g=>N0≤g) z15 (Zak [T2,T3]) [.int .i64 0,.int .i64 16,.bool true,.slice none 0 0,.slice (some ⟨gt,0,none⟩) 2 2]:=hDt.next (Agr.below hb) (fun _ h _=>h);have hDj0:Dep (fun b=>z12.heap.size≤b) z15 (ZaH c.subject) [.int .i64 0,.int .i64 16,.bool true,.slice none 0 0,kv8]:=ZcX.tl own8 hk8;obtain ⟨ka8,kc8,rfl⟩:∃ ka kc,kv8=.slice ka JL kc:=by obtain ⟨a9,c9,e9⟩:=Zcu own8;exact ⟨a9,c9,by rw[e9,HJL.out]⟩
              have hDj:Dep (fun g=>N0≤g) z15 (ZaH c.subject) [.int .i64 0,.int .i64 16,.bool true,.slice none 0 0,.slice ka8 JL kc8]:=hDj0.next (Agr.refl _ _) (fun _ h _=>Nat.le_trans (Nat.le_trans hszj HH.out) h);clear hb own8 hk8 HH HB0 hDj0;refine wpAnyH_ready (rs:=[18]) (by kernel_rfl) (by simp) ?_;refine AllReadyH.cons rfl (fun K hK=>?_) ?_
              ·have HB0:Hid (Below wj.heap.size wj z15):=KB1.out _ hHeld
               go_simp;refine ZbJ.mono ?_;rintro e z18 ⟨rfl,hb⟩;refine hK.out _ _ ?_ (fun hHeld2=>?_)
               ·exact KL1.out _ _ hHeld hb
               ·clear hK K
                try clear hHeld
                have hHeld:=hHeld2;clear hHeld2
                try simp only[Act.put,List.getElem_toArray,List.getElem_cons_zero,List.getElem_cons_succ,List.setIfInBounds_toArray,List.set_cons_zero,List.set_cons_succ]
                replace hDw:Dep (fun g=>N0≤g) z18 (Zbf 0 [.mk 0 2 false [2] []]) [.int .i64 2,.int .i64 0,.bool true,.slice none 0 0,.slice (some ⟨gw,0,none⟩) 1 1]:=hDw.next (Agr.below hb) (fun _ h _=>h);replace hDa:Dep (fun g=>N0≤g) z18 (Zc0) da:=hDa.next (Agr.below hb) (fun _ h _=>h);replace hDi:Dep (fun g=>N0≤g) z18 (ZaH c.issuer) [.int .i64 0,.int .i64 16,.bool true,.slice none 0 0,.slice ka7 IL kc7]:=hDi.next (Agr.below hb) (fun _ h _=>h);replace hDt:Dep (fun g=>N0≤g) z18 (Zak [T2,T3]) [.int .i64 0,.int .i64 16,.bool true,.slice none 0 0,.slice (some ⟨gt,0,none⟩) 2 2]:=hDt.next (Agr.below hb) (fun _ h _=>h);replace hDj:Dep (fun g=>N0≤g) z18 (ZaH c.subject) [.int .i64 0,.int .i64 16,.bool true,.slice none 0 0,.slice ka8 JL kc8]:=hDj.next (Agr.below hb) (fun _ h _=>h);have hDm:Dep (fun g=>N0≤g) z18 (Zak (Zbl c)) [.int .i64 0,.int .i64 16,.bool true,.slice none 0 0,.slice ka6 K6 kc6]:=HDm.out.next (Agr.trans (Agr.below HB0.out) (Agr.below hb)) (fun _ h _=>h);clear hb HB0;refine wpAnyH_ready (rs:=[19]) (by kernel_rfl) (by simp) ?_;refine AllReadyH.cons rfl (fun K hK=>?_) ?_
                ·have HH:Hid (wj.heap.size≤z18.heap.size):=(KB1.out _ hHeld).size
                 go_simp;refine hK.out _ _ ?_ (fun hHeld2=>?_)
                 ·exact KA1.out _ _ hHeld
                 ·clear hK K
                  try clear hHeld
                  have hHeld:=hHeld2;clear hHeld2
                  try simp only[Act.put,List.getElem_toArray,List.getElem_cons_zero,List.getElem_cons_succ,List.setIfInBounds_toArray,List.set_cons_zero,List.set_cons_succ]
                  have hb:Below z18.heap.size z18 (z18.alloc (.cells #[.int .i64 0,.int .i64 16,.bool true,.slice none 0 0,.slice ka6 K6 kc6] 57)):=(Below.refl _ _).alloc (Nat.le_refl _) _;replace hDw:Dep (fun g=>N0≤g) (z18.alloc (.cells #[.int .i64 0,.int .i64 16,.bool true,.slice none 0 0,.slice ka6 K6 kc6] 57)) (Zbf 0 [.mk 0 2 false [2] []]) [.int .i64 2,.int .i64 0,.bool true,.slice none 0 0,.slice (some ⟨gw,0,none⟩) 1 1]:=hDw.next (Agr.below hb) (fun _ h _=>h);replace hDa:Dep (fun g=>N0≤g) (z18.alloc (.cells #[.int .i64 0,.int .i64 16,.bool true,.slice none 0 0,.slice ka6 K6 kc6] 57)) (Zc0) da:=hDa.next (Agr.below hb) (fun _ h _=>h);replace hDi:Dep (fun g=>N0≤g) (z18.alloc (.cells #[.int .i64 0,.int .i64 16,.bool true,.slice none 0 0,.slice ka6 K6 kc6] 57)) (ZaH c.issuer) [.int .i64 0,.int .i64 16,.bool true,.slice none 0 0,.slice ka7 IL kc7]:=hDi.next (Agr.below hb) (fun _ h _=>h);replace hDt:Dep (fun g=>N0≤g) (z18.alloc (.cells #[.int .i64 0,.int .i64 16,.bool true,.slice none 0 0,.slice ka6 K6 kc6] 57)) (Zak [T2,T3]) [.int .i64 0,.int .i64 16,.bool true,.slice none 0 0,.slice (some ⟨gt,0,none⟩) 2 2]:=hDt.next (Agr.below hb) (fun _ h _=>h);replace hDj:Dep (fun g=>N0≤g) (z18.alloc (.cells #[.int .i64 0,.int .i64 16,.bool true,.slice none 0 0,.slice ka6 K6 kc6] 57)) (ZaH c.subject) [.int .i64 0,.int .i64 16,.bool true,.slice none 0 0,.slice ka8 JL kc8]:=hDj.next (Agr.below hb) (fun _ h _=>h);have hDx:Dep (fun g=>N0≤g) (z18.alloc (.cells #[.int .i64 0,.int .i64 16,.bool true,.slice none 0 0,.slice ka6 K6 kc6] 57)) (Zbf 3 [Zak (Zbl c)]) [.int .i64 2,.int .i64 3,.bool true,.slice none 0 0,.slice (some ⟨z18.heap.size,0,none⟩) 1 1]:=Zav (ks:=[Zak (Zbl c)]) rfl (Nat.le_trans hszj HH.out) (by show 1≤maxLen;decide) (ZaY (P:=Dep (fun g=>N0≤g) z18) hDm rfl) 2 3 true;obtain ⟨go9,hg9⟩:∃ g,g=z18.heap.size:=⟨_,rfl⟩;rw[← hg9] at hDx ⊢;clear hg9 hb HH hDm;generalize (z18.alloc (.cells #[.int .i64 0,.int .i64 16,.bool true,.slice none 0 0,.slice ka6 K6 kc6] 57))=z19 at *;refine wpAnyH_ready (rs:=[20]) (by kernel_rfl) (by simp) ?_;refine AllReadyH.cons rfl (fun K hK=>?_) ?_
                  ·go_simp
                   refine ZdF.mono ?_;rintro e z20 ⟨rfl,hb⟩;refine hK.out _ _ ?_ (fun hHeld2=>?_)
                   ·exact KL1.out _ _ hHeld hb
                   ·clear hK K
                    try clear hHeld
                    have hHeld:=hHeld2;clear hHeld2
                    try simp only[Act.put,List.getElem_toArray,List.getElem_cons_zero,List.getElem_cons_succ,List.setIfInBounds_toArray,List.set_cons_zero,List.set_cons_succ]
                    replace hDw:Dep (fun g=>N0≤g) z20 (Zbf 0 [.mk 0 2 false [2] []]) [.int .i64 2,.int .i64 0,.bool true,.slice none 0 0,.slice (some ⟨gw,0,none⟩) 1 1]:=hDw.next (Agr.below hb) (fun _ h _=>h);replace hDa:Dep (fun g=>N0≤g) z20 (Zc0) da:=hDa.next (Agr.below hb) (fun _ h _=>h);replace hDi:Dep (fun g=>N0≤g) z20 (ZaH c.issuer) [.int .i64 0,.int .i64 16,.bool true,.slice none 0 0,.slice ka7 IL kc7]:=hDi.next (Agr.below hb) (fun _ h _=>h);replace hDt:Dep (fun g=>N0≤g) z20 (Zak [T2,T3]) [.int .i64 0,.int .i64 16,.bool true,.slice none 0 0,.slice (some ⟨gt,0,none⟩) 2 2]:=hDt.next (Agr.below hb) (fun _ h _=>h);replace hDj:Dep (fun g=>N0≤g) z20 (ZaH c.subject) [.int .i64 0,.int .i64 16,.bool true,.slice none 0 0,.slice ka8 JL kc8]:=hDj.next (Agr.below hb) (fun _ h _=>h);replace hDx:Dep (fun g=>N0≤g) z20 (Zbf 3 [Zak (Zbl c)]) [.int .i64 2,.int .i64 3,.bool true,.slice none 0 0,.slice (some ⟨go9,0,none⟩) 1 1]:=hDx.next (Agr.below hb) (fun _ h _=>h);clear hb;refine wpAnyH_ready (rs:=[21]) (by kernel_rfl) (by simp) ?_;refine AllReadyH.cons rfl (fun K hK=>?_) ?_
                    ·have HH:Hid (wj.heap.size≤z20.heap.size):=(KB1.out _ hHeld).size
                     have HB0:Hid (Below wj.heap.size wj z20):=KB1.out _ hHeld;rw[if_pos (by rfl)];refine wp_buildSlice 55 57 8 _ rfl (([.int .i64 2,.int .i64 0,.bool true,.slice none 0 0,.slice (some ⟨gw,0,none⟩) 1 1]:List Value)++(ds1++(da++(([.int .i64 0,.int .i64 16,.bool true,.slice none 0 0,.slice ka7 IL kc7]:List Value)++(([.int .i64 0,.int .i64 16,.bool true,.slice none 0 0,.slice (some ⟨gt,0,none⟩) 2 2]:List Value)++(([.int .i64 0,.int .i64 16,.bool true,.slice none 0 0,.slice ka8 JL kc8]:List Value)++(([.int .i64 0,.int .i64 16,.bool true,.slice none 0 0,.slice (some ⟨gk,0,none⟩) 2 2]:List Value)++(([.int .i64 2,.int .i64 3,.bool true,.slice none 0 0,.slice (some ⟨go9,0,none⟩) 1 1]:List Value)++[])))))))).toArray jt _ Tryz.underlying55 hjt ht0 (by rw[ht1];decide) (by rw[ht1];decide) (by rw[ht1];refine (congrArg _ (?_:_=[(0,Value.agg #[.int .i64 2,.int .i64 0,.bool true,.slice none 0 0,.slice (some ⟨gw,0,none⟩) 1 1]),(1,.agg ds1.toArray),(2,.agg da.toArray),(3,.agg #[.int .i64 0,.int .i64 16,.bool true,.slice none 0 0,.slice ka7 IL kc7]),(4,.agg #[.int .i64 0,.int .i64 16,.bool true,.slice none 0 0,.slice (some ⟨gt,0,none⟩) 2 2]),(5,.agg #[.int .i64 0,.int .i64 16,.bool true,.slice none 0 0,.slice ka8 JL kc8]),(6,.agg #[.int .i64 0,.int .i64 16,.bool true,.slice none 0 0,.slice (some ⟨gk,0,none⟩) 2 2]),(7,.agg #[.int .i64 2,.int .i64 3,.bool true,.slice none 0 0,.slice (some ⟨go9,0,none⟩) 1 1])])).trans (Zor rfl HL1.out hda5 rfl rfl rfl rfl rfl);kernel_rfl) ?_;refine hK.out _ _ ?_ (fun hHeld2=>?_)
                     ·exact KA1.out _ _ hHeld
                     ·clear hK K
                      try clear hHeld
                      have hHeld:=hHeld2;clear hHeld2
                      try simp only[Act.put,List.getElem_toArray,List.getElem_cons_zero,List.getElem_cons_succ,List.setIfInBounds_toArray,List.set_cons_zero,List.set_cons_succ]
                      have hD80:Dep (fun g=>N0≤g) (z20.alloc (.cells (([.int .i64 2,.int .i64 0,.bool true,.slice none 0 0,.slice (some ⟨gw,0,none⟩) 1 1]:List Value)++(ds1++(da++(([.int .i64 0,.int .i64 16,.bool true,.slice none 0 0,.slice ka7 IL kc7]:List Value)++(([.int .i64 0,.int .i64 16,.bool true,.slice none 0 0,.slice (some ⟨gt,0,none⟩) 2 2]:List Value)++(([.int .i64 0,.int .i64 16,.bool true,.slice none 0 0,.slice ka8 JL kc8]:List Value)++(([.int .i64 0,.int .i64 16,.bool true,.slice none 0 0,.slice (some ⟨gk,0,none⟩) 2 2]:List Value)++(([.int .i64 2,.int .i64 3,.bool true,.slice none 0 0,.slice (some ⟨go9,0,none⟩) 1 1]:List Value)++[])))))))).toArray 57)) (Zak [Zbf 0 [.mk 0 2 false [2] []],T1,Zc0,ZaH c.issuer,Zak [T2,T3],ZaH c.subject,Zak [Zbe,.mk 0 3 false (0::p) []],Zbf 3 [Zak (Zbl c)]]) [.int .i64 0,.int .i64 16,.bool true,.slice none 0 0,.slice (some ⟨z20.heap.size,0,none⟩) 8 8]:=Zav (ks:=[Zbf 0 [.mk 0 2 false [2] []],T1,Zc0,ZaH c.issuer,Zak [T2,T3],ZaH c.subject,Zak [Zbe,.mk 0 3 false (0::p) []],Zbf 3 [Zak (Zbl c)]]) (by simp[HL1.out,hda5]) (Nat.le_trans hszj HH.out) (by show 8≤maxLen;decide) (ZgM hDw rfl (ZgM (HD1.out.next (Agr.below HB0.out) (fun _ h _=>h)) HL1.out (ZgM hDa hda5 (ZgM hDi rfl (ZgM hDt rfl (ZgM hDj rfl (ZgM (HDk.out.next (Agr.below HB0.out) (fun _ h _=>h)) rfl (ZgM hDx rfl kid_n)))))))) 0 16 true;have hD8:Dep (fun g=>N0≤g) (z20.alloc (.cells (([.int .i64 2,.int .i64 0,.bool true,.slice none 0 0,.slice (some ⟨gw,0,none⟩) 1 1]:List Value)++(ds1++(da++(([.int .i64 0,.int .i64 16,.bool true,.slice none 0 0,.slice ka7 IL kc7]:List Value)++(([.int .i64 0,.int .i64 16,.bool true,.slice none 0 0,.slice (some ⟨gt,0,none⟩) 2 2]:List Value)++(([.int .i64 0,.int .i64 16,.bool true,.slice none 0 0,.slice ka8 JL kc8]:List Value)++(([.int .i64 0,.int .i64 16,.bool true,.slice none 0 0,.slice (some ⟨gk,0,none⟩) 2 2]:List Value)++(([.int .i64 2,.int .i64 3,.bool true,.slice none 0 0,.slice (some ⟨go9,0,none⟩) 1 1]:List Value)++[])))))))).toArray 57)) (ZaX c p) [.int .i64 0,.int .i64 16,.bool true,.slice none 0 0,.slice (some ⟨z20.heap.size,0,none⟩) 8 8]:=by unfold ZaX;rw[HT1.out,Hfrm.out,Htil.out,HT2.out,HT3.out];exact hD80
                      obtain⟨g8,hg9⟩:∃ g,g=z20.heap.size:=⟨_,rfl⟩;rw[← hg9] at hD8 ⊢;clear hg9 HH HB0 hD80 hDw hDa hDi hDt hDj hDx;generalize (z20.alloc (.cells (([.int .i64 2,.int .i64 0,.bool true,.slice none 0 0,.slice (some ⟨gw,0,none⟩) 1 1]:List Value)++(ds1++(da++(([.int .i64 0,.int .i64 16,.bool true,.slice none 0 0,.slice ka7 IL kc7]:List Value)++(([.int .i64 0,.int .i64 16,.bool true,.slice none 0 0,.slice (some ⟨gt,0,none⟩) 2 2]:List Value)++(([.int .i64 0,.int .i64 16,.bool true,.slice none 0 0,.slice ka8 JL kc8]:List Value)++(([.int .i64 0,.int .i64 16,.bool true,.slice none 0 0,.slice (some ⟨gk,0,none⟩) 2 2]:List Value)++(([.int .i64 2,.int .i64 3,.bool true,.slice none 0 0,.slice (some ⟨go9,0,none⟩) 1 1]:List Value)++[])))))))).toArray 57))=z21 at *;refine wpAnyH_take (i:=22) (v:=?_) rfl (by kernel_rfl) (by kernel_rfl) (by kernel_rfl) (fun _ _ _ h=>h) (Or.inl ⟨by rfl,?_⟩) (by assumption) ?_;rotate_left
                      ·intro w hSw
                       go_simp
                       with_reducible rfl
                      try simp only[Act.put,List.getElem_toArray,List.getElem_cons_zero,List.getElem_cons_succ,List.setIfInBounds_toArray,List.set_cons_zero,List.set_cons_succ]
                      refine wpAnyH_done (by kernel_rfl) ?_ _;refine NoPanic.normal ?_;have st9:=KB1.out _ hHeld;replace bel:=bel.trans (st9.mono bel.size);clear hHeld;go_wp2_with fail;refine ZbJ.mono ?_;rintro e y1 ⟨rfl,hb⟩;have HT8:Hid (Zbg y1 (ZaX c p) [.int .i64 0,.int .i64 16,.bool true,.slice none 0 0,.slice (some ⟨g8,0,none⟩) 8 8]):=(hD8.next (Agr.below hb) (fun _ h _=>h):Dep (fun g=>N0≤g) _ _ _).now;replace bel:=Zaa bel hb;clear hb hD8;have HZ:Hid (Sm 30000 (ZaX c p)):=ZhR HM.out HPl.out;go_wp2_with fail;refine (ZgZ (by have:=HZ.out.2;omega) (fun _=>by have:=HZ.out.1;omega) HT8.out).mono ?_;rintro e y2 ⟨v9,rfl,hw,hw2,hb⟩;have HBd:Hid (Bs y2 v9 (wrB (ZaX c p))):=by
                       show Bs y2 v9 (wrB (ZaX c p));unfold wrB
                       by_cases k9:wrN (ZaX c p)=0
                       ·rw[if_pos k9];exact Bs.of_own (hw k9)
                       ·rw[if_neg k9,hw2 k9];exact ⟨none,0,rfl,Nat.zero_le _,Nat.zero_le _,fun h=>absurd h (Nat.lt_irrefl 0)⟩
                      replace bel:=Zaa bel hb;clear hw hw2 hb HT8 HZ;go_wp2_with fail;refine bodyPost_ret (results_tmp2 rfl _ _ _) rfl ?_;exact Zhh.yes HM.out HPn.out HBd.out bel
                    exact AllReadyH.nil
                  exact AllReadyH.nil
                exact AllReadyH.nil
              exact AllReadyH.nil
            exact AllReadyH.nil
          exact AllReadyH.nil
end Go.Proofs.YtdfmoghjimghhaaGreatDoor
