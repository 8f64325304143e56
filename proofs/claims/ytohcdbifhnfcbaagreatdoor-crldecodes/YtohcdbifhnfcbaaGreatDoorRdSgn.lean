import Derived.Test.YtohcdbifhnfcbaaGreatDoorPmNG
import Derived.Test.YtohcdbifhnfcbaaGreatDoorRefA
import Derived.Test.YtohcdbifhnfcbaaGreatDoorDrElem
import Derived.Test.YtohcdbifhnfcbaaGreatDoorNlSG
import Derived.Test.YtohcdbifhnfcbaaGreatDoorCtSize
import Derived.Test.YtohcdbifhnfcbaaGreatDoorNlPG
import Derived.Test.YtohcdbifhnfcbaaGreatDoorKrRg
import Derived.Test.YtohcdbifhnfcbaaGreatDoorEdDecG
import Derived.Test.YtohcdbifhnfcbaaGreatDoorRdRef
import Derived.Test.YtohcdbifhnfcbaaGreatDoorCtSig
import Derived.Test.YtohcdbifhnfcbaaGreatDoorKrSame
import Derived.Test.YtohcdbifhnfcbaaGreatDoorDrDG
import Derived.Test.YtohcdbifhnfcbaaGreatDoorDrTG
import Derived.Test.YtohcdbifhnfcbaaGreatDoorRows
import Derived.Deep.OwnRows
import Derived.Deep.WholeRow
import Derived.Deep.RegionHeld3
import Derived.Deep.DeepCutAuto
import Derived.Deep.DeepFit
import Derived.Deep.AppendLies
import Derived.Great.BuildSlice
import Derived.Laws.Rows
import Derived.BigQuiet
namespace Go.Proofs.YtohcdbifhnfcbaaGreatDoor
open Go.RowKit
set_option linter.unusedSimpArgs false
set_option maxRecDepth 100000
set_option maxHeartbeats 8000000
theorem Zl9:(Tryz.prog.info? 27).map (fun i=>(i.zero,i.size,i.bytes))=some (some (.int .u64 0),1,8):=by kernel_rfl
theorem ZhR (n:Nat):madeCells #[.int .u64 0] n=(us (List.replicate n 0)).toArray:=by
 apply Array.ext
 ·simp[madeCells]
 ·intro i h1 h2
  simp[madeCells,Nat.mod_one]
def Zf5 (R:List Int) (i j:Nat):List Int:=(R.take (min i (4*j+4))).drop (4*j)
def digs (R:List Int) (i:Nat) (P:List Int):Prop:=∀ j,P.getD j 0=pv 256 (Zf5 R i j)
theorem Znb (R:List Int) (i:Nat) (hi:i<R.length):Zf5 R (i+1) (i/4)=Zf5 R i (i/4)++[R.getD i 0]:=by
 unfold Zf5;have e1:min (i+1) (4*(i/4)+4)=i+1:=by omega
 have e2:min i (4*(i/4)+4)=i:=by omega
 rw[e1,e2,Zid R i hi,List.drop_append_of_le_length (by simp;omega)]
theorem Zna (R:List Int) (i j:Nat) (hne:i/4≠j):Zf5 R (i+1) j=Zf5 R i j:=by
 unfold Zf5
 by_cases h:i<4*j
 ·rw[List.drop_eq_nil_of_le (by simp;omega),List.drop_eq_nil_of_le (by simp;omega)]
 ·have e1:min (i+1) (4*j+4)=4*j+4:=by omega
  have e2:min i (4*j+4)=4*j+4:=by omega
  rw[e1,e2]
theorem Zpw (R:List Int) (hR:∀ j,0≤R.getD j 0∧R.getD j 0<256) (i j t:Nat):0≤(Zf5 R i j).getD t 0∧(Zf5 R i j).getD t 0<256:=by
 unfold Zf5
 by_cases h:4*j+t<min i (4*j+4)
 ·have:((R.take (min i (4*j+4))).drop (4*j)).getD t 0=R.getD (4*j+t) 0:=by
   simp only[List.getD_eq_getElem?_getD,List.getElem?_drop,List.getElem?_take,h,if_true]
  rw[this];exact hR _
 ·have:((R.take (min i (4*j+4))).drop (4*j)).getD t 0=0:=by
   simp only[List.getD_eq_getElem?_getD,List.getElem?_drop,List.getElem?_take,h,if_false]
   rfl
  rw[this];decide
theorem Zh1 (n m:Nat) (h:n≤m):(256:Int) ^ n≤256 ^ m:=by
 obtain⟨c,rfl⟩:∃ c,m=n+c:=⟨m-n,by omega⟩;have p:(0:Int)<256 ^ c:=Int.pow_pos (by decide);have q:(0:Int)<256 ^ n:=Int.pow_pos (by decide);have:=Int.mul_le_mul_of_nonneg_left (show (1:Int)≤256 ^ c by omega) (Int.le_of_lt q);rw[Int.pow_add];omega
theorem Zgu (R:List Int) (hR:∀ j,0≤R.getD j 0∧R.getD j 0<256) (i j:Nat):0≤pv 256 (Zf5 R i j)∧pv 256 (Zf5 R i j)<4294967296:=by
 have b:=Zcy _ (Zpw R hR i j);have hl:(Zf5 R i j).length≤4:=by unfold Zf5;simp;omega
 have p:=Zh1 _ _ hl;have e:(256:Int) ^ 4=4294967296:=by decide
 omega
theorem Zl0 (R P:List Int) (i:Nat) (x p:Int) (hi:i<R.length) (lP:i/4<P.length) (hx:R.getD i 0=x) (hp:P.getD (i/4) 0=p) (h:digs R i P):digs R (i+1) (P.set (i/4) (p+x*256 ^ (i%4))):=by
 intro j
 by_cases hj:i/4=j
 ·have h0:=h (i/4)
  have hl:(Zf5 R i (i/4)).length=i%4:=by unfold Zf5;simp;omega
  rw[← hj,Zbr _ _ _ lP,Znb R i hi,Zcj,hl,← h0,hp,hx];simp only[pv]
  grind
 ·have:(P.set (i/4) (p+x*256 ^ (i%4))).getD j 0=P.getD j 0:=by simp[List.getD_eq_getElem?_getD,hj]
  rw[this,Zna R i j hj];exact h j
theorem Zop (R P:List Int) (hl:R.length<4*P.length) (h:digs R R.length P):v32 P=pv 256 R:=by
 have key:∀ n,n≤P.length→pv 256 (R.take (4*n))=pv 4294967296 (P.take n):=by
  intro n
  induction n with
  | zero=>intro _;simp[pv]
  | succ n ih =>
   intro hn;have h1:=h n
   by_cases hc:4*n<R.length
   ·have e0:Zf5 R R.length n=(R.take (4*n+4)).drop (4*n):=by
     unfold Zf5
     by_cases hq:4*n+4≤R.length
     ·rw[show min R.length (4*n+4)=4*n+4 by omega]
     ·rw[show min R.length (4*n+4)=R.length by omega,List.take_of_length_le (Nat.le_refl _),List.take_of_length_le (by omega)]
    have e1:R.take (4*(n+1))=R.take (4*n)++Zf5 R R.length n:=by
     rw[e0,show 4*(n+1)=4*n+4 by omega];have:=List.take_append_drop (4*n) (R.take (4*n+4));rw[List.take_take,show min (4*n) (4*n+4)=4*n by omega] at this;exact this.symm
    rw[e1,Zcj,ih (by omega),ZcL _ _ n (by omega),h1];have e2:(R.take (4*n)).length=4*n:=by simp;omega
    rw[e2,Int.pow_mul];have e3:(256:Int) ^ 4=4294967296:=by decide
    rw[e3]
   ·have e0:Zf5 R R.length n=[]:=by unfold Zf5;exact List.drop_eq_nil_of_le (by simp;omega)
    rw[e0] at h1;rw[ZcL _ _ n (by omega),h1,← ih (by omega),List.take_of_length_le (by omega),List.take_of_length_le (by omega)];simp[pv]
 have:=key P.length (Nat.le_refl _);rw[List.take_of_length_le (by omega),List.take_of_length_le (Nat.le_refl _)] at this;exact this.symm
theorem Zi1 (x:Int) (j:Nat) (hx:0≤x∧x<256) (hj:j≤3):0≤x*256 ^ j∧x*256 ^ j<4294967296:=by
 have p:=Zh1 j 3 hj;have q:(0:Int)<256 ^ j:=Int.pow_pos (by decide);have e:(256:Int) ^ 3=16777216:=by decide
 have a:=Int.mul_nonneg hx.1 (Int.le_of_lt q);have b:=Int.mul_le_mul (show x≤255 by omega) (show (256:Int) ^ j≤16777216 by omega) (Int.le_of_lt q) (by decide);omega
theorem Zh6 (v:Value) (bs:List Int) (w:World) (h:Bs w v bs) (hB:byt bs) (hn:bs.length≤1048576) :
  Calls Tryz.prog 116 #[v] w fun e w'=>∃ v',e=.returned v'∧Zcr w' v' (beN bs)∧Below w.heap.size w w':=by
 obtain⟨ao,cap,rfl,h2,h3,h4⟩:=h;unfold maxLen at h2;obtain ⟨n,hl⟩:∃ n,bs.length=n:=⟨_,rfl⟩;obtain ⟨R,hR⟩:∃ R,bs.reverse=R:=⟨_,rfl⟩;have lR:R.length=n:=by rw[← hR];simpa using hl
 have bR:Hid (∀ j,0≤R.getD j 0∧R.getD j 0<256):=fun j=>hR ▸ ZeC hB j;have gR:Hid (∀ j,j<n→R.getD (n-1-j) 0=bs.getD j 0):=fun j hj=>by
  have:=ZiM bs j (by omega);rw[hl,hR] at this;exact this
 have HN:Hid (pv 256 R=beN bs):=by unfold beN;rw[hR];rfl
 obtain⟨N,hN⟩:∃ N,beN bs=N:=⟨_,rfl⟩;rw[hN] at HN ⊢;rw[hl] at hn h3 h4 ⊢;clear hN hR hl;have hmk:=run_make_row' 186 27 (.int .u64 0) 8 Tryz.underlying186 Zl9 rfl .i64 .i64 (n/4+1) (by omega) (by omega);rw[ZhR] at hmk;have ec:((n/4+1:Nat):Int)=(n:Int)/4+1:=by omega
 rw[ec] at hmk;have B0:=Blk.new w (us (List.replicate (n/4+1) 0)) 27 w.heap.size rfl;have bel0:=bal w (.cells (us (List.replicate (n/4+1) 0)).toArray 27);have d0:digs R 0 (List.replicate (n/4+1) 0):=by
  intro j;rw[Zov];unfold Zf5;simp[pv]
 generalize (us (List.replicate (n/4+1) 0)).toArray=cs at hmk B0 bel0;go_enter Tryz.func116,Tryz.ntmps116;go_wp2;clear hmk ec;generalize w.alloc (.cells cs 27)=W at *;go_loopw [4] (fun iv wr=>∃ (i:Nat) (P:List Int),i≤n∧iv=.int .i64 i∧P.length=n/4+1∧Hid (digs R i P)∧Blk wr w.heap.size (us P)∧Below w.heap.size w wr)
  (fun i _=>n-(intOf i).toNat)
 case atStart=>exact ⟨0,List.replicate (n/4+1) 0,by omega,rfl,by simp,d0,B0,bel0⟩
 case round =>
  obtain⟨i,P,hi,rfl,lP,hJ,hS,hbel⟩:=hrel;clear B0 bel0 d0
  by_cases hlt:i<n
  ·obtain ⟨b,o,rfl,hb,hc⟩:=h4 (by omega)
   clear h4;obtain ⟨x,hx⟩:∃ x,bs.getD (n-1-i) 0=x:=⟨_,rfl⟩;have xr:R.getD i 0=x:=by
    have:=gR.out (n-1-i) (by omega);rw[show n-1-(n-1-i)=i by omega] at this;rw[this,hx]
   have bx:0≤x∧x<256:=hx ▸ hB _;have x1:=(hbel.cell (p:=⟨b,o+(n-1-i),none⟩) hb).trans (hc (n-1-i) (by omega));rw[hx] at x1;obtain ⟨p,hp⟩:∃ p,P.getD (i/4) 0=p:=⟨_,rfl⟩;have bp:0≤p∧p<4294967296:=by
    have:=hJ.out (i/4);rw[hp] at this;rw[this];exact Zgu R bR.out i _
   have J:Hid (digs R (i+1) (P.set (i/4) (p+x*256 ^ (i%4)))):=Zl0 R P i x p (by omega) (by omega) xr hp hJ.out;have x2:=hS.cell (i/4) _ (Zcl P _ (by omega));rw[hp] at x2;have fz:=hS.frozen (i/4);have bx0:=bx.1;have bx1:=bx.2;have bp0:=bp.1;have bp1:=bp.2;have g1:(i:Int)<(n:Int):=by omega
   have g2:(0:Int)≤(n:Int)-1-(i:Int):=by omega
   have g3:(n:Int)-1-(i:Int)<(n:Int):=by omega
   have g4:((n:Int)-1-(i:Int)).toNat=n-1-i:=by omega
   clear hx xr hp hc hJ bp;go_wp2;obtain ⟨wo,hwo⟩:∃ wo:World,wo=wr:=⟨_,rfl⟩;go_loop [6,7] (fun vv jv=>∃ j:Nat,j≤i%4∧jv=.int .i64 j∧vv=.int .u64 (x*256 ^ j)) (fun _ jv=>4-(intOf jv).toNat)
   case atStart=>exact ⟨0,by omega,rfl,by simp⟩
   case round =>
    obtain⟨j,hj,rfl,rfl⟩:=hrel
    by_cases hjl:j<i%4
    ·have xb:=Zi1 x j bx (by omega)
     have xn:=Zi1 x (j+1) bx (by omega);have xe:x*256 ^ j*256=x*256 ^ (j+1):=by rw[Int.pow_succ,Int.mul_assoc]
     obtain⟨y,hy⟩:∃ y,x*256 ^ j=y:=⟨_,rfl⟩;obtain ⟨z,hz⟩:∃ z,x*256 ^ (j+1)=z:=⟨_,rfl⟩;rw[hy] at xb xe ⊢;rw[hz] at xe xn;have HZ:Hid (y*256=x*256 ^ (j+1)):=by show _=_;rw[hz];exact xe
     have b1:=xb.1;have b2:=xb.2;have g5:(j:Int)<(i:Int)%4:=by omega
     clear hy hz xe xb xn;go_wp2;go_round
     case rel=>exact ⟨j+1,by omega,by go_num,by rw[HZ.out]⟩
     case measure=>simp[intOf];omega
    ·have g5:¬ (j:Int)<(i:Int)%4:=by omega
     have hje:j=i%4:=by omega
     rw[hje];have xb:=Zi1 x (i%4) bx (by omega);obtain ⟨y,hy⟩:∃ y,x*256 ^ (i%4)=y:=⟨_,rfl⟩;rw[hy] at xb J ⊢;have b1:=xb.1;have b2:=xb.2;have g6:(0:Int)≤(i:Int)/4:=by omega
     have g7:(i:Int)/4<((n/4+1:Nat):Int):=by omega
     have g8:(i:Int)/4<(n:Int)/4+1:=by omega
     clear hy xb;go_wp2;go_roundw
     case rel=>exact ⟨i+1,P.set (i/4) (p+y),by omega,by go_num,by simpa using lP,J,hS.setu _ _,hbel.setCell (by simp) _⟩
     case measure=>simp[intOf];omega
  ·have h6:(n:Int)≤(i:Int):=by omega
   have hin:i=R.length:=by omega
   have dP:dig P:=fun j=>by
    have:=hJ.out j;rw[this];exact Zgu R bR.out i j
   have HQ:Hid (v32 P=N):=by
    have e:=hJ.out;rw[hin] at e;show _=_;rw[Zop R P (by omega) e];exact HN.out
   have hSl:Sl wr (.slice (some ⟨w.heap.size,0,none⟩) (n/4+1) (n/4+1)) P:=.inr ⟨w.heap.size,n/4+1,by rw[lP],by omega,by unfold maxLen;omega,hS.lt,fun j hj=>hS.cell j _ (Zcl P j hj)⟩;clear hJ hin h4;go_wp2_with fail;refine (ZjQ _ P _ hSl).mono ?_;rintro e w' ⟨v',rfl,ht,hw⟩;obtain rfl:=hw.symm;have hQ:=ht.num dP;rw[HQ.out] at hQ;go_wp2_with fail;go_ret;exact ⟨v',rfl,hQ,hbel⟩
def atP (c p:Nat):Int:=if c=2 then -1 else (p:Int)
theorem Za0 {P:Program} {fn:Func} {p u v:Tmp} {ty:TypeId} (h:fn.results=#[.cell p ty,.tmp u,.tmp v]) (tmps:Array Value) (w:World) (g:Nat) (t:TypeId) (cs:Array Value) (fr:Nat × Nat) (d:TypeDesc)
  (hp:tmps.getD p undef=.pointer (some ⟨g,0,none⟩)) (hg:w.heap[g]?=some (.cells cs t fr))
  (hu:P.underlying ty=some d) (hd:(match d with|.struct _|.array _ _=>true|_=>false)=true) (hi:(P.info? ty).map (·.size)=some cs.size) :
  (results fn tmps).run P w=.ok (.tuple #[.agg cs,tmps.getD u undef,tmps.getD v undef]) w:=by
 have hp':tmps[p]?.getD undef=.pointer (some ⟨g,0,none⟩):=by simpa using hp
 simp[results,h,hp',asAddr,run_loadVar_row w g t ty cs fr d hg hu hd hi]
theorem Zeq {B:List Int} {c p:Nat} (h:Zaq B=.error (c,p)):(c=2∧1048576<B.length)∨c=6∨c=7∨c=8∨c=9:=by
 unfold Zaq at h
 split at h
 ·cases h;exact .inl ⟨rfl,by assumption⟩
 ·cases hq:ZaH B 16 0 B.length with
  | error e =>
   rw[hq] at h;obtain ⟨c',p'⟩:=e
   cases h
   rcases Zdo hq with h|h|h
   ·exact .inr (.inl h)
   ·exact .inr (.inr (.inl h))
   ·exact .inr (.inr (.inr (.inr h)))
  | ok q =>
   obtain⟨t,z⟩:=q;rw[hq] at h;simp only at h
   split at h
   ·cases h;exact .inr (.inr (.inr (.inl rfl)))
   ·cases h
theorem Zh3 {v:Value} {B:List Int} {w:World} (hv:Bs w v B) (b:byt B) :
  Calls Tryz.prog 16 #[v] w fun e w'=>(∀ T,Zaq B=.ok T→∃ cs,e=.returned (.tuple #[.agg cs.toArray,.int .i64 0,.int .i64 (-1)])∧Dep (fun b=>w.heap.size≤b) w' T cs∧Below w.heap.size w w')∧(∀ c p,Zaq B=.error (c,p)→e=.returned (.tuple #[.agg #[.int .i64 0,.int .i64 0,.bool false,.slice none 0 0,.slice none 0 0],.int .i64 (c:Int),.int .i64 (atP c p)])∧Below w.heap.size w w'):=by
 have HB:Hid (byt B):=b;have HV:Hid (Bs w v B):=hv;have hz:=Zaj.out;obtain ⟨ao,cap,rfl,h1,h2,h3⟩:=hv;clear h3 b;unfold maxLen at h1;have R0:=Blk.new w [.int .i64 0,.int .i64 0,.bool false,.slice none 0 0,.slice none 0 0] 53 w.heap.size rfl;have bel:=bal w (.cells #[.int .i64 0,.int .i64 0,.bool false,.slice none 0 0,.slice none 0 0] 53);go_enter Tryz.func16,Tryz.ntmps16;go_upto_region 1 with fail;generalize w.alloc (.cells #[.int .i64 0,.int .i64 0,.bool false,.slice none 0 0,.slice none 0 0] 53)=W at *
 by_cases c1:1048576<B.length
 ·have H:Hid (Zaq B=.error (2,0)):=by show _=_;unfold Zaq;rw[if_pos c1]
  have g1:(1048576:Int)<((B.length:Nat):Int):=by omega
  obtain⟨tR,hR⟩:=R0;have HR1:Hid _:=hR;clear hR hz;go_wp2_with (first|(refine wpList_store_row rfl 53 _ _ rfl w.heap.size #[.int .i64 0,.int .i64 0,.bool false,.slice none 0 0,.slice none 0 0] rfl rfl tR _ HR1.out (by rw[Zae];rfl) rfl (by simp[Value.oneCell']) ?_)|fail);exact bodyPost_ret (Za0 rfl _ _ w.heap.size tR #[.int .i64 0,.int .i64 0,.bool false,.slice none 0 0,.slice none 0 0] (0,0) _ rfl (setRow_heap _ _ _ _ _ _ HR1.out) Tryz.underlying53 rfl (by rw[Zae];rfl)) rfl ⟨fun T h=>(by rw[H.out] at h;cases h),fun c p h=>(by rw[H.out] at h;cases h;exact ⟨rfl,below_setRow bel (Nat.le_refl _) _⟩)⟩
 have g1:¬ (1048576:Int)<((B.length:Nat):Int):=by omega
 have HP:Hid (Zaq B=match ZaH B 16 0 B.length with|.error e=>.error e|.ok (t,z)=>if z<B.length then .error (8,z) else .ok t):=by
  show _=_;unfold Zaq;rw[if_neg c1]
  rfl
 have RD:=Blk.new W [.slice ao B.length cap,.int .i64 0,.int .i64 0] 88 W.heap.size rfl;have lR:=R0.lt;replace R0:=R0.alloc (.cells #[.slice ao B.length cap,.int .i64 0,.int .i64 0] 88);have bW:=bel.size;replace bel:=Zah (o:=.cells #[.slice ao B.length cap,.int .i64 0,.int .i64 0] 88) bel;go_upto_region 4 with fail;obtain ⟨g,hg⟩:∃ g,g=W.heap.size:=⟨_,rfl⟩;rw[← hg] at RD lR bW ⊢;generalize W.alloc (.cells #[.slice ao B.length cap,.int .i64 0,.int .i64 0] 88)=W1 at *;clear hg;have hcall:=Zo4 (g:=g) HB.out (by omega) 16 0 B.length 0 W1 (by omega) (by omega) (by omega) RD (HV.out.later bel);rw[show 16-((16:Nat):Int)=0 from rfl] at hcall;go_wp2_with fail;refine hcall.mono ?_;rintro e w1 ⟨hok,hbad⟩;clear hcall;have lg:=RD.lt
 cases hep:ZaH B 16 0 B.length with
 | error q =>
  obtain⟨c,p⟩:=q;obtain ⟨cs,l5,o5,rfl,hr⟩:=hbad c p hep;clear hok hbad;have hcb:=Zdo hep;have H:Hid (Zaq B=.error (c,p)):=by show _=_;rw[HP.out,hep]
  have HAt:Hid (atP c p=(p:Int)):=by show _=_;unfold atP;rw[if_neg (by omega)]
  clear hep HP;have gc:¬ (c:Int)=0:=by omega
  have HO5:Hid (Zca cs):=o5;have HS5:Hid (cs.toArray.size=5):=by show _=_;rw[List.size_toArray];exact l5
  have R1:=(hr.2.1 _ _ (by omega) R0).alloc (.cells cs.toArray 53);have RD1:=hr.1.alloc (.cells cs.toArray 53);have bel1:=Zah (o:=.cells cs.toArray 53) (hr.2.2.1 _ _ (by omega) bel);clear o5 l5 hr R0 RD bel;go_upto_region 5 with (first|(refine wpList_store_row rfl 53 _ _ rfl w1.heap.size cs.toArray rfl rfl 53 _ (heap_alloc_last _ _) (by rw[Zae,HS5.out]) (by rw[HS5.out];rfl) HO5.out ?_;rw[World.setRow_alloc_new])|fail);clear hz;generalize w1.alloc (.cells cs.toArray 53)=w2 at *;have r1:=RD1.cell 1 _ rfl;have r2:=RD1.cell 2 _ rfl;have lr:=RD1.lt;go_upto_region 6 with fail;have k0:=R1.cell 0 _ rfl;have k1:=R1.cell 1 _ rfl;have k2:=R1.cell 2 _ rfl;have k3:=R1.cell 3 _ rfl;have k4:=R1.cell 4 _ rfl;have z0:=R1.frozen 0;have z1:=R1.frozen 1;have z2:=R1.frozen 2;have z3:=R1.frozen 3;have z4:=R1.frozen 4;have lr1:=R1.lt;go_region;replace R1:=(((((R1.set 0 (.int .i64 0)).set 1 (.int .i64 0)).set 2 (.bool false)).set 3 (.slice none 0 0)).set 4 (.slice none 0 0)).drew;replace R1:Blk _ w.heap.size [.int .i64 0,.int .i64 0,.bool false,.slice none 0 0,.slice none 0 0]:=R1;replace bel1:=(((((bel1.setCell (p:=⟨w.heap.size,0,none⟩) (Nat.le_refl _) (.int .i64 0)).setCell (p:=⟨w.heap.size,1,none⟩) (Nat.le_refl _) (.int .i64 0)).setCell (p:=⟨w.heap.size,2,none⟩) (Nat.le_refl _) (.bool false)).setCell (p:=⟨w.heap.size,3,none⟩) (Nat.le_refl _) (.slice none 0 0)).setCell (p:=⟨w.heap.size,4,none⟩) (Nat.le_refl _) (.slice none 0 0)).drew;clear k0 k1 k2 k3 k4 z0 z1 z2 z3 z4 lr1 r1 r2 lr RD1;generalize World.drew _=w9 at *;obtain ⟨tR,hR⟩:=R1;have HR1:Hid _:=hR;clear hR;go_wp2_with fail;exact bodyPost_ret (Za0 rfl _ _ w.heap.size tR #[.int .i64 0,.int .i64 0,.bool false,.slice none 0 0,.slice none 0 0] (0,0) _ rfl HR1.out Tryz.underlying53 rfl (by rw[Zae];rfl)) rfl ⟨fun T h=>(by rw[H.out] at h;cases h),fun c p h=>(by rw[H.out] at h;cases h;exact ⟨by rw[HAt.out];rfl,bel1⟩)⟩
 | ok q =>
  obtain⟨T,z⟩:=q;obtain ⟨cs,rfl,hdep,hb⟩:=hok T z hep;clear hok hbad;have heo:=ZeJ HB.out 16 0 B.length T z (Nat.le_refl _) hep;have hz2:z≤B.length:=heo.2;replace HP:Hid (Zaq B=if z<B.length then .error (8,z) else .ok T):=by show _=_;rw[HP.out,hep]
  clear hep heo;have HO5:Hid (Zca cs):=hdep.now.ones;have l5:=hdep.now.five;have HL5:Hid (cs.length=5):=l5;have HS5:Hid (cs.toArray.size=5):=by show _=_;rw[List.size_toArray];exact l5
  have HDp:Hid _:=hdep;have KB:=Blk.new w1 cs 53 w1.heap.size rfl;have R1:=(R0.later hb).alloc (.cells cs.toArray 53);have RD1:=(RD.later hb).alloc (.cells cs.toArray 53);have bel1:=Zah (o:=.cells cs.toArray 53) (Zar bel hb);have HAg:Hid (Agr (fun b=>W1.heap.size≤b) w1 (w1.alloc (.cells cs.toArray 53))):=Agr.below ((Below.refl _ _).alloc (Nat.le_refl _) _);have lW1:=R0.lt;clear hb hdep l5 R0 RD bel;go_upto_region 5 with (first|(refine wpList_store_row rfl 53 _ _ rfl w1.heap.size cs.toArray rfl rfl 53 _ (heap_alloc_last _ _) (by rw[Zae,HS5.out]) (by rw[HS5.out];rfl) HO5.out ?_;rw[World.setRow_alloc_new])|fail);clear hz;obtain ⟨g1,hg1⟩:∃ g1,g1=w1.heap.size:=⟨_,rfl⟩;rw[← hg1] at KB;generalize w1.alloc (.cells cs.toArray 53)=w2 at *;rw[← hg1];clear hg1;have r1:=RD1.cell 1 _ rfl;have lr:=RD1.lt;obtain ⟨tR,hR⟩:=R1;have HR1:Hid _:=hR;clear hR
  by_cases c2:z<B.length
  ·have H:Hid (Zaq B=.error (8,z)):=by show _=_;rw[HP.out,if_pos c2]
   have g2:(z:Int)<((B.length:Nat):Int):=by omega
   go_wp2_with (first|(refine wpList_store_row rfl 53 _ _ rfl w.heap.size #[.int .i64 0,.int .i64 0,.bool false,.slice none 0 0,.slice none 0 0] rfl rfl tR _ HR1.out (by rw[Zae];rfl) rfl (by simp[Value.oneCell']) ?_)|fail);exact bodyPost_ret (Za0 rfl _ _ w.heap.size tR #[.int .i64 0,.int .i64 0,.bool false,.slice none 0 0,.slice none 0 0] (0,0) _ rfl (setRow_heap _ _ _ _ _ _ HR1.out) Tryz.underlying53 rfl (by rw[Zae];rfl)) rfl ⟨fun T h=>(by rw[H.out] at h;cases h),fun c p h=>(by rw[H.out] at h;cases h;exact ⟨rfl,below_setRow bel1 (Nat.le_refl _) _⟩)⟩
  ·have H:Hid (Zaq B=.ok T):=by show _=_;rw[HP.out,if_neg c2]
   have g2:¬ (z:Int)<((B.length:Nat):Int):=by omega
   have HD2:Hid (Dep (fun b=>w.heap.size≤b) (w2.setRow w.heap.size cs.toArray) T cs):=Dep.next HDp.out (Agr.row HAg.out (by show ¬ W1.heap.size≤w.heap.size;omega)) (fun b hb _=>by show w.heap.size≤b;omega);go_wp2_with (first|(refine Zab (by rfl) (by rfl) (by rfl) (KB.load Tryz.underlying53 rfl Zae HL5.out) ?_)|(refine wpList_store_row rfl 53 _ _ rfl w.heap.size cs.toArray rfl rfl tR _ HR1.out (by rw[Zae,HS5.out]) (by rw[HS5.out];rfl) HO5.out ?_)|fail);exact bodyPost_ret (Za0 rfl _ _ w.heap.size tR cs.toArray (0,0) _ rfl (setRow_heap _ _ _ _ _ _ HR1.out) Tryz.underlying53 rfl (by rw[Zae,HS5.out])) rfl ⟨fun T h=>(by rw[H.out] at h;cases h;exact ⟨cs,rfl,HD2.out,below_setRow bel1 (Nat.le_refl _) _⟩),fun c p h=>(by rw[H.out] at h;cases h)⟩
theorem ZcD {c t:Int} {m:Bool} {b:List Int} {ks:List Tl} (h:ZaK (.mk c t m b ks)=true):(m=true→b=[])∧(m=false→ks=[])∧ZaE ks=true:=by
 rw[ZaK,Bool.and_eq_true] at h;obtain ⟨h1,h2⟩:=h;unfold Zby at h1;simp only[Bool.and_eq_true,Bool.not_eq_true',Bool.and_eq_false_iff,decide_eq_true_eq,decide_eq_false_iff_not] at h1;obtain ⟨⟨-,h3⟩,h4⟩:=h1;refine ⟨fun e=>?_,fun e=>?_,h2⟩
 ·subst e
  rcases h3 with h|h
  ·cases h
  ·exact List.eq_nil_of_length_eq_zero (by omega)
 ·subst e
  rcases h4 with h|h
  ·cases h
  ·exact List.eq_nil_of_length_eq_zero (by omega)
theorem ZqR {k:Tl} {p:Pn} (h:Zdc k=some p) (f:ZaK k=true):k=ZbX p∧Zbn p=true:=by
 unfold Zdc at h
 split at h
 ·split at h
  ·rename_i hc
   obtain⟨rfl,rfl,rfl,rfl,rfl,rfl,rfl,rfl,rfl,rfl,rfl,rfl,rfl,rfl,hp⟩:=hc
   cases h
   obtain⟨f1,-,f2⟩:=ZcD f;rw[ZaE,Bool.and_eq_true] at f2;obtain ⟨f3,-,f4⟩:=ZcD f2.1;rw[ZaE,ZaE,Bool.and_eq_true,Bool.and_eq_true] at f4;obtain ⟨-,f5,-⟩:=ZcD f4.1;obtain ⟨-,f6,-⟩:=ZcD f4.2.1;have e1:=f1 rfl;have e3:=f3 rfl;have e5:=f5 rfl;have e6:=f6 rfl;subst e1 e3 e5 e6;exact ⟨rfl,hp⟩
  ·cases h
 ·cases h
theorem ZhS:∀ {ks:List Tl} {n:List Pn},ks.mapM Zdc=some n→ZaE ks=true→ks=n.map ZbX∧∀ p∈n,Zbn p=true
 | [],n,h,_=>by
  rw[List.mapM_nil] at h
  cases h
  exact⟨rfl,fun p hp=>by cases hp⟩
 | k::ks,n,h,f=>by
  rw[ZaE,Bool.and_eq_true] at f;rw[List.mapM_cons] at h
  cases h1:Zdc k with
  | none=>rw[h1] at h;cases h
  | some p =>
   cases h2:ks.mapM Zdc with
   | none=>rw[h1,h2] at h;cases h
   | some m =>
    rw[h1,h2] at h
    cases h
    obtain⟨e1,e2⟩:=ZqR h1 f.1;obtain ⟨e3,e4⟩:=ZhS h2 f.2;refine ⟨by rw[List.map_cons,← e1,← e3],fun q hq=>?_⟩;rcases List.mem_cons.1 hq with rfl|hq
    ·exact e2
    ·exact e4 q hq
theorem Zh5 {T:Tl} {n:List Pn} (h:Zcz T=.ok n) (f:ZaK T=true):T=ZbC n∧Zc3 n=true:=by
 obtain⟨c0,t,m,b,ks⟩:=T;rw[Zcz] at h
 split at h
 ·rename_i hc
  obtain⟨rfl,rfl,rfl⟩:=hc
  split at h
  ·cases h
  ·rename_i m hm
   split at h
   ·cases h
   ·rename_i hl
    cases h
    obtain⟨f1,-,f2⟩:=ZcD f;have e1:=f1 rfl;subst e1;obtain ⟨e2,e3⟩:=ZhS hm f2;refine ⟨by rw[ZbC,← e2],?_⟩;unfold Zc3;rw[decide_eq_true (by omega),Bool.true_and,List.all_eq_true];exact e3
 ·cases h
theorem ZjT:∀ {n:List Pn},WfL (n.map ZbX)→∀ p∈n,byt p.2
 | [],_,p,hp=>by cases hp
 | q::n,h,p,hp=>by
  rw[List.map_cons,WfL] at h;rcases List.mem_cons.1 hp with rfl|hp
  ·have h1:=h.1
   unfold ZbX at h1;rw[WfT,WfL,WfL,WfT,WfL,WfL,WfL,WfT,WfT,WfL] at h1;exact h1.2.2.2.1.2.2.2.2.1.2.2.1
  ·exact ZjT h.2 p hp
theorem Zrz {n:List Pn} (h:Zc3 n=true) (w:WfT (ZbC n)):WfN n:=fun i p hp=>by
 have hm:=List.mem_of_getElem? hp;have h1:=Zg4 ((ZgX h).2 p hm);unfold ZbC at w;rw[WfT] at w;exact ⟨by omega,ZjT w.2.2.2 p hm,by unfold maxLen;omega⟩
theorem Zjc {X:List Int} (h:∀ x∈X,0≤x∧x<256):byt X:=fun j=>by
 rw[List.getD_eq_getElem?_getD]
 cases e:X[j]? with
 | none=>simp
 | some x=>exact h x (List.mem_of_getElem? e)
theorem ZhP:∀ (m:Nat) (X:List Int),ZaF (List.replicate m 0++X)=ZaF X
 | 0,X=>rfl
 | m+1,X=>by rw[List.replicate_succ,List.cons_append,ZaF,if_pos rfl,ZhP m X]
theorem Zju {x:Int} {X:List Int} (h:¬ x=0):ZaF (x::X)=x::X:=by rw[ZaF,if_neg h]
theorem Zms {b n:List Int} (h:Zbi b=.ok n):ZaG n=.ok b:=by
 unfold Zbi at h
 by_cases h0:b.length=0∨127<b.getD 0 0∨(1<b.length∧b.getD 0 0=0∧b.getD 1 0<128)
 ·rw[if_pos h0] at h
  cases h
 ·rw[if_neg h0] at h
  match b,h0,h with
  | [],h0,_=>exact absurd (.inl rfl) h0
  | x::xs,h0,h =>
   by_cases hx:x=0
   ·subst hx
    have hz:((0:Int)::xs).getD 0 0=0:=rfl;simp only[if_pos hz] at h
    split at h
    ·cases h
    ·rename_i h64
     cases h
     match xs,h0,h64 with
     | [],_,_=>rfl
     | y::ys,h0,h64 =>
      have hy:¬ y<128:=fun k=>h0 (.inr (.inr ⟨by simp,rfl,k⟩));have hl:¬ 64<(y::ys).length:=h64;show ZaG (y::ys)=_;unfold ZaG;rw[Zju (by omega),if_neg hl,if_pos (.inr (by show 127<y;omega))]
   ·have hz:¬ (x::xs).getD 0 0=0:=hx
    simp only[if_neg hz] at h
    split at h
    ·cases h
    ·rename_i h64
     cases h
     have hy:¬ 127<x:=fun k=>h0 (.inr (.inl k));unfold ZaG;rw[Zju hx,if_neg h64,if_neg (fun k=>k.elim (fun k=>by simp at k) hy)]
theorem Zjx {b n X:List Int} (h:Zbi b=.ok n) (hn:byt n) (hl:n.length≤48) (hX:Is48 X (beN n)):ZaG X=.ok b:=by
 have e:X=List.replicate (48-n.length) 0++n:=Zqg _ _ (by rw[hX.1];simp;omega) hX.2.1 (Zjc (fun x hx=>by
  rcases List.mem_append.1 hx with k|k
  ·rw[List.eq_of_mem_replicate k];omega
  ·obtain ⟨i,hi⟩:=List.getElem?_of_mem k
   have:=hn i;rw[List.getD_eq_getElem?_getD,hi] at this;exact this)) (by rw[hX.2.2,Zij])
 have e2:ZaG X=ZaG n:=by
  unfold ZaG;rw[e,ZhP]
 rw[e2];exact Zms h
theorem ZpS {n:List Int} (hn:byt n) (hl:n.length≤48):beN n<18446744073709551616 ^ 6:=by
 have k:=be_lt (bs:=List.replicate (48-n.length) 0++n) (Zjc (fun x hx=>by
  rcases List.mem_append.1 hx with k|k
  ·rw[List.eq_of_mem_replicate k];omega
  ·obtain ⟨i,hi⟩:=List.getElem?_of_mem k
   have:=hn i;rw[List.getD_eq_getElem?_getD,hi] at this;exact this)) (by simp;omega)
 rw[Zij] at k;exact k.2
theorem Zni {c t:Int} {m:Bool} {b:List Int} {ks:List Tl} (h:¬ ks.length=2):Zdl (.mk c t m b ks)=none:=by
 unfold Zdl
 split
 ·rename_i e
  simp only[Tl.mk.injEq] at e;exact absurd (by rw[e.2.2.2.2];rfl) h
 ·rfl
theorem ZcY {c t c0 t0 c1 t1:Int} {m m0 m1:Bool} {b b0 b1 x y:List Int} {k0 k1:List Tl} (h:Zdl (.mk c t m b [.mk c0 t0 m0 b0 k0,.mk c1 t1 m1 b1 k1])=some (x,y)):(c=0∧t=16∧m=true)∧(c0=0∧t0=2∧m0=false)∧(c1=0∧t1=2∧m1=false)∧Zbi b0=.ok x∧Zbi b1=.ok y:=by
 simp only[Zdl,ZcK] at h
 split at h
 ·rename_i h1
  by_cases h2:c0=0∧t0=2∧m0=false
  ·by_cases h3:c1=0∧t1=2∧m1=false
   ·rw[if_pos h2,if_pos h3] at h
    cases e1:Zbi b0 with
    | error z=>rw[e1] at h;cases h
    | ok u =>
     cases e2:Zbi b1 with
     | error z=>rw[e1,e2] at h;cases h
     | ok v =>
      rw[e1,e2] at h
      cases h
      exact⟨h1,h2,h3,rfl,rfl⟩
   ·rw[if_pos h2,if_neg h3] at h
    cases e1:Zbi b0 with
    | error z=>rw[e1] at h;cases h
    | ok u=>rw[e1] at h;cases h
  ·rw[if_neg h2] at h
   cases h
 ·cases h
theorem ZjJ {c t c0 t0 c1 t1:Int} {m m0 m1:Bool} {b b0 b1:List Int} {k0 k1:List Tl} (h:okO (Zbi b0)=none∨okO (Zbi b1)=none):Zdl (.mk c t m b [.mk c0 t0 m0 b0 k0,.mk c1 t1 m1 b1 k1])=none:=by
 cases e:Zdl (.mk c t m b [.mk c0 t0 m0 b0 k0,.mk c1 t1 m1 b1 k1]) with
 | none=>rfl
 | some q =>
  obtain⟨x,y⟩:=q;obtain ⟨-,-,-,h4,h5⟩:=ZcY e;rcases h with h|h
  ·rw[h4] at h;cases h
  ·rw[h5] at h;cases h
theorem Zre {B nx ny X Y x y:List Int} {c t c0 t0 c1 t1:Int} {m m0 m1:Bool} {b b0 b1:List Int} {k0 k1:List Tl} (hB:byt B) (hp:Zaq B=.ok (.mk c t m b [.mk c0 t0 m0 b0 k0,.mk c1 t1 m1 b1 k1])) (hs:Zdl (.mk c t m b [.mk c0 t0 m0 b0 k0,.mk c1 t1 m1 b1 k1])=some (nx,ny)) (n1:byt nx) (n2:byt ny) (l1:nx.length≤48) (l2:ny.length≤48) (k:SigB (beN nx) (beN ny) X Y x y):Zak (Zet x y)=B:=by
 obtain⟨⟨rfl,rfl,rfl⟩,⟨rfl,rfl,rfl⟩,⟨rfl,rfl,rfl⟩,e1,e2⟩:=ZcY hs;obtain ⟨e,f,-,-,-⟩:=Zg3 hB hp;obtain ⟨f1,-,f3⟩:=ZcD f;obtain rfl:=f1 rfl;rw[ZaE,ZaE,Bool.and_eq_true,Bool.and_eq_true] at f3;obtain rfl:=(ZcD f3.1).2.1 rfl;obtain rfl:=(ZcD f3.2.1).2.1 rfl;have q1:=Zjx e1 n1 l1 k.1;have q2:=Zjx e2 n2 l2 k.2.1;rw[k.2.2.1] at q1;rw[k.2.2.2] at q2
 cases q1
 cases q2
 exact e
theorem Zrc {B X Y x y:List Int} {r s:Int} (k:SigB r s X Y x y) (h:ZbL r∧ZbL s) (e:Zak (Zet x y)=B):ZcX B=some (r,s):=by
 obtain⟨x',h1,l1⟩:=ZoN k.1.1;obtain ⟨y',h2,l2⟩:=ZoN k.2.1.1;have e1:=k.2.2.1;have e2:=k.2.2.2;rw[h1] at e1;rw[h2] at e2
 cases e1
 cases e2
 have hp:=Znk l1 l2;rw[e] at hp;have hs:=Znh k.1.2.1 k.2.1.2.1 h1 h2;have z1:beN (ZaF X)=r:=by rw[ZgF,k.1.2.2]
 have z2:beN (ZaF Y)=s:=by rw[ZgF,k.2.1.2.2]
 have q:=Zp9 hp hs (by rw[z1,z2];exact h);rw[z1,z2] at q;exact q
def Zj0 (w:World) (r:Option (Int × Int)) (e:Ending) (w':World):Prop:=Below w.heap.size w w'∧∃ (rs ss:List Value) (x y:Int) (bb:Bool),e=.returned (.tuple #[.agg (rs++ss).toArray,.bool bb])∧U6 rs x∧U6 ss y∧Hid (bb=true→r=some (x,y))∧Hid (bb=false→r=none)
theorem Zj0.no0 {w w':World} {r:Option (Int × Int)} (h:r=none) (hb:Below w.heap.size w w'):Zj0 w r (.returned (.tuple #[.agg #[.int .u64 0,.int .u64 0,.int .u64 0,.int .u64 0,.int .u64 0,.int .u64 0,.int .u64 0,.int .u64 0,.int .u64 0,.int .u64 0,.int .u64 0,.int .u64 0],.bool false])) w':=⟨hb,[.int .u64 0,.int .u64 0,.int .u64 0,.int .u64 0,.int .u64 0,.int .u64 0],[.int .u64 0,.int .u64 0,.int .u64 0,.int .u64 0,.int .u64 0,.int .u64 0],0,0,false,rfl,U6.zero,U6.zero,fun q=>(by cases q),fun _=>h⟩
theorem Zj0.is {w w':World} {r:Option (Int × Int)} {rs ss:List Value} {x y:Int} {bb:Bool} {ts:List Value} (ht:rs++ss=ts) (h1:U6 rs x) (h2:U6 ss y) (h3:bb=true→r=some (x,y)) (h4:bb=false→r=none) (hb:Below w.heap.size w w'):Zj0 w r (.returned (.tuple #[.agg ts.toArray,.bool bb])) w':=⟨hb,rs,ss,x,y,bb,by rw[ht],h1,h2,h3,h4⟩
theorem uTo6 {v:Value} {x:Int} {w:World} (h:Zcr w v x) (h0:0≤x) (h1:x<18446744073709551616 ^ 6):Calls Tryz.prog 115 #[v] w fun e w'=>∃ es,e=.returned (.agg es.toArray)∧U6 es x∧Below w.heap.size w w':=by
 refine(Zrp v x w h).mono ?_;rintro e w' ⟨T,rfl,lT,fT,hT,hb⟩;obtain ⟨z0,z1,z2,z3,z4,z5,rfl⟩:=six_of lT;refine ⟨_,rfl,⟨z0,z1,z2,z3,z4,z5,rfl,fT,?_⟩,hb⟩;rw[hT,Int.emod_eq_of_lt h0 h1]
theorem bs_old {w:World} {v:Value} {B:List Int} (h:Bs w v B):∀ a m c,v=.slice (some a) m c→0<m→a.block<w.heap.size:=fun a m c e h0=>by
 obtain⟨ao,cap,e1,-,-,h3⟩:=h;rw[e1] at e;simp only[Value.slice.injEq] at e;obtain ⟨e2,e3,-⟩:=e;obtain ⟨b,o,e4,hl,-⟩:=h3 (by omega);rw[e4] at e2
 cases e2
 exact hl
theorem bs_not {w:World} {g:Nat} {v:Value} {B:List Int} (h:Bs w v B) (R:Blk w g [.int .u64 0,.int .u64 0,.int .u64 0,.int .u64 0,.int .u64 0,.int .u64 0,.int .u64 0,.int .u64 0,.int .u64 0,.int .u64 0,.int .u64 0,.int .u64 0]):∀ a m c,v=.slice (some a) m c→0<m→a.block≠g:=fun a m c e h0 hg=>by
 obtain⟨ao,cap,e1,-,-,h3⟩:=h;rw[e1] at e;simp only[Value.slice.injEq] at e;obtain ⟨e2,e3,-⟩:=e;obtain ⟨b,o,e4,hl,hc⟩:=h3 (by omega);rw[e4] at e2
 cases e2
 have hg':b=g:=hg;subst hg';have h9:=hc 0 (by omega);obtain ⟨t,ht⟩:=R;rw[Nat.add_zero] at h9;simp only[World.cell?,ht,Option.isSome_none,Bool.false_eq_true,if_false] at h9;have h8:=List.mem_of_getElem? (show ([.int .u64 0,.int .u64 0,.int .u64 0,.int .u64 0,.int .u64 0,.int .u64 0,.int .u64 0,.int .u64 0,.int .u64 0,.int .u64 0,.int .u64 0,.int .u64 0]:List Value)[o]?=some (.int .u8 (B.getD 0 0)) by simpa using h9);simp at h8
theorem ZaZ:(Tryz.prog.info? 31).map (·.size)=some 12:=by kernel_rfl
theorem ZcG:Hid (∀ w:World,(zeroValue 31).run Tryz.prog w=.ok (.agg #[.int .u64 0,.int .u64 0,.int .u64 0,.int .u64 0,.int .u64 0,.int .u64 0,.int .u64 0,.int .u64 0,.int .u64 0,.int .u64 0,.int .u64 0,.int .u64 0]) w):=fun w=>by kernel_rfl
theorem ZkP {v:Value} {B:List Int} {w:World} (hv:Bs w v B) (b:byt B):Calls Tryz.prog 82 #[v] w (Zj0 w (ZcX B)):=by
 have HV:Hid (Bs w v B):=hv;have HY:Hid (byt B):=b;obtain ⟨va,vc,rfl,-,-,-⟩:=hv;obtain ⟨BL,hBL⟩:∃ z,B.length=z:=⟨_,rfl⟩;rw[hBL] at HV ⊢;clear hBL b;have R0:=Blk.new w [.int .u64 0,.int .u64 0,.int .u64 0,.int .u64 0,.int .u64 0,.int .u64 0,.int .u64 0,.int .u64 0,.int .u64 0,.int .u64 0,.int .u64 0,.int .u64 0] 31 w.heap.size rfl;have bel:=bal w (.cells #[.int .u64 0,.int .u64 0,.int .u64 0,.int .u64 0,.int .u64 0,.int .u64 0,.int .u64 0,.int .u64 0,.int .u64 0,.int .u64 0,.int .u64 0,.int .u64 0] 31);have hz:=ZcG.out;go_enter Tryz.func82,Tryz.ntmps82;go_upto_region 1 with fail;generalize w.alloc (.cells #[.int .u64 0,.int .u64 0,.int .u64 0,.int .u64 0,.int .u64 0,.int .u64 0,.int .u64 0,.int .u64 0,.int .u64 0,.int .u64 0,.int .u64 0,.int .u64 0] 31)=W at *;clear hz;go_wp2_with fail;refine (Zh3 (HV.out.later bel) HY.out).mono ?_;rintro e w1 ⟨hok,hbad⟩
 cases hp:Zaq B with
 | error q =>
  obtain⟨c,p⟩:=q;obtain ⟨rfl,hb⟩:=hbad c p hp;have H:Hid (ZcX B=none):=Zp8 hp;have hc0:¬ (c:Int)=0:=by rcases Zeq hp with k|k|k|k|k<;>omega
  have d1:((c:Int) == 0)=false:=by rw[beq_eq_false_iff_ne];exact hc0
  have d2:((c:Int) != 0)=true:=by rw[bne,d1];rfl
  replace R0:=R0.later hb;replace bel:=Zaa bel hb;clear hb hok hbad hp hc0;obtain ⟨ap,hap⟩:∃ z,atP c p=z:=⟨_,rfl⟩;rw[hap];clear hap;have hz:=Zaj.out;replace R0:=R0.alloc (.cells #[.int .i64 0,.int .i64 0,.bool false,.slice none 0 0,.slice none 0 0] 53);replace bel:=Zah (o:=.cells #[.int .i64 0,.int .i64 0,.bool false,.slice none 0 0,.slice none 0 0] 53) bel;go_upto_region 2 with (first|((with_reducible show wpList _ _ _ (⟨_,.store _ _ _,_,_,_,_⟩::_) _ _);refine wpList_store_row rfl 53 _ _ rfl w1.heap.size #[.int .i64 0,.int .i64 0,.bool false,.slice none 0 0,.slice none 0 0] rfl rfl 53 _ (heap_alloc_last _ _) (by rw[Zae];rfl) rfl (by simp[Value.oneCell']) ?_;rw[World.setRow_alloc_new])|fail);generalize w1.alloc (.cells #[.int .i64 0,.int .i64 0,.bool false,.slice none 0 0,.slice none 0 0] 53)=V1 at *;clear hz;have hz:=ZcG.out;obtain ⟨tR,hR⟩:=R0;have HR1:Hid _:=hR;clear hR;go_wp2_with (first|((with_reducible show wpList _ _ _ (⟨_,.store _ _ _,_,_,_,_⟩::_) _ _);refine wpList_store_row rfl 31 _ _ rfl (w.heap.size) #[.int .u64 0,.int .u64 0,.int .u64 0,.int .u64 0,.int .u64 0,.int .u64 0,.int .u64 0,.int .u64 0,.int .u64 0,.int .u64 0,.int .u64 0,.int .u64 0] rfl rfl tR _ HR1.out (by rw[ZaZ];rfl) rfl (by simp[Value.oneCell']) ?_)|fail);refine bodyPost_ret (Zac rfl _ _ (w.heap.size) tR #[.int .u64 0,.int .u64 0,.int .u64 0,.int .u64 0,.int .u64 0,.int .u64 0,.int .u64 0,.int .u64 0,.int .u64 0,.int .u64 0,.int .u64 0,.int .u64 0] (0,0) _ rfl (setRow_heap _ _ _ _ _ _ HR1.out) Tryz.underlying31 rfl (by rw[ZaZ];rfl)) rfl ?_;exact Zj0.no0 H.out (below_setRow bel (Nat.le_refl _) _)
 | ok T =>
  obtain⟨cs1,rfl,hd,hb⟩:=hok T hp;have ht1:=hd.now;replace R0:=R0.later hb;replace bel:=Zaa bel hb;clear hb hok hbad hd;have HT1:Hid (Zav w1 T cs1):=ht1;obtain ⟨c1,t1,m1,b1,k1⟩:=T;rw[Zav] at ht1;obtain ⟨bv1,ao1,kc1,hcs1,hbv1,-,hkm1,hkk1⟩:=ht1;obtain ⟨ba1,bc1,rfl,-,-,-⟩:=hbv1;have HK1:Hid (0<k1.length→∃ g o,ao1=some ⟨g,o,none⟩∧Zap w1 k1 g o):=hkk1;obtain ⟨BL1,hBL1⟩:∃ z,b1.length=z:=⟨_,rfl⟩;obtain ⟨KL1,hKL1⟩:∃ z,k1.length=z:=⟨_,rfl⟩;have HKL1:Hid (k1.length=KL1):=hKL1;have HKM1:Hid (kc1≤maxLen):=hkm1;rw[hBL1] at hcs1;rw[hKL1] at hcs1 HK1;clear hBL1 hKL1 hkk1 hkm1;subst hcs1

  have HP:Hid (Zaq B=.ok (.mk c1 t1 m1 b1 k1)):=hp;have HGd:Hid (GdT (.mk c1 t1 m1 b1 k1)):=GdT.of HY.out hp;clear hp;have hz:=Zaj.out;have Bk:=Blk.new w1 [.int .i64 c1,.int .i64 t1,.bool m1,.slice ba1 BL1 bc1,.slice ao1 KL1 kc1] 53 w1.heap.size rfl;have st:=bal w1 (.cells #[.int .i64 c1,.int .i64 t1,.bool m1,.slice ba1 BL1 bc1,.slice ao1 KL1 kc1] 53);replace R0:=R0.later st;replace bel:=Zaa bel st;go_upto_region 2 with (first|((with_reducible show wpList _ _ _ (⟨_,.store _ _ _,_,_,_,_⟩::_) _ _);refine wpList_store_row rfl 53 _ _ rfl w1.heap.size #[.int .i64 c1,.int .i64 t1,.bool m1,.slice ba1 BL1 bc1,.slice ao1 KL1 kc1] rfl rfl 53 _ (heap_alloc_last _ _) (by rw[Zae];rfl) rfl (by simp[Value.oneCell']) ?_;rw[World.setRow_alloc_new])|fail);clear hz;obtain ⟨gt,hgt⟩:∃ z,z=w1.heap.size:=⟨_,rfl⟩;rw[← hgt] at Bk ⊢;generalize w1.alloc (.cells #[.int .i64 c1,.int .i64 t1,.bool m1,.slice ba1 BL1 bc1,.slice ao1 KL1 kc1] 53)=V1 at *;clear hgt;have f4:=Bk.cell 4 _ rfl;have fl:=Bk.lt
  by_cases hq:KL1=2
  rotate_left
  ·have HQ:Hid (¬ KL1=2):=hq
   have H:Hid (ZcX B=none):=Ze1 HP.out (Zni (fun h=>HQ.out (by rw[← HKL1.out];exact h)));have d1:((KL1:Int) == 2)=false:=by rw[beq_eq_false_iff_ne];omega
   have d2:((KL1:Int) != 2)=true:=by rw[bne,d1];rfl
   clear hq;have hz:=ZcG.out;obtain ⟨tR,hR⟩:=R0;have HR1:Hid _:=hR;clear hR;go_wp2_with (first|((with_reducible show wpList _ _ _ (⟨_,.store _ _ _,_,_,_,_⟩::_) _ _);refine wpList_store_row rfl 31 _ _ rfl (w.heap.size) #[.int .u64 0,.int .u64 0,.int .u64 0,.int .u64 0,.int .u64 0,.int .u64 0,.int .u64 0,.int .u64 0,.int .u64 0,.int .u64 0,.int .u64 0,.int .u64 0] rfl rfl tR _ HR1.out (by rw[ZaZ];rfl) rfl (by simp[Value.oneCell']) ?_)|fail);refine bodyPost_ret (Zac rfl _ _ (w.heap.size) tR #[.int .u64 0,.int .u64 0,.int .u64 0,.int .u64 0,.int .u64 0,.int .u64 0,.int .u64 0,.int .u64 0,.int .u64 0,.int .u64 0,.int .u64 0,.int .u64 0] (0,0) _ rfl (setRow_heap _ _ _ _ _ _ HR1.out) Tryz.underlying31 rfl (by rw[ZaZ];rfl)) rfl ?_;exact Zj0.no0 H.out (below_setRow bel (Nat.le_refl _) _)
  subst hq;obtain ⟨p9,q9,hk2⟩:∃ p q,k1=[p,q]:=by
   have h:=HKL1.out
   match k1,h with
   | [p,q],_=>exact ⟨p,q,rfl⟩
  subst hk2;obtain ⟨g2b,o2b,hao,hks⟩:=HK1.out (by omega);subst hao;rw[Zap,Zap] at hks;obtain ⟨⟨cs3,hc3,ht3⟩,⟨cs4,hc4,ht4⟩,-⟩:=hks;have hg3:=HGd.out.kid (i:=0) rfl;have hg4:=HGd.out.kid (i:=1) rfl;obtain ⟨c3,t3,m3,b3,k3⟩:=p9;rw[Zav] at ht3;obtain ⟨bv3,ka3,kc3,hcs3,hb3,x13,x23,hk3⟩:=ht3;subst hcs3;obtain ⟨ba3,bc3,rfl,y13,y23,y33⟩:=id hb3;have HB3:Hid (Bs w1 (.slice ba3 b3.length bc3) b3):=hb3;have HK3:Hid (0<k3.length→∃ g o,ka3=some ⟨g,o,none⟩∧Zap w1 k3 g o):=hk3;obtain ⟨N3,hN3⟩:∃ N,b3.length=N:=⟨_,rfl⟩;obtain ⟨K3,hK3⟩:∃ K,k3.length=K:=⟨_,rfl⟩;have HN3:Hid (b3.length=N3):=hN3;have HL3:Hid (k3.length=K3):=hK3;rw[hN3] at HB3 hc3;rw[hK3] at hc3 HK3;clear hN3 hK3 hk3 hb3 y13 y23 y33 x13 x23;obtain ⟨c4,t4,m4,b4,k4⟩:=q9;rw[Zav] at ht4;obtain ⟨bv4,ka4,kc4,hcs4,hb4,x14,x24,hk4⟩:=ht4;subst hcs4;obtain ⟨ba4,bc4,rfl,y14,y24,y34⟩:=id hb4;have HB4:Hid (Bs w1 (.slice ba4 b4.length bc4) b4):=hb4;have HK4:Hid (0<k4.length→∃ g o,ka4=some ⟨g,o,none⟩∧Zap w1 k4 g o):=hk4;obtain ⟨N4,hN4⟩:∃ N,b4.length=N:=⟨_,rfl⟩;obtain ⟨K4,hK4⟩:∃ K,k4.length=K:=⟨_,rfl⟩;have HN4:Hid (b4.length=N4):=hN4;have HL4:Hid (k4.length=K4):=hK4;rw[hN4] at HB4 hc4;rw[hK4] at hc4 HK4;clear hN4 hK4 hk4 hb4 y14 y24 y34 x14 x24;have hw3:=hg3.wf;have hw4:=hg4.wf;rw[WfT] at hw3 hw4;have HY3:Hid (byt b3∧b3.length≤1048576):=⟨hw3.2.2.1,hg3.body⟩;have HY4:Hid (byt b4∧b4.length≤1048576):=⟨hw4.2.2.1,hg4.body⟩;have HC3:Hid (w1.cell? ⟨g2b,o2b+3,none⟩=some (.slice ba3 N3 bc3)∧g2b<w1.heap.size):=⟨hc3.2 3 _ rfl,hc3.1⟩;have HC4:Hid (w1.cell? ⟨g2b,o2b+5+3,none⟩=some (.slice ba4 N4 bc4)):=hc4.2 3 _ rfl;clear hc3 hc4 hw3 hw4 hg3 hg4 HK3 HK4 HK1 HGd;have u3:=Zan HC3.out.1 st;have ul:g2b<V1.heap.size:=Nat.lt_of_lt_of_le HC3.out.2 st.size;go_wp2_with fail;refine (Zd5 (HB3.out.later st) HY3.out.1 (by have:=HY3.out.2;omega)).mono ?_;rintro e w2 ⟨ao5,n5,k5,cc5,nb5,rfl,HN5,HY5,HL5,-,hb,HOk5,HBd5⟩;replace R0:=R0.later hb;replace Bk:=Bk.later hb;replace bel:=Zaa bel hb;replace st:=Zaa st hb;clear hb u3 ul f4 fl;have f4:=Bk.cell 4 _ rfl;have fl:=Bk.lt;have u4:=Zan HC4.out st;have ul:g2b<w2.heap.size:=Nat.lt_of_lt_of_le HC3.out.2 st.size;go_wp2_with fail;refine (Zd5 (HB4.out.later st) HY4.out.1 (by have:=HY4.out.2;omega)).mono ?_;rintro e w3 ⟨ao6,n6,k6,cc6,nb6,rfl,HN6,HY6,HL6,-,hb,HOk6,HBd6⟩;replace HN5:=BsL HN5 hb;replace R0:=R0.later hb;replace bel:=Zaa bel hb;clear hb u4 ul f4 fl Bk st
  by_cases hq:cc5=0
  rotate_left
  ·have HQ:Hid (¬ (cc5=0)):=hq
   have H:Hid (ZcX B=none):=Ze1 HP.out (ZjJ (.inl (HBd5.out hq)));have d1:(cc5 == 0)=false:=by rw[beq_eq_false_iff_ne];exact hq
   have d2:(cc5 != 0)=true:=by rw[bne,d1];rfl
   clear hq;have hz:=ZcG.out;obtain ⟨tR,hR⟩:=R0;have HR1:Hid _:=hR;clear hR;go_wp2_with (first|((with_reducible show wpList _ _ _ (⟨_,.store _ _ _,_,_,_,_⟩::_) _ _);refine wpList_store_row rfl 31 _ _ rfl (w.heap.size) #[.int .u64 0,.int .u64 0,.int .u64 0,.int .u64 0,.int .u64 0,.int .u64 0,.int .u64 0,.int .u64 0,.int .u64 0,.int .u64 0,.int .u64 0,.int .u64 0] rfl rfl tR _ HR1.out (by rw[ZaZ];rfl) rfl (by simp[Value.oneCell']) ?_)|fail);refine bodyPost_ret (Zac rfl _ _ (w.heap.size) tR #[.int .u64 0,.int .u64 0,.int .u64 0,.int .u64 0,.int .u64 0,.int .u64 0,.int .u64 0,.int .u64 0,.int .u64 0,.int .u64 0,.int .u64 0,.int .u64 0] (0,0) _ rfl (setRow_heap _ _ _ _ _ _ HR1.out) Tryz.underlying31 rfl (by rw[ZaZ];rfl)) rfl ?_;exact Zj0.no0 H.out (below_setRow bel (Nat.le_refl _) _)
  subst hq;have HO5:Hid (Zbi b3=.ok nb5):=HOk5.out rfl;clear HOk5 HBd5
  by_cases hq:cc6=0
  rotate_left
  ·have HQ:Hid (¬ (cc6=0)):=hq
   have H:Hid (ZcX B=none):=Ze1 HP.out (ZjJ (.inr (HBd6.out hq)));have d1:(cc6 == 0)=false:=by rw[beq_eq_false_iff_ne];exact hq
   have d2:(cc6 != 0)=true:=by rw[bne,d1];rfl
   clear hq;have hz:=ZcG.out;obtain ⟨tR,hR⟩:=R0;have HR1:Hid _:=hR;clear hR;go_wp2_with (first|((with_reducible show wpList _ _ _ (⟨_,.store _ _ _,_,_,_,_⟩::_) _ _);refine wpList_store_row rfl 31 _ _ rfl (w.heap.size) #[.int .u64 0,.int .u64 0,.int .u64 0,.int .u64 0,.int .u64 0,.int .u64 0,.int .u64 0,.int .u64 0,.int .u64 0,.int .u64 0,.int .u64 0,.int .u64 0] rfl rfl tR _ HR1.out (by rw[ZaZ];rfl) rfl (by simp[Value.oneCell']) ?_)|fail);refine bodyPost_ret (Zac rfl _ _ (w.heap.size) tR #[.int .u64 0,.int .u64 0,.int .u64 0,.int .u64 0,.int .u64 0,.int .u64 0,.int .u64 0,.int .u64 0,.int .u64 0,.int .u64 0,.int .u64 0,.int .u64 0] (0,0) _ rfl (setRow_heap _ _ _ _ _ _ HR1.out) Tryz.underlying31 rfl (by rw[ZaZ];rfl)) rfl ?_;exact Zj0.no0 H.out (below_setRow bel (Nat.le_refl _) _)
  subst hq;have HO6:Hid (Zbi b4=.ok nb6):=HOk6.out rfl;clear HOk6 HBd6
  by_cases hq:n5≤48
  rotate_left
  ·have HQ:Hid (¬ (n5≤48)):=hq
   have H:Hid (ZcX B=none):=by
    cases e9:Zdl (.mk c1 t1 m1 b1 [.mk c3 t3 m3 b3 k3,.mk c4 t4 m4 b4 k4]) with
    | none=>exact Ze1 HP.out e9
    | some q =>
     obtain⟨x9,y9⟩:=q;have h9:=ZcY e9;have g9:=ZfP HY3.out.1 h9.2.2.2.1 (by rw[show x9=nb5 from by have:=h9.2.2.2.1;rw[HO5.out] at this;cases this;rfl,HL5.out];omega);exact ZjI HP.out e9 (fun h=>by have:=h.1.2;omega)
   have d1:(48:Int)<(n5:Int):=by omega
   clear hq;have hz:=ZcG.out;obtain ⟨tR,hR⟩:=R0;have HR1:Hid _:=hR;clear hR;go_wp2_with (first|((with_reducible show wpList _ _ _ (⟨_,.store _ _ _,_,_,_,_⟩::_) _ _);refine wpList_store_row rfl 31 _ _ rfl (w.heap.size) #[.int .u64 0,.int .u64 0,.int .u64 0,.int .u64 0,.int .u64 0,.int .u64 0,.int .u64 0,.int .u64 0,.int .u64 0,.int .u64 0,.int .u64 0,.int .u64 0] rfl rfl tR _ HR1.out (by rw[ZaZ];rfl) rfl (by simp[Value.oneCell']) ?_)|fail);refine bodyPost_ret (Zac rfl _ _ (w.heap.size) tR #[.int .u64 0,.int .u64 0,.int .u64 0,.int .u64 0,.int .u64 0,.int .u64 0,.int .u64 0,.int .u64 0,.int .u64 0,.int .u64 0,.int .u64 0,.int .u64 0] (0,0) _ rfl (setRow_heap _ _ _ _ _ _ HR1.out) Tryz.underlying31 rfl (by rw[ZaZ];rfl)) rfl ?_;exact Zj0.no0 H.out (below_setRow bel (Nat.le_refl _) _)
  have g5:¬ (48:Int)<(n5:Int):=by omega
  have HL48:Hid (nb5.length≤48):=by show _≤_;rw[HL5.out];exact hq
  clear hq
  by_cases hq:n6≤48
  rotate_left
  ·have HQ:Hid (¬ (n6≤48)):=hq
   have H:Hid (ZcX B=none):=by
    cases e9:Zdl (.mk c1 t1 m1 b1 [.mk c3 t3 m3 b3 k3,.mk c4 t4 m4 b4 k4]) with
    | none=>exact Ze1 HP.out e9
    | some q =>
     obtain⟨x9,y9⟩:=q;have h9:=ZcY e9;have g9:=ZfP HY4.out.1 h9.2.2.2.2 (by rw[show y9=nb6 from by have:=h9.2.2.2.2;rw[HO6.out] at this;cases this;rfl,HL6.out];omega);exact ZjI HP.out e9 (fun h=>by have:=h.2.2;omega)
   have d1:(48:Int)<(n6:Int):=by omega
   clear hq;have hz:=ZcG.out;obtain ⟨tR,hR⟩:=R0;have HR1:Hid _:=hR;clear hR;go_wp2_with (first|((with_reducible show wpList _ _ _ (⟨_,.store _ _ _,_,_,_,_⟩::_) _ _);refine wpList_store_row rfl 31 _ _ rfl (w.heap.size) #[.int .u64 0,.int .u64 0,.int .u64 0,.int .u64 0,.int .u64 0,.int .u64 0,.int .u64 0,.int .u64 0,.int .u64 0,.int .u64 0,.int .u64 0,.int .u64 0] rfl rfl tR _ HR1.out (by rw[ZaZ];rfl) rfl (by simp[Value.oneCell']) ?_)|fail);refine bodyPost_ret (Zac rfl _ _ (w.heap.size) tR #[.int .u64 0,.int .u64 0,.int .u64 0,.int .u64 0,.int .u64 0,.int .u64 0,.int .u64 0,.int .u64 0,.int .u64 0,.int .u64 0,.int .u64 0,.int .u64 0] (0,0) _ rfl (setRow_heap _ _ _ _ _ _ HR1.out) Tryz.underlying31 rfl (by rw[ZaZ];rfl)) rfl ?_;exact Zj0.no0 H.out (below_setRow bel (Nat.le_refl _) _)
  have g6:¬ (48:Int)<(n6:Int):=by omega
  have HM48:Hid (nb6.length≤48):=by show _≤_;rw[HL6.out];exact hq
  clear hq;obtain ⟨x5,hx5⟩:∃ z,beN nb5=z:=⟨_,rfl⟩;obtain ⟨y6,hy6⟩:∃ z,beN nb6=z:=⟨_,rfl⟩;have HX5:Hid (beN nb5=x5):=hx5;have HY9:Hid (beN nb6=y6):=hy6;have HXb:Hid (0≤x5∧x5<18446744073709551616 ^ 6):=by rw[← hx5];exact ⟨Zdy HY5.out,ZpS HY5.out HL48.out⟩
  have HYb:Hid (0≤y6∧y6<18446744073709551616 ^ 6):=by rw[← hy6];exact ⟨Zdy HY6.out,ZpS HY6.out HM48.out⟩
  clear hx5 hy6;go_wp2_with fail;clear g5 g6;refine (Zh6 _ _ _ HN5.out HY5.out (by have:=HL48.out;omega)).mono ?_;rintro e w4 ⟨v4,rfl,hn,hb⟩;rw[HX5.out] at hn;have HN4:Hid (Zcr w4 v4 x5):=hn;replace HN6:=BsL HN6 hb;replace R0:=R0.later hb;replace bel:=Zaa bel hb;clear hb hn;go_wp2_with fail;refine (uTo6 HN4.out HXb.out.1 HXb.out.2).mono ?_;rintro e w5 ⟨es,rfl,hu,hb⟩;have HU5:Hid (U6 es x5):=hu;replace HN6:=BsL HN6 hb;replace R0:=R0.later hb;replace bel:=Zaa bel hb;clear hb hu HN4;go_wp2_with fail;refine (Zh6 _ _ _ HN6.out HY6.out (by have:=HM48.out;omega)).mono ?_;rintro e w6 ⟨v6,rfl,hn,hb⟩;rw[HY9.out] at hn;have HN4:Hid (Zcr w6 v6 y6):=hn;replace R0:=R0.later hb;replace bel:=Zaa bel hb;clear hb hn;go_wp2_with fail;refine (uTo6 HN4.out HYb.out.1 HYb.out.2).mono ?_;rintro e w7 ⟨fs,rfl,hu,hb⟩;have HU7:Hid (U6 fs y6):=hu;replace R0:=R0.later hb;replace bel:=Zaa bel hb;clear hb hu HN4;have q7:=Zhq HU5.out HU7.out;obtain ⟨ts,hts⟩:∃ us,es++fs=us:=⟨_,rfl⟩;have HT:Hid (es++fs=ts):=hts;have HLt:Hid (ts.length=12):=by show _=_;rw[← hts,List.length_append,HU5.out.len,HU7.out.len]
  have HSt:Hid (ts.toArray.size=12):=by show _=_;rw[List.size_toArray];exact HLt.out
  have HOt:Hid (Zho ts):=by rw[← hts];exact HU5.out.ones.app HU7.out.ones
  rw[hts] at q7;clear hts;have hz:=ZcG.out;have lR:=R0.lt;have Bt:=Blk.new w7 ts 31 w7.heap.size rfl;have hb:=bal w7 (.cells ts.toArray 31);replace R0:=R0.later hb;replace bel:=Zaa bel hb;clear hb;go_upto_region 9 with (first|(refine Zco (by rfl) (by rfl) (by rfl) (v:=.agg ts.toArray) (q7 _) ?_)|((with_reducible show wpList _ _ _ (⟨_,.store _ _ _,_,_,_,_⟩::_) _ _);refine wpList_store_row rfl 31 _ _ rfl w7.heap.size ts.toArray rfl rfl 31 _ (heap_alloc_last _ _) (by rw[ZaZ,HSt.out]) (by rw[HSt.out];rfl) HOt.out ?_;rw[World.setRow_alloc_new])|fail);clear hz q7;obtain ⟨gs,hgs⟩:∃ g,g=w7.heap.size:=⟨_,rfl⟩;have HGs:Hid (gs≠w.heap.size):=by show _≠_;omega
  rw[← hgs] at Bt ⊢;generalize w7.alloc (.cells ts.toArray 31)=V7 at *;clear hgs lR;have hld:(loadVar 31 ⟨gs,0,none⟩).run Tryz.prog V7=.ok (.agg ts.toArray) V7:=Bt.load Tryz.underlying31 rfl ZaZ HLt.out;have l0:=Bt.lt;go_wp2_with (first|((with_reducible show wpList _ _ _ (⟨_,.load _ _,_,_,_,_⟩::_) _ _);refine Zab (by rfl) (by rfl) (by rfl) hld ?_)|fail);have cv:=ZkQ (w:=V7) HU5.out HU7.out;rw[HT.out] at cv;refine cv.mono ?_;rintro e w8 ⟨hb,hno,hyes⟩;replace Bt:=Bt.later hb;replace R0:=R0.later hb;replace bel:=Zaa bel hb;clear hb cv hld l0
  by_cases hsc:ZbL x5∧ZbL y6
  rotate_left
  ·obtain rfl:=hno hsc
   have HSc:Hid (¬ (ZbL x5∧ZbL y6)):=hsc;clear hno hyes hsc;go_upto_region 10 with fail;have HR9:Hid (Blk w8 w.heap.size [.int .u64 0,.int .u64 0,.int .u64 0,.int .u64 0,.int .u64 0,.int .u64 0,.int .u64 0,.int .u64 0,.int .u64 0,.int .u64 0,.int .u64 0,.int .u64 0]):=R0;have HBt:Hid (Blk w8 gs ts):=Bt;have stp:∀ w1 w2:World,(Agr (fun b=>b≠w.heap.size) w8 w1∧Below w.heap.size w w1∧∃ X:List Value,Blk w1 w.heap.size X∧X.length=12)→Below w1.heap.size w1 w2→(Agr (fun b=>b≠w.heap.size) w8 w2∧Below w.heap.size w w2∧∃ X:List Value,Blk w2 w.heap.size X∧X.length=12):=fun w1 w2 h hb=>⟨h.1.trans (Agr.below hb),Zaa h.2.1 hb,h.2.2.choose,h.2.2.choose_spec.1.later hb,h.2.2.choose_spec.2⟩;obtain ⟨S1,hS1,KB1,KI1,KD1⟩:∃ S:World→Prop,Hd S w8∧Hid (∀ wx,Hd S wx→Agr (fun b=>b≠w.heap.size) w8 wx∧Below w.heap.size w wx∧∃ X:List Value,Blk wx w.heap.size X∧X.length=12)∧Hid (∀ wx,(Agr (fun b=>b≠w.heap.size) w8 wx∧Below w.heap.size w wx∧∃ X:List Value,Blk wx w.heap.size X∧X.length=12)→Hd S wx)∧Hid (∀ wx,Hd S wx→Hd S wx.drew):=⟨fun wx=>Agr (fun b=>b≠w.heap.size) w8 wx∧Below w.heap.size w wx∧∃ X:List Value,Blk wx w.heap.size X∧X.length=12,⟨Agr.refl _ _,bel,_,R0,rfl⟩,fun _ h=>h,fun _ h=>h,fun wx h=>stp _ _ h (Below.drew (Below.refl _ _))⟩;clear stp;have R1:Hid (∀ wx,Hd S1 wx→(loadVar 31 ⟨gs,0,none⟩).run Tryz.prog wx=.ok (.agg ts.toArray) wx):=fun wx h=>(HBt.out.agr (KB1.out wx h).1 HGs.out).load Tryz.underlying31 rfl ZaZ HLt.out;clear Bt R0 bel;have HH4:Hid (ZcX B=none):=by
    cases e9:Zdl (.mk c1 t1 m1 b1 [.mk c3 t3 m3 b3 k3,.mk c4 t4 m4 b4 k4]) with
    | none=>exact Ze1 HP.out e9
    | some q =>
     obtain⟨x9,y9⟩:=q;have h9:=ZcY e9;have z1:=h9.2.2.2.1;have z2:=h9.2.2.2.2;rw[HO5.out] at z1;rw[HO6.out] at z2
     cases z1
     cases z2
     exact ZjI HP.out e9 (fun h=>HSc.out (by rw[HX5.out,HY9.out] at h;exact h))
   refine wp_region_noPanic ?_;refine wp_region_held_drew (S:=Hd S1) (by kernel_rfl) (KD1.out _ hS1) (fun hHeld=>?_);clear hS1;generalize World.drew _=wd1 at *;refine trA 0 (.agg ts.toArray) R1.out ?_;refine tkA 1 ?_;refine tkA 2 ?_;refine skA 3 ?_;refine skA 4 ?_;refine skA 5 ?_;refine skA 6 ?_;refine skA 7 ?_;refine tkA 8 ?_;refine wpAnyH_ready (rs:=[9]) (by kernel_rfl) (by simp) ?_;refine AllReadyH.cons rfl (fun K hK=>?_) ?_
   ·obtain ⟨hag,bel9,X9,R0,hX9⟩:=KB1.out _ hHeld
    obtain⟨tR,hR⟩:=R0;have HR1:Hid _:=hR;clear hR;rw[if_pos (by rfl)];refine wp_store_row 31 _ _ rfl w.heap.size ts.toArray rfl rfl tR _ HR1.out (by rw[ZaZ,HSt.out]) (by rw[HSt.out,List.size_toArray,hX9]) HOt.out ?_;refine hK.out _ _ ?_ (fun hHeld2=>?_)
    ·exact KI1.out _ ⟨hag.row (fun h=>h rfl),below_setRow bel9 (Nat.le_refl _) _,ts,⟨tR,setRow_heap _ _ _ _ _ _ HR1.out⟩,HLt.out⟩
    ·clear hK K
     try clear hHeld
     have hHeld:=hHeld2;clear hHeld2;clear hag

     refine wpAnyH_take (i:=10) (v:=.bool false) rfl (by kernel_rfl) (by kernel_rfl) (by kernel_rfl) (fun _ _ _ h=>h) (Or.inl ⟨by rfl,fun wx h=>rfl⟩) (by assumption) ?_;refine wpAnyH_done (by kernel_rfl) ?_ _;refine NoPanic.normal ?_;clear hHeld R1;go_wp2_with fail;refine bodyPost_ret (Zac rfl _ _ w.heap.size tR ts.toArray (0,0) _ rfl (setRow_heap _ _ _ _ _ _ HR1.out) Tryz.underlying31 rfl (by rw[ZaZ,HSt.out])) rfl ?_;exact Zj0.is (bb:=false) HT.out HU5.out HU7.out (fun q=>by cases q) (fun _=>HH4.out) (below_setRow bel9 (Nat.le_refl _) _)
   exact AllReadyH.nil

  obtain⟨v8,X,Y,x,y,hSB,rfl,hv8⟩:=hyes hsc;have HSc:Hid (ZbL x5∧ZbL y6):=hsc;have HSB:Hid (SigB x5 y6 X Y x y):=hSB;obtain ⟨wa,wc,hve,-,-,-⟩:=id hv8;obtain ⟨VL,hVL⟩:∃ z,(Zak (Zet x y)).length=z:=⟨_,rfl⟩;rw[hVL] at hve;subst hve;have HV8:Hid (Bs w8 (.slice wa VL wc) (Zak (Zet x y))):=hv8;have HVb:Hid (Bs w8 (.slice va BL vc) B):=HV.out.later bel;clear hno hyes hsc hSB hv8 hVL;obtain ⟨s1,hs1⟩:∃ z,strOfNums (Zak (Zet x y))=z:=⟨_,rfl⟩;obtain ⟨s2,hs2⟩:∃ z,strOfNums B=z:=⟨_,rfl⟩;obtain ⟨bb,hbb⟩:∃ z:Bool,(s1.toList == s2.toList)=z:=⟨_,rfl⟩;have HBB:Hid ((bb=true↔Zak (Zet x y)=B)):=by rw[← hbb,← hs1,← hs2,ZiW (Zrd (ZhY HSB.out.1.2.1 HSB.out.2.2.1) (ZhY HSB.out.2.1.2.1 HSB.out.2.2.2)) HY.out,decide_eq_true_eq];exact Iff.rfl
  go_upto_region 10 with fail;have HR9:Hid (Blk w8 w.heap.size [.int .u64 0,.int .u64 0,.int .u64 0,.int .u64 0,.int .u64 0,.int .u64 0,.int .u64 0,.int .u64 0,.int .u64 0,.int .u64 0,.int .u64 0,.int .u64 0]):=R0;have HBt:Hid (Blk w8 gs ts):=Bt;have stp:∀ w1 w2:World,(Agr (fun b=>b≠w.heap.size) w8 w1∧Below w.heap.size w w1∧∃ X:List Value,Blk w1 w.heap.size X∧X.length=12)→Below w1.heap.size w1 w2→(Agr (fun b=>b≠w.heap.size) w8 w2∧Below w.heap.size w w2∧∃ X:List Value,Blk w2 w.heap.size X∧X.length=12):=fun w1 w2 h hb=>⟨h.1.trans (Agr.below hb),Zaa h.2.1 hb,h.2.2.choose,h.2.2.choose_spec.1.later hb,h.2.2.choose_spec.2⟩;obtain ⟨S1,hS1,KB1,KI1,KD1⟩:∃ S:World→Prop,Hd S w8∧Hid (∀ wx,Hd S wx→Agr (fun b=>b≠w.heap.size) w8 wx∧Below w.heap.size w wx∧∃ X:List Value,Blk wx w.heap.size X∧X.length=12)∧Hid (∀ wx,(Agr (fun b=>b≠w.heap.size) w8 wx∧Below w.heap.size w wx∧∃ X:List Value,Blk wx w.heap.size X∧X.length=12)→Hd S wx)∧Hid (∀ wx,Hd S wx→Hd S wx.drew):=⟨fun wx=>Agr (fun b=>b≠w.heap.size) w8 wx∧Below w.heap.size w wx∧∃ X:List Value,Blk wx w.heap.size X∧X.length=12,⟨Agr.refl _ _,bel,_,R0,rfl⟩,fun _ h=>h,fun _ h=>h,fun wx h=>stp _ _ h (Below.drew (Below.refl _ _))⟩;clear stp;have R1:Hid (∀ wx,Hd S1 wx→(loadVar 31 ⟨gs,0,none⟩).run Tryz.prog wx=.ok (.agg ts.toArray) wx):=fun wx h=>(HBt.out.agr (KB1.out wx h).1 HGs.out).load Tryz.underlying31 rfl ZaZ HLt.out;clear Bt R0 bel;have z1:=fun (wx:World) (h:Hd S1 wx)=>Zbq (Zcn HV8.out (bs_not HV8.out HR9.out) (KB1.out wx h).1);have z2:=fun (wx:World) (h:Hd S1 wx)=>Zbq (Zcn HVb.out (fun a m c e h0=>by have:=bs_old HV.out a m c e h0;show _≠_;omega) (KB1.out wx h).1);rw[hs1] at z1;rw[hs2] at z2;have sq:=hbb;clear hs1 hs2 hbb;have HH3:Hid (bb=true→ZcX B=some (x5,y6)):=fun q=>Zrc HSB.out HSc.out (HBB.out.1 q);have HH4:Hid (bb=false→ZcX B=none):=fun q=>by
   cases e9:Zdl (.mk c1 t1 m1 b1 [.mk c3 t3 m3 b3 k3,.mk c4 t4 m4 b4 k4]) with
   | none=>exact Ze1 HP.out e9
   | some q9 =>
    exfalso
    obtain⟨x9,y9⟩:=q9;have h9:=ZcY e9;have u1:=h9.2.2.2.1;have u2:=h9.2.2.2.2;rw[HO5.out] at u1;rw[HO6.out] at u2
    cases u1
    cases u2
    have h8:=Zre HY.out HP.out e9 HY5.out HY6.out HL48.out HM48.out (by rw[HX5.out,HY9.out];exact HSB.out);rw[HBB.out.2 h8] at q
    cases q
  refine wp_region_noPanic ?_;refine wp_region_held_drew (S:=Hd S1) (by kernel_rfl) (KD1.out _ hS1) (fun hHeld=>?_);clear hS1;generalize World.drew _=wd1 at *;refine trA 0 (.agg ts.toArray) R1.out ?_;refine tkA 1 ?_;refine tkA 2 ?_;refine tkA 3 ?_;refine tkA 4 ?_;refine tkA 5 ?_;refine tkA 6 ?_;refine tkA 7 ?_;refine tkA 8 ?_;refine wpAnyH_ready (rs:=[9]) (by kernel_rfl) (by simp) ?_;refine AllReadyH.cons rfl (fun K hK=>?_) ?_
  ·obtain ⟨hag,bel9,X9,R0,hX9⟩:=KB1.out _ hHeld
   obtain⟨tR,hR⟩:=R0;have HR1:Hid _:=hR;clear hR;rw[if_pos (by rfl)];refine wp_store_row 31 _ _ rfl w.heap.size ts.toArray rfl rfl tR _ HR1.out (by rw[ZaZ,HSt.out]) (by rw[HSt.out,List.size_toArray,hX9]) HOt.out ?_;refine hK.out _ _ ?_ (fun hHeld2=>?_)
   ·exact KI1.out _ ⟨hag.row (fun h=>h rfl),below_setRow bel9 (Nat.le_refl _) _,ts,⟨tR,setRow_heap _ _ _ _ _ _ HR1.out⟩,HLt.out⟩
   ·clear hK K
    try clear hHeld
    have hHeld:=hHeld2;clear hHeld2;clear hag

    refine wpAnyH_take (i:=10) (v:=.bool bb) rfl (by kernel_rfl) (by kernel_rfl) (by kernel_rfl) (fun _ _ _ h=>h) (Or.inl ⟨by rfl,fun wx h=>rfl⟩) (by assumption) ?_;refine wpAnyH_done (by kernel_rfl) ?_ _;refine NoPanic.normal ?_;clear hHeld R1;go_wp2_with fail;refine bodyPost_ret (Zac rfl _ _ w.heap.size tR ts.toArray (0,0) _ rfl (setRow_heap _ _ _ _ _ _ HR1.out) Tryz.underlying31 rfl (by rw[ZaZ,HSt.out])) rfl ?_;exact Zj0.is (bb:=bb) HT.out HU5.out HU7.out HH3.out HH4.out (below_setRow bel9 (Nat.le_refl _) _)
  exact AllReadyH.nil
end Go.Proofs.YtohcdbifhnfcbaaGreatDoor
