import Derived.Test.YtdfmoghjimghhaaGreatDoorCRef
import Derived.Test.YtdfmoghjimghhaaGreatDoorFAdd
import Derived.Test.YtdfmoghjimghhaaGreatDoorLimb
import Derived.Test.YtdfmoghjimghhaaGreatDoorRows
import Derived.Deep.WholeRow
import Derived.Deep.RegionHeld3
import Derived.Deep.DeepCutAuto
import Derived.Deep.DeepFit
namespace Go.Proofs.YtdfmoghjimghhaaGreatDoor
open Go.RowKit
set_option linter.unusedSimpArgs false
set_option maxRecDepth 100000
set_option maxHeartbeats 4000000
def Zel (w:World):Prop:=Gls w∧(w.cell? ⟨3,0,none⟩=some (.int .u64 3064076045283764975)∧w.cell? ⟨3,1,none⟩=some (.int .u64 14291673747578343837)∧w.cell? ⟨3,2,none⟩=some (.int .u64 221811693264799578)∧w.cell? ⟨3,3,none⟩=some (.int .u64 1737717031765098770)∧w.cell? ⟨3,4,none⟩=some (.int .u64 10992729701402291481)∧w.cell? ⟨3,5,none⟩=some (.int .u64 12912154004749740004))∧True
theorem Zel.fld {w:World} (G:Zel w):Gls w:=G.1
theorem Zel.below {w w':World} (G:Zel w) (hb:Below w.heap.size w w'):Zel w':=by
 obtain⟨g,⟨a0,a1,a2,a3,a4,a5⟩,h⟩:=G;exact ⟨g.below hb,⟨Zah a0 hb,Zah a1 hb,Zah a2 hb,Zah a3 hb,Zah a4 hb,Zah a5 hb⟩,trivial⟩
theorem Zel.lts {w:World} (G:Zel w):3<w.heap.size∧True:=⟨World.block_lt_of_cell? w _ G.2.1.1,trivial⟩
theorem fits_b:Zaz [3064076045283764975,14291673747578343837,221811693264799578,1737717031765098770,10992729701402291481,12912154004749740004]:=Zje (by decide)
theorem v_b:v64 [3064076045283764975,14291673747578343837,221811693264799578,1737717031765098770,10992729701402291481,12912154004749740004]=BB:=by decide +kernel
theorem fits_p:Zaz [4294967295,18446744069414584320,18446744073709551614,18446744073709551615,18446744073709551615,18446744073709551615]:=Zje (by decide)
theorem v_p:v64 [4294967295,18446744069414584320,18446744073709551614,18446744073709551615,18446744073709551615,18446744073709551615]=PP:=by decide +kernel
theorem fits_3:Zaz [3,0,0,0,0,0]:=Zje (by decide)
theorem v_3:v64 [3,0,0,0,0,0]=3:=by decide +kernel
def bnN (A B:List Int):Int:=if A=[0,0,0,0,0,0]∧B=[0,0,0,0,0,0] then 1 else 0
theorem bn_and (A B:List Int):bits .and .u64 (ZdZ A [0,0,0,0,0,0]) (ZdZ B [0,0,0,0,0,0])=bnN A B:=by
 unfold ZdZ bnN
 by_cases h1:A=[0,0,0,0,0,0]<;>by_cases h2:B=[0,0,0,0,0,0]<;>simp only[h1,h2,if_true,if_false,and_true,and_false]<;>decide
theorem bn_or (A B:List Int):bnN A B=0∨bnN A B=1:=by unfold bnN;split<;>simp
theorem bn_one (A B:List Int):bnN A B=1↔A=[0,0,0,0,0,0]∧B=[0,0,0,0,0,0]:=by
 unfold bnN
 split<;>rename_i h
 ·exact ⟨fun _=>h,fun _=>rfl⟩
 ·exact ⟨fun k=>absurd k (by decide),fun k=>absurd k h⟩
theorem Zgg {x0 x1 x2 x3 x4 x5 y0 y1 y2 y3 y4 y5 c:Int} {w:World} (fX:Zaz [x0,x1,x2,x3,x4,x5]) (fY:Zaz [y0,y1,y2,y3,y4,y5]) (hc:ZdZ [x0,x1,x2,x3,x4,x5] [y0,y1,y2,y3,y4,y5]=c) :
  Calls Tryz.prog 160 #[.agg #[.int .u64 x0,.int .u64 x1,.int .u64 x2,.int .u64 x3,.int .u64 x4,.int .u64 x5],.agg #[.int .u64 y0,.int .u64 y1,.int .u64 y2,.int .u64 y3,.int .u64 y4,.int .u64 y5]] w fun e w'=>e=.returned (.int .u64 c)∧Below w.heap.size w w':=by
 subst hc;exact Znt _ _ w rfl rfl fX fY
theorem con_bn {x0 x1 x2 x3 x4 x5 y0 y1 y2 y3 y4 y5 c:Int} {w:World} (fX:Zaz [x0,x1,x2,x3,x4,x5]) (fY:Zaz [y0,y1,y2,y3,y4,y5]) (hc:bnN [x0,x1,x2,x3,x4,x5] [y0,y1,y2,y3,y4,y5]=c) :
    Calls Tryz.prog 205 #[.agg #[.int .u64 x0,.int .u64 x1,.int .u64 x2,.int .u64 x3,.int .u64 x4,.int .u64 x5],.agg #[.int .u64 y0,.int .u64 y1,.int .u64 y2,.int .u64 y3,.int .u64 y4,.int .u64 y5]] w fun e w'=>e=.returned (.int .u64 c)∧Below w.heap.size w w':=by
  obtain⟨c1,h1⟩:∃ c,ZdZ [x0,x1,x2,x3,x4,x5] [0,0,0,0,0,0]=c:=⟨_,rfl⟩;obtain ⟨c2,h2⟩:∃ c,ZdZ [y0,y1,y2,y3,y4,y5] [0,0,0,0,0,0]=c:=⟨_,rfl⟩;have e:=bn_and [x0,x1,x2,x3,x4,x5] [y0,y1,y2,y3,y4,y5];rw[h1,h2,hc] at e;have H1:Hid (ZdZ [x0,x1,x2,x3,x4,x5] [0,0,0,0,0,0]=c1):=h1;have H2:Hid (ZdZ [y0,y1,y2,y3,y4,y5] [0,0,0,0,0,0]=c2):=h2;have HE:Hid (bits .and .u64 c1 c2=c):=e;clear hc h1 h2 e;have B0:=(Blk.new w [.int .u64 x0,.int .u64 x1,.int .u64 x2,.int .u64 x3,.int .u64 x4,.int .u64 x5] 27 (w.heap.size) rfl).alloc (.cells [.int .u64 y0,.int .u64 y1,.int .u64 y2,.int .u64 y3,.int .u64 y4,.int .u64 y5].toArray 27);have B1:=Blk.new (w.alloc (.cells [.int .u64 x0,.int .u64 x1,.int .u64 x2,.int .u64 x3,.int .u64 x4,.int .u64 x5].toArray 27)) [.int .u64 y0,.int .u64 y1,.int .u64 y2,.int .u64 y3,.int .u64 y4,.int .u64 y5] 27 (w.heap.size+1) (by simp);have bel:Below w.heap.size w ((w.alloc (.cells [.int .u64 x0,.int .u64 x1,.int .u64 x2,.int .u64 x3,.int .u64 x4,.int .u64 x5].toArray 27)).alloc (.cells [.int .u64 y0,.int .u64 y1,.int .u64 y2,.int .u64 y3,.int .u64 y4,.int .u64 y5].toArray 27)):=(((Below.refl _ _).alloc (Nat.le_refl _) _).alloc (by simp) _);go_enter Tryz.func205,Tryz.ntmps205;go_upto_region 1 with fail
  try simp only[us,List.map_cons,List.map_nil] at bel
  generalize ((w.alloc (Obj.cells #[.int .u64 x0,.int .u64 x1,.int .u64 x2,.int .u64 x3,.int .u64 x4,.int .u64 x5] 27)).alloc (Obj.cells #[.int .u64 y0,.int .u64 y1,.int .u64 y2,.int .u64 y3,.int .u64 y4,.int .u64 y5] 27))=W at *;obtain ⟨S1,hS1,KL1,KA1,KD1,KS1,KQ1,KN1,KB1,KM1,KR1⟩:=Zjg (w0:=w) (W:=W) [(w.heap.size,[.int .u64 x0,.int .u64 x1,.int .u64 x2,.int .u64 x3,.int .u64 x4,.int .u64 x5]),(w.heap.size+1,[.int .u64 y0,.int .u64 y1,.int .u64 y2,.int .u64 y3,.int .u64 y4,.int .u64 y5])] (by
    intro b X h;simp only[List.mem_cons,List.not_mem_nil,or_false,Prod.mk.injEq] at h;rcases h with ⟨rfl,rfl⟩|⟨rfl,rfl⟩
    · exact B0
    · exact B1) bel
  have kb1a:∀ wx,Hd S1 wx→Blk wx (w.heap.size) [.int .u64 x0,.int .u64 x1,.int .u64 x2,.int .u64 x3,.int .u64 x4,.int .u64 x5]:=fun wx h=>KM1.out wx _ _ h (by simp);have c1a0:=ZaM kb1a 0 _ rfl;have c1a1:=ZaM kb1a 1 _ rfl;have c1a2:=ZaM kb1a 2 _ rfl;have c1a3:=ZaM kb1a 3 _ rfl;have c1a4:=ZaM kb1a 4 _ rfl;have c1a5:=ZaM kb1a 5 _ rfl;have c1al:=Zg5 kb1a;clear kb1a;have kb1b:∀ wx,Hd S1 wx→Blk wx (w.heap.size+1) [.int .u64 y0,.int .u64 y1,.int .u64 y2,.int .u64 y3,.int .u64 y4,.int .u64 y5]:=fun wx h=>KM1.out wx _ _ h (by simp);have c1b0:=ZaM kb1b 0 _ rfl;have c1b1:=ZaM kb1b 1 _ rfl;have c1b2:=ZaM kb1b 2 _ rfl;have c1b3:=ZaM kb1b 3 _ rfl;have c1b4:=ZaM kb1b 4 _ rfl;have c1b5:=ZaM kb1b 5 _ rfl;have c1bl:=Zg5 kb1b;clear kb1b;have hN1:=bel.size;clear bel B0 B1;go_region_held3 (Hd S1)
    (first
      | with_reducible exact KL1.out _ _ (by assumption) hb
      | with_reducible exact KA1.out _ _ (by assumption)
      | with_reducible exact KS1.out _ _ _ (by omega) (by assumption)
      | with_reducible exact KD1.out _ hS1
      | with_reducible exact KD1.out _ (KA1.out _ _ hS1)
      | with_reducible assumption)
    (first
      | (go_at_call 160;go_fit (Zgg fX (ZcC 6) H1.out);rintro e w' ⟨rfl,hb⟩)
      | (go_at_call 160;go_fit (Zgg fY (ZcC 6) H2.out);rintro e w' ⟨rfl,hb⟩))
  all_goals go_wp2
  all_goals (go_ret;exact ⟨by rw[← HE.out];rfl,KB1.out _ (by assumption)⟩)
theorem ZgE {x0 x1 x2 x3 x4 x5 c:Int} {w:World} (G:Gls w) (fX:Zaz [x0,x1,x2,x3,x4,x5]) (hc:Zdv [x0,x1,x2,x3,x4,x5] [4294967295,18446744069414584320,18446744073709551614,18446744073709551615,18446744073709551615,18446744073709551615]=c) :
    Calls Tryz.prog 212 #[.agg #[.int .u64 x0,.int .u64 x1,.int .u64 x2,.int .u64 x3,.int .u64 x4,.int .u64 x5]] w fun e w'=>e=.returned (.int .u64 c)∧Below w.heap.size w w':=by
  have HC:Hid (Zdv [x0,x1,x2,x3,x4,x5] [4294967295,18446744069414584320,18446744073709551614,18446744073709551615,18446744073709551615,18446744073709551615]=c):=hc;clear hc;have B0:=Blk.new w [.int .u64 x0,.int .u64 x1,.int .u64 x2,.int .u64 x3,.int .u64 x4,.int .u64 x5] 27 (w.heap.size) rfl;have bel:Below w.heap.size w (w.alloc (.cells [.int .u64 x0,.int .u64 x1,.int .u64 x2,.int .u64 x3,.int .u64 x4,.int .u64 x5].toArray 27)):=((Below.refl _ _).alloc (Nat.le_refl _) _);go_enter Tryz.func212,Tryz.ntmps212;go_upto_region 1 with fail
  try simp only[us,List.map_cons,List.map_nil] at bel
  generalize (w.alloc (Obj.cells #[.int .u64 x0,.int .u64 x1,.int .u64 x2,.int .u64 x3,.int .u64 x4,.int .u64 x5] 27))=W at *;obtain ⟨S1,hS1,KL1,KA1,KD1,KS1,KQ1,KN1,KB1,KM1,KR1⟩:=Zjg (w0:=w) (W:=W) [(w.heap.size,[.int .u64 x0,.int .u64 x1,.int .u64 x2,.int .u64 x3,.int .u64 x4,.int .u64 x5])] (by
    intro b X h;simp only[List.mem_cons,List.not_mem_nil,or_false,Prod.mk.injEq] at h;rcases h with ⟨rfl,rfl⟩
    · exact B0) bel
  have kb1a:∀ wx,Hd S1 wx→Blk wx (w.heap.size) [.int .u64 x0,.int .u64 x1,.int .u64 x2,.int .u64 x3,.int .u64 x4,.int .u64 x5]:=fun wx h=>KM1.out wx _ _ h (by simp);have c1a0:=ZaM kb1a 0 _ rfl;have c1a1:=ZaM kb1a 1 _ rfl;have c1a2:=ZaM kb1a 2 _ rfl;have c1a3:=ZaM kb1a 3 _ rfl;have c1a4:=ZaM kb1a 4 _ rfl;have c1a5:=ZaM kb1a 5 _ rfl;have c1al:=Zg5 kb1a;clear kb1a;have hN1:=bel.size;clear bel B0;go_region_held3 (Hd S1)
    (first
      | with_reducible exact KL1.out _ _ (by assumption) hb
      | with_reducible exact KA1.out _ _ (by assumption)
      | with_reducible exact KS1.out _ _ _ (by omega) (by assumption)
      | with_reducible exact KD1.out _ hS1
      | with_reducible exact KD1.out _ (KA1.out _ _ hS1)
      | with_reducible assumption)
    (first
      | (go_at_call 235;go_fit (fp (G.below (KB1.out _ (by first|with_reducible assumption|with_reducible exact KA1.out _ _ (by assumption)|with_reducible exact KD1.out _ (by assumption)))));rintro e w' ⟨rfl,hb⟩)
      | (go_at_call 206;go_fit (less6 fX fits_p);rintro e w' ⟨rfl,hb⟩))
  all_goals go_wp2
  all_goals (go_ret;exact ⟨by rw[← HC.out];rfl,KB1.out _ (by assumption)⟩)
def hoN (x y:Int):Int:=if (y*y-(x*x*x-3*x+BB))%PP=0 then 1 else 0
theorem Zjh {S T:List Int} {x y c q r k:Int} (lS:S.length=6) (lT:T.length=6) (fS:Zaz S) (fT:Zaz T) (hS:v64 S=(y*y)%PP) (hk:q=(x*x)%PP∧r=(q-3)%PP∧k=(x*r)%PP) (hT:v64 T=(k+BB)%PP) (hc:hoN x y=c):ZdZ S T=c:=by
 obtain⟨hq,hr,hk⟩:=hk;have e1:=ZdD (x*x);rw[← hq] at e1;have e2:=ZdD (q-3);rw[← hr] at e2;have e3:=ZdD (x*r);rw[← hk] at e3;have e:Nu (k+BB-(x*x*x-3*x+BB)):=nu_of3 e3 1 e2 x e1 x (by grind);rw[← hc];unfold ZdZ hoN;have iff1:S=T↔(y*y-(x*x*x-3*x+BB))%PP=0:=by
  rw[← ZfD];constructor
  ·rintro rfl
   have h:Nu (y*y-(k+BB)):=ZfD.2 (Int.emod_eq_emod_iff_emod_sub_eq_zero.1 (hS.symm.trans hT));exact Zit h 1 e 1 (by grind)
  ·intro h
   have h2:Nu (y*y-(k+BB)):=Zit h 1 e (-1) (by grind);exact ZhW _ _ (by rw[lS,lT]) fS fT (by rw[hS,hT];exact nu_eq h2)
 by_cases h:S=T
 ·rw[if_pos h,if_pos (iff1.1 h)]
 ·rw[if_neg h,if_neg (fun k=>h (iff1.2 k))]
theorem ho_or (x y:Int):hoN x y=0∨hoN x y=1:=by unfold hoN;split<;>simp
theorem ho_one (x y:Int):hoN x y=1↔Nu (y*y-(x*x*x-3*x+BB)):=by
 rw[ZfD];unfold hoN
 split<;>rename_i h
 ·exact ⟨fun _=>h,fun _=>rfl⟩
 ·exact ⟨fun k=>absurd k (by decide),fun k=>absurd k h⟩
theorem ZkC (A B:List Int):Zdv A B=0∨Zdv A B=1:=by unfold Zdv;split<;>simp
theorem Zin (A B:List Int):Zdv A B=1↔v64 A<v64 B:=by
 unfold Zdv
 split<;>rename_i h
 ·exact ⟨fun _=>h,fun _=>rfl⟩
 ·exact ⟨fun k=>absurd k (by decide),fun k=>absurd k h⟩
theorem Zjo:¬ Aff 0 0:=fun h=>absurd h.cu (by unfold Nu;decide +kernel)
theorem num_01 (c l1 l2 o:Int) (h0:c=0∨c=1) (h1:l1=0∨l1=1) (h2:l2=0∨l2=1) (h3:o=0∨o=1):(bits .or .u64 c (bits .and .u64 (bits .and .u64 l1 l2) o)=0∨bits .or .u64 c (bits .and .u64 (bits .and .u64 l1 l2) o)=1)∧(bits .or .u64 c (bits .and .u64 (bits .and .u64 l1 l2) o)=1↔c=1∨(l1=1∧l2=1∧o=1)):=by
 rcases h0 with rfl|rfl<;>rcases h1 with rfl|rfl<;>rcases h2 with rfl|rfl<;>rcases h3 with rfl|rfl<;>decide
theorem on_val {x0 x1 x2 x3 x4 x5 y0 y1 y2 y3 y4 y5:Int} {n b:Bool} (fX:Zaz [x0,x1,x2,x3,x4,x5]) (fY:Zaz [y0,y1,y2,y3,y4,y5]) (hb:b=true↔Zd5 n (v64 [x0,x1,x2,x3,x4,x5]) (v64 [y0,y1,y2,y3,y4,y5])) {c l1 l2 o f:Int} (hc:bnN [x0,x1,x2,x3,x4,x5] [y0,y1,y2,y3,y4,y5]=c) (h1:Zdv [x0,x1,x2,x3,x4,x5] [4294967295,18446744069414584320,18446744073709551614,18446744073709551615,18446744073709551615,18446744073709551615]=l1) (h2:Zdv [y0,y1,y2,y3,y4,y5] [4294967295,18446744069414584320,18446744073709551614,18446744073709551615,18446744073709551615,18446744073709551615]=l2) (h3:hoN (v64 [x0,x1,x2,x3,x4,x5]) (v64 [y0,y1,y2,y3,y4,y5])=o) (hf:bits .or .u64 c (bits .and .u64 (bits .and .u64 l1 l2) o)=f) :
  (f=0∨f=1)∧(c=0∨c=1)∧(decide (f=1) && (n == decide (c=1)))=b:=by
 have c01:c=0∨c=1:=hc ▸ bn_or _ _;have k:=num_01 c l1 l2 o c01 (h1 ▸ ZkC _ _) (h2 ▸ ZkC _ _) (h3 ▸ ho_or _ _);rw[hf] at k;refine ⟨k.1,c01,?_⟩;have c1:c=1↔v64 [x0,x1,x2,x3,x4,x5]=0∧v64 [y0,y1,y2,y3,y4,y5]=0:=by rw[← hc,bn_one,Zgl fX,Zgl fY]
 have ho:(l1=1∧l2=1∧o=1)↔Aff (v64 [x0,x1,x2,x3,x4,x5]) (v64 [y0,y1,y2,y3,y4,y5]):=by
  rw[← h1,← h2,← h3,Zin,Zin,ho_one,v_p];exact ⟨fun h=>⟨⟨(ZaN _ rfl fX).1,h.1⟩,⟨(ZaN _ rfl fY).1,h.2.1⟩,h.2.2⟩,fun h=>⟨h.lx.2,h.ly.2,h.cu⟩⟩
 rw[ho] at k;have hbe:b=decide (b=true):=by cases b<;>rfl
 rw[hbe,Bool.eq_iff_iff,decide_eq_true_iff,hb,Bool.and_eq_true,decide_eq_true_iff,beq_iff_eq];unfold Zd5;rw[k.2]
 by_cases q:c=1
 ·have z:=c1.1 q
  rw[z.1,z.2];have na:=Zjo
  cases n<;>simp[q,na]
 ·have nz:¬ (v64 [x0,x1,x2,x3,x4,x5]=0∧v64 [y0,y1,y2,y3,y4,y5]=0):=fun h=>q (c1.2 h)
  cases n<;>simp[q,nz]
theorem Zkv {s0 s1 s2 s3 s4 s5 t0 t1 t2 t3 t4 t5 x y c k:Int} (fS:Zaz [s0,s1,s2,s3,s4,s5]) (fT:Zaz [t0,t1,t2,t3,t4,t5]) (hS:v64 [s0,s1,s2,s3,s4,s5]=(y*y)%PP) (hk:∃ q r,q=(x*x)%PP∧r=(q-3)%PP∧k=(x*r)%PP) (hT:v64 [t0,t1,t2,t3,t4,t5]=(k+v64 [3064076045283764975,14291673747578343837,221811693264799578,1737717031765098770,10992729701402291481,12912154004749740004])%PP) (hc:hoN x y=c):ZdZ [s0,s1,s2,s3,s4,s5] [t0,t1,t2,t3,t4,t5]=c:=by
 obtain⟨q,r,hk⟩:=hk;exact Zjh rfl rfl fS fT hS hk (by rw[← v_b];exact hT) hc
theorem Zke {x0 x1 x2 x3 x4 x5 y0 y1 y2 y3 y4 y5 c:Int} {w:World} (G:Zel w) (fX:Zaz [x0,x1,x2,x3,x4,x5]) (fY:Zaz [y0,y1,y2,y3,y4,y5]) (hc:hoN (v64 [x0,x1,x2,x3,x4,x5]) (v64 [y0,y1,y2,y3,y4,y5])=c) :
    Calls Tryz.prog 213 #[.agg #[.int .u64 x0,.int .u64 x1,.int .u64 x2,.int .u64 x3,.int .u64 x4,.int .u64 x5],.agg #[.int .u64 y0,.int .u64 y1,.int .u64 y2,.int .u64 y3,.int .u64 y4,.int .u64 y5]] w fun e w'=>e=.returned (.int .u64 c)∧Below w.heap.size w w':=by
  have HC:Hid (hoN (v64 [x0,x1,x2,x3,x4,x5]) (v64 [y0,y1,y2,y3,y4,y5])=c):=hc;clear hc;have B0:=(Blk.new w [.int .u64 x0,.int .u64 x1,.int .u64 x2,.int .u64 x3,.int .u64 x4,.int .u64 x5] 27 (w.heap.size) rfl).alloc (.cells [.int .u64 y0,.int .u64 y1,.int .u64 y2,.int .u64 y3,.int .u64 y4,.int .u64 y5].toArray 27);have B1:=Blk.new (w.alloc (.cells [.int .u64 x0,.int .u64 x1,.int .u64 x2,.int .u64 x3,.int .u64 x4,.int .u64 x5].toArray 27)) [.int .u64 y0,.int .u64 y1,.int .u64 y2,.int .u64 y3,.int .u64 y4,.int .u64 y5] 27 (w.heap.size+1) (by simp);have bel:Below w.heap.size w ((w.alloc (.cells [.int .u64 x0,.int .u64 x1,.int .u64 x2,.int .u64 x3,.int .u64 x4,.int .u64 x5].toArray 27)).alloc (.cells [.int .u64 y0,.int .u64 y1,.int .u64 y2,.int .u64 y3,.int .u64 y4,.int .u64 y5].toArray 27)):=(((Below.refl _ _).alloc (Nat.le_refl _) _).alloc (by simp) _);go_enter Tryz.func213,Tryz.ntmps213;go_upto_region 1 with fail
  try simp only[us,List.map_cons,List.map_nil] at bel
  generalize ((w.alloc (Obj.cells #[.int .u64 x0,.int .u64 x1,.int .u64 x2,.int .u64 x3,.int .u64 x4,.int .u64 x5] 27)).alloc (Obj.cells #[.int .u64 y0,.int .u64 y1,.int .u64 y2,.int .u64 y3,.int .u64 y4,.int .u64 y5] 27))=W at *;obtain ⟨S1,hS1,KL1,KA1,KD1,KS1,KQ1,KN1,KB1,KM1,KR1⟩:=Zjg (w0:=w) (W:=W) [(w.heap.size,[.int .u64 x0,.int .u64 x1,.int .u64 x2,.int .u64 x3,.int .u64 x4,.int .u64 x5]),(w.heap.size+1,[.int .u64 y0,.int .u64 y1,.int .u64 y2,.int .u64 y3,.int .u64 y4,.int .u64 y5])] (by
    intro b X h;simp only[List.mem_cons,List.not_mem_nil,or_false,Prod.mk.injEq] at h;rcases h with ⟨rfl,rfl⟩|⟨rfl,rfl⟩
    · exact B0
    · exact B1) bel
  have kb1a:∀ wx,Hd S1 wx→Blk wx (w.heap.size) [.int .u64 x0,.int .u64 x1,.int .u64 x2,.int .u64 x3,.int .u64 x4,.int .u64 x5]:=fun wx h=>KM1.out wx _ _ h (by simp);have c1a0:=ZaM kb1a 0 _ rfl;have c1a1:=ZaM kb1a 1 _ rfl;have c1a2:=ZaM kb1a 2 _ rfl;have c1a3:=ZaM kb1a 3 _ rfl;have c1a4:=ZaM kb1a 4 _ rfl;have c1a5:=ZaM kb1a 5 _ rfl;have c1al:=Zg5 kb1a;clear kb1a;have kb1b:∀ wx,Hd S1 wx→Blk wx (w.heap.size+1) [.int .u64 y0,.int .u64 y1,.int .u64 y2,.int .u64 y3,.int .u64 y4,.int .u64 y5]:=fun wx h=>KM1.out wx _ _ h (by simp);have c1b0:=ZaM kb1b 0 _ rfl;have c1b1:=ZaM kb1b 1 _ rfl;have c1b2:=ZaM kb1b 2 _ rfl;have c1b3:=ZaM kb1b 3 _ rfl;have c1b4:=ZaM kb1b 4 _ rfl;have c1b5:=ZaM kb1b 5 _ rfl;have c1bl:=Zg5 kb1b;clear kb1b;have hN1:=bel.size;clear bel B0 B1;go_cut [5] (fun p wx=>∃ (b:Nat) (k0 k1 k2 k3 k4 k5:Int),p=.pointer (some ⟨b,0,none⟩)∧W.heap.size≤b∧Zaz [k0,k1,k2,k3,k4,k5]∧Hid (∃ q r,q=(v64 [x0,x1,x2,x3,x4,x5]*v64 [x0,x1,x2,x3,x4,x5])%PP∧r=(q-3)%PP∧v64 [k0,k1,k2,k3,k4,k5]=(v64 [x0,x1,x2,x3,x4,x5]*r)%PP)∧Blk wx b (us [k0,k1,k2,k3,k4,k5])∧Hd S1 wx)
  case first =>
    go_region_held3 (Hd S1)
      (first
        | with_reducible exact (KQ1.out _ _ _ _ (KQ1.out _ _ _ _ (KQ1.out _ _ _ _ (KQ1.out _ _ _ _ (KQ1.out _ _ _ _ (KQ1.out _ _ _ _ (by assumption) (Or.inl (by omega)) (by omega)) (Or.inl (by omega)) (by omega)) (Or.inl (by omega)) (by omega)) (Or.inl (by omega)) (by omega)) (Or.inl (by omega)) (by omega)) (Or.inl (by omega)) (by omega))
        | with_reducible exact KL1.out _ _ (by assumption) hb
        | with_reducible exact KA1.out _ _ (by assumption)
        | with_reducible exact KS1.out _ _ _ (by omega) (by assumption)
        | with_reducible exact KD1.out _ hS1
        | with_reducible exact KD1.out _ (KA1.out _ _ hS1)
        | with_reducible assumption)
      (first
        | (go_at_call 232;go_fit (Zot (G.below (KB1.out _ (by first|with_reducible assumption|with_reducible exact KA1.out _ _ (by assumption)|with_reducible exact KD1.out _ (by assumption)))).fld fX fX);rintro e w' ⟨q0,q1,q2,q3,q4,q5,rfl,fQ,hv,hb⟩;have HQ:Hid _:=hv;clear hv;(first|replace BN:=BN.later hb|with_reducible have BN:=Wr6.later Wr6.new hb|with_reducible have BN:=Wr6.later (Wr6.drew Wr6.new) hb|skip);have hlt:=KN1.out _ (KL1.out _ _ (by assumption) hb))
        | (go_at_call 231;go_fit (fsub6 (G.below (KB1.out _ (by first|with_reducible assumption|with_reducible exact KA1.out _ _ (by assumption)|with_reducible exact KD1.out _ (by assumption)))).fld fQ fits_3);rintro e w' ⟨r0,r1,r2,r3,r4,r5,rfl,fR,hv,hb⟩;have HR:Hid _:=hv;clear hv;(first|replace BN:=BN.later hb|with_reducible have BN:=Wr6.later Wr6.new hb|with_reducible have BN:=Wr6.later (Wr6.drew Wr6.new) hb|skip);have hlt:=KN1.out _ (KL1.out _ _ (by assumption) hb))
        | (go_at_call 232;go_fit (Zot (G.below (KB1.out _ (by first|with_reducible assumption|with_reducible exact KA1.out _ _ (by assumption)|with_reducible exact KD1.out _ (by assumption)))).fld fX fR);rintro e w' ⟨k0,k1,k2,k3,k4,k5,rfl,fK,hv,hb⟩;have HK:Hid _:=hv;clear hv;(first|replace BN:=BN.later hb|with_reducible have BN:=Wr6.later Wr6.new hb|with_reducible have BN:=Wr6.later (Wr6.drew Wr6.new) hb|skip);have hlt:=KN1.out _ (KL1.out _ _ (by assumption) hb);(first|(obtain ⟨o0,o1,o2,o3,o4,o5,⟨j0,j1,j2,j3,j4,j5⟩,⟨i0,i1,i2,i3,i4,i5⟩⟩:=BN.cells)|skip)))
    all_goals
      go_wp2_with fail;go_meet;refine ⟨_,k0,k1,k2,k3,k4,k5,rfl,by omega,fK,⟨_,_,HQ.out,by rw[← v_3];exact HR.out,HK.out⟩,?_,by with_reducible assumption⟩
      first
        | with_reducible exact Wr6.is BN
        | exact Blk.new w' (us [k0,k1,k2,k3,k4,k5]) 27 w'.heap.size rfl
  case rest =>
    clear hS1;obtain ⟨bk,k0,k1,k2,k3,k4,k5,rfl,hbk,fK,HK,BK,hS1⟩:=hcut;simp only[us,List.map_cons,List.map_nil] at BK;have BY:=KM1.out _ (w.heap.size+1) _ hS1 (List.mem_cons_of_mem _ List.mem_cons_self);have bel:=KB1.out _ hS1;go_upto_region 2 with fail;obtain ⟨S2,hS2,KL2,KA2,KD2,KS2,KQ2,KN2,KB2,KM2,KR2⟩:=Zjg (w0:=w) (W:=_) [(w.heap.size+1,[.int .u64 y0,.int .u64 y1,.int .u64 y2,.int .u64 y3,.int .u64 y4,.int .u64 y5]),(bk,[.int .u64 k0,.int .u64 k1,.int .u64 k2,.int .u64 k3,.int .u64 k4,.int .u64 k5])] (by
      intro b X h;simp only[List.mem_cons,List.not_mem_nil,or_false,Prod.mk.injEq] at h;rcases h with ⟨rfl,rfl⟩|⟨rfl,rfl⟩
      · exact BY
      · exact BK) bel
    have kb2a:∀ wx,Hd S2 wx→Blk wx (w.heap.size+1) [.int .u64 y0,.int .u64 y1,.int .u64 y2,.int .u64 y3,.int .u64 y4,.int .u64 y5]:=fun wx h=>KM2.out wx _ _ h (by simp);have c2a0:=ZaM kb2a 0 _ rfl;have c2a1:=ZaM kb2a 1 _ rfl;have c2a2:=ZaM kb2a 2 _ rfl;have c2a3:=ZaM kb2a 3 _ rfl;have c2a4:=ZaM kb2a 4 _ rfl;have c2a5:=ZaM kb2a 5 _ rfl;have c2al:=Zg5 kb2a;clear kb2a;have kb2b:∀ wx,Hd S2 wx→Blk wx (bk) [.int .u64 k0,.int .u64 k1,.int .u64 k2,.int .u64 k3,.int .u64 k4,.int .u64 k5]:=fun wx h=>KM2.out wx _ _ h (by simp);have c2b0:=ZaM kb2b 0 _ rfl;have c2b1:=ZaM kb2b 1 _ rfl;have c2b2:=ZaM kb2b 2 _ rfl;have c2b3:=ZaM kb2b 3 _ rfl;have c2b4:=ZaM kb2b 4 _ rfl;have c2b5:=ZaM kb2b 5 _ rfl;have c2bl:=Zg5 kb2b;clear kb2b;have hN2:=bel.size;clear bel BY BK hS1;have cg0:∀ wx,Hd S2 wx→wx.cell? ⟨3,0,none⟩=some (.int .u64 3064076045283764975):=fun wx h=>(G.below (KB2.out wx h)).2.1.1;have cg1:∀ wx,Hd S2 wx→wx.cell? ⟨3,1,none⟩=some (.int .u64 14291673747578343837):=fun wx h=>(G.below (KB2.out wx h)).2.1.2.1;have cg2:∀ wx,Hd S2 wx→wx.cell? ⟨3,2,none⟩=some (.int .u64 221811693264799578):=fun wx h=>(G.below (KB2.out wx h)).2.1.2.2.1;have cg3:∀ wx,Hd S2 wx→wx.cell? ⟨3,3,none⟩=some (.int .u64 1737717031765098770):=fun wx h=>(G.below (KB2.out wx h)).2.1.2.2.2.1;have cg4:∀ wx,Hd S2 wx→wx.cell? ⟨3,4,none⟩=some (.int .u64 10992729701402291481):=fun wx h=>(G.below (KB2.out wx h)).2.1.2.2.2.2.1;have cg5:∀ wx,Hd S2 wx→wx.cell? ⟨3,5,none⟩=some (.int .u64 12912154004749740004):=fun wx h=>(G.below (KB2.out wx h)).2.1.2.2.2.2.2;have cgl:∀ wx,Hd S2 wx→3<wx.heap.size:=fun wx h=>(G.below (KB2.out wx h)).lts.1;go_region_held3 (Hd S2)
      (first
        | with_reducible exact KL2.out _ _ (by assumption) hb
        | with_reducible exact KA2.out _ _ (by assumption)
        | with_reducible exact KS2.out _ _ _ (by omega) (by assumption)
        | with_reducible exact KD2.out _ hS2
        | with_reducible exact KD2.out _ (KA2.out _ _ hS2)
        | with_reducible assumption)
      (first
        | (go_at_call 232;go_fit (Zot (G.below (KB2.out _ (by first|with_reducible assumption|with_reducible exact KA2.out _ _ (by assumption)|with_reducible exact KD2.out _ (by assumption)))).fld fY fY);rintro e w' ⟨s0,s1,s2,s3,s4,s5,rfl,fS,hv,hb⟩;have HS:Hid _:=hv;clear hv)
        | (go_at_call 236;go_fit (fadd6 (G.below (KB2.out _ (by first|with_reducible assumption|with_reducible exact KA2.out _ _ (by assumption)|with_reducible exact KD2.out _ (by assumption)))).fld fK fits_b);rintro e w' ⟨t0,t1,t2,t3,t4,t5,rfl,fT,hv,hb⟩;have HT:Hid _:=hv;clear hv)
        | (go_at_call 160;go_fit (Zgg fS fT (Zkv fS fT HS.out HK.out HT.out HC.out));rintro e w' ⟨rfl,hb⟩))
    all_goals go_wp2
    all_goals (go_ret;exact ⟨rfl,KB2.out _ (by assumption)⟩)
theorem ZhA {x0 x1 x2 x3 x4 x5 y0 y1 y2 y3 y4 y5:Int} {n b:Bool} {w:World} (G:Zel w) (fX:Zaz [x0,x1,x2,x3,x4,x5]) (fY:Zaz [y0,y1,y2,y3,y4,y5]) (hb:b=true↔Zd5 n (v64 [x0,x1,x2,x3,x4,x5]) (v64 [y0,y1,y2,y3,y4,y5])) :
    Calls Tryz.prog 173 #[.agg #[.int .u64 x0,.int .u64 x1,.int .u64 x2,.int .u64 x3,.int .u64 x4,.int .u64 x5,.int .u64 y0,.int .u64 y1,.int .u64 y2,.int .u64 y3,.int .u64 y4,.int .u64 y5,.bool n]] w fun e w'=>e=.returned (.bool b)∧Below w.heap.size w w':=by
  obtain⟨c,hc⟩:∃ c,bnN [x0,x1,x2,x3,x4,x5] [y0,y1,y2,y3,y4,y5]=c:=⟨_,rfl⟩;obtain ⟨l1,h1⟩:∃ c,Zdv [x0,x1,x2,x3,x4,x5] [4294967295,18446744069414584320,18446744073709551614,18446744073709551615,18446744073709551615,18446744073709551615]=c:=⟨_,rfl⟩;obtain ⟨l2,h2⟩:∃ c,Zdv [y0,y1,y2,y3,y4,y5] [4294967295,18446744069414584320,18446744073709551614,18446744073709551615,18446744073709551615,18446744073709551615]=c:=⟨_,rfl⟩;obtain ⟨o,h3⟩:∃ c,hoN (v64 [x0,x1,x2,x3,x4,x5]) (v64 [y0,y1,y2,y3,y4,y5])=c:=⟨_,rfl⟩;obtain ⟨f,hf⟩:∃ f,bits .or .u64 c (bits .and .u64 (bits .and .u64 l1 l2) o)=f:=⟨_,rfl⟩;obtain ⟨f01,c01,hv⟩:=on_val fX fY hb hc h1 h2 h3 hf;have HC:Hid (bnN [x0,x1,x2,x3,x4,x5] [y0,y1,y2,y3,y4,y5]=c):=hc;have H1:Hid (Zdv [x0,x1,x2,x3,x4,x5] [4294967295,18446744069414584320,18446744073709551614,18446744073709551615,18446744073709551615,18446744073709551615]=l1):=h1;have H2:Hid (Zdv [y0,y1,y2,y3,y4,y5] [4294967295,18446744069414584320,18446744073709551614,18446744073709551615,18446744073709551615,18446744073709551615]=l2):=h2;have H3:Hid (hoN (v64 [x0,x1,x2,x3,x4,x5]) (v64 [y0,y1,y2,y3,y4,y5])=o):=h3;have HF:Hid (bits .or .u64 c (bits .and .u64 (bits .and .u64 l1 l2) o)=f):=hf;have F01:Hid (f=0∨f=1):=f01;have C01:Hid (c=0∨c=1):=c01;have HV:Hid ((decide (f=1) && (n == decide (c=1)))=b):=hv;clear hb hc h1 h2 h3 hf f01 c01 hv;have B0:=Blk.new w [.int .u64 x0,.int .u64 x1,.int .u64 x2,.int .u64 x3,.int .u64 x4,.int .u64 x5,.int .u64 y0,.int .u64 y1,.int .u64 y2,.int .u64 y3,.int .u64 y4,.int .u64 y5,.bool n] 29 (w.heap.size) rfl;have bel:Below w.heap.size w (w.alloc (.cells [.int .u64 x0,.int .u64 x1,.int .u64 x2,.int .u64 x3,.int .u64 x4,.int .u64 x5,.int .u64 y0,.int .u64 y1,.int .u64 y2,.int .u64 y3,.int .u64 y4,.int .u64 y5,.bool n].toArray 29)):=((Below.refl _ _).alloc (Nat.le_refl _) _);go_enter Tryz.func173,Tryz.ntmps173;go_upto_region 1 with fail
  try simp only[us,List.map_cons,List.map_nil] at bel
  generalize (w.alloc (Obj.cells #[.int .u64 x0,.int .u64 x1,.int .u64 x2,.int .u64 x3,.int .u64 x4,.int .u64 x5,.int .u64 y0,.int .u64 y1,.int .u64 y2,.int .u64 y3,.int .u64 y4,.int .u64 y5,.bool n] 29))=W at *;have Bp:=B0;clear B0;have ltp:=Bp.lt;have cp0:=Bp.cell 0 _ rfl;have cp1:=Bp.cell 1 _ rfl;have cp2:=Bp.cell 2 _ rfl;have cp3:=Bp.cell 3 _ rfl;have cp4:=Bp.cell 4 _ rfl;have cp5:=Bp.cell 5 _ rfl;have cp6:=Bp.cell 6 _ rfl;have cp7:=Bp.cell 7 _ rfl;have cp8:=Bp.cell 8 _ rfl;have cp9:=Bp.cell 9 _ rfl;have cp10:=Bp.cell 10 _ rfl;have cp11:=Bp.cell 11 _ rfl;have cp12:=Bp.cell 12 _ rfl;go_wp2_with fail;refine (con_bn fX fY HC.out).mono ?_;rintro e w1 ⟨rfl,hb⟩;clear ltp cp0 cp1 cp2 cp3 cp4 cp5 cp6 cp7 cp8 cp9 cp10 cp11 cp12;replace Bp:=Bp.later hb;replace bel:=Zaa bel hb;clear hb;go_upto_region 2 with fail;obtain ⟨S1,hS1,KL1,KA1,KD1,KS1,KQ1,KN1,KB1,KM1,KR1⟩:=Zjg (w0:=w) (W:=_) [(w.heap.size,[.int .u64 x0,.int .u64 x1,.int .u64 x2,.int .u64 x3,.int .u64 x4,.int .u64 x5,.int .u64 y0,.int .u64 y1,.int .u64 y2,.int .u64 y3,.int .u64 y4,.int .u64 y5,.bool n])] (by
    intro b X h;simp only[List.mem_cons,List.not_mem_nil,or_false,Prod.mk.injEq] at h;rcases h with ⟨rfl,rfl⟩
    · exact Bp) bel
  have kb1a:∀ wx,Hd S1 wx→Blk wx (w.heap.size) [.int .u64 x0,.int .u64 x1,.int .u64 x2,.int .u64 x3,.int .u64 x4,.int .u64 x5,.int .u64 y0,.int .u64 y1,.int .u64 y2,.int .u64 y3,.int .u64 y4,.int .u64 y5,.bool n]:=fun wx h=>KM1.out wx _ _ h (by simp);have c1a0:=ZaM kb1a 0 _ rfl;have c1a1:=ZaM kb1a 1 _ rfl;have c1a2:=ZaM kb1a 2 _ rfl;have c1a3:=ZaM kb1a 3 _ rfl;have c1a4:=ZaM kb1a 4 _ rfl;have c1a5:=ZaM kb1a 5 _ rfl;have c1a6:=ZaM kb1a 6 _ rfl;have c1a7:=ZaM kb1a 7 _ rfl;have c1a8:=ZaM kb1a 8 _ rfl;have c1a9:=ZaM kb1a 9 _ rfl;have c1a10:=ZaM kb1a 10 _ rfl;have c1a11:=ZaM kb1a 11 _ rfl;have c1a12:=ZaM kb1a 12 _ rfl;have c1al:=Zg5 kb1a;clear kb1a;have hN1:=bel.size;clear bel Bp;go_cut [4] (fun p wx=>p=.int .u64 f∧Hd S1 wx)
  case first =>
    go_region_held3 (Hd S1)
      (first
        | with_reducible exact KL1.out _ _ (by assumption) hb
        | with_reducible exact KA1.out _ _ (by assumption)
        | with_reducible exact KS1.out _ _ _ (by omega) (by assumption)
        | with_reducible exact KD1.out _ hS1
        | with_reducible exact KD1.out _ (KA1.out _ _ hS1)
        | with_reducible assumption)
      (first
        | (go_at_call 212;go_fit (ZgE (G.below (KB1.out _ (by first|with_reducible assumption|with_reducible exact KA1.out _ _ (by assumption)|with_reducible exact KD1.out _ (by assumption)))).fld fX H1.out);rintro e w' ⟨rfl,hb⟩)
        | (go_at_call 212;go_fit (ZgE (G.below (KB1.out _ (by first|with_reducible assumption|with_reducible exact KA1.out _ _ (by assumption)|with_reducible exact KD1.out _ (by assumption)))).fld fY H2.out);rintro e w' ⟨rfl,hb⟩)
        | (go_at_call 213;go_fit (Zke (G.below (KB1.out _ (by first|with_reducible assumption|with_reducible exact KA1.out _ _ (by assumption)|with_reducible exact KD1.out _ (by assumption)))) fX fY H3.out);rintro e w' ⟨rfl,hb⟩))
    all_goals
      go_wp2_with fail;go_meet;exact ⟨by rw[← HF.out],by with_reducible assumption⟩
  case rest =>
    clear hS1;obtain ⟨rfl,hS1⟩:=hcut;have d12:=c1a12 _ hS1;have ltp:=c1al _ hS1;clear c1a0 c1a1 c1a2 c1a3 c1a4 c1a5 c1a6 c1a7 c1a8 c1a9 c1a10 c1a11 c1a12 c1al HC H1 H2 H3 HF;obtain f01:=F01.out;obtain c01:=C01.out;clear F01 C01;rcases f01 with rfl|rfl<;>rcases c01 with rfl|rfl<;>cases n
    all_goals go_wp2_with fail
    all_goals (go_ret;exact ⟨by rw[← HV.out];rfl,KB1.out _ hS1⟩)
end Go.Proofs.YtdfmoghjimghhaaGreatDoor
