import Derived.Test.YtohcdbifhnfcbaaGreatDoorBase
import Derived.Test.YtohcdbifhnfcbaaGreatDoorRows
import Derived.Shelf.Spec.BitsCarry
import Derived.Deep.RegionHeld3
import Derived.Deep.QuietTactic
import Derived.BigQuiet
import Derived.Lib.SlFresh
import Derived.Deep.AppendLies
import Derived.Deep.OwnRows
import Derived.Laws.Rows
import Derived.Laws.Tables
import Derived.Tactics
import Derived.Deep.WholeRow
import Derived.Deep.DeepCutAuto
import Derived.Deep.DeepFit
namespace Go.Proofs.YtohcdbifhnfcbaaGreatDoor
open Go.RowKit
set_option linter.unusedSimpArgs false
set_option maxRecDepth 100000
set_option maxHeartbeats 1000000
theorem Znq (x y c:Int) (hx:0≤x∧x<18446744073709551616) (hy:0≤y∧y<18446744073709551616) (hc0:0≤c) (hc:c≤1) (w:World) :
    (callFunc 163 #[.int .u64 x,.int .u64 y,.int .u64 c]).run Tryz.prog w =
      .ok (.value (.tuple #[.int .u64 ((x-y-c)%18446744073709551616),.int .u64 (-((x-y-c)/18446744073709551616))])) w:=by
  obtain⟨x,rfl⟩:=Int.eq_ofNat_of_zero_le hx.1;obtain ⟨y,rfl⟩:=Int.eq_ofNat_of_zero_le hy.1;obtain ⟨c,rfl⟩:=Int.eq_ofNat_of_zero_le hc0;rw[run_callFunc_extern Tryz.func163 (by kernel_rfl) (by kernel_rfl) (by kernel_rfl) (e:=sub64Entry) (by kernel_rfl),run_sub64 x y c (by omega)];have e1:(((x+18446744073709551616-y-c)%18446744073709551616:Nat):Int)=((x:Int)-y-c)%18446744073709551616:=by omega
  have e2:((if x<y+c then 1 else 0:Nat):Int)=-(((x:Int)-y-c)/18446744073709551616):=by
    split<;>omega
  rw[e1,e2]
  rfl
theorem ZpC (A B S:List Int) (k:Nat) (n a b:Int) (lA:A.length=6) (lB:B.length=6) (lS:S.length=6) (hk:k<6) (ha:A.getD k 0=a) (hb:B.getD k 0=b)
  (h:v64 (S.take k)-n*18446744073709551616 ^ k=v64 (A.take k)-v64 (B.take k)) :
  v64 ((S.set k ((a-b-n)%18446744073709551616)).take (k+1))-(-((a-b-n)/18446744073709551616))*18446744073709551616 ^ (k+1)=v64 (A.take (k+1))-v64 (B.take (k+1)):=by
 have e:=Int.mul_ediv_add_emod (a-b-n) 18446744073709551616;simp only[v64] at *;rw[ZcL _ _ k (by simp;omega),ZcL _ A k (by omega),ZcL _ B k (by omega),Zhi,Zbr _ _ _ (by omega),ha,hb,Int.pow_succ];generalize (a-b-n)/18446744073709551616=q at *;generalize (a-b-n)%18446744073709551616=r at *;generalize (18446744073709551616:Int) ^ k=p at *;have e':a=18446744073709551616*q+r+b+n:=by omega
 subst e'
 grind
theorem Zrl (A B:List Int) (w:World) (lA:A.length=6) (lB:B.length=6) (hx:Zdg A) (hy:Zdg B) :
  Calls Tryz.prog 152 #[.agg (us A).toArray,.agg (us B).toArray] w fun e w'=>∃ (S:List Int) (n:Int),e=.returned (.tuple #[.agg (us S).toArray,.int .u64 n])∧S.length=6∧Zdg S∧0≤n∧n≤1 ∧
   v64 S-n*18446744073709551616 ^ 6=v64 A-v64 B∧Below w.heap.size w w':=by
 have b0:=(((Blk.new w (us A) 29 w.heap.size rfl).alloc (.cells (us B).toArray 29)).alloc (.cells (us [0,0,0,0,0,0]).toArray 29)).alloc (.cells (us [0,0,0,0,0,0]).toArray 29);have b1:=((Blk.new (w.alloc (.cells (us A).toArray 29)) (us B) 29 (w.heap.size+1) (by simp)).alloc (.cells (us [0,0,0,0,0,0]).toArray 29)).alloc (.cells (us [0,0,0,0,0,0]).toArray 29);have b2:=(Blk.new ((w.alloc (.cells (us A).toArray 29)).alloc (.cells (us B).toArray 29)) (us [0,0,0,0,0,0]) 29 (w.heap.size+1+1) (by simp)).alloc (.cells (us [0,0,0,0,0,0]).toArray 29);have b3:=Blk.new (((w.alloc (.cells (us A).toArray 29)).alloc (.cells (us B).toArray 29)).alloc (.cells (us [0,0,0,0,0,0]).toArray 29)) (us [0,0,0,0,0,0]) 29 (w.heap.size+1+1+1) (by simp);have hbel:Below w.heap.size w ((((w.alloc (.cells (us A).toArray 29)).alloc (.cells (us B).toArray 29)).alloc (.cells (us [0,0,0,0,0,0]).toArray 29)).alloc (.cells (us [0,0,0,0,0,0]).toArray 29)):=((((Below.refl _ _).alloc (Nat.le_refl _) _).alloc (by simp) _).alloc (by simp;omega) _).alloc (by simp;omega) _;go_enter Tryz.func152,Tryz.ntmps152;go_wp2;go_loopw [7,9] (fun o i wr=>∃ (k:Nat) (n:Int) (S:List Int),k≤6∧i=.int .i64 k∧o=.int .u64 n∧0≤n∧n≤1∧S.length=6∧Zdg S∧v64 (S.take k)-n*18446744073709551616 ^ k=v64 (A.take k)-v64 (B.take k) ∧
   Blk wr w.heap.size (us A)∧Blk wr (w.heap.size+1) (us B)∧Blk wr (w.heap.size+1+1) (us [0,0,0,0,0,0])∧Blk wr (w.heap.size+1+1+1) (us S)∧Below w.heap.size w wr)
  (fun _ i _=>6-(intOf i).toNat)
 case atStart=>exact ⟨0,0,[0,0,0,0,0,0],by omega,rfl,rfl,by omega,by omega,rfl,Zdp 6,by simp[pv],b0,b1,b2,b3,hbel⟩
 case round =>
  obtain⟨k,n,S,hk,rfl,rfl,hn0,hn1,lS,fS,hv,hSA,hSB,hSZ,hSS,hbel⟩:=hrel;clear b0 b1 b2 b3
  by_cases hlt:k<6
  ·obtain ⟨a,hA⟩:∃ a,A.getD k 0=a:=⟨_,rfl⟩
   obtain⟨b,hB⟩:∃ b,B.getD k 0=b:=⟨_,rfl⟩;obtain ⟨s,hS⟩:∃ s,S.getD k 0=s:=⟨_,rfl⟩;have ha:=hSA.cell k _ (Zcl A k (by omega));have hb:=hSB.cell k _ (Zcl B k (by omega));have hs:=hSS.cell k _ (Zcl S k (by omega));rw[hA] at ha;rw[hB] at hb;rw[hS] at hs;have hf:=hSS.frozen k;have hax:0≤a∧a<18446744073709551616:=hA ▸ hx k;have hbx:0≤b∧b<18446744073709551616:=hB ▸ hy k;have hadd:=Znq a b n hax hbx hn0 hn1;have st:Hid _:=ZpC A B S k n a b lA lB lS hlt hA hB hv;have q0:0≤-((a-b-n)/18446744073709551616):=by omega
   have q1:-((a-b-n)/18446744073709551616)≤1:=by omega
   have r0:0≤(a-b-n)%18446744073709551616:=by omega
   have r1:(a-b-n)%18446744073709551616<18446744073709551616:=by omega
   clear hA hB hS hv;have h1:(k:Int)<6:=by omega
   have h2:(0:Int)≤(k:Int):=by omega
   go_wp2;go_region_held3 (fun w'=>w'.cell? ⟨w.heap.size,k,none⟩=some (.int .u64 a)∧w'.cell? ⟨w.heap.size+1,k,none⟩=some (.int .u64 b)) (first|exact ⟨ha,hb⟩|(refine ⟨?_,?_⟩<;>(rw[World.cell?_drew,World.cell?_setCell_far _ _ _ _ (by simp<;>omega)];assumption))) (fail)
   all_goals go_wp2
   all_goals go_roundw
   case rel=>exact ⟨k+1,_,S.set k ((a-b-n)%18446744073709551616),by omega,by go_num,rfl,q0,q1,by simpa using lS,Zjm fS k _ r0 r1,st.out,(hSA.other _ _ (by simp<;>omega)).drew,(hSB.other _ _ (by simp<;>omega)).drew,(hSZ.other _ _ (by simp)).drew,(hSS.setu k _).drew,(hbel.setCell (by simp<;>omega) _).drew⟩
   case measure=>simp[intOf];omega
  ·have h6:(6:Int)≤(k:Int):=by omega
   obtain⟨s0,s1,s2,s3,s4,s5,rfl⟩:=six lS;have c0:=hSS.cell 0 _ rfl;have z0:=hSZ.cell 0 _ rfl;have f0:=hSZ.frozen 0;have c1:=hSS.cell 1 _ rfl;have z1:=hSZ.cell 1 _ rfl;have f1:=hSZ.frozen 1;have c2:=hSS.cell 2 _ rfl;have z2:=hSZ.cell 2 _ rfl;have f2:=hSZ.frozen 2;have c3:=hSS.cell 3 _ rfl;have z3:=hSZ.cell 3 _ rfl;have f3:=hSZ.frozen 3;have c4:=hSS.cell 4 _ rfl;have z4:=hSZ.cell 4 _ rfl;have f4:=hSZ.frozen 4;have c5:=hSS.cell 5 _ rfl;have z5:=hSZ.cell 5 _ rfl;have f5:=hSZ.frozen 5;go_wp2;have hk6:k=6:=by omega
   subst hk6;rw[List.take_of_length_le (by omega),List.take_of_length_le (by omega),List.take_of_length_le (by omega)] at hv;exact bodyPost_ret (v:=.tuple #[.agg #[.int .u64 s0,.int .u64 s1,.int .u64 s2,.int .u64 s3,.int .u64 s4,.int .u64 s5],.int .u64 n]) (by simp[results,Tryz.results152,go_sem,z0,z1,z2,z3,z4,z5]) rfl
    ⟨[s0,s1,s2,s3,s4,s5],n,rfl,rfl,fS,hn0,hn1,hv,(((((hbel.setCell (by simp;omega) _).setCell (by simp;omega) _).setCell (by simp;omega) _).setCell (by simp;omega) _).setCell (by simp;omega) _).setCell (by simp;omega) _⟩
theorem sub6 {x0 x1 x2 x3 x4 x5 y0 y1 y2 y3 y4 y5:Int} {w:World} (hx:Zdg [x0,x1,x2,x3,x4,x5]) (hy:Zdg [y0,y1,y2,y3,y4,y5]) :
  Calls Tryz.prog 152 #[.agg #[.int .u64 x0,.int .u64 x1,.int .u64 x2,.int .u64 x3,.int .u64 x4,.int .u64 x5],.agg #[.int .u64 y0,.int .u64 y1,.int .u64 y2,.int .u64 y3,.int .u64 y4,.int .u64 y5]] w fun e w'=>∃ s0 s1 s2 s3 s4 s5 n:Int,e=.returned (.tuple #[.agg #[.int .u64 s0,.int .u64 s1,.int .u64 s2,.int .u64 s3,.int .u64 s4,.int .u64 s5],.int .u64 n])∧Zdg [s0,s1,s2,s3,s4,s5]∧0≤n∧n≤1 ∧
   v64 [s0,s1,s2,s3,s4,s5]-n*18446744073709551616 ^ 6=v64 [x0,x1,x2,x3,x4,x5]-v64 [y0,y1,y2,y3,y4,y5]∧Below w.heap.size w w':=by
 refine(Zrl [x0,x1,x2,x3,x4,x5] [y0,y1,y2,y3,y4,y5] w rfl rfl hx hy).mono ?_;rintro e w' ⟨S,n,rfl,lS,fS,h0,h1,hv,hb⟩;obtain ⟨s0,s1,s2,s3,s4,s5,rfl⟩:=six lS;exact ⟨s0,s1,s2,s3,s4,s5,n,rfl,fS,h0,h1,hv,hb⟩
def Ziy (A B:List Int):Int:=if v64 A<v64 B then 1 else 0
theorem ZoD (A B S:List Int) (n:Int) (lS:S.length=6) (fS:Zdg S) (n0:0≤n) (n1:n≤1)
  (h:v64 S-n*18446744073709551616 ^ 6=v64 A-v64 B):n=Ziy A B:=by
 have bS:=Zev S fS;rw[lS] at bS;unfold Ziy;generalize (18446744073709551616:Int) ^ 6=R at *;have hn:n=0∨n=1:=by omega
 rcases hn with rfl|rfl
 ·rw[if_neg (by omega)]
 ·rw[if_pos (by omega)]
theorem less6 {x0 x1 x2 x3 x4 x5 y0 y1 y2 y3 y4 y5:Int} {w:World} (hx:Zdg [x0,x1,x2,x3,x4,x5]) (hy:Zdg [y0,y1,y2,y3,y4,y5]) :
  Calls Tryz.prog 133 #[.agg #[.int .u64 x0,.int .u64 x1,.int .u64 x2,.int .u64 x3,.int .u64 x4,.int .u64 x5],.agg #[.int .u64 y0,.int .u64 y1,.int .u64 y2,.int .u64 y3,.int .u64 y4,.int .u64 y5]] w fun e w'=>e=.returned (.int .u64 (Ziy [x0,x1,x2,x3,x4,x5] [y0,y1,y2,y3,y4,y5]))∧Below w.heap.size w w':=by
 have bel:Below w.heap.size w ((w.alloc (.cells #[.int .u64 x0,.int .u64 x1,.int .u64 x2,.int .u64 x3,.int .u64 x4,.int .u64 x5] 29)).alloc (.cells #[.int .u64 y0,.int .u64 y1,.int .u64 y2,.int .u64 y3,.int .u64 y4,.int .u64 y5] 29)):=((Below.refl _ _).alloc (Nat.le_refl _) _).alloc (by simp) _;go_enter Tryz.func133,Tryz.ntmps133;go_wp2_with fail;refine (sub6 hx hy).mono ?_;rintro e w1 ⟨s0,s1,s2,s3,s4,s5,n,rfl,fS,n0,n1,hv,hb⟩;have hn:Hid _:=ZoD [x0,x1,x2,x3,x4,x5] [y0,y1,y2,y3,y4,y5] [s0,s1,s2,s3,s4,s5] n rfl fS n0 n1 hv;have bel1:=bel.trans (hb.mono (by simp;omega));clear bel hb hv;have hz:=bel1.size;go_wp2_with fail;go_ret;exact ⟨Zdx hn.out,bel1.alloc hz _⟩
theorem Zq0 (n m:Int) (h0:0≤n) (h1:n<18446744073709551616) (h2:0≤m) (h3:m<18446744073709551616) :
  0≤bits .or .u64 n m∧bits .or .u64 n m<18446744073709551616∧(bits .or .u64 n m=0↔n=0∧m=0):=by
 rw[u64_or n m h0 h1 h2 h3];have hn:n.toNat<2 ^ 64:=by omega
 have hm:m.toNat<2 ^ 64:=by omega
 have hlt:=Nat.or_lt_two_pow hn hm;refine ⟨by omega,by omega,?_⟩;constructor
 ·intro h
  have h':n.toNat ||| m.toNat=0:=by omega
  rw[Nat.or_eq_zero_iff] at h';omega
 ·rintro ⟨rfl,rfl⟩
  rfl
theorem ZpN (n m:Int) (h0:0≤n) (h1:n<18446744073709551616) (h2:0≤m) (h3:m<18446744073709551616) :
  0≤bits .xor .u64 n m∧bits .xor .u64 n m<18446744073709551616∧(bits .xor .u64 n m=0↔n=m):=by
 rw[u64_xor n m h0 h1 h2 h3];have hn:n.toNat<2 ^ 64:=by omega
 have hm:m.toNat<2 ^ 64:=by omega
 have hlt:=Nat.xor_lt_two_pow hn hm;refine ⟨by omega,by omega,?_⟩;constructor
 ·intro h
  have h':n.toNat ^^^ m.toNat=0:=by omega
  have h'':n.toNat=m.toNat:=by
   have:=congrArg (· ^^^ m.toNat) h'
   simpa [Nat.xor_assoc] using this
  omega
 ·rintro rfl
  simp
theorem Zm4 (n a b:Int) (h0:0≤n) (h1:n<18446744073709551616) (ha:0≤a∧a<18446744073709551616) (hb:0≤b∧b<18446744073709551616) (A B:List Int) (k:Nat)
  (hiff:n=0↔∀ j,j<k→A.getD j 0=B.getD j 0) (hA:A.getD k 0=a) (hB:B.getD k 0=b) :
  0≤bits .or .u64 n (bits .xor .u64 a b)∧bits .or .u64 n (bits .xor .u64 a b)<18446744073709551616∧(bits .or .u64 n (bits .xor .u64 a b)=0↔∀ j,j<k+1→A.getD j 0=B.getD j 0):=by
 have hx:=ZpN a b ha.1 ha.2 hb.1 hb.2;have ho:=Zq0 n (bits .xor .u64 a b) h0 h1 hx.1 hx.2.1;refine ⟨ho.1,ho.2.1,?_⟩;rw[ho.2.2,hx.2.2,hiff];constructor
 ·rintro ⟨h,h'⟩ j hj
  by_cases hjk:j=k
  ·subst hjk;rw[hA,hB,h']
  ·exact h j (by omega)
 ·intro h
  exact⟨fun j hj=>h j (by omega),by rw[← hA,← hB];exact h k (by omega)⟩
theorem Zpt (n:Int) (h0:0≤n) (h1:n<18446744073709551616) :
  bits .xor .u64 1 (bits .or .u64 n (IntKind.u64.wrap (-n))/9223372036854775808)=if n=0 then 1 else 0:=by
 by_cases hz:n=0
 ·subst hz;rfl
 ·rw[if_neg hz]
  have e:IntKind.u64.wrap (-n)=18446744073709551616-n:=by rw[IntKind.wrap_u64];omega
  rw[e,u64_or n _ h0 h1 (by omega) (by omega)];have hl:=Nat.left_le_or (n:=n.toNat) (m:=(18446744073709551616-n).toNat);have hr:=Nat.right_le_or (n:=n.toNat) (m:=(18446744073709551616-n).toNat);have hlt:=Nat.or_lt_two_pow (n:=64) (show n.toNat<2 ^ 64 by omega) (show (18446744073709551616-n).toNat<2 ^ 64 by omega);generalize n.toNat ||| (18446744073709551616-n).toNat=m at *;have:(m:Int)/9223372036854775808=1:=by omega
  rw[this]
  rfl
def Zpp (A B:List Int):Int:=if A=B then 1 else 0
theorem Zpr (A B:List Int) (lA:A.length=6) (lB:B.length=6) (n:Int) (h0:0≤n) (h1:n<18446744073709551616) (k:Nat) (hk:k=6) (hiff:n=0↔∀ j,j<k→A.getD j 0=B.getD j 0) :
  bits .xor .u64 1 (bits .or .u64 n (IntKind.u64.wrap (-n))/9223372036854775808)=Zpp A B:=by
 rw[Zpt n h0 h1,Zpp];have:n=0↔A=B:=by
  rw[hiff];constructor
  ·intro h
   apply List.ext_getElem (by omega);intro i h1 h2;have:=h i (by omega)
   simpa [List.getD_eq_getElem?_getD,h1,h2] using this
  ·rintro rfl _ _;rfl
 simp only[this]
theorem Zps (A B:List Int) (w:World) (lA:A.length=6) (lB:B.length=6) (hx:Zdg A) (hy:Zdg B) :
  Calls Tryz.prog 132 #[.agg (us A).toArray,.agg (us B).toArray] w fun e w'=>e=.returned (.int .u64 (Zpp A B))∧Below w.heap.size w w':=by
 have b0:=(Blk.new w (us A) 29 w.heap.size rfl).alloc (.cells (us B).toArray 29);have b1:=Blk.new (w.alloc (.cells (us A).toArray 29)) (us B) 29 (w.heap.size+1) (by simp);have hbel:Below w.heap.size w ((w.alloc (.cells (us A).toArray 29)).alloc (.cells (us B).toArray 29)):=((Below.refl _ _).alloc (Nat.le_refl _) _).alloc (by simp) _;go_enter Tryz.func132,Tryz.ntmps132;go_wp2;go_loopw [5,7] (fun o i wr=>∃ (k:Nat) (n:Int),k≤6∧i=.int .i64 k∧o=.int .u64 n∧0≤n∧n<18446744073709551616∧(n=0↔∀ j,j<k→A.getD j 0=B.getD j 0)∧Blk wr w.heap.size (us A)∧Blk wr (w.heap.size+1) (us B)∧Below w.heap.size w wr)
  (fun _ i _=>6-(intOf i).toNat)
 case atStart=>exact ⟨0,0,by omega,rfl,rfl,by omega,by omega,by simp,b0,b1,hbel⟩
 case round =>
  obtain⟨k,n,hk,rfl,rfl,hn0,hn1,hiff,hSA,hSB,hbel⟩:=hrel;clear b0 b1
  by_cases hlt:k<6
  ·obtain ⟨a,hA⟩:∃ a,A.getD k 0=a:=⟨_,rfl⟩
   obtain⟨b,hB⟩:∃ b,B.getD k 0=b:=⟨_,rfl⟩;have ha:=hSA.cell k _ (Zcl A k (by omega));have hb:=hSB.cell k _ (Zcl B k (by omega));rw[hA] at ha;rw[hB] at hb;have hs:Hid _:=Zm4 n a b hn0 hn1 (hA ▸ hx k) (hB ▸ hy k) A B k hiff hA hB;clear hiff hA hB;have h1:(k:Int)<6:=by omega
   go_wp2;go_quiet (fail);go_wp2;go_roundw
   case rel=>exact ⟨k+1,_,by omega,by go_num,rfl,hs.out.1,hs.out.2.1,hs.out.2.2,hSA.drewN _,hSB.drewN _,ZaM hbel _⟩
   case measure=>simp[intOf];omega
  ·have h6:(6:Int)≤(k:Int):=by omega
   go_wp2;go_ret;exact ⟨Zdx (Zpr A B lA lB n hn0 hn1 k (by omega) hiff),hbel⟩
def Zk0 (A B:Int):Int:=if A=B then 1 else 0
theorem ZiU {x0 x1 x2 x3 x4 x5 y0 y1 y2 y3 y4 y5 A B:Int} {w:World} (fX:Zdg [x0,x1,x2,x3,x4,x5]) (fY:Zdg [y0,y1,y2,y3,y4,y5]) (hx:v64 [x0,x1,x2,x3,x4,x5]=A) (hy:v64 [y0,y1,y2,y3,y4,y5]=B) :
  Calls Tryz.prog 132 #[.agg #[.int .u64 x0,.int .u64 x1,.int .u64 x2,.int .u64 x3,.int .u64 x4,.int .u64 x5],.agg #[.int .u64 y0,.int .u64 y1,.int .u64 y2,.int .u64 y3,.int .u64 y4,.int .u64 y5]] w fun e w'=>e=.returned (.int .u64 (Zk0 A B))∧Below w.heap.size w w':=by
 refine(Zps [x0,x1,x2,x3,x4,x5] [y0,y1,y2,y3,y4,y5] w rfl rfl fX fY).mono ?_;rintro e w' ⟨rfl,hb⟩;refine ⟨Zdx ?_,hb⟩;subst hx hy;unfold Zpp Zk0
 by_cases h:[x0,x1,x2,x3,x4,x5]=[y0,y1,y2,y3,y4,y5]
 ·rw[if_pos h,if_pos (by rw[h])]
 ·rw[if_neg h,if_neg (fun k=>h (Zhl _ _ rfl fX fY k))]
def Bs (w:World) (v:Value) (bs:List Int):Prop :=
 ∃ ao cap,v=.slice ao bs.length cap∧cap≤maxLen∧bs.length≤cap∧(0<bs.length→∃ b o,ao=some ⟨b,o,none⟩∧b<w.heap.size∧∀ j,j<bs.length→w.cell? ⟨b,o+j,none⟩=some (.int .u8 (bs.getD j 0)))
def byt (bs:List Int):Prop:=∀ j,0≤bs.getD j 0∧bs.getD j 0<256
theorem Bs.later {w w':World} {v:Value} {bs:List Int} (h:Bs w v bs) (hb:Below w.heap.size w w'):Bs w' v bs:=by
 obtain⟨ao,cap,h1,h2,h3,h4⟩:=h;refine ⟨ao,cap,h1,h2,h3,fun hp=>?_⟩;obtain ⟨b,o,e1,e2,e3⟩:=h4 hp;exact ⟨b,o,e1,Nat.lt_of_lt_of_le e2 hb.size,fun j hj=>(hb.cell e2).trans (e3 j hj)⟩
def beN (bs:List Int):Int:=pv 256 bs.reverse
theorem ZeC {bs:List Int} (h:byt bs) (j:Nat):0≤bs.reverse.getD j 0∧bs.reverse.getD j 0<256:=by
 by_cases hj:j<bs.length
 ·have:bs.reverse.getD j 0=bs.getD (bs.length-1-j) 0:=by
   simp[List.getD_eq_getElem?_getD,List.getElem?_reverse hj]
  rw[this];exact h _
 ·have:bs.reverse.getD j 0=0:=by rw[List.getD_eq_getElem?_getD,List.getElem?_eq_none (by simp;omega)];rfl
  rw[this];decide
theorem ZiM (bs:List Int) (j:Nat) (hj:j<bs.length):bs.reverse.getD (bs.length-1-j) 0=bs.getD j 0:=by
 have:bs.length-1-(bs.length-1-j)=j:=by omega
 simp[List.getD_eq_getElem?_getD,List.getElem?_reverse (show bs.length-1-j<bs.length by omega),this]
theorem Zcy:∀ (A:List Int),(∀ j,0≤A.getD j 0∧A.getD j 0<256)→0≤pv 256 A∧pv 256 A<256 ^ A.length
 | [],_=>by simp[pv]
 | a::A,h=>by
  have h0:0≤a∧a<256:=h 0;have ih:=Zcy A (fun j=>h (j+1));simp only[pv,List.length_cons,Int.pow_succ] at *;generalize (256:Int) ^ A.length=p at *;generalize pv 256 A=v at *;omega
abbrev u8s (A:List Int):List Value:=A.map (Value.int .u8)
theorem Zd9 (A:List Int) (j:Nat) (h:j<A.length):(u8s A)[j]?=some (.int .u8 (A.getD j 0)):=by
 simp[u8s,h]
theorem ZaW (w:World) (cs:List Value) (e:TypeId) (n base:Nat) (hl:cs.length=n) (hb:base≤w.heap.size) (hm:n≤maxLen) :
  (w.alloc (.cells cs.toArray e)).ownsRow base e 1 (.slice (some ⟨w.heap.size,0,none⟩) n n) n cs :=
 ⟨by omega,.inr ⟨w.heap.size,n,cs.toArray,rfl,hb,by show (w.heap.push _)[w.heap.size]?=_;simp,Nat.le_refl _,hm,by simp;omega,by rw[List.take_of_length_le (by simp;omega)]⟩⟩
theorem Bs.of_own {w:World} {base:Nat} {e:TypeId} {v:Value} {n:Nat} {D:List Int} (h:w.ownsRow base e 1 v n (u8s D)):Bs w v D:=by
 obtain⟨hl,h⟩:=h;have hn:D.length=n:=by simpa using hl
 rcases h with ⟨h1,h2⟩|⟨g,cap,cur,h1,h2,h3,h4,h5,h6,h7⟩
 ·exact ⟨none,0,by rw[h1,hn,h2],Nat.zero_le _,by omega,fun h=>by omega⟩
 ·refine ⟨_,cap,by rw[hn];exact h1,h5,by omega,fun _=>⟨g,0,rfl,(Array.getElem?_eq_some_iff.1 h3).1,fun j hj=>?_⟩⟩
  have e1:(cur.toList.take (n*1))[j]?=some (.int .u8 (D.getD j 0)):=by rw[h7];exact Zd9 D j hj
  rw[List.getElem?_take,if_pos (by omega)] at e1;rw[Nat.zero_add];simp only[World.cell?,h3,Option.isSome_none,Bool.false_eq_true,if_false]
  simpa using e1
theorem Zls (A:List Int) (h:∀ j,j<A.length→0≤A.getD j 0∧A.getD j 0<256):byt A:=by
 intro j
 by_cases hj:j<A.length
 ·exact h j hj
 ·rw[ZcV A j (by omega)];decide
def Zga (R:List Int) (k j:Nat):List Int:=(R.take (8*j+8)).drop (max (8*j) (48-k))
def segs (R:List Int) (k:Nat) (S:List Int):Prop:=∀ j,j<6→S.getD j 0=pv 256 (Zga R k j)
theorem Znd (R:List Int) (lR:R.length=48):segs R 0 [0,0,0,0,0,0]:=by
 intro j hj;have e:Zga R 0 j=[]:=by
  unfold Zga;apply List.drop_eq_nil_of_le;simp;omega
 rw[e]
 match j,hj with
 | 0,_=>rfl
 | 1,_=>rfl
 | 2,_=>rfl
 | 3,_=>rfl
 | 4,_=>rfl
 | 5,_=>rfl
theorem Zm9 (R:List Int) (k:Nat) (lR:R.length=48) (hk:k<48):Zga R (k+1) ((47-k)/8)=R.getD (47-k) 0::Zga R k ((47-k)/8):=by
 unfold Zga;have e1:max (8*((47-k)/8)) (48-(k+1))=47-k:=by omega
 have e2:max (8*((47-k)/8)) (48-k)=47-k+1:=by omega
 have hl:47-k<(R.take (8*((47-k)/8)+8)).length:=by simp;omega
 rw[e1,e2,List.drop_eq_getElem_cons hl]
 congr 1
 rw[List.getElem_take,List.getD_eq_getElem?_getD,List.getElem?_eq_getElem (by omega)]
 rfl
theorem Zm8 (R:List Int) (k j:Nat) (lR:R.length=48) (hk:k<48) (hj:j<6) (hne:(47-k)/8≠j):Zga R (k+1) j=Zga R k j:=by
 unfold Zga
 by_cases h:48-k≤8*j
 ·have e1:max (8*j) (48-(k+1))=8*j:=by omega
  have e2:max (8*j) (48-k)=8*j:=by omega
  rw[e1,e2]
 ·rw[List.drop_eq_nil_of_le (by simp;omega),List.drop_eq_nil_of_le (by simp;omega)]
theorem Zk1 (R:List Int) (k:Nat) (lR:R.length=48) (hR:∀ j,0≤R.getD j 0∧R.getD j 0<256) (hk:k<48):0≤pv 256 (Zga R k ((47-k)/8))∧pv 256 (Zga R k ((47-k)/8))<72057594037927936:=by
 have hg:∀ j,0≤(Zga R k ((47-k)/8)).getD j 0∧(Zga R k ((47-k)/8)).getD j 0<256:=by
  intro j;unfold Zga
  by_cases h:max (8*((47-k)/8)) (48-k)+j<8*((47-k)/8)+8
  ·have:((R.take (8*((47-k)/8)+8)).drop (max (8*((47-k)/8)) (48-k))).getD j 0=R.getD (max (8*((47-k)/8)) (48-k)+j) 0:=by
    simp only[List.getD_eq_getElem?_getD,List.getElem?_drop,List.getElem?_take,h,if_true]
   rw[this];exact hR _
  ·have:((R.take (8*((47-k)/8)+8)).drop (max (8*((47-k)/8)) (48-k))).getD j 0=0:=by
    simp only[List.getD_eq_getElem?_getD,List.getElem?_drop,List.getElem?_take,h,if_false]
    rfl
   rw[this];decide
 have b:=Zcy _ hg;have hl:(Zga R k ((47-k)/8)).length≤7:=by
  unfold Zga;simp;omega
 have p:(256:Int) ^ (Zga R k ((47-k)/8)).length≤256 ^ 7:=by
  generalize (Zga R k ((47-k)/8)).length=n at *
  match n,hl with
  | 0,_=>decide
  | 1,_=>decide
  | 2,_=>decide
  | 3,_=>decide
  | 4,_=>decide
  | 5,_=>decide
  | 6,_=>decide
  | 7,_=>decide
 have e:(256:Int) ^ 7=72057594037927936:=by decide
 omega
theorem Znc (R S:List Int) (k:Nat) (x s:Int) (lR:R.length=48) (lS:S.length=6) (hk:k<48) (hx:R.getD (47-k) 0=x) (hs:S.getD ((47-k)/8) 0=s) (h:segs R k S):segs R (k+1) (S.set ((47-k)/8) (s*256+x)):=by
 intro j hj
 by_cases hjk:(47-k)/8=j
 ·have h0:=h _ (show (47-k)/8<6 by omega)
  rw[← hjk,Zbr _ _ _ (by omega),Zm9 R k lR hk,pv,hx,← h0,hs];omega
 ·have:(S.set ((47-k)/8) (s*256+x)).getD j 0=S.getD j 0:=by simp[List.getD_eq_getElem?_getD,hjk]
  rw[this,Zm8 R k j lR hk hj hjk];exact h j hj
theorem Zpx (R S:List Int) (lR:R.length=48) (lS:S.length=6) (h:segs R 48 S):v64 S=pv 256 R:=by
 obtain⟨s0,s1,s2,s3,s4,s5,rfl⟩:=six lS;have key:∀ n,n≤6→pv 256 (R.take (8*n))=pv 18446744073709551616 ([s0,s1,s2,s3,s4,s5].take n):=by
  intro n
  induction n with
  | zero=>intro _;simp[pv]
  | succ n ih =>
   intro hn;have h1:=h n (by omega);have e0:Zga R 48 n=(R.take (8*n+8)).drop (8*n):=by unfold Zga;congr 1;omega
   have e1:R.take (8*(n+1))=R.take (8*n)++Zga R 48 n:=by
    rw[e0,show 8*(n+1)=8*n+8 by omega];have:=List.take_append_drop (8*n) (R.take (8*n+8));rw[List.take_take,show min (8*n) (8*n+8)=8*n by omega] at this;exact this.symm
   rw[e1,Zcj,ih (by omega),ZcL _ _ n (by simp;omega),h1];have e2:(R.take (8*n)).length=8*n:=by simp;omega
   rw[e2,Int.pow_mul];have e3:(256:Int) ^ 8=18446744073709551616:=by decide
   rw[e3]
 have:=key 6 (by omega);rw[List.take_of_length_le (by omega),List.take_of_length_le (by simp)] at this;exact this.symm
theorem ZqZ (s x:Int) (hs:0≤s∧s<72057594037927936) (hx:0≤x∧x<256):bits .or .u64 (s*256) x=s*256+x:=by
 rw[u64_or _ _ (by omega) (by omega) hx.1 (by omega)];have e:=nat_join 8 (s*256).toNat x.toNat (by omega) (by omega);rw[e];omega
theorem Zky (v:Value) (bs:List Int) (w:World) (h:Bs w v bs) (hl:bs.length=48) (hB:byt bs) :
  Calls Tryz.prog 155 #[v] w fun e w'=>∃ S:List Int,e=.returned (.tuple #[.agg (us S).toArray,.nilIface])∧S.length=6∧Zdg S∧v64 S=beN bs∧Below w.heap.size w w':=by
 obtain⟨ao,cap,rfl,h2,h3,h4⟩:=h;unfold maxLen at h2;obtain ⟨b,o,rfl,hb,hc⟩:=h4 (by omega);rw[hl] at h3 hc ⊢;have b2:=(Blk.new w (us [0,0,0,0,0,0]) 29 w.heap.size rfl).alloc (.cells (us [0,0,0,0,0,0]).toArray 29);have b3:=Blk.new (w.alloc (.cells (us [0,0,0,0,0,0]).toArray 29)) (us [0,0,0,0,0,0]) 29 (w.heap.size+1) (by simp);have hbel:Below w.heap.size w ((w.alloc (.cells (us [0,0,0,0,0,0]).toArray 29)).alloc (.cells (us [0,0,0,0,0,0]).toArray 29)):=((Below.refl _ _).alloc (Nat.le_refl _) _).alloc (by simp) _;obtain ⟨R,hR⟩:∃ R,bs.reverse=R:=⟨_,rfl⟩;have lR:R.length=48:=by rw[← hR];simpa using hl
 have bR:Hid (∀ j,0≤R.getD j 0∧R.getD j 0<256):=fun j=>hR ▸ ZeC hB j;have gR:Hid (∀ j,j<48→R.getD (47-j) 0=bs.getD j 0):=fun j hj=>by
  have:=ZiM bs j (by omega);rw[hl,hR] at this;exact this
 have HN:Hid (pv 256 R=beN bs):=by unfold beN;rw[hR];rfl
 obtain⟨N,hN⟩:∃ N,beN bs=N:=⟨_,rfl⟩;rw[hN] at HN ⊢;have sz:=Znd R lR;clear hN hR h4;go_enter Tryz.func155,Tryz.ntmps155;go_wp2;go_loopw [17] (fun i wr=>∃ (k:Nat) (S:List Int),k≤48∧i=.int .i64 k∧S.length=6∧Zdg S∧Hid (segs R k S)∧Blk wr w.heap.size (us [0,0,0,0,0,0])∧Blk wr (w.heap.size+1) (us S)∧Below w.heap.size w wr)
  (fun i _=>48-(intOf i).toNat)
 case atStart=>exact ⟨0,[0,0,0,0,0,0],by omega,rfl,rfl,Zdp 6,sz,b2,b3,hbel⟩
 case round =>
  obtain⟨k,S,hk,rfl,lS,fS,hJ,hZ,hS,hbel⟩:=hrel;clear b2 b3
  by_cases hlt:k<48
  ·obtain ⟨x,hx⟩:∃ x,bs.getD k 0=x:=⟨_,rfl⟩
   obtain⟨s,hs⟩:∃ s,S.getD ((47-k)/8) 0=s:=⟨_,rfl⟩;have xr:R.getD (47-k) 0=x:=by rw[gR.out k hlt,hx]
   have bx:0≤x∧x<256:=hx ▸ hB k;have bs':0≤s∧s<72057594037927936:=by
    have e:=hJ.out _ (show (47-k)/8<6 by omega);rw[hs] at e;rw[e];exact Zk1 R k lR bR.out hlt
   have J:Hid (segs R (k+1) (S.set ((47-k)/8) (s*256+x))):=Znc R S k x s lR lS hlt xr hs hJ.out;have x1:=(hbel.cell (p:=⟨b,o+k,none⟩) hb).trans (hc k hlt);rw[hx] at x1;have x2:=hS.cell ((47-k)/8) _ (Zcl S _ (by omega));rw[hs] at x2;have fz:=hS.frozen ((47-k)/8);have hor:=ZqZ s x bs' bx;have bs0:=bs'.1;have bs1:=bs'.2;have bx0:=bx.1;have bx1:=bx.2;have g1:(k:Int)<48:=by omega
   have g2:(0:Int)≤(k:Int):=by omega
   have g3:(0:Int)≤(47-(k:Int))/8:=by omega
   have g4:(47-(k:Int))/8<6:=by omega
   have g5:((47-(k:Int))/8).toNat=(47-k)/8:=by omega
   clear hx hs xr bx bs';go_wp2;go_region
   all_goals go_wp2
   all_goals go_roundw
   case rel=>exact ⟨k+1,S.set ((47-k)/8) (s*256+x),by omega,by go_num,by simpa using lS,Zjm fS _ _ (by omega) (by omega),J,(hZ.other _ _ (by simp)).drew,(hS.setu _ _).drew,(hbel.setCell (by simp) _).drew⟩
   case measure=>simp[intOf];omega
  ·have h6:(48:Int)≤(k:Int):=by omega
   have HQ:Hid (v64 S=N):=by
    have hk48:k=48:=by omega
    have e:=hJ.out;rw[hk48] at e;show _=_;rw[Zpx R S lR lS e];exact HN.out
   obtain⟨s0,s1,s2,s3,s4,s5,rfl⟩:=six lS;obtain ⟨c0,c1,c2,c3,c4,c5⟩:=hS.cells6;obtain ⟨z0,z1,z2,z3,z4,z5⟩:=hZ.cells6;have f0:=hZ.frozen 0;have f1:=hZ.frozen 1;have f2:=hZ.frozen 2;have f3:=hZ.frozen 3;have f4:=hZ.frozen 4;have f5:=hZ.frozen 5;clear hJ;go_wp2;exact bodyPost_ret (v:=.tuple #[.agg #[.int .u64 s0,.int .u64 s1,.int .u64 s2,.int .u64 s3,.int .u64 s4,.int .u64 s5],.nilIface]) (by simp[results,Tryz.results155,go_sem,z0,z1,z2,z3,z4,z5]) rfl
    ⟨[s0,s1,s2,s3,s4,s5],rfl,rfl,fS,HQ.out,(((((hbel.setCell (by simp) _).setCell (by simp) _).setCell (by simp) _).setCell (by simp) _).setCell (by simp) _).setCell (by simp) _⟩
theorem Zds:∀ w:World,(binOp .neq 35 .nilIface .nilIface).run Tryz.prog w=.ok (.bool false) w:=fun _=>by kernel_rfl
theorem ZqC {v:Value} {bs:List Int} {w:World} (h:Bs w v bs) (hl:bs.length=48) (hB:byt bs) :
  Calls Tryz.prog 155 #[v] w fun e w'=>∃ s0 s1 s2 s3 s4 s5:Int,e=.returned (.tuple #[.agg #[.int .u64 s0,.int .u64 s1,.int .u64 s2,.int .u64 s3,.int .u64 s4,.int .u64 s5],.nilIface])∧Zdg [s0,s1,s2,s3,s4,s5]∧v64 [s0,s1,s2,s3,s4,s5]=beN bs∧Below w.heap.size w w':=by
 refine(Zky v bs w h hl hB).mono ?_;rintro e w' ⟨S,rfl,lS,fS,hS,hb⟩;obtain ⟨s0,s1,s2,s3,s4,s5,rfl⟩:=six lS;exact ⟨s0,s1,s2,s3,s4,s5,rfl,fS,hS,hb⟩
theorem ZoC {A B:List Int} (h:v64 B≤v64 A):Ziy A B=0:=by
 unfold Ziy;rw[if_neg (by omega)]
theorem Zmi {A B:List Int} (h:v64 A<v64 B):Ziy A B=1:=by
 unfold Ziy;rw[if_pos h]
theorem ZqF:(Tryz.prog.info? 5).map (fun i=>(i.zero,i.size,i.bytes))=some (some (.int .u8 0),1,1):=by kernel_rfl
theorem Ze9 {w:World} {base ao:Option Addr} {n cap c:Nat} {ty:TypeId} (h:n≤cap) :
  (Builtin.append_ #[22,22] ty #[.slice base n cap,.slice ao 0 c]).run Tryz.prog w=.ok (.slice base n cap) w:=by
 have hu:∀ w:World,(underlying 22).run Tryz.prog w=.ok (.slice 5) w:=run_underlying Tryz.underlying22;have hs:∀ w:World,(Go.sizeOf 5).run Tryz.prog w=.ok 1 w:=fun w=>by kernel_rfl
 have hl:∀ (a:Addr) (w:World),(loadCells a 0).run Tryz.prog w=.ok #[] w:=fun _ _=>rfl
 cases base<;>cases ao<;>simp[hl,Builtin.append_,hu,hs,h,Builtin.firstCells,Builtin.lenOf,Result.andThen,storeCells]
theorem Zbc {w:World} {base:Nat} {e:TypeId} {v:Value} {n:Nat} {xs:List Value} (h:w.ownsRow base e 1 v n xs):∃ ao cap,v=.slice ao n cap∧n≤cap∧cap≤maxLen:=by
 rcases h.2 with ⟨h1,h2⟩|⟨g,cap,cur,h1,h2,h3,h4,h5,h6,h7⟩
 ·subst h2;exact ⟨none,0,h1,Nat.le_refl _,Nat.zero_le _⟩
 ·exact ⟨_,cap,h1,h4,h5⟩
theorem ZeL (w:World) (row:Option Nat):w.grownBy w row:=⟨rfl,rfl,rfl,Nat.le_refl _,fun _ _ _=>rfl⟩
theorem Zad {ops:Array Oper} {rest:List Oper} {o:Oper} {a:Act} {w:World} {Q:Exit→Act→World→Prop} (hgd:o.guard=none) (s x:Operand)
  (ho:o.op=.call { callee:=.builtin .append,args:=#[s,x],argTypes:=#[22,22] })
  (base:Nat) (v:Value) (n:Nat) (xs:List Int) (hs:a.eval s=v) (hown:w.ownsRow base 5 1 v n (u8s xs))
  (u:Value) (B:List Int) (hx:a.eval x=u) (hB:Bs w u B) (h47:n+B.length≤140737488355328) (hbase:base≤w.heap.size)
  (h:∀ v' w',w'.ownsRow base 5 1 v' (n+B.length) (u8s (xs++B))→w.grownBy w' v.ownBlock→(v'.ownBlock=v.ownBlock∨v'.ownBlock=some w.heap.size)→wpList Tryz.prog ops Q rest (a.put o.dst v') w') :
  wpList Tryz.prog ops Q (o::rest) a w:=by
 obtain⟨ao,cap,rfl,c1,c2,c3⟩:=hB
 by_cases h0:B.length=0
 ·obtain rfl:B=[]:=List.eq_nil_of_length_eq_zero h0
  obtain⟨bo,cp,rfl,k1,k2⟩:=Zbc hown;refine Lib.wpList_append_run_sl w hgd s x 22 ho _ _ hs hx (Ze9 k1) ?_;exact h _ w (by simpa using hown) (ZeL _ _) (.inl rfl)
 ·obtain ⟨b,of,rfl,hb0,hc0⟩:=c3 (by omega)
  obtain⟨i0,hi0,hz0,hz1,hz2⟩:=info_parts ZqF;refine wpList_append_lies _ hgd s x _ ho base 5 i0 _ 1 1 Tryz.underlying22 hi0 hz0 hz1 hz2 rfl (by omega) v n (u8s xs) hs hown ⟨b,of,none⟩ B.length cap (u8s B) hx (by simp[u8s]) ?_ (by simp[u8s,Value.oneCell']) (by omega) (by unfold maxLen;omega) (by omega) hbase w.heap.size rfl ?_
  ·intro j z hz
   have hj:j<B.length:=by
    have:=(List.getElem?_eq_some_iff.1 hz).1
    simpa [u8s] using this
   have e:(⟨b,of,none⟩:Addr).add j=⟨b,of+j,none⟩:=by unfold Addr.add;split<;>simp_all
   rw[Zd9 B j hj] at hz;rw[e,← hz];exact hc0 j hj
  ·intro g cap1 w' hown1 hgrow hat hlt
   refine h _ w' (by simpa [u8s] using hown1) hgrow ?_;rcases hat with e|e
   ·exact .inl (by rw[e];rfl)
   ·exact .inr (by rw[← e];rfl)
theorem Zft (w:World) (y:Int):Bs (w.alloc (.cells #[.int .u8 y] 5)) (.slice (some ⟨w.heap.size,0,none⟩) 1 1) [y]:=by
 have B:=Blk.new w [.int .u8 y] 5 w.heap.size rfl;exact ⟨_,1,rfl,by decide,Nat.le_refl _,fun _=>⟨w.heap.size,0,rfl,B.lt,fun j hj=>by
  have e:j=0:=by simp at hj;exact hj
  subst e;exact B.cell 0 _ rfl⟩⟩
theorem Zag {w w':World} {base:Nat} {row:Option Nat} {B:Nat} {a:World} (hb:Below B a w) (hg:w.grownBy w' row) (hs:B≤w.heap.size) (hr:∀ g,row=some g→base≤g) (h:B≤base):Below B a w':=Below.grown hb hg hs (fun j hj=>Nat.le_trans h (hr j hj))
abbrev Zhn (A:List Int):List Value:=A.map (Value.int .i64)
theorem ZgS (A:List Int) (j:Nat) (h:j<A.length):(Zhn A)[j]?=some (.int .i64 (A.getD j 0)):=by
 simp[Zhn,h]
def Is (w:World) (v:Value) (L:List Int):Prop :=
 ∃ ao cap,v=.slice ao L.length cap∧cap≤maxLen∧L.length≤cap∧(0<L.length→∃ b o,ao=some ⟨b,o,none⟩∧b<w.heap.size∧∀ j,j<L.length→w.cell? ⟨b,o+j,none⟩=some (.int .i64 (L.getD j 0)))
theorem Is.later {w w':World} {v:Value} {L:List Int} (h:Is w v L) (hb:Below w.heap.size w w'):Is w' v L:=by
 obtain⟨ao,cap,h1,h2,h3,h4⟩:=h;refine ⟨ao,cap,h1,h2,h3,fun hp=>?_⟩;obtain ⟨b,o,e1,e2,e3⟩:=h4 hp;exact ⟨b,o,e1,Nat.lt_of_lt_of_le e2 hb.size,fun j hj=>(hb.cell e2).trans (e3 j hj)⟩
theorem Is.of_own {w:World} {base:Nat} {e:TypeId} {v:Value} {n:Nat} {D:List Int} (h:w.ownsRow base e 1 v n (Zhn D)):Is w v D:=by
 obtain⟨hl,h⟩:=h;have hn:D.length=n:=by simpa using hl
 rcases h with ⟨h1,h2⟩|⟨g,cap,cur,h1,h2,h3,h4,h5,h6,h7⟩
 ·exact ⟨none,0,by rw[h1,hn,h2],Nat.zero_le _,by omega,fun h=>by omega⟩
 ·refine ⟨_,cap,by rw[hn];exact h1,h5,by omega,fun _=>⟨g,0,rfl,(Array.getElem?_eq_some_iff.1 h3).1,fun j hj=>?_⟩⟩
  have e1:(cur.toList.take (n*1))[j]?=some (.int .i64 (D.getD j 0)):=by rw[h7];exact ZgS D j hj
  rw[List.getElem?_take,if_pos (by omega)] at e1;rw[Nat.zero_add];simp only[World.cell?,h3,Option.isSome_none,Bool.false_eq_true,if_false]
  simpa using e1
theorem is_blk {w:World} {g q:Nat} {P:List Int} (B:Blk w g (Zhn P)) (l:P.length=q) (h:q≤maxLen):Is w (.slice (some ⟨g,0,none⟩) q q) P :=
 ⟨some ⟨g,0,none⟩,q,by rw[l],h,by omega,fun _=>⟨g,0,rfl,B.lt,fun j hj=>by rw[Nat.zero_add];exact B.cell j _ (ZgS P j hj)⟩⟩
theorem is_cut {w:World} {g o n cap r m k:Nat} {ad:Option Addr} {B:List Int} (h:Is w (.slice (some ⟨g,o,none⟩) n cap) B) (hn:B.length=n) (hr:r≤n) (hm:m=n-r) (ha:0<m→ad=some ⟨g,o+r,none⟩) (hk:k=cap-r):Is w (.slice ad m k) (B.drop r):=by
 obtain⟨a,c,e,h1,h2,h3⟩:=h;obtain ⟨rfl,_,rfl⟩:some ⟨g,o,none⟩=a∧n=B.length∧cap=c:=by simpa using e
 have el:(B.drop r).length=m:=by rw[List.length_drop,hn,hm]
 refine⟨ad,k,by rw[el],by rw[hk];exact Nat.le_trans (Nat.sub_le _ _) h1,by rw[el,hm,hk];exact Nat.sub_le_sub_right (by rw[← hn];exact h2) r,fun h0=>?_⟩;rw[el] at h0 ⊢;obtain ⟨b',o',e',k1,k2⟩:=h3 (by rw[hn];exact Nat.lt_of_lt_of_le h0 (by rw[hm];exact Nat.sub_le _ _));simp only[Option.some.injEq,Addr.mk.injEq] at e';obtain ⟨rfl,rfl,-⟩:=e';refine ⟨g,o+r,ha h0,k1,fun j hj=>?_⟩;rw[Nat.add_assoc,k2 (r+j) (by omega),List.getD_eq_getElem?_getD,List.getD_eq_getElem?_getD,List.getElem?_drop]
theorem ZqG:(Tryz.prog.info? 3).map (fun i=>(i.zero,i.size,i.bytes))=some (some (.int .i64 0),1,8):=by kernel_rfl
theorem ZeO {w:World} {base ao:Option Addr} {n cap c:Nat} {ty:TypeId} (h:n≤cap) :
  (Builtin.append_ #[213,213] ty #[.slice base n cap,.slice ao 0 c]).run Tryz.prog w=.ok (.slice base n cap) w:=by
 have hu:∀ w:World,(underlying 213).run Tryz.prog w=.ok (.slice 3) w:=run_underlying Tryz.underlying213;have hs:∀ w:World,(Go.sizeOf 3).run Tryz.prog w=.ok 1 w:=fun w=>by kernel_rfl
 have hl:∀ (a:Addr) (w:World),(loadCells a 0).run Tryz.prog w=.ok #[] w:=fun _ _=>rfl
 cases base<;>cases ao<;>simp[hl,Builtin.append_,hu,hs,h,Builtin.firstCells,Builtin.lenOf,Result.andThen,storeCells]
theorem Zdk {ops:Array Oper} {rest:List Oper} {o:Oper} {a:Act} {w:World} {Q:Exit→Act→World→Prop} (hgd:o.guard=none) (s x:Operand)
  (ho:o.op=.call { callee:=.builtin .append,args:=#[s,x],argTypes:=#[213,213] })
  (base:Nat) (v:Value) (n:Nat) (xs:List Int) (hs:a.eval s=v) (hown:w.ownsRow base 3 1 v n (Zhn xs))
  (u:Value) (B:List Int) (hx:a.eval x=u) (hB:Is w u B) (h47:n+B.length≤17592186044416) (hbase:base≤w.heap.size)
  (h:∀ v' w',w'.ownsRow base 3 1 v' (n+B.length) (Zhn (xs++B))→w.grownBy w' v.ownBlock→(v'.ownBlock=v.ownBlock∨v'.ownBlock=some w.heap.size)→wpList Tryz.prog ops Q rest (a.put o.dst v') w') :
  wpList Tryz.prog ops Q (o::rest) a w:=by
 obtain⟨ao,cap,rfl,c1,c2,c3⟩:=hB
 by_cases h0:B.length=0
 ·obtain rfl:B=[]:=List.eq_nil_of_length_eq_zero h0
  obtain⟨bo,cp,rfl,k1,k2⟩:=Zbc hown;refine Lib.wpList_append_run_sl w hgd s x 213 ho _ _ hs hx (ZeO k1) ?_;exact h _ w (by simpa using hown) (ZeL _ _) (.inl rfl)
 ·obtain ⟨b,of,rfl,hb0,hc0⟩:=c3 (by omega)
  obtain⟨i0,hi0,hz0,hz1,hz2⟩:=info_parts ZqG;refine wpList_append_lies _ hgd s x _ ho base 3 i0 _ 1 8 Tryz.underlying213 hi0 hz0 hz1 hz2 rfl (by omega) v n (Zhn xs) hs hown ⟨b,of,none⟩ B.length cap (Zhn B) hx (by simp[Zhn]) ?_ (by simp[Zhn,Value.oneCell']) (by omega) (by unfold maxLen;omega) (by omega) hbase w.heap.size rfl ?_
  ·intro j z hz
   have hj:j<B.length:=by
    have:=(List.getElem?_eq_some_iff.1 hz).1
    simpa [Zhn] using this
   have e:(⟨b,of,none⟩:Addr).add j=⟨b,of+j,none⟩:=by unfold Addr.add;split<;>simp_all
   rw[ZgS B j hj] at hz;rw[e,← hz];exact hc0 j hj
  ·intro g cap1 w' hown1 hgrow hat hlt
   refine h _ w' (by simpa [Zhn] using hown1) hgrow ?_;rcases hat with e|e
   ·exact .inl (by rw[e];rfl)
   ·exact .inr (by rw[← e];rfl)
theorem Zl2 {P:Program} {o:Oper} {a:Act} {w:World} {ty:TypeId} {x:Operand} {ad:Addr} {v:Value} (ho:o.op=.load ty x) (hx:a.eval x=.pointer (some ad)) (h:(loadVar ty ad).run P w=.ok v w):(execOp a.eval o).run P w=.ok (.value v) w:=by
 unfold execOp;simp only[ho,hx,Instr.loadAt,Instr.sureAddr,Sem.run_bind,Sem.run_pure,Result.andThen_ok,h]
theorem trA {P:Program} {md:Region.Mode} {ops:Array Oper} {Q:Exit→Act→World→Prop} {S:World→Prop} {fuel:Nat} {listed:Array Bool} {a a':Act} {w:World} (i:Nat) {oi:Oper} (v:Value) {t:TypeId} {ad:Addr} {x:Operand} (hl:∀ wx,S wx→(loadVar t ad).run P wx=.ok v wx) (h:wpAnyH P md ops Q S fuel (listed.setIfInBounds i true) a' w) (hi:ops[i]?=some oi:=by rfl) (hs:Region.noSelect ops=true:=by kernel_rfl) (hf:Region.free md ops listed i=true:=by kernel_rfl) (hr:(Region.ready md ops listed).contains i=true:=by kernel_rfl) (hQ:∀ c a w,Q (.panic c) (a.put oi.dst v) w→Q (.panic c) a w:=by exact fun _ _ _ h=>h) (hS:S w:=by assumption) (hw:Region.wanted oi (yielded ops a.tmps)=true:=by rfl) (ho:oi.op=.load t x:=by rfl) (hx:a.eval x=.pointer (some ad):=by rfl) (ha:a.put oi.dst v=a':=by ((try simp only[Act.put,List.getElem_toArray,List.getElem_cons_zero,List.getElem_cons_succ,List.setIfInBounds_toArray,List.set_cons_zero,List.set_cons_succ]);exact rfl)):wpAnyH P md ops Q S (fuel+1) listed a w:=wpAnyH_take hi hs hf hr hQ (Or.inl ⟨hw,fun wx k=>Zl2 ho hx (hl wx k)⟩) hS (ha ▸ h)
theorem Blk.load {P:Program} {w:World} {g n:Nat} {F:List Value} {ty:TypeId} {d:TypeDesc} (B:Blk w g F) (hu:P.underlying ty=some d) (hd:(match d with|.struct _|.array _ _=>true|_=>false)=true) (hs:(P.info? ty).map (·.size)=some n) (hn:F.length=n):(loadVar ty ⟨g,0,none⟩).run P w=.ok (.agg F.toArray) w:=by
 obtain⟨t,ht⟩:=B;exact run_loadVar_row w g t ty F.toArray (0,0) d ht hu hd (by rw[hs,List.size_toArray,hn])
theorem Zab {P:Program} {ops:Array Oper} {rest:List Oper} {o:Oper} {a:Act} {w:World} {Q:Exit→Act→World→Prop} {ty:TypeId} {x:Operand} {ad:Addr} {v:Value} (hw:Region.wanted o (yielded ops a.tmps)=true) (ho:o.op=.load ty x) (hx:a.eval x=.pointer (some ad)) (h:(loadVar ty ad).run P w=.ok v w)
  (k:wpList P ops Q rest (a.put o.dst v) w):wpList P ops Q (o::rest) a w:=by
 refine wpList_step fun K hK=>?_;simp only[hw,if_true];unfold Oper.wp execOp;simp only[ho,hx,Instr.loadAt,Instr.sureAddr,Sem.run_bind,Sem.run_pure,Result.andThen_ok,h];exact hK _ _ k
theorem Zb9 {P:Program} {w:World} {g o n:Nat} {F:List Value} {ty:TypeId} {d:TypeDesc} (hc:∀ j v,F[j]?=some v→w.cell? ⟨g,o+j,none⟩=some v) (hn:F.length=n) (hu:P.underlying ty=some d) (hd:(match d with|.struct _|.array _ _=>true|_=>false)=true) (hs:(P.info? ty).map (·.size)=some n):(loadVar ty ⟨g,o,none⟩).run P w=.ok (.agg F.toArray) w:=by
 have hl:(loadCells ⟨g,o,none⟩ F.length).run P w=.ok F.toArray w :=
  run_loadCells_list (P:=P) w ⟨g,o,none⟩ F (fun j v hv=>by
   have hadd:(⟨g,o,none⟩:Addr).add j=⟨g,o+j,none⟩:=by unfold Addr.add;split<;>simp_all
   rw[hadd];exact hc j v hv)
 cases hq:P.info? ty with
 | none=>simp[hq] at hs
 | some i =>
  have hz:i.size=F.length:=by simp[hq] at hs;omega
  have hagg:(isAgg ty).run P w=.ok true w:=by
   unfold isAgg;rw[Sem.run_bind,run_underlying hu w]
   cases d<;>simp_all
  simp[loadVar,Sem.run_bind,hagg,sizeOf,typeInfo,hq,hz,hl]
theorem Blk.bs {w:World} {g q:Nat} {P:List Int} (B:Blk w g (u8s P)) (l:P.length=q) (h:q≤maxLen):Bs w (.slice (some ⟨g,0,none⟩) q q) P :=
 ⟨some ⟨g,0,none⟩,q,by rw[l],h,by omega,fun _=>⟨g,0,rfl,B.lt,fun j hj=>by rw[Nat.zero_add];exact B.cell j _ (Zd9 P j hj)⟩⟩
theorem Zmk (n:Nat):madeCells #[.int .u8 0] n=(u8s (List.replicate n 0)).toArray:=by
 apply Array.ext
 ·simp[madeCells]
 ·intro i h1 h2
  simp[madeCells,Nat.mod_one]
theorem Zac {P:Program} {fn:Func} {p u:Tmp} {ty:TypeId} (h:fn.results=#[.cell p ty,.tmp u]) (tmps:Array Value) (w:World) (g:Nat) (t:TypeId) (cs:Array Value) (fr:Nat × Nat) (d:TypeDesc)
  (hp:tmps.getD p undef=.pointer (some ⟨g,0,none⟩)) (hg:w.heap[g]?=some (.cells cs t fr))
  (hu:P.underlying ty=some d) (hd:(match d with|.struct _|.array _ _=>true|_=>false)=true) (hi:(P.info? ty).map (·.size)=some cs.size) :
  (results fn tmps).run P w=.ok (.tuple #[.agg cs,tmps.getD u undef]) w:=by
 have hp':tmps[p]?.getD undef=.pointer (some ⟨g,0,none⟩):=by simpa using hp
 simp[results,h,hp',asAddr,run_loadVar_row w g t ty cs fr d hg hu hd hi]
def ZaF:List Int→List Int
 | []=>[]
 | x::xs=>if x=0 then ZaF xs else x::xs
def Zd3:List Int→Nat
 | []=>0
 | x::xs=>if x=0 then Zd3 xs+1 else 0
theorem ZgV:∀ N:List Int,Zd3 N≤N.length
 | []=>Nat.le_refl _
 | x::xs=>by
  rw[Zd3,List.length_cons]
  split
  ·have:=ZgV xs;omega
  ·omega
theorem Zbm:∀ N:List Int,ZaF N=N.drop (Zd3 N)
 | []=>rfl
 | x::xs=>by
  rw[ZaF,Zd3]
  split
  ·rw[List.drop_succ_cons];exact Zbm xs
  ·rfl
theorem ZfM:∀ (N:List Int) (i:Nat),i<Zd3 N→N.getD i 0=0
 | [],i,h=>by simp[Zd3] at h
 | x::xs,i,h=>by
  rw[Zd3] at h
  split at h
  ·rename_i hx
   cases i with
   | zero=>exact hx
   | succ i=>rw[List.getD_cons_succ];exact ZfM xs i (by omega)
  ·omega
theorem ZdH:∀ (N:List Int),Zd3 N<N.length→¬ N.getD (Zd3 N) 0=0
 | [],h=>by simp at h
 | x::xs,h=>by
  rw[Zd3] at h ⊢
  by_cases hx:x=0
  ·rw[if_pos hx] at h ⊢
   rw[List.getD_cons_succ];exact ZdH xs (by simpa using h)
  ·rw[if_neg hx,List.getD_cons_zero]
   exact hx
theorem ZkF (N:List Int) (h:0<(ZaF N).length):¬ (ZaF N).getD 0 0=0:=by
 rw[Zbm,List.length_drop] at h;rw[Zbm,List.getD_eq_getElem?_getD,List.getElem?_drop,Nat.add_zero,← List.getD_eq_getElem?_getD];exact ZdH N (by omega)
theorem ZkG {N:List Int} (h:0<N.length→¬ N.getD 0 0=0):ZaF N=N:=by
 cases N with
 | nil=>rfl
 | cons x xs=>rw[ZaF,if_neg (show ¬ x=0 from h (by simp))]
theorem Zba {B:List Int} (h:byt B) (r:Nat):byt (B.drop r):=fun j=>by
 rw[List.getD_eq_getElem?_getD,List.getElem?_drop,← List.getD_eq_getElem?_getD];exact h _
def Zbi (B:List Int):Except Nat (List Int) :=
 if B.length=0∨127<B.getD 0 0∨(1<B.length∧B.getD 0 0=0∧B.getD 1 0<128) then .error 7
 else if 64<(if B.getD 0 0=0 then B.drop 1 else B).length then .error 2
 else .ok (if B.getD 0 0=0 then B.drop 1 else B)
def ZaG (N:List Int):Except Nat (List Int) :=
 if 64<(ZaF N).length then .error 2
 else if (ZaF N).length=0∨127<(ZaF N).getD 0 0 then .ok ((0:Int)::ZaF N)
 else .ok (ZaF N)
theorem Zjy {N b:List Int} (hb:byt N) (h:ZaG N=.ok b):Zbi b=.ok (ZaF N)∧ZaG (ZaF N)=.ok b:=by
 have hl:byt (ZaF N):=by rw[Zbm];exact Zba hb _
 have h0:=ZkF N;have hs:ZaF (ZaF N)=ZaF N:=ZkG h0;have hn:ZaG (ZaF N)=ZaG N:=by unfold ZaG;rw[hs]
 refine⟨?_,by rw[hn];exact h⟩;obtain ⟨R,hR⟩:∃ R,ZaF N=R:=⟨_,rfl⟩;unfold ZaG at h;rw[hR] at h h0 hl ⊢
 by_cases c1:64<R.length
 ·rw[if_pos c1] at h;cases h
 rw[if_neg c1] at h
 by_cases c2:R.length=0∨127<R.getD 0 0
 ·rw[if_pos c2] at h
  cases h
  unfold Zbi;have e0:((0:Int)::R).getD 0 0=0:=rfl;have e1:((0:Int)::R).getD 1 0=R.getD 0 0:=by rw[List.getD_cons_succ]
  rw[e0,e1,if_neg (by
   rintro(h|h|⟨h1,_,h2⟩)
   ·simp at h
   ·omega
   ·rcases c2 with c2|c2
    ·rw[List.length_cons] at h1;omega
    ·omega),if_pos rfl]
  have e2:((0:Int)::R).drop 1=R:=rfl;rw[e2,if_neg c1]
 ·rw[if_neg c2] at h
  cases h
  unfold Zbi;have hz:=h0 (by omega);rw[if_neg (by
   rintro(h|h|⟨_,h2,_⟩)
   ·omega
   ·omega
   ·exact hz h2),if_neg hz,if_neg c1]
def ZbJ (B:List Int):Except Nat (List Int) :=
 if 64<B.length then .error 2 else if B.length=0 then .error 7 else if ∃ j,j<B.length∧(B.getD j 0<32∨126<B.getD j 0) then .error 7 else .ok B
def Zbd (B:List Int):Except Nat (List Int × Int) :=
 if B.length=0∨7<B.getD 0 0∨(B.length=1∧¬ B.getD 0 0=0) then .error 7
 else if B.getD (B.length-1) 0%2 ^ (B.getD 0 0).toNat=0 then .ok (B.drop 1,B.getD 0 0) else .error 7
theorem ZcE (w:World):(w.alloc (.cells #[] 5)).ownsRow w.heap.size 5 1 (.slice (some ⟨w.heap.size,0,none⟩) 0 0) 0 (u8s []):=ZaW w [] 5 0 w.heap.size rfl (Nat.le_refl _) (by decide)
theorem Zao {w:World} {base:Nat} {e:TypeId} {v:Value} {n:Nat} {xs:List Value} {j:Nat} (h:w.ownsRow base e 1 v n xs) (hj:v.ownBlock=some j):base≤j:=by
 rcases h.2 with ⟨h1,_⟩|⟨g,c,cur,h1,h2,_⟩
 ·rw[h1] at hj;simp[Value.ownBlock] at hj
 ·rw[h1] at hj;simp[Value.ownBlock] at hj;omega
theorem ZcI {w:World} {g o n cap r m k:Nat} {ad:Option Addr} {B:List Int} (h:Bs w (.slice (some ⟨g,o,none⟩) n cap) B) (hn:B.length=n) (hr:r≤n) (hm:m=n-r) (ha:0<m→ad=some ⟨g,o+r,none⟩) (hk:k=cap-r):Bs w (.slice ad m k) (B.drop r):=by
 obtain⟨a,c,e,h1,h2,h3⟩:=h;obtain ⟨rfl,_,rfl⟩:some ⟨g,o,none⟩=a∧n=B.length∧cap=c:=by simpa using e
 have el:(B.drop r).length=m:=by rw[List.length_drop,hn,hm]
 refine⟨ad,k,by rw[el],by rw[hk];exact Nat.le_trans (Nat.sub_le _ _) h1,by rw[el,hm,hk];exact Nat.sub_le_sub_right (by rw[← hn];exact h2) r,fun h0=>?_⟩;rw[el] at h0 ⊢;obtain ⟨b',o',e',k1,k2⟩:=h3 (by rw[hn];exact Nat.lt_of_lt_of_le h0 (by rw[hm];exact Nat.sub_le _ _));simp only[Option.some.injEq,Addr.mk.injEq] at e';obtain ⟨rfl,rfl,-⟩:=e';refine ⟨g,o+r,ha h0,k1,fun j hj=>?_⟩;rw[Nat.add_assoc,k2 (r+j) (by omega),List.getD_eq_getElem?_getD,List.getD_eq_getElem?_getD,List.getElem?_drop]
def Zbg (w:World) (v:Value):Prop:=∀ (a:Addr) (n c:Nat),v=.slice (some a) n c→0<n→w.heap.size≤a.block
theorem Zbg.of_own {w w':World} {e:TypeId} {size:Nat} {v:Value} {n:Nat} {xs:List Value} (h:w'.ownsRow w.heap.size e size v n xs):Zbg w v:=fun a m c e _=>by
 rcases h.2 with ⟨h1,_⟩|⟨g,cap,cur,h1,h2,_⟩
 ·rw[h1] at e
  cases e
 ·rw[h1] at e
  simp only[Value.slice.injEq,Option.some.injEq] at e;rw[← e.1];exact h2
theorem Zbg.upN {w w':World} {v:Value} (h:Zbg w' v) (hs:w.heap.size≤w'.heap.size):Zbg w v:=fun a n c e h0=>Nat.le_trans hs (h a n c e h0)
end Go.Proofs.YtohcdbifhnfcbaaGreatDoor
