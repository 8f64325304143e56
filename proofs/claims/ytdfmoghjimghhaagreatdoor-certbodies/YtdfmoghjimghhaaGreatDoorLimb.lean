import Derived.Test.YtdfmoghjimghhaaGreatDoorBase
import Derived.Test.YtdfmoghjimghhaaGreatDoorCRef
import Derived.Test.YtdfmoghjimghhaaGreatDoorRows
import Derived.Laws.Externs
import Derived.Deep.RegionHeld3
import Derived.Shelf.Spec.BitsCarry
import Derived.Deep.QuietTactic
import Derived.BigQuiet
import Derived.Laws.MathBits
namespace Go.Proofs.YtdfmoghjimghhaaGreatDoor
open Go.RowKit
set_option linter.unusedSimpArgs false
set_option maxRecDepth 100000
set_option maxHeartbeats 1000000
theorem Zcy (x y c:Int) (hx:0≤x) (hy:0≤y) (hc0:0≤c) (hc:c≤1) (w:World) :
    (callFunc 269 #[.int .u64 x,.int .u64 y,.int .u64 c]).run Tryz.prog w =
      .ok (.value (.tuple #[.int .u64 ((x+y+c)%18446744073709551616),.int .u64 ((x+y+c)/18446744073709551616)])) w:=by
  rw[run_callFunc_extern Tryz.func269 (by kernel_rfl) (by kernel_rfl) (by kernel_rfl) (e:=add64Entry) (by kernel_rfl),run_add64 x y c hx hy hc0 hc]
  rfl
theorem Zl3 (A B S:List Int) (k:Nat) (n a b:Int) (lA:A.length=6) (lB:B.length=6) (lS:S.length=6) (hk:k<6) (ha:A.getD k 0=a) (hb:B.getD k 0=b)
  (h:v64 (S.take k)+n*18446744073709551616 ^ k=v64 (A.take k)+v64 (B.take k)) :
  v64 ((S.set k ((a+b+n)%18446744073709551616)).take (k+1))+(a+b+n)/18446744073709551616*18446744073709551616 ^ (k+1)=v64 (A.take (k+1))+v64 (B.take (k+1)):=by
 have e:=Int.mul_ediv_add_emod (a+b+n) 18446744073709551616;simp only[v64] at *;rw[ZbC _ _ k (by simp;omega),ZbC _ A k (by omega),ZbC _ B k (by omega),ZcS,Za7 _ _ _ (by omega),ha,hb,Int.pow_succ];generalize (a+b+n)/18446744073709551616=q at *;generalize (a+b+n)%18446744073709551616=r at *;generalize (18446744073709551616:Int) ^ k=p at *;have e':a=18446744073709551616*q+r-b-n:=by omega
 subst e'
 grind
theorem Zoa (A B:List Int) (w:World) (lA:A.length=6) (lB:B.length=6) (hx:Zaz A) (hy:Zaz B) :
  Calls Tryz.prog 263 #[.agg (us A).toArray,.agg (us B).toArray] w fun e w'=>∃ (S:List Int) (n:Int),e=.returned (.tuple #[.agg (us S).toArray,.int .u64 n])∧S.length=6∧Zaz S∧0≤n∧n≤1 ∧
   v64 S+n*18446744073709551616 ^ 6=v64 A+v64 B∧Below w.heap.size w w':=by
 have b0:=(((Blk.new w (us A) 27 w.heap.size rfl).alloc (.cells (us B).toArray 27)).alloc (.cells (us [0,0,0,0,0,0]).toArray 27)).alloc (.cells (us [0,0,0,0,0,0]).toArray 27);have b1:=((Blk.new (w.alloc (.cells (us A).toArray 27)) (us B) 27 (w.heap.size+1) (by simp)).alloc (.cells (us [0,0,0,0,0,0]).toArray 27)).alloc (.cells (us [0,0,0,0,0,0]).toArray 27);have b2:=(Blk.new ((w.alloc (.cells (us A).toArray 27)).alloc (.cells (us B).toArray 27)) (us [0,0,0,0,0,0]) 27 (w.heap.size+1+1) (by simp)).alloc (.cells (us [0,0,0,0,0,0]).toArray 27);have b3:=Blk.new (((w.alloc (.cells (us A).toArray 27)).alloc (.cells (us B).toArray 27)).alloc (.cells (us [0,0,0,0,0,0]).toArray 27)) (us [0,0,0,0,0,0]) 27 (w.heap.size+1+1+1) (by simp);have hbel:Below w.heap.size w ((((w.alloc (.cells (us A).toArray 27)).alloc (.cells (us B).toArray 27)).alloc (.cells (us [0,0,0,0,0,0]).toArray 27)).alloc (.cells (us [0,0,0,0,0,0]).toArray 27)):=((((Below.refl _ _).alloc (Nat.le_refl _) _).alloc (by simp) _).alloc (by simp;omega) _).alloc (by simp;omega) _;go_enter Tryz.func263,Tryz.ntmps263;go_wp2;go_loopw [7,9] (fun o i wr=>∃ (k:Nat) (n:Int) (S:List Int),k≤6∧i=.int .i64 k∧o=.int .u64 n∧0≤n∧n≤1∧S.length=6∧Zaz S∧v64 (S.take k)+n*18446744073709551616 ^ k=v64 (A.take k)+v64 (B.take k) ∧
   Blk wr w.heap.size (us A)∧Blk wr (w.heap.size+1) (us B)∧Blk wr (w.heap.size+1+1) (us [0,0,0,0,0,0])∧Blk wr (w.heap.size+1+1+1) (us S)∧Below w.heap.size w wr)
  (fun _ i _=>6-(intOf i).toNat)
 case atStart=>exact ⟨0,0,[0,0,0,0,0,0],by omega,rfl,rfl,by omega,by omega,rfl,ZcC 6,by simp[pv],b0,b1,b2,b3,hbel⟩
 case round =>
  obtain⟨k,n,S,hk,rfl,rfl,hn0,hn1,lS,fS,hv,hSA,hSB,hSZ,hSS,hbel⟩:=hrel;clear b0 b1 b2 b3
  by_cases hlt:k<6
  ·obtain ⟨a,hA⟩:∃ a,A.getD k 0=a:=⟨_,rfl⟩
   obtain⟨b,hB⟩:∃ b,B.getD k 0=b:=⟨_,rfl⟩;obtain ⟨s,hS⟩:∃ s,S.getD k 0=s:=⟨_,rfl⟩;have ha:=hSA.cell k _ (ZaO A k (by omega));have hb:=hSB.cell k _ (ZaO B k (by omega));have hs:=hSS.cell k _ (ZaO S k (by omega));rw[hA] at ha;rw[hB] at hb;rw[hS] at hs;have hf:=hSS.frozen k;have hax:0≤a∧a<18446744073709551616:=hA ▸ hx k;have hbx:0≤b∧b<18446744073709551616:=hB ▸ hy k;have hadd:=Zcy a b n hax.1 hbx.1 hn0 hn1;have st:Hid _:=Zl3 A B S k n a b lA lB lS hlt hA hB hv;have q0:0≤(a+b+n)/18446744073709551616:=by omega
   have q1:(a+b+n)/18446744073709551616≤1:=by omega
   have r0:0≤(a+b+n)%18446744073709551616:=by omega
   have r1:(a+b+n)%18446744073709551616<18446744073709551616:=by omega
   clear hA hB hS hv;have h1:(k:Int)<6:=by omega
   have h2:(0:Int)≤(k:Int):=by omega
   go_wp2;go_region_held3 (fun w'=>w'.cell? ⟨w.heap.size,k,none⟩=some (.int .u64 a)∧w'.cell? ⟨w.heap.size+1,k,none⟩=some (.int .u64 b)) (first|exact ⟨ha,hb⟩|(refine ⟨?_,?_⟩<;>(rw[World.cell?_drew,World.cell?_setCell_far _ _ _ _ (by simp<;>omega)];assumption))) (fail)
   all_goals go_wp2
   all_goals go_roundw
   case rel=>exact ⟨k+1,_,S.set k ((a+b+n)%18446744073709551616),by omega,by go_num,rfl,q0,q1,by simpa using lS,Zdm fS k _ r0 r1,st.out,(hSA.other _ _ (by simp<;>omega)).drew,(hSB.other _ _ (by simp<;>omega)).drew,(hSZ.other _ _ (by simp)).drew,(hSS.setu k _).drew,(hbel.setCell (by simp<;>omega) _).drew⟩
   case measure=>simp[intOf];omega
  ·have h6:(6:Int)≤(k:Int):=by omega
   obtain⟨s0,s1,s2,s3,s4,s5,rfl⟩:=six lS;have c0:=hSS.cell 0 _ rfl;have z0:=hSZ.cell 0 _ rfl;have f0:=hSZ.frozen 0;have c1:=hSS.cell 1 _ rfl;have z1:=hSZ.cell 1 _ rfl;have f1:=hSZ.frozen 1;have c2:=hSS.cell 2 _ rfl;have z2:=hSZ.cell 2 _ rfl;have f2:=hSZ.frozen 2;have c3:=hSS.cell 3 _ rfl;have z3:=hSZ.cell 3 _ rfl;have f3:=hSZ.frozen 3;have c4:=hSS.cell 4 _ rfl;have z4:=hSZ.cell 4 _ rfl;have f4:=hSZ.frozen 4;have c5:=hSS.cell 5 _ rfl;have z5:=hSZ.cell 5 _ rfl;have f5:=hSZ.frozen 5;go_wp2;have hk6:k=6:=by omega
   subst hk6;rw[List.take_of_length_le (by omega),List.take_of_length_le (by omega),List.take_of_length_le (by omega)] at hv;exact bodyPost_ret (v:=.tuple #[.agg #[.int .u64 s0,.int .u64 s1,.int .u64 s2,.int .u64 s3,.int .u64 s4,.int .u64 s5],.int .u64 n]) (by simp[results,Tryz.results263,go_sem,z0,z1,z2,z3,z4,z5]) rfl
    ⟨[s0,s1,s2,s3,s4,s5],n,rfl,rfl,fS,hn0,hn1,hv,(((((hbel.setCell (by simp;omega) _).setCell (by simp;omega) _).setCell (by simp;omega) _).setCell (by simp;omega) _).setCell (by simp;omega) _).setCell (by simp;omega) _⟩
theorem add6 {x0 x1 x2 x3 x4 x5 y0 y1 y2 y3 y4 y5:Int} {w:World} (hx:Zaz [x0,x1,x2,x3,x4,x5]) (hy:Zaz [y0,y1,y2,y3,y4,y5]) :
  Calls Tryz.prog 263 #[.agg #[.int .u64 x0,.int .u64 x1,.int .u64 x2,.int .u64 x3,.int .u64 x4,.int .u64 x5],.agg #[.int .u64 y0,.int .u64 y1,.int .u64 y2,.int .u64 y3,.int .u64 y4,.int .u64 y5]] w fun e w'=>∃ s0 s1 s2 s3 s4 s5 n:Int,e=.returned (.tuple #[.agg #[.int .u64 s0,.int .u64 s1,.int .u64 s2,.int .u64 s3,.int .u64 s4,.int .u64 s5],.int .u64 n])∧Zaz [s0,s1,s2,s3,s4,s5]∧0≤n∧n≤1 ∧
   v64 [s0,s1,s2,s3,s4,s5]+n*18446744073709551616 ^ 6=v64 [x0,x1,x2,x3,x4,x5]+v64 [y0,y1,y2,y3,y4,y5]∧Below w.heap.size w w':=by
 refine(Zoa [x0,x1,x2,x3,x4,x5] [y0,y1,y2,y3,y4,y5] w rfl rfl hx hy).mono ?_;rintro e w' ⟨S,n,rfl,lS,fS,h0,h1,hv,hb⟩;obtain ⟨s0,s1,s2,s3,s4,s5,rfl⟩:=six lS;exact ⟨s0,s1,s2,s3,s4,s5,n,rfl,fS,h0,h1,hv,hb⟩
theorem ZlG (x y c:Int) (hx:0≤x∧x<18446744073709551616) (hy:0≤y∧y<18446744073709551616) (hc0:0≤c) (hc:c≤1) (w:World) :
    (callFunc 256 #[.int .u64 x,.int .u64 y,.int .u64 c]).run Tryz.prog w =
      .ok (.value (.tuple #[.int .u64 ((x-y-c)%18446744073709551616),.int .u64 (-((x-y-c)/18446744073709551616))])) w:=by
  obtain⟨x,rfl⟩:=Int.eq_ofNat_of_zero_le hx.1;obtain ⟨y,rfl⟩:=Int.eq_ofNat_of_zero_le hy.1;obtain ⟨c,rfl⟩:=Int.eq_ofNat_of_zero_le hc0;rw[run_callFunc_extern Tryz.func256 (by kernel_rfl) (by kernel_rfl) (by kernel_rfl) (e:=sub64Entry) (by kernel_rfl),run_sub64 x y c (by omega)];have e1:(((x+18446744073709551616-y-c)%18446744073709551616:Nat):Int)=((x:Int)-y-c)%18446744073709551616:=by omega
  have e2:((if x<y+c then 1 else 0:Nat):Int)=-(((x:Int)-y-c)/18446744073709551616):=by
    split<;>omega
  rw[e1,e2]
  rfl
theorem ZnG (A B S:List Int) (k:Nat) (n a b:Int) (lA:A.length=6) (lB:B.length=6) (lS:S.length=6) (hk:k<6) (ha:A.getD k 0=a) (hb:B.getD k 0=b)
  (h:v64 (S.take k)-n*18446744073709551616 ^ k=v64 (A.take k)-v64 (B.take k)) :
  v64 ((S.set k ((a-b-n)%18446744073709551616)).take (k+1))-(-((a-b-n)/18446744073709551616))*18446744073709551616 ^ (k+1)=v64 (A.take (k+1))-v64 (B.take (k+1)):=by
 have e:=Int.mul_ediv_add_emod (a-b-n) 18446744073709551616;simp only[v64] at *;rw[ZbC _ _ k (by simp;omega),ZbC _ A k (by omega),ZbC _ B k (by omega),ZcS,Za7 _ _ _ (by omega),ha,hb,Int.pow_succ];generalize (a-b-n)/18446744073709551616=q at *;generalize (a-b-n)%18446744073709551616=r at *;generalize (18446744073709551616:Int) ^ k=p at *;have e':a=18446744073709551616*q+r+b+n:=by omega
 subst e'
 grind
theorem Zo3 (A B:List Int) (w:World) (lA:A.length=6) (lB:B.length=6) (hx:Zaz A) (hy:Zaz B) :
  Calls Tryz.prog 233 #[.agg (us A).toArray,.agg (us B).toArray] w fun e w'=>∃ (S:List Int) (n:Int),e=.returned (.tuple #[.agg (us S).toArray,.int .u64 n])∧S.length=6∧Zaz S∧0≤n∧n≤1 ∧
   v64 S-n*18446744073709551616 ^ 6=v64 A-v64 B∧Below w.heap.size w w':=by
 have b0:=(((Blk.new w (us A) 27 w.heap.size rfl).alloc (.cells (us B).toArray 27)).alloc (.cells (us [0,0,0,0,0,0]).toArray 27)).alloc (.cells (us [0,0,0,0,0,0]).toArray 27);have b1:=((Blk.new (w.alloc (.cells (us A).toArray 27)) (us B) 27 (w.heap.size+1) (by simp)).alloc (.cells (us [0,0,0,0,0,0]).toArray 27)).alloc (.cells (us [0,0,0,0,0,0]).toArray 27);have b2:=(Blk.new ((w.alloc (.cells (us A).toArray 27)).alloc (.cells (us B).toArray 27)) (us [0,0,0,0,0,0]) 27 (w.heap.size+1+1) (by simp)).alloc (.cells (us [0,0,0,0,0,0]).toArray 27);have b3:=Blk.new (((w.alloc (.cells (us A).toArray 27)).alloc (.cells (us B).toArray 27)).alloc (.cells (us [0,0,0,0,0,0]).toArray 27)) (us [0,0,0,0,0,0]) 27 (w.heap.size+1+1+1) (by simp);have hbel:Below w.heap.size w ((((w.alloc (.cells (us A).toArray 27)).alloc (.cells (us B).toArray 27)).alloc (.cells (us [0,0,0,0,0,0]).toArray 27)).alloc (.cells (us [0,0,0,0,0,0]).toArray 27)):=((((Below.refl _ _).alloc (Nat.le_refl _) _).alloc (by simp) _).alloc (by simp;omega) _).alloc (by simp;omega) _;go_enter Tryz.func233,Tryz.ntmps233;go_wp2;go_loopw [7,9] (fun o i wr=>∃ (k:Nat) (n:Int) (S:List Int),k≤6∧i=.int .i64 k∧o=.int .u64 n∧0≤n∧n≤1∧S.length=6∧Zaz S∧v64 (S.take k)-n*18446744073709551616 ^ k=v64 (A.take k)-v64 (B.take k) ∧
   Blk wr w.heap.size (us A)∧Blk wr (w.heap.size+1) (us B)∧Blk wr (w.heap.size+1+1) (us [0,0,0,0,0,0])∧Blk wr (w.heap.size+1+1+1) (us S)∧Below w.heap.size w wr)
  (fun _ i _=>6-(intOf i).toNat)
 case atStart=>exact ⟨0,0,[0,0,0,0,0,0],by omega,rfl,rfl,by omega,by omega,rfl,ZcC 6,by simp[pv],b0,b1,b2,b3,hbel⟩
 case round =>
  obtain⟨k,n,S,hk,rfl,rfl,hn0,hn1,lS,fS,hv,hSA,hSB,hSZ,hSS,hbel⟩:=hrel;clear b0 b1 b2 b3
  by_cases hlt:k<6
  ·obtain ⟨a,hA⟩:∃ a,A.getD k 0=a:=⟨_,rfl⟩
   obtain⟨b,hB⟩:∃ b,B.getD k 0=b:=⟨_,rfl⟩;obtain ⟨s,hS⟩:∃ s,S.getD k 0=s:=⟨_,rfl⟩;have ha:=hSA.cell k _ (ZaO A k (by omega));have hb:=hSB.cell k _ (ZaO B k (by omega));have hs:=hSS.cell k _ (ZaO S k (by omega));rw[hA] at ha;rw[hB] at hb;rw[hS] at hs;have hf:=hSS.frozen k;have hax:0≤a∧a<18446744073709551616:=hA ▸ hx k;have hbx:0≤b∧b<18446744073709551616:=hB ▸ hy k;have hadd:=ZlG a b n hax hbx hn0 hn1;have st:Hid _:=ZnG A B S k n a b lA lB lS hlt hA hB hv;have q0:0≤-((a-b-n)/18446744073709551616):=by omega
   have q1:-((a-b-n)/18446744073709551616)≤1:=by omega
   have r0:0≤(a-b-n)%18446744073709551616:=by omega
   have r1:(a-b-n)%18446744073709551616<18446744073709551616:=by omega
   clear hA hB hS hv;have h1:(k:Int)<6:=by omega
   have h2:(0:Int)≤(k:Int):=by omega
   go_wp2;go_region_held3 (fun w'=>w'.cell? ⟨w.heap.size,k,none⟩=some (.int .u64 a)∧w'.cell? ⟨w.heap.size+1,k,none⟩=some (.int .u64 b)) (first|exact ⟨ha,hb⟩|(refine ⟨?_,?_⟩<;>(rw[World.cell?_drew,World.cell?_setCell_far _ _ _ _ (by simp<;>omega)];assumption))) (fail)
   all_goals go_wp2
   all_goals go_roundw
   case rel=>exact ⟨k+1,_,S.set k ((a-b-n)%18446744073709551616),by omega,by go_num,rfl,q0,q1,by simpa using lS,Zdm fS k _ r0 r1,st.out,(hSA.other _ _ (by simp<;>omega)).drew,(hSB.other _ _ (by simp<;>omega)).drew,(hSZ.other _ _ (by simp)).drew,(hSS.setu k _).drew,(hbel.setCell (by simp<;>omega) _).drew⟩
   case measure=>simp[intOf];omega
  ·have h6:(6:Int)≤(k:Int):=by omega
   obtain⟨s0,s1,s2,s3,s4,s5,rfl⟩:=six lS;have c0:=hSS.cell 0 _ rfl;have z0:=hSZ.cell 0 _ rfl;have f0:=hSZ.frozen 0;have c1:=hSS.cell 1 _ rfl;have z1:=hSZ.cell 1 _ rfl;have f1:=hSZ.frozen 1;have c2:=hSS.cell 2 _ rfl;have z2:=hSZ.cell 2 _ rfl;have f2:=hSZ.frozen 2;have c3:=hSS.cell 3 _ rfl;have z3:=hSZ.cell 3 _ rfl;have f3:=hSZ.frozen 3;have c4:=hSS.cell 4 _ rfl;have z4:=hSZ.cell 4 _ rfl;have f4:=hSZ.frozen 4;have c5:=hSS.cell 5 _ rfl;have z5:=hSZ.cell 5 _ rfl;have f5:=hSZ.frozen 5;go_wp2;have hk6:k=6:=by omega
   subst hk6;rw[List.take_of_length_le (by omega),List.take_of_length_le (by omega),List.take_of_length_le (by omega)] at hv;exact bodyPost_ret (v:=.tuple #[.agg #[.int .u64 s0,.int .u64 s1,.int .u64 s2,.int .u64 s3,.int .u64 s4,.int .u64 s5],.int .u64 n]) (by simp[results,Tryz.results233,go_sem,z0,z1,z2,z3,z4,z5]) rfl
    ⟨[s0,s1,s2,s3,s4,s5],n,rfl,rfl,fS,hn0,hn1,hv,(((((hbel.setCell (by simp;omega) _).setCell (by simp;omega) _).setCell (by simp;omega) _).setCell (by simp;omega) _).setCell (by simp;omega) _).setCell (by simp;omega) _⟩
theorem sub6 {x0 x1 x2 x3 x4 x5 y0 y1 y2 y3 y4 y5:Int} {w:World} (hx:Zaz [x0,x1,x2,x3,x4,x5]) (hy:Zaz [y0,y1,y2,y3,y4,y5]) :
  Calls Tryz.prog 233 #[.agg #[.int .u64 x0,.int .u64 x1,.int .u64 x2,.int .u64 x3,.int .u64 x4,.int .u64 x5],.agg #[.int .u64 y0,.int .u64 y1,.int .u64 y2,.int .u64 y3,.int .u64 y4,.int .u64 y5]] w fun e w'=>∃ s0 s1 s2 s3 s4 s5 n:Int,e=.returned (.tuple #[.agg #[.int .u64 s0,.int .u64 s1,.int .u64 s2,.int .u64 s3,.int .u64 s4,.int .u64 s5],.int .u64 n])∧Zaz [s0,s1,s2,s3,s4,s5]∧0≤n∧n≤1 ∧
   v64 [s0,s1,s2,s3,s4,s5]-n*18446744073709551616 ^ 6=v64 [x0,x1,x2,x3,x4,x5]-v64 [y0,y1,y2,y3,y4,y5]∧Below w.heap.size w w':=by
 refine(Zo3 [x0,x1,x2,x3,x4,x5] [y0,y1,y2,y3,y4,y5] w rfl rfl hx hy).mono ?_;rintro e w' ⟨S,n,rfl,lS,fS,h0,h1,hv,hb⟩;obtain ⟨s0,s1,s2,s3,s4,s5,rfl⟩:=six lS;exact ⟨s0,s1,s2,s3,s4,s5,n,rfl,fS,h0,h1,hv,hb⟩
theorem ZmP (n:Int) (h0:0≤n) (h1:n<18446744073709551616):IntKind.u64.wrap (-bits .and .u64 n 1)=if n%2=1 then 18446744073709551615 else 0:=by
 rw[u64_and n 1 h0 h1 (by decide) (by decide),show (1:Int).toNat=1 from rfl,nat_mask1,IntKind.wrap_u64]
 split<;>omega
theorem Znf (a b m:Int) (odd:Bool) (ha:0≤a∧a<18446744073709551616) (hb:0≤b∧b<18446744073709551616) (hm:m=if odd then 18446744073709551615 else 0) :
  bits .xor .u64 a (bits .and .u64 m (bits .xor .u64 a b))=if odd then b else a:=by
 have hx:bits .xor .u64 a b=((a.toNat ^^^ b.toNat:Nat):Int):=u64_xor a b ha.1 ha.2 hb.1 hb.2;have hlt:=Nat.xor_lt_two_pow (n:=64) (show a.toNat<2 ^ 64 by omega) (show b.toNat<2 ^ 64 by omega);have e64:(2:Nat) ^ 64=18446744073709551616:=by decide
 rw[hx]
 cases odd
 ·have:m=0:=by simpa using hm
  subst this;rw[u64_and 0 _ (by decide) (by decide) (by omega) (by omega)];have:(0:Int).toNat &&& ((a.toNat ^^^ b.toNat:Nat):Int).toNat=0:=by simp
  rw[this,u64_xor a _ ha.1 ha.2 (by decide) (by decide)];simp;omega
 ·have:m=18446744073709551615:=by simpa using hm
  subst this;rw[u64_and _ _ (by decide) (by decide) (by omega) (by omega)];have:(18446744073709551615:Int).toNat &&& ((a.toNat ^^^ b.toNat:Nat):Int).toNat=a.toNat ^^^ b.toNat:=by
   rw[Nat.and_comm,show (18446744073709551615:Int).toNat=2 ^ 64-1 from rfl,Nat.and_two_pow_sub_one_eq_mod];simp only[Int.toNat_natCast];exact Nat.mod_eq_of_lt hlt
  rw[this,u64_xor a _ ha.1 ha.2 (by omega) (by omega)];simp only[Int.toNat_natCast,← Nat.xor_assoc,Nat.xor_self,Nat.zero_xor];simp;omega
def Zm2 (n:Int):Bool:=decide (n%2=1)
def pk (n:Int) (A B:List Int):List Int:=if Zm2 n then B else A
theorem Zn0 (n:Int) (A B:List Int) (lA:A.length=6) (lB:B.length=6):(pk n A B).length=6:=by
 unfold pk;split<;>assumption
theorem Zk1 (n:Int) (A B:List Int) (fA:Zaz A) (fB:Zaz B):Zaz (pk n A B):=by
 unfold pk;split<;>assumption
theorem pk_get (n:Int) (A B:List Int) (k:Nat):(pk n A B).getD k 0=if Zm2 n then B.getD k 0 else A.getD k 0:=by
 unfold pk;split<;>rfl
theorem Zd2 (S P:List Int) (k:Nat) (s:Int) (lS:S.length=6) (lP:P.length=6) (hk:k<6) (hs:P.getD k 0=s) (h:S.take k=P.take k):(S.set k s).take (k+1)=P.take (k+1):=by
 rw[List.take_add_one,List.take_add_one,ZcS,h,← hs];simp[List.getD_eq_getElem?_getD,List.getElem?_eq_getElem (show k<P.length by omega),show k<S.length by omega]
theorem Znd (n:Int) (A B:List Int) (w:World) (n0:0≤n) (n1:n<18446744073709551616) (lA:A.length=6) (lB:B.length=6) (hx:Zaz A) (hy:Zaz B) :
  Calls Tryz.prog 159 #[.int .u64 n,.agg (us A).toArray,.agg (us B).toArray] w fun e w'=>e=.returned (.agg (us (pk n A B)).toArray)∧Below w.heap.size w w':=by
 have b0:=(((Blk.new w (us A) 27 w.heap.size rfl).alloc (.cells (us B).toArray 27)).alloc (.cells (us [0,0,0,0,0,0]).toArray 27)).alloc (.cells (us [0,0,0,0,0,0]).toArray 27);have b1:=((Blk.new (w.alloc (.cells (us A).toArray 27)) (us B) 27 (w.heap.size+1) (by simp)).alloc (.cells (us [0,0,0,0,0,0]).toArray 27)).alloc (.cells (us [0,0,0,0,0,0]).toArray 27);have b2:=(Blk.new ((w.alloc (.cells (us A).toArray 27)).alloc (.cells (us B).toArray 27)) (us [0,0,0,0,0,0]) 27 (w.heap.size+1+1) (by simp)).alloc (.cells (us [0,0,0,0,0,0]).toArray 27);have b3:=Blk.new (((w.alloc (.cells (us A).toArray 27)).alloc (.cells (us B).toArray 27)).alloc (.cells (us [0,0,0,0,0,0]).toArray 27)) (us [0,0,0,0,0,0]) 27 (w.heap.size+1+1+1) (by simp);have hbel:Below w.heap.size w ((((w.alloc (.cells (us A).toArray 27)).alloc (.cells (us B).toArray 27)).alloc (.cells (us [0,0,0,0,0,0]).toArray 27)).alloc (.cells (us [0,0,0,0,0,0]).toArray 27)):=((((Below.refl _ _).alloc (Nat.le_refl _) _).alloc (by simp) _).alloc (by simp;omega) _).alloc (by simp;omega) _;obtain ⟨m,hm⟩:∃ m,IntKind.u64.wrap (-bits .and .u64 n 1)=m:=⟨_,rfl⟩;have HM:Hid (m=if Zm2 n then 18446744073709551615 else 0):=by rw[← hm,ZmP n n0 n1];simp[Zm2,Hid]
 obtain⟨P,hP⟩:∃ P,pk n A B=P:=⟨_,rfl⟩;have lP:=Zn0 n A B lA lB;have fP:=Zk1 n A B hx hy;have gP:Hid (∀ k,P.getD k 0=if Zm2 n then B.getD k 0 else A.getD k 0):=by rw[← hP];exact pk_get n A B
 rw[hP] at lP fP ⊢;clear hP;go_enter Tryz.func159,Tryz.ntmps159;go_wp2;clear hm;go_loopw [13] (fun i wr=>∃ (k:Nat) (S:List Int),k≤6∧i=.int .i64 k∧S.length=6∧S.take k=P.take k ∧
   Blk wr w.heap.size (us A)∧Blk wr (w.heap.size+1) (us B)∧Blk wr (w.heap.size+1+1) (us [0,0,0,0,0,0])∧Blk wr (w.heap.size+1+1+1) (us S)∧Below w.heap.size w wr)
  (fun i _=>6-(intOf i).toNat)
 case atStart=>exact ⟨0,[0,0,0,0,0,0],by omega,rfl,rfl,rfl,b0,b1,b2,b3,hbel⟩
 case round =>
  obtain⟨k,S,hk,rfl,lS,hv,hSA,hSB,hSZ,hSS,hbel⟩:=hrel;clear b0 b1 b2 b3
  by_cases hlt:k<6
  ·obtain ⟨a,hA⟩:∃ a,A.getD k 0=a:=⟨_,rfl⟩
   obtain⟨b,hB⟩:∃ b,B.getD k 0=b:=⟨_,rfl⟩;obtain ⟨s,hS⟩:∃ s,S.getD k 0=s:=⟨_,rfl⟩;have ha:=hSA.cell k _ (ZaO A k (by omega));have hb:=hSB.cell k _ (ZaO B k (by omega));have hs:=hSS.cell k _ (ZaO S k (by omega));rw[hA] at ha;rw[hB] at hb;rw[hS] at hs;have hf:=hSS.frozen k;have st:Hid (bits .xor .u64 a (bits .and .u64 m (bits .xor .u64 a b))=P.getD k 0):=by
    have:=Znf a b m (Zm2 n) (hA ▸ hx k) (hB ▸ hy k) HM.out;rw[gP.out k,hA,hB];exact this
   clear hA hB hS;have h1:(k:Int)<6:=by omega
   have h2:(0:Int)≤(k:Int):=by omega
   go_wp2;go_region_held3 (fun w'=>w'.cell? ⟨w.heap.size,k,none⟩=some (.int .u64 a)∧w'.cell? ⟨w.heap.size+1,k,none⟩=some (.int .u64 b)) (first|exact ⟨ha,hb⟩|(refine ⟨?_,?_⟩<;>(rw[World.cell?_drew,World.cell?_setCell_far _ _ _ _ (by simp<;>omega)];assumption))) (fail)
   all_goals go_wp2
   all_goals go_roundw
   case rel=>exact ⟨k+1,S.set k (bits .xor .u64 a (bits .and .u64 m (bits .xor .u64 a b))),by omega,by go_num,by simpa using lS,Zd2 S P k _ lS lP hlt st.out.symm hv,(hSA.other _ _ (by simp<;>omega)).drew,(hSB.other _ _ (by simp<;>omega)).drew,(hSZ.other _ _ (by simp)).drew,(hSS.setu k _).drew,(hbel.setCell (by simp<;>omega) _).drew⟩
   case measure=>simp[intOf];omega
  ·have h6:(6:Int)≤(k:Int):=by omega
   have hk6:k=6:=by omega
   have hSP:S=P:=by
    rw[hk6,List.take_of_length_le (by omega),List.take_of_length_le (by omega)] at hv;exact hv
   subst hSP;obtain ⟨s0,s1,s2,s3,s4,s5,rfl⟩:=six lS;obtain ⟨c0,c1,c2,c3,c4,c5⟩:=hSS.cells6;obtain ⟨z0,z1,z2,z3,z4,z5⟩:=hSZ.cells6;have f0:=hSZ.frozen 0;have f1:=hSZ.frozen 1;have f2:=hSZ.frozen 2;have f3:=hSZ.frozen 3;have f4:=hSZ.frozen 4;have f5:=hSZ.frozen 5;clear hv;go_wp2;exact bodyPost_ret (v:=.agg #[.int .u64 s0,.int .u64 s1,.int .u64 s2,.int .u64 s3,.int .u64 s4,.int .u64 s5]) (by simp[results,Tryz.results159,go_sem,z0,z1,z2,z3,z4,z5]) rfl
    ⟨rfl,(((((hbel.setCell (by simp;omega) _).setCell (by simp;omega) _).setCell (by simp;omega) _).setCell (by simp;omega) _).setCell (by simp;omega) _).setCell (by simp;omega) _⟩
def Zdv (A B:List Int):Int:=if v64 A<v64 B then 1 else 0
theorem ZmL (A B S:List Int) (n:Int) (lS:S.length=6) (fS:Zaz S) (n0:0≤n) (n1:n≤1)
  (h:v64 S-n*18446744073709551616 ^ 6=v64 A-v64 B):n=Zdv A B:=by
 have bS:=Zdg S fS;rw[lS] at bS;unfold Zdv;generalize (18446744073709551616:Int) ^ 6=R at *;have hn:n=0∨n=1:=by omega
 rcases hn with rfl|rfl
 ·rw[if_neg (by omega)]
 ·rw[if_pos (by omega)]
theorem less6 {x0 x1 x2 x3 x4 x5 y0 y1 y2 y3 y4 y5:Int} {w:World} (hx:Zaz [x0,x1,x2,x3,x4,x5]) (hy:Zaz [y0,y1,y2,y3,y4,y5]) :
  Calls Tryz.prog 206 #[.agg #[.int .u64 x0,.int .u64 x1,.int .u64 x2,.int .u64 x3,.int .u64 x4,.int .u64 x5],.agg #[.int .u64 y0,.int .u64 y1,.int .u64 y2,.int .u64 y3,.int .u64 y4,.int .u64 y5]] w fun e w'=>e=.returned (.int .u64 (Zdv [x0,x1,x2,x3,x4,x5] [y0,y1,y2,y3,y4,y5]))∧Below w.heap.size w w':=by
 have bel:Below w.heap.size w ((w.alloc (.cells #[.int .u64 x0,.int .u64 x1,.int .u64 x2,.int .u64 x3,.int .u64 x4,.int .u64 x5] 27)).alloc (.cells #[.int .u64 y0,.int .u64 y1,.int .u64 y2,.int .u64 y3,.int .u64 y4,.int .u64 y5] 27)):=((Below.refl _ _).alloc (Nat.le_refl _) _).alloc (by simp) _;go_enter Tryz.func206,Tryz.ntmps206;go_wp2_with fail;refine (sub6 hx hy).mono ?_;rintro e w1 ⟨s0,s1,s2,s3,s4,s5,n,rfl,fS,n0,n1,hv,hb⟩;have hn:Hid _:=ZmL [x0,x1,x2,x3,x4,x5] [y0,y1,y2,y3,y4,y5] [s0,s1,s2,s3,s4,s5] n rfl fS n0 n1 hv;have bel1:=bel.trans (hb.mono (by simp;omega));clear bel hb hv;have hz:=bel1.size;go_wp2_with fail;go_ret;exact ⟨ZdG hn.out,bel1.alloc hz _⟩
theorem ZoL (n m:Int) (h0:0≤n) (h1:n<18446744073709551616) (h2:0≤m) (h3:m<18446744073709551616) :
  0≤bits .or .u64 n m∧bits .or .u64 n m<18446744073709551616∧(bits .or .u64 n m=0↔n=0∧m=0):=by
 rw[u64_or n m h0 h1 h2 h3];have hn:n.toNat<2 ^ 64:=by omega
 have hm:m.toNat<2 ^ 64:=by omega
 have hlt:=Nat.or_lt_two_pow hn hm;refine ⟨by omega,by omega,?_⟩;constructor
 ·intro h
  have h':n.toNat ||| m.toNat=0:=by omega
  rw[Nat.or_eq_zero_iff] at h';omega
 ·rintro ⟨rfl,rfl⟩
  rfl
theorem ZnO (n m:Int) (h0:0≤n) (h1:n<18446744073709551616) (h2:0≤m) (h3:m<18446744073709551616) :
  0≤bits .xor .u64 n m∧bits .xor .u64 n m<18446744073709551616∧(bits .xor .u64 n m=0↔n=m):=by
 rw[u64_xor n m h0 h1 h2 h3];have hn:n.toNat<2 ^ 64:=by omega
 have hm:m.toNat<2 ^ 64:=by omega
 have hlt:=Nat.xor_lt_two_pow hn hm;refine ⟨by omega,by omega,?_⟩;constructor
 ·intro h
  have h':n.toNat ^^^ m.toNat=0:=by omega
  have h'':n.toNat=m.toNat:=by
   have:=congrArg (· ^^^ m.toNat) h'
   simpa [Nat.xor_assoc] using this
  omega
 ·rintro rfl
  simp
theorem Zlt (n a b:Int) (h0:0≤n) (h1:n<18446744073709551616) (ha:0≤a∧a<18446744073709551616) (hb:0≤b∧b<18446744073709551616) (A B:List Int) (k:Nat)
  (hiff:n=0↔∀ j,j<k→A.getD j 0=B.getD j 0) (hA:A.getD k 0=a) (hB:B.getD k 0=b) :
  0≤bits .or .u64 n (bits .xor .u64 a b)∧bits .or .u64 n (bits .xor .u64 a b)<18446744073709551616∧(bits .or .u64 n (bits .xor .u64 a b)=0↔∀ j,j<k+1→A.getD j 0=B.getD j 0):=by
 have hx:=ZnO a b ha.1 ha.2 hb.1 hb.2;have ho:=ZoL n (bits .xor .u64 a b) h0 h1 hx.1 hx.2.1;refine ⟨ho.1,ho.2.1,?_⟩;rw[ho.2.2,hx.2.2,hiff];constructor
 ·rintro ⟨h,h'⟩ j hj
  by_cases hjk:j=k
  ·subst hjk;rw[hA,hB,h']
  ·exact h j (by omega)
 ·intro h
  exact⟨fun j hj=>h j (by omega),by rw[← hA,← hB];exact h k (by omega)⟩
theorem Znu (n:Int) (h0:0≤n) (h1:n<18446744073709551616) :
  bits .xor .u64 1 (bits .or .u64 n (IntKind.u64.wrap (-n))/9223372036854775808)=if n=0 then 1 else 0:=by
 by_cases hz:n=0
 ·subst hz;rfl
 ·rw[if_neg hz]
  have e:IntKind.u64.wrap (-n)=18446744073709551616-n:=by rw[IntKind.wrap_u64];omega
  rw[e,u64_or n _ h0 h1 (by omega) (by omega)];have hl:=Nat.left_le_or (n:=n.toNat) (m:=(18446744073709551616-n).toNat);have hr:=Nat.right_le_or (n:=n.toNat) (m:=(18446744073709551616-n).toNat);have hlt:=Nat.or_lt_two_pow (n:=64) (show n.toNat<2 ^ 64 by omega) (show (18446744073709551616-n).toNat<2 ^ 64 by omega);generalize n.toNat ||| (18446744073709551616-n).toNat=m at *;have:(m:Int)/9223372036854775808=1:=by omega
  rw[this]
  rfl
def ZdZ (A B:List Int):Int:=if A=B then 1 else 0
theorem Zns (A B:List Int) (lA:A.length=6) (lB:B.length=6) (n:Int) (h0:0≤n) (h1:n<18446744073709551616) (k:Nat) (hk:k=6) (hiff:n=0↔∀ j,j<k→A.getD j 0=B.getD j 0) :
  bits .xor .u64 1 (bits .or .u64 n (IntKind.u64.wrap (-n))/9223372036854775808)=ZdZ A B:=by
 rw[Znu n h0 h1,ZdZ];have:n=0↔A=B:=by
  rw[hiff];constructor
  ·intro h
   apply List.ext_getElem (by omega);intro i h1 h2;have:=h i (by omega)
   simpa [List.getD_eq_getElem?_getD,h1,h2] using this
  ·rintro rfl _ _;rfl
 simp only[this]
theorem Znt (A B:List Int) (w:World) (lA:A.length=6) (lB:B.length=6) (hx:Zaz A) (hy:Zaz B) :
  Calls Tryz.prog 160 #[.agg (us A).toArray,.agg (us B).toArray] w fun e w'=>e=.returned (.int .u64 (ZdZ A B))∧Below w.heap.size w w':=by
 have b0:=(Blk.new w (us A) 27 w.heap.size rfl).alloc (.cells (us B).toArray 27);have b1:=Blk.new (w.alloc (.cells (us A).toArray 27)) (us B) 27 (w.heap.size+1) (by simp);have hbel:Below w.heap.size w ((w.alloc (.cells (us A).toArray 27)).alloc (.cells (us B).toArray 27)):=((Below.refl _ _).alloc (Nat.le_refl _) _).alloc (by simp) _;go_enter Tryz.func160,Tryz.ntmps160;go_wp2;go_loopw [5,7] (fun o i wr=>∃ (k:Nat) (n:Int),k≤6∧i=.int .i64 k∧o=.int .u64 n∧0≤n∧n<18446744073709551616∧(n=0↔∀ j,j<k→A.getD j 0=B.getD j 0)∧Blk wr w.heap.size (us A)∧Blk wr (w.heap.size+1) (us B)∧Below w.heap.size w wr)
  (fun _ i _=>6-(intOf i).toNat)
 case atStart=>exact ⟨0,0,by omega,rfl,rfl,by omega,by omega,by simp,b0,b1,hbel⟩
 case round =>
  obtain⟨k,n,hk,rfl,rfl,hn0,hn1,hiff,hSA,hSB,hbel⟩:=hrel;clear b0 b1
  by_cases hlt:k<6
  ·obtain ⟨a,hA⟩:∃ a,A.getD k 0=a:=⟨_,rfl⟩
   obtain⟨b,hB⟩:∃ b,B.getD k 0=b:=⟨_,rfl⟩;have ha:=hSA.cell k _ (ZaO A k (by omega));have hb:=hSB.cell k _ (ZaO B k (by omega));rw[hA] at ha;rw[hB] at hb;have hs:Hid _:=Zlt n a b hn0 hn1 (hA ▸ hx k) (hB ▸ hy k) A B k hiff hA hB;clear hiff hA hB;have h1:(k:Int)<6:=by omega
   go_wp2;go_quiet (fail);go_wp2;go_roundw
   case rel=>exact ⟨k+1,_,by omega,by go_num,rfl,hs.out.1,hs.out.2.1,hs.out.2.2,hSA.drewN _,hSB.drewN _,ZcJ hbel _⟩
   case measure=>simp[intOf];omega
  ·have h6:(6:Int)≤(k:Int):=by omega
   go_wp2;go_ret;exact ⟨ZdG (Zns A B lA lB n hn0 hn1 k (by omega) hiff),hbel⟩
theorem Zlj {a b c d:Int} (h:a=b) (h':c=d):Ending.returned (.tuple #[.int .u64 a,.int .u64 c])=.returned (.tuple #[.int .u64 b,.int .u64 d]):=by rw[h,h']
theorem ZlT (z:Int):0≤IntKind.u64.wrap z∧IntKind.u64.wrap z<18446744073709551616:=by rw[IntKind.wrap_u64];omega
theorem ZmX (x y:Int) (hx0:0≤x) (hx:x<18446744073709551616) (hy0:0≤y) (hy:y<18446744073709551616) :
  IntKind.u64.wrap (IntKind.u64.wrap (IntKind.u64.wrap (x/4294967296*(y/4294967296))+IntKind.u64.wrap (IntKind.u64.wrap (x/4294967296*(y%4294967296))+IntKind.u64.wrap (x%4294967296*(y%4294967296))/4294967296)/4294967296) +
   IntKind.u64.wrap (bits .and .u64 (IntKind.u64.wrap (IntKind.u64.wrap (x/4294967296*(y%4294967296))+IntKind.u64.wrap (x%4294967296*(y%4294967296))/4294967296)) 4294967295+IntKind.u64.wrap (x%4294967296*(y/4294967296)))/4294967296)=x*y/18446744073709551616:=by
 rw[and_low32 _ (ZlT _).1 (ZlT _).2];simp only[IntKind.wrap_u64];exact mul64_arith x y hx0 hx hy0 hy
theorem ZgT (x y:Int) (w:World) (hx0:0≤x) (hx:x<18446744073709551616) (hy0:0≤y) (hy:y<18446744073709551616) :
  Calls Tryz.prog 272 #[.int .u64 x,.int .u64 y] w fun e w'=>e=.returned (.tuple #[.int .u64 (x*y/18446744073709551616),.int .u64 (x*y%18446744073709551616)])∧w'=w:=by
 have a1:=and_low32 x hx0 hx;have a2:=and_low32 y hy0 hy;have H:Hid _:=ZmX x y hx0 hx hy0 hy;go_enter Tryz.func272,Tryz.ntmps272;go_wp2;go_ret2;exact ⟨Zlj H.out (IntKind.wrap_u64 _),rfl⟩
theorem Zga (x y:Int) (hx0:0≤x) (hx:x<18446744073709551616) (hy0:0≤y) (hy:y<18446744073709551616):0≤x*y∧x*y≤340282366920938463426481119284349108225:=by
 refine⟨Int.mul_nonneg hx0 hy0,?_⟩;have:=Int.mul_le_mul (show x≤18446744073709551615 by omega) (show y≤18446744073709551615 by omega) hy0 (by decide);omega
theorem Zjn (x y s c:Int) (w:World) (hx0:0≤x) (hx:x<18446744073709551616) (hy0:0≤y) (hy:y<18446744073709551616) (hs0:0≤s) (hs:s<18446744073709551616) (hc0:0≤c) (hc:c<18446744073709551616) :
  Calls Tryz.prog 274 #[.int .u64 x,.int .u64 y,.int .u64 s,.int .u64 c] w fun e w' =>
   e=.returned (.tuple #[.int .u64 ((x*y+s+c)%18446744073709551616),.int .u64 ((x*y+s+c)/18446744073709551616)])∧w'=w:=by
 have hp:=Zga x y hx0 hx hy0 hy;have M:=fun w=>ZgT x y w hx0 hx hy0 hy;obtain ⟨p,hpp⟩:∃ p,x*y=p:=⟨_,rfl⟩;rw[hpp] at hp M ⊢;obtain ⟨hi,hhi⟩:∃ z,p/18446744073709551616=z:=⟨_,rfl⟩;obtain ⟨lo,hlo⟩:∃ z,p%18446744073709551616=z:=⟨_,rfl⟩;rw[hhi,hlo] at M;have A1:=Zcy lo s 0 (by omega) hs0 (by omega) (by omega);obtain ⟨l1,hl1⟩:∃ z,(lo+s+0)%18446744073709551616=z:=⟨_,rfl⟩;obtain ⟨k1,hk1⟩:∃ z,(lo+s+0)/18446744073709551616=z:=⟨_,rfl⟩;rw[hl1,hk1] at A1;have A2:=Zcy l1 c 0 (by omega) hc0 (by omega) (by omega);obtain ⟨l2,hl2⟩:∃ z,(l1+c+0)%18446744073709551616=z:=⟨_,rfl⟩;obtain ⟨k2,hk2⟩:∃ z,(l1+c+0)/18446744073709551616=z:=⟨_,rfl⟩;rw[hl2,hk2] at A2;have E1:Hid (l2=(p+s+c)%18446744073709551616):=by show _=_;omega
 have E2:Hid (hi+k1+k2=(p+s+c)/18446744073709551616):=by show _=_;omega
 have b1:hi+k1+k2≤18446744073709551615:=by omega
 have b2:0≤hi:=by omega
 have b3:0≤k1:=by omega
 have b4:0≤k2:=by omega
 clear hpp hp hhi hlo hl1 hk1 hl2 hk2;go_enter Tryz.func274,Tryz.ntmps274;go_wp2_with fail;refine (M _).mono ?_;rintro e w' ⟨rfl,hw⟩;obtain rfl:=hw.symm;go_wp2_with fail;go_ret2;exact ⟨Zlj E1.out E2.out,rfl⟩
end Go.Proofs.YtdfmoghjimghhaaGreatDoor
