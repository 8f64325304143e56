/- limb.Sub: the difference, and the bit that is borrowed. limb.Less: whether a number is below another one. The two tables of the field as they lie in memory. (Plain part.) What makes 1 of a number, by Fermat, modulo the order. Numbers of six limbs and points as rows of cells. A signature's bytes. A signature's bytes: what was written is read as it was. Plain facts. -/
import Derived.Test.YtnkipgbnnhahbaaGreatDoorApBs
import Derived.Test.YtnkipgbnnhahbaaGreatDoorNum
import Derived.Test.YtnkipgbnnhahbaaGreatDoorHeld3
import Derived.Test.YtnkipgbnnhahbaaGreatDoorDrPar
import Derived.Test.YtnkipgbnnhahbaaGreatDoorClWr
import Derived.Test.YtnkipgbnnhahbaaGreatDoorCtPl
import Derived.Test.YtnkipgbnnhahbaaGreatDoorDcOut
import Derived.Test.YtnkipgbnnhahbaaGreatDoorDrDep
import Derived.Test.YtnkipgbnnhahbaaGreatDoorRows
import Derived.Shelf.Spec.BitsCarry
import Derived.Deep.RegionHeld3
import Derived.Deep.WholeRow
import Derived.Deep.DeepCutAuto
import Derived.Deep.DeepFit
namespace Go.Proofs.YtnkipgbnnhahbaaGreatDoor
open Go.RowKit
theorem sub64_run (x y c:Int) (hx:0≤x∧x < 18446744073709551616) (hy:0≤y∧y < 18446744073709551616) (hc0:0≤c) (hc:c≤1) (w:World) :
    (callFunc 100 #[.int .u64 x,.int .u64 y,.int .u64 c]).run Tryz.prog w =
      .ok (.value (.tuple #[.int .u64 ((x - y - c) % 18446744073709551616),.int .u64 (-((x - y - c) / 18446744073709551616))])) w:=by
  obtain ⟨x,rfl⟩:=Int.eq_ofNat_of_zero_le hx.1
  obtain ⟨y,rfl⟩:=Int.eq_ofNat_of_zero_le hy.1
  obtain ⟨c,rfl⟩:=Int.eq_ofNat_of_zero_le hc0
  rw [run_callFunc_extern Tryz.func100 (by kernel_rfl) (by kernel_rfl) (by kernel_rfl) (e:=sub64Entry) (by kernel_rfl),run_sub64 x y c (by omega)]
  have e1:(((x + 18446744073709551616 - y - c) % 18446744073709551616:Nat):Int)=((x:Int) - y - c) % 18446744073709551616:=by omega
  have e2:((if x < y + c then 1 else 0:Nat):Int)=-(((x:Int) - y - c) / 18446744073709551616):=by
    split<;>omega
  rw [e1,e2]
  rfl
/-- a round of the difference -/
theorem sub_step (A B S:List Int) (k:Nat) (n a b:Int) (lA:A.length=6) (lB:B.length=6) (lS:S.length=6) (hk:k < 6) (ha:A.getD k 0=a) (hb:B.getD k 0=b)
  (h:v64 (S.take k) - n * 18446744073709551616 ^ k=v64 (A.take k) - v64 (B.take k)) :
  v64 ((S.set k ((a - b - n) % 18446744073709551616)).take (k + 1)) - (-((a - b - n) / 18446744073709551616)) * 18446744073709551616 ^ (k + 1)=v64 (A.take (k + 1)) - v64 (B.take (k + 1)):=by
 have e:=Int.mul_ediv_add_emod (a - b - n) 18446744073709551616
 simp only [v64] at *
 rw [pv_take _ _ k (by simp;omega),pv_take _ A k (by omega),pv_take _ B k (by omega),take_set_same,getD_set_same _ _ _ (by omega),ha,hb,Int.pow_succ]
 generalize (a - b - n) / 18446744073709551616=q at *
 generalize (a - b - n) % 18446744073709551616=r at *
 generalize (18446744073709551616:Int) ^ k=p at *
 have e':a=18446744073709551616 * q + r + b + n:=by omega
 subst e'
 grind
set_option maxRecDepth 100000 in
set_option maxHeartbeats 1000000 in
theorem sub_any (A B:List Int) (w:World) (lA:A.length=6) (lB:B.length=6) (hx:fits A) (hy:fits B) :
  Calls Tryz.prog 97 #[.agg (us A).toArray,.agg (us B).toArray] w fun e w'=>∃ (S:List Int) (n:Int),e=.returned (.tuple #[.agg (us S).toArray,.int .u64 n])∧S.length=6∧fits S∧0≤n∧n≤1 ∧
   v64 S - n * 18446744073709551616 ^ 6=v64 A - v64 B∧Below w.heap.size w w':=by
 have b0:=(((Blk.new w (us A) 25 w.heap.size rfl).alloc (.cells (us B).toArray 25)).alloc (.cells (us [0,0,0,0,0,0]).toArray 25)).alloc (.cells (us [0,0,0,0,0,0]).toArray 25)
 have b1:=((Blk.new (w.alloc (.cells (us A).toArray 25)) (us B) 25 (w.heap.size + 1) (by simp)).alloc (.cells (us [0,0,0,0,0,0]).toArray 25)).alloc (.cells (us [0,0,0,0,0,0]).toArray 25)
 have b2:=(Blk.new ((w.alloc (.cells (us A).toArray 25)).alloc (.cells (us B).toArray 25)) (us [0,0,0,0,0,0]) 25 (w.heap.size + 1 + 1) (by simp)).alloc (.cells (us [0,0,0,0,0,0]).toArray 25)
 have b3:=Blk.new (((w.alloc (.cells (us A).toArray 25)).alloc (.cells (us B).toArray 25)).alloc (.cells (us [0,0,0,0,0,0]).toArray 25)) (us [0,0,0,0,0,0]) 25 (w.heap.size + 1 + 1 + 1) (by simp)
 have hbel:Below w.heap.size w ((((w.alloc (.cells (us A).toArray 25)).alloc (.cells (us B).toArray 25)).alloc (.cells (us [0,0,0,0,0,0]).toArray 25)).alloc (.cells (us [0,0,0,0,0,0]).toArray 25)):=((((Below.refl _ _).alloc (Nat.le_refl _) _).alloc (by simp) _).alloc (by simp;omega) _).alloc (by simp;omega) _
 go_enter Tryz.func97,Tryz.ntmps97
 go_wp2
 go_loopw [7,9] (fun o i wr=>∃ (k:Nat) (n:Int) (S:List Int),k≤6∧i=.int .i64 k∧o=.int .u64 n∧0≤n∧n≤1∧S.length=6∧fits S∧v64 (S.take k) - n * 18446744073709551616 ^ k=v64 (A.take k) - v64 (B.take k) ∧
   Blk wr w.heap.size (us A)∧Blk wr (w.heap.size + 1) (us B)∧Blk wr (w.heap.size + 1 + 1) (us [0,0,0,0,0,0])∧Blk wr (w.heap.size + 1 + 1 + 1) (us S)∧Below w.heap.size w wr)
  (fun _ i _=>6 - (intOf i).toNat)
 case atStart=>exact ⟨0,0,[0,0,0,0,0,0],by omega,rfl,rfl,by omega,by omega,rfl,fits_zero 6,by simp [pv],b0,b1,b2,b3,hbel⟩
 case round =>
  obtain ⟨k,n,S,hk,rfl,rfl,hn0,hn1,lS,fS,hv,hSA,hSB,hSZ,hSS,hbel⟩:=hrel
  clear b0 b1 b2 b3
  by_cases hlt:k < 6
  ·obtain ⟨a,hA⟩:∃ a,A.getD k 0=a:=⟨_,rfl⟩
   obtain ⟨b,hB⟩:∃ b,B.getD k 0=b:=⟨_,rfl⟩
   obtain ⟨s,hS⟩:∃ s,S.getD k 0=s:=⟨_,rfl⟩
   have ha:=hSA.cell k _ (us_get A k (by omega))
   have hb:=hSB.cell k _ (us_get B k (by omega))
   have hs:=hSS.cell k _ (us_get S k (by omega))
   rw [hA] at ha
   rw [hB] at hb
   rw [hS] at hs
   have hf:=hSS.frozen k
   have hax:0≤a∧a < 18446744073709551616:=hA ▸ hx k
   have hbx:0≤b∧b < 18446744073709551616:=hB ▸ hy k
   have hadd:=sub64_run a b n hax hbx hn0 hn1
   have st:Hid _:=sub_step A B S k n a b lA lB lS hlt hA hB hv
   have q0:0≤-((a - b - n) / 18446744073709551616):=by omega
   have q1:-((a - b - n) / 18446744073709551616)≤1:=by omega
   have r0:0≤(a - b - n) % 18446744073709551616:=by omega
   have r1:(a - b - n) % 18446744073709551616 < 18446744073709551616:=by omega
   clear hA hB hS hv
   have h1:(k:Int) < 6:=by omega
   have h2:(0:Int)≤(k:Int):=by omega
   go_wp2
   go_region_held3 (fun w'=>w'.cell? ⟨w.heap.size,k,none⟩=some (.int .u64 a)∧w'.cell? ⟨w.heap.size + 1,k,none⟩=some (.int .u64 b)) (first|exact ⟨ha,hb⟩|(refine ⟨?_,?_⟩<;>(rw [World.cell?_drew,World.cell?_setCell_far _ _ _ _ (by simp<;>omega)];assumption))) (fail)
   all_goals go_wp2
   all_goals go_roundw
   case rel=>exact ⟨k + 1,_,S.set k ((a - b - n) % 18446744073709551616),by omega,by go_num,rfl,q0,q1,by simpa using lS,fits_set fS k _ r0 r1,st.out,(hSA.other _ _ (by simp<;>omega)).drew,(hSB.other _ _ (by simp<;>omega)).drew,(hSZ.other _ _ (by simp)).drew,(hSS.setu k _).drew,(hbel.setCell (by simp<;>omega) _).drew⟩
   case measure=>simp [intOf];omega
  ·have h6:(6:Int)≤(k:Int):=by omega
   obtain ⟨s0,s1,s2,s3,s4,s5,rfl⟩:=six lS
   have c0:=hSS.cell 0 _ rfl
   have z0:=hSZ.cell 0 _ rfl
   have f0:=hSZ.frozen 0
   have c1:=hSS.cell 1 _ rfl
   have z1:=hSZ.cell 1 _ rfl
   have f1:=hSZ.frozen 1
   have c2:=hSS.cell 2 _ rfl
   have z2:=hSZ.cell 2 _ rfl
   have f2:=hSZ.frozen 2
   have c3:=hSS.cell 3 _ rfl
   have z3:=hSZ.cell 3 _ rfl
   have f3:=hSZ.frozen 3
   have c4:=hSS.cell 4 _ rfl
   have z4:=hSZ.cell 4 _ rfl
   have f4:=hSZ.frozen 4
   have c5:=hSS.cell 5 _ rfl
   have z5:=hSZ.cell 5 _ rfl
   have f5:=hSZ.frozen 5
   go_wp2
   have hk6:k=6:=by omega
   subst hk6
   rw [List.take_of_length_le (by omega),List.take_of_length_le (by omega),List.take_of_length_le (by omega)] at hv
   exact bodyPost_ret (v:=.tuple #[.agg #[.int .u64 s0,.int .u64 s1,.int .u64 s2,.int .u64 s3,.int .u64 s4,.int .u64 s5],.int .u64 n]) (by simp [results,Tryz.results97,go_sem,z0,z1,z2,z3,z4,z5]) rfl
    ⟨[s0,s1,s2,s3,s4,s5],n,rfl,rfl,fS,hn0,hn1,hv,(((((hbel.setCell (by simp;omega) _).setCell (by simp;omega) _).setCell (by simp;omega) _).setCell (by simp;omega) _).setCell (by simp;omega) _).setCell (by simp;omega) _⟩
theorem sub6 {x0 x1 x2 x3 x4 x5 y0 y1 y2 y3 y4 y5:Int} {w:World} (hx:fits [x0,x1,x2,x3,x4,x5]) (hy:fits [y0,y1,y2,y3,y4,y5]) :
  Calls Tryz.prog 97 #[.agg #[.int .u64 x0,.int .u64 x1,.int .u64 x2,.int .u64 x3,.int .u64 x4,.int .u64 x5],.agg #[.int .u64 y0,.int .u64 y1,.int .u64 y2,.int .u64 y3,.int .u64 y4,.int .u64 y5]] w fun e w'=>∃ s0 s1 s2 s3 s4 s5 n:Int,e=.returned (.tuple #[.agg #[.int .u64 s0,.int .u64 s1,.int .u64 s2,.int .u64 s3,.int .u64 s4,.int .u64 s5],.int .u64 n])∧fits [s0,s1,s2,s3,s4,s5]∧0≤n∧n≤1 ∧
   v64 [s0,s1,s2,s3,s4,s5] - n * 18446744073709551616 ^ 6=v64 [x0,x1,x2,x3,x4,x5] - v64 [y0,y1,y2,y3,y4,y5]∧Below w.heap.size w w':=by
 refine (sub_any [x0,x1,x2,x3,x4,x5] [y0,y1,y2,y3,y4,y5] w rfl rfl hx hy).mono ?_
 rintro e w' ⟨S,n,rfl,lS,fS,h0,h1,hv,hb⟩
 obtain ⟨s0,s1,s2,s3,s4,s5,rfl⟩:=six lS
 exact ⟨s0,s1,s2,s3,s4,s5,n,rfl,fS,h0,h1,hv,hb⟩
def lessN (A B:List Int):Int:=if v64 A < v64 B then 1 else 0
theorem less_num (A B S:List Int) (n:Int) (lS:S.length=6) (fS:fits S) (n0:0≤n) (n1:n≤1)
  (h:v64 S - n * 18446744073709551616 ^ 6=v64 A - v64 B):n=lessN A B:=by
 have bS:=v64_bound S fS
 rw [lS] at bS
 unfold lessN
 generalize (18446744073709551616:Int) ^ 6=R at *
 have hn:n=0∨n=1:=by omega
 rcases hn with rfl|rfl
 ·rw [if_neg (by omega)]
 ·rw [if_pos (by omega)]
set_option maxRecDepth 100000 in
set_option maxHeartbeats 400000 in
theorem less6 {x0 x1 x2 x3 x4 x5 y0 y1 y2 y3 y4 y5:Int} {w:World} (hx:fits [x0,x1,x2,x3,x4,x5]) (hy:fits [y0,y1,y2,y3,y4,y5]) :
  Calls Tryz.prog 88 #[.agg #[.int .u64 x0,.int .u64 x1,.int .u64 x2,.int .u64 x3,.int .u64 x4,.int .u64 x5],.agg #[.int .u64 y0,.int .u64 y1,.int .u64 y2,.int .u64 y3,.int .u64 y4,.int .u64 y5]] w fun e w'=>e=.returned (.int .u64 (lessN [x0,x1,x2,x3,x4,x5] [y0,y1,y2,y3,y4,y5]))∧Below w.heap.size w w':=by
 have bel:Below w.heap.size w ((w.alloc (.cells #[.int .u64 x0,.int .u64 x1,.int .u64 x2,.int .u64 x3,.int .u64 x4,.int .u64 x5] 25)).alloc (.cells #[.int .u64 y0,.int .u64 y1,.int .u64 y2,.int .u64 y3,.int .u64 y4,.int .u64 y5] 25)):=((Below.refl _ _).alloc (Nat.le_refl _) _).alloc (by simp) _
 go_enter Tryz.func88,Tryz.ntmps88
 go_wp2_with fail
 refine (sub6 hx hy).mono ?_
 rintro e w1 ⟨s0,s1,s2,s3,s4,s5,n,rfl,fS,n0,n1,hv,hb⟩
 have hn:Hid _:=less_num [x0,x1,x2,x3,x4,x5] [y0,y1,y2,y3,y4,y5] [s0,s1,s2,s3,s4,s5] n rfl fS n0 n1 hv
 have bel1:=bel.trans (hb.mono (by simp;omega))
 clear bel hb hv
 have hz:=bel1.size
 go_wp2_with fail
 go_ret
 exact ⟨ret_int hn.out,bel1.alloc hz _⟩
/-- the order -/
def QQ:Int:=39402006196394479212279040100143613805079739270465446667946905279627659399113263569398956308152294913554433653942643
theorem QQ_pos:0 < QQ:=by decide
def OutO (a:Int) (e:Nat) (z:Int):Prop:=z=a ^ e % QQ
/-- from 1 to N - 1 -/
def isSc (x:Int):Prop:=1≤x∧x < QQ
instance (x:Int):Decidable (isSc x):=by unfold isSc;exact inferInstance
/-- 1 over it (0 of 0) -/
def InvO (x z:Int):Prop:=OutO x 39402006196394479212279040100143613805079739270465446667946905279627659399113263569398956308152294913554433653942641 z
theorem InvO.one {x y z:Int} (h:InvO x y) (k:InvO x z):y=z:=h.trans k.symm
/-- a point as a row of cells -/
def P13 (cs:List Value) (P:Pt):Prop:=∃ (s0 s1 s2 s3 s4 s5 t0 t1 t2 t3 t4 t5:Int) (k:Bool),cs=[.int .u64 s0,.int .u64 s1,.int .u64 s2,.int .u64 s3,.int .u64 s4,.int .u64 s5,.int .u64 t0,.int .u64 t1,.int .u64 t2,.int .u64 t3,.int .u64 t4,.int .u64 t5,.bool k]∧Told P [s0,s1,s2,s3,s4,s5] [t0,t1,t2,t3,t4,t5] k
/-- thirteen cells that may be a point -/
def P13R (cs:List Value) (X Y:Int) (n:Bool):Prop:=∃ xs ys,cs=xs++ys++[.bool n]∧U6 xs X∧U6 ys Y
theorem P13.len {cs:List Value} {P:Pt} (h:P13 cs P):cs.length=13:=by
 obtain ⟨s0,s1,s2,s3,s4,s5,t0,t1,t2,t3,t4,t5,k,rfl,_⟩:=h
 rfl
theorem P13R.len {cs:List Value} {X Y:Int} {n:Bool} (h:P13R cs X Y n):cs.length=13:=by
 obtain ⟨xs,ys,rfl,h1,h2⟩:=h
 simp [h1.len,h2.len]
theorem P13R.ones {cs:List Value} {X Y:Int} {n:Bool} (h:P13R cs X Y n):OneR cs:=by
 obtain ⟨xs,ys,rfl,⟨z0,z1,z2,z3,z4,z5,rfl,_⟩,⟨y0,y1,y2,y3,y4,y5,rfl,_⟩⟩:=h
 simp [OneR,Value.oneCell']
/-- a signature's element, of two numbers' bodies -/
def sigT (x y:List Int):Tl:=.mk 0 16 true [] [.mk 0 2 false x [],.mk 0 2 false y []]
/-- a number in an element -/
def partP:Tl→Option (List Int)
 | .mk c t m b _=>if c=0∧t=2∧m=false then (match numP b with|.ok n=>some n|.error _=>none) else none
/-- two numbers in a list -/
def sigP:Tl→Option (List Int × List Int)
 | .mk c t m _ [a,b]=>if c=0∧t=16∧m=true then (match partP a,partP b with|some x,some y=>some (x,y)|_,_=>none) else none
 | _=>none
/-- 48 bytes of a number -/
def Is48 (X:List Int) (r:Int):Prop:=X.length=48∧byt X∧beN X=r
theorem beN_zero (X:List Int):beN ((0:Int) :: X)=beN X:=by
 unfold beN
 rw [List.reverse_cons,pv_append]
 simp [pv]
theorem beN_less:∀ X:List Int,beN (lessZ X)=beN X
 | []=>rfl
 | x :: xs=>by
  rw [lessZ]
  split
  ·rename_i h
   subst h
   rw [beN_less xs,beN_zero]
  ·rfl
theorem num48 {X:List Int} (hl:X.length=48):∃ x,numOf X=.ok x∧x.length≤49:=by
 have h1:(lessZ X).length≤48:=by
  rw [lessZ_drop,List.length_drop]
  omega
 unfold numOf
 rw [if_neg (by omega)]
 by_cases c:(lessZ X).length=0∨127 < (lessZ X).getD 0 0
 ·exact ⟨_,by rw [if_pos c],by rw [List.length_cons];omega⟩
 ·exact ⟨_,by rw [if_neg c],by omega⟩
theorem numOf_byt {X x:List Int} (b:byt X) (h:numOf X=.ok x):byt x:=by
 have hl:byt (lessZ X):=by rw [lessZ_drop];exact byt_dropM b _
 unfold numOf at h
 split at h
 ·cases h
 ·split at h
  ·cases h
   exact byt_consP (by decide) hl
  ·cases h
   exact hl
theorem lenB_small {n:Nat} (h:n < 128):(lenB n).length=1:=by
 unfold lenB
 rw [if_pos h]
 rfl
theorem sig_len {x y:List Int} (hx:x.length≤49) (hy:y.length≤49):(bytesT (sigT x y)).length≤200:=by
 have k1:(bytesT (.mk 0 2 false x [])).length=x.length + 2:=by
  rw [bytesT_len,bytesL,List.append_nil,lenB_small (by omega)]
  omega
 have k2:(bytesT (.mk 0 2 false y [])).length=y.length + 2:=by
  rw [bytesT_len,bytesL,List.append_nil,lenB_small (by omega)]
  omega
 unfold sigT
 rw [bytesT_len]
 simp only [bytesL,List.nil_append,List.append_nil,List.length_append,k1,k2]
 rw [lenB_small (by omega)]
 omega
theorem sig_fine (x y:List Int):fineT (sigT x y)=true:=by
 simp [sigT,fineT,fineL,fine1]
theorem sig_dep (x y:List Int):depT (sigT x y)=2:=by
 simp [sigT,depT,depL]
theorem sig_sz (x y:List Int):szT (sigT x y)=3:=by
 simp [sigT,szT,szL]
theorem sig_wr {x y:List Int} (hx:x.length≤49) (hy:y.length≤49):wrN (sigT x y)=0:=by
 have:=sig_len hx hy
 unfold wrN
 rw [if_pos (sig_fine x y),if_neg (by rw [sig_dep];omega),if_neg (by omega)]
theorem sig_wf {x y:List Int} (bx:byt x) (bY:byt y):WfT (sigT x y):=by
 simp only [sigT,WfT,WfL]
 exact ⟨by omega,by omega,byt_nilP,⟨by omega,by omega,bx,trivial⟩,⟨by omega,by omega,bY,trivial⟩,trivial⟩
theorem sig_byt {x y:List Int} (bx:byt x) (bY:byt y):byt (bytesT (sigT x y)):=bytesT_byt (sig_fine x y) (sig_wf bx bY)
theorem sig_parse {x y:List Int} (hx:x.length≤49) (hy:y.length≤49):parseP (bytesT (sigT x y))=.ok (sigT x y):=by
 have hl:=sig_len hx hy
 have h:=parse_of (T:=sigT x y) (Y:=[]) (sig_fine x y) (by rw [sig_dep];omega) (by rw [List.append_nil];omega)
 rw [List.append_nil] at h
 rw [h]
 rfl
theorem sigP_back {X Y x y:List Int} (bX:byt X) (bY:byt Y) (hx:numOf X=.ok x) (hy:numOf Y=.ok y):sigP (sigT x y)=some (lessZ X,lessZ Y):=by
 have h1:=(num_back bX hx).1
 have h2:=(num_back bY hy).1
 simp only [sigT,sigP,partP,h1,h2]
 simp
/-- a signature's element, as it lies -/
theorem sig_at {w:World} {g:Nat} {xv yv:Value} {x y:List Int} (hx:Bs w xv x) (hy:Bs w yv y) (B:Blk w g [.int .i64 0,.int .i64 2,.bool false,xv,.slice none 0 0,.int .i64 0,.int .i64 2,.bool false,yv,.slice none 0 0]):TlAt w (sigT x y) [.int .i64 0,.int .i64 16,.bool true,.slice none 0 0,.slice (some ⟨g,0,none⟩) 2 2]:=by
 have z0:Bs w (.slice none 0 0) []:=⟨none,0,rfl,by decide,by decide,fun h=>by simp at h⟩
 unfold sigT
 rw [TlAt]
 refine ⟨_,_,_,rfl,z0,by show 2≤2;omega,by decide,fun _=>⟨g,0,rfl,?_⟩⟩
 rw [KidsAt]
 refine ⟨⟨[.int .i64 0,.int .i64 2,.bool false,xv,.slice none 0 0],⟨B.lt,fun j v hj=>?_⟩,?_⟩,?_⟩
 ·rw [Nat.zero_add]
  refine B.cell j v ?_
  match j,hj with
  | 0,h=>exact h
  | 1,h=>exact h
  | 2,h=>exact h
  | 3,h=>exact h
  | 4,h=>exact h
  | j + 5,h=>simp at h
 ·rw [TlAt]
  exact ⟨_,_,_,rfl,hx,by decide,by decide,fun h=>absurd h (by simp)⟩
 ·rw [KidsAt]
  refine ⟨⟨[.int .i64 0,.int .i64 2,.bool false,yv,.slice none 0 0],⟨B.lt,fun j v hj=>?_⟩,?_⟩,?_⟩
  ·rw [Nat.zero_add]
   refine B.cell (5 + j) v ?_
   match j,hj with
   | 0,h=>exact h
   | 1,h=>exact h
   | 2,h=>exact h
   | 3,h=>exact h
   | 4,h=>exact h
   | j + 5,h=>simp at h
  ·rw [TlAt]
   exact ⟨_,_,_,rfl,hy,by decide,by decide,fun h=>absurd h (by simp)⟩
  ·rw [KidsAt];trivial
end Go.Proofs.YtnkipgbnnhahbaaGreatDoor
