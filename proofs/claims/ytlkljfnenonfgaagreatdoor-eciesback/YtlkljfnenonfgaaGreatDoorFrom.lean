/- Bytes in slices: what lies where, and the number that they are. limb.From: the number of 48 bytes. limb.From told by six letters; errors held against nil. -/
import Derived.Test.YtlkljfnenonfgaaGreatDoorBase
import Derived.Test.YtlkljfnenonfgaaGreatDoorLimb
import Derived.Test.YtlkljfnenonfgaaGreatDoorRows
import Derived.Deep.RegionHeld3
namespace Go.Proofs.YtlkljfnenonfgaaGreatDoor
open Go.RowKit
/-- the slice value v, in the world w, holds the bytes bs -/
def Bs (w:World) (v:Value) (bs:List Int):Prop :=
 ∃ ao cap,v=.slice ao bs.length cap∧cap≤maxLen∧bs.length≤cap∧(0 < bs.length→∃ b o,ao=some ⟨b,o,none⟩∧b < w.heap.size∧∀ j,j < bs.length→w.cell? ⟨b,o + j,none⟩=some (.int .u8 (bs.getD j 0)))
def byt (bs:List Int):Prop:=∀ j,0≤bs.getD j 0∧bs.getD j 0 < 256
theorem Bs.later {w w':World} {v:Value} {bs:List Int} (h:Bs w v bs) (hb:Below w.heap.size w w'):Bs w' v bs:=by
 obtain ⟨ao,cap,h1,h2,h3,h4⟩:=h
 refine ⟨ao,cap,h1,h2,h3,fun hp=>?_⟩
 obtain ⟨b,o,e1,e2,e3⟩:=h4 hp
 exact ⟨b,o,e1,Nat.lt_of_lt_of_le e2 hb.size,fun j hj=>(hb.cell e2).trans (e3 j hj)⟩
/-- the number of bytes, the highest first -/
def beN (bs:List Int):Int:=pv 256 bs.reverse
theorem byt_rev {bs:List Int} (h:byt bs) (j:Nat):0≤bs.reverse.getD j 0∧bs.reverse.getD j 0 < 256:=by
 by_cases hj:j < bs.length
 ·have:bs.reverse.getD j 0=bs.getD (bs.length - 1 - j) 0:=by
   simp [List.getD_eq_getElem?_getD,List.getElem?_reverse hj]
  rw [this];exact h _
 ·have:bs.reverse.getD j 0=0:=by rw [List.getD_eq_getElem?_getD,List.getElem?_eq_none (by simp;omega)];rfl
  rw [this];decide
theorem rev_get (bs:List Int) (j:Nat) (hj:j < bs.length):bs.reverse.getD (bs.length - 1 - j) 0=bs.getD j 0:=by
 have:bs.length - 1 - (bs.length - 1 - j)=j:=by omega
 simp [List.getD_eq_getElem?_getD,List.getElem?_reverse (show bs.length - 1 - j < bs.length by omega),this]
theorem pv256_bound:∀ (A:List Int),(∀ j,0≤A.getD j 0∧A.getD j 0 < 256)→0≤pv 256 A∧pv 256 A < 256 ^ A.length
 | [],_=>by simp [pv]
 | a :: A,h=>by
  have h0:0≤a∧a < 256:=h 0
  have ih:=pv256_bound A (fun j=>h (j + 1))
  simp only [pv,List.length_cons,Int.pow_succ] at *
  generalize (256:Int) ^ A.length=p at *
  generalize pv 256 A=v at *
  omega
abbrev u8s (A:List Int):List Value:=A.map (Value.int .u8)
theorem u8s_get (A:List Int) (j:Nat) (h:j < A.length):(u8s A)[j]?=some (.int .u8 (A.getD j 0)):=by
 simp [u8s,h]
theorem Bs.of_own {w:World} {base:Nat} {e:TypeId} {v:Value} {n:Nat} {D:List Int} (h:w.ownsRow base e 1 v n (u8s D)):Bs w v D:=by
 obtain ⟨hl,h⟩:=h
 have hn:D.length=n:=by simpa using hl
 rcases h with ⟨h1,h2⟩|⟨g,cap,cur,h1,h2,h3,h4,h5,h6,h7⟩
 ·exact ⟨none,0,by rw [h1,hn,h2],Nat.zero_le _,by omega,fun h=>by omega⟩
 ·refine ⟨_,cap,by rw [hn];exact h1,h5,by omega,fun _=>⟨g,0,rfl,(Array.getElem?_eq_some_iff.1 h3).1,fun j hj=>?_⟩⟩
  have e1:(cur.toList.take (n * 1))[j]?=some (.int .u8 (D.getD j 0)):=by rw [h7];exact u8s_get D j hj
  rw [List.getElem?_take,if_pos (by omega)] at e1
  rw [Nat.zero_add]
  simp only [World.cell?,h3,Option.isSome_none,Bool.false_eq_true,if_false]
  simpa using e1
theorem byt_of (A:List Int) (h:∀ j,j < A.length→0≤A.getD j 0∧A.getD j 0 < 256):byt A:=by
 intro j
 by_cases hj:j < A.length
 ·exact h j hj
 ·rw [getD_none A j (by omega)];decide
/-- what limb j holds behind k bytes, the lowest byte first -/
def segF (R:List Int) (k j:Nat):List Int:=(R.take (8 * j + 8)).drop (max (8 * j) (48 - k))
def segs (R:List Int) (k:Nat) (S:List Int):Prop:=∀ j,j < 6→S.getD j 0=pv 256 (segF R k j)
theorem segs_zero (R:List Int) (lR:R.length=48):segs R 0 [0,0,0,0,0,0]:=by
 intro j hj
 have e:segF R 0 j=[]:=by
  unfold segF
  apply List.drop_eq_nil_of_le
  simp;omega
 rw [e]
 match j,hj with
 | 0,_=>rfl
 | 1,_=>rfl
 | 2,_=>rfl
 | 3,_=>rfl
 | 4,_=>rfl
 | 5,_=>rfl
theorem segF_here (R:List Int) (k:Nat) (lR:R.length=48) (hk:k < 48):segF R (k + 1) ((47 - k) / 8)=R.getD (47 - k) 0 :: segF R k ((47 - k) / 8):=by
 unfold segF
 have e1:max (8 * ((47 - k) / 8)) (48 - (k + 1))=47 - k:=by omega
 have e2:max (8 * ((47 - k) / 8)) (48 - k)=47 - k + 1:=by omega
 have hl:47 - k < (R.take (8 * ((47 - k) / 8) + 8)).length:=by simp;omega
 rw [e1,e2,List.drop_eq_getElem_cons hl]
 congr 1
 rw [List.getElem_take,List.getD_eq_getElem?_getD,List.getElem?_eq_getElem (by omega)]
 rfl
theorem segF_else (R:List Int) (k j:Nat) (lR:R.length=48) (hk:k < 48) (hj:j < 6) (hne:(47 - k) / 8≠j):segF R (k + 1) j=segF R k j:=by
 unfold segF
 by_cases h:48 - k≤8 * j
 ·have e1:max (8 * j) (48 - (k + 1))=8 * j:=by omega
  have e2:max (8 * j) (48 - k)=8 * j:=by omega
  rw [e1,e2]
 ·rw [List.drop_eq_nil_of_le (by simp;omega),List.drop_eq_nil_of_le (by simp;omega)]
theorem segF_bound (R:List Int) (k:Nat) (lR:R.length=48) (hR:∀ j,0≤R.getD j 0∧R.getD j 0 < 256) (hk:k < 48):0≤pv 256 (segF R k ((47 - k) / 8))∧pv 256 (segF R k ((47 - k) / 8)) < 72057594037927936:=by
 have hg:∀ j,0≤(segF R k ((47 - k) / 8)).getD j 0∧(segF R k ((47 - k) / 8)).getD j 0 < 256:=by
  intro j
  unfold segF
  by_cases h:max (8 * ((47 - k) / 8)) (48 - k) + j < 8 * ((47 - k) / 8) + 8
  ·have:((R.take (8 * ((47 - k) / 8) + 8)).drop (max (8 * ((47 - k) / 8)) (48 - k))).getD j 0=R.getD (max (8 * ((47 - k) / 8)) (48 - k) + j) 0:=by
    simp only [List.getD_eq_getElem?_getD,List.getElem?_drop,List.getElem?_take,h,if_true]
   rw [this];exact hR _
  ·have:((R.take (8 * ((47 - k) / 8) + 8)).drop (max (8 * ((47 - k) / 8)) (48 - k))).getD j 0=0:=by
    simp only [List.getD_eq_getElem?_getD,List.getElem?_drop,List.getElem?_take,h,if_false]
    rfl
   rw [this];decide
 have b:=pv256_bound _ hg
 have hl:(segF R k ((47 - k) / 8)).length≤7:=by
  unfold segF;simp;omega
 have p:(256:Int) ^ (segF R k ((47 - k) / 8)).length≤256 ^ 7:=by
  generalize (segF R k ((47 - k) / 8)).length=n at *
  match n,hl with
  | 0,_=>decide
  | 1,_=>decide
  | 2,_=>decide
  | 3,_=>decide
  | 4,_=>decide
  | 5,_=>decide
  | 6,_=>decide
  | 7,_=>decide
 have e:(256:Int) ^ 7=72057594037927936:=by decide
 omega
theorem segs_step (R S:List Int) (k:Nat) (x s:Int) (lR:R.length=48) (lS:S.length=6) (hk:k < 48) (hx:R.getD (47 - k) 0=x) (hs:S.getD ((47 - k) / 8) 0=s) (h:segs R k S):segs R (k + 1) (S.set ((47 - k) / 8) (s * 256 + x)):=by
 intro j hj
 by_cases hjk:(47 - k) / 8=j
 ·have h0:=h _ (show (47 - k) / 8 < 6 by omega)
  rw [← hjk,getD_set_same _ _ _ (by omega),segF_here R k lR hk,pv,hx,← h0,hs]
  omega
 ·have:(S.set ((47 - k) / 8) (s * 256 + x)).getD j 0=S.getD j 0:=by simp [List.getD_eq_getElem?_getD,hjk]
  rw [this,segF_else R k j lR hk hj hjk]
  exact h j hj
theorem segs_end (R S:List Int) (lR:R.length=48) (lS:S.length=6) (h:segs R 48 S):v64 S=pv 256 R:=by
 obtain ⟨s0,s1,s2,s3,s4,s5,rfl⟩:=six lS
 have key:∀ n,n≤6→pv 256 (R.take (8 * n))=pv 18446744073709551616 ([s0,s1,s2,s3,s4,s5].take n):=by
  intro n
  induction n with
  | zero=>intro _;simp [pv]
  | succ n ih =>
   intro hn
   have h1:=h n (by omega)
   have e0:segF R 48 n=(R.take (8 * n + 8)).drop (8 * n):=by unfold segF;congr 1;omega
   have e1:R.take (8 * (n + 1))=R.take (8 * n)++segF R 48 n:=by
    rw [e0,show 8 * (n + 1)=8 * n + 8 by omega]
    have:=List.take_append_drop (8 * n) (R.take (8 * n + 8))
    rw [List.take_take,show min (8 * n) (8 * n + 8)=8 * n by omega] at this
    exact this.symm
   rw [e1,pv_append,ih (by omega),pv_take _ _ n (by simp;omega),h1]
   have e2:(R.take (8 * n)).length=8 * n:=by simp;omega
   rw [e2,Int.pow_mul]
   have e3:(256:Int) ^ 8=18446744073709551616:=by decide
   rw [e3]
 have:=key 6 (by omega)
 rw [List.take_of_length_le (by omega),List.take_of_length_le (by simp)] at this
 exact this.symm
theorem or_join (s x:Int) (hs:0≤s∧s < 72057594037927936) (hx:0≤x∧x < 256):bits .or .u64 (s * 256) x=s * 256 + x:=by
 rw [u64_or _ _ (by omega) (by omega) hx.1 (by omega)]
 have e:=nat_join 8 (s * 256).toNat x.toNat (by omega) (by omega)
 rw [e]
 omega
set_option maxRecDepth 100000 in
set_option maxHeartbeats 1000000 in
theorem from_right (v:Value) (bs:List Int) (w:World) (h:Bs w v bs) (hl:bs.length=48) (hB:byt bs) :
  Calls Tryz.prog 63 #[v] w fun e w'=>∃ S:List Int,e=.returned (.tuple #[.agg (us S).toArray,.nilIface])∧S.length=6∧fits S∧v64 S=beN bs∧Below w.heap.size w w':=by
 obtain ⟨ao,cap,rfl,h2,h3,h4⟩:=h
 unfold maxLen at h2
 obtain ⟨b,o,rfl,hb,hc⟩:=h4 (by omega)
 rw [hl] at h3 hc ⊢
 have b2:=(Blk.new w (us [0,0,0,0,0,0]) 24 w.heap.size rfl).alloc (.cells (us [0,0,0,0,0,0]).toArray 24)
 have b3:=Blk.new (w.alloc (.cells (us [0,0,0,0,0,0]).toArray 24)) (us [0,0,0,0,0,0]) 24 (w.heap.size + 1) (by simp)
 have hbel:Below w.heap.size w ((w.alloc (.cells (us [0,0,0,0,0,0]).toArray 24)).alloc (.cells (us [0,0,0,0,0,0]).toArray 24)):=((Below.refl _ _).alloc (Nat.le_refl _) _).alloc (by simp) _
 obtain ⟨R,hR⟩:∃ R,bs.reverse=R:=⟨_,rfl⟩
 have lR:R.length=48:=by rw [← hR];simpa using hl
 have bR:Hid (∀ j,0≤R.getD j 0∧R.getD j 0 < 256):=fun j=>hR ▸ byt_rev hB j
 have gR:Hid (∀ j,j < 48→R.getD (47 - j) 0=bs.getD j 0):=fun j hj=>by
  have:=rev_get bs j (by omega)
  rw [hl,hR] at this
  exact this
 have HN:Hid (pv 256 R=beN bs):=by unfold beN;rw [hR];rfl
 obtain ⟨N,hN⟩:∃ N,beN bs=N:=⟨_,rfl⟩
 rw [hN] at HN ⊢
 have sz:=segs_zero R lR
 clear hN hR h4
 go_enter Tryz.func63,Tryz.ntmps63
 go_wp2
 go_loopw [17] (fun i wr=>∃ (k:Nat) (S:List Int),k≤48∧i=.int .i64 k∧S.length=6∧fits S∧Hid (segs R k S)∧Blk wr w.heap.size (us [0,0,0,0,0,0])∧Blk wr (w.heap.size + 1) (us S)∧Below w.heap.size w wr)
  (fun i _=>48 - (intOf i).toNat)
 case atStart=>exact ⟨0,[0,0,0,0,0,0],by omega,rfl,rfl,fits_zero 6,sz,b2,b3,hbel⟩
 case round =>
  obtain ⟨k,S,hk,rfl,lS,fS,hJ,hZ,hS,hbel⟩:=hrel
  clear b2 b3
  by_cases hlt:k < 48
  ·obtain ⟨x,hx⟩:∃ x,bs.getD k 0=x:=⟨_,rfl⟩
   obtain ⟨s,hs⟩:∃ s,S.getD ((47 - k) / 8) 0=s:=⟨_,rfl⟩
   have xr:R.getD (47 - k) 0=x:=by rw [gR.out k hlt,hx]
   have bx:0≤x∧x < 256:=hx ▸ hB k
   have bs':0≤s∧s < 72057594037927936:=by
    have e:=hJ.out _ (show (47 - k) / 8 < 6 by omega)
    rw [hs] at e
    rw [e];exact segF_bound R k lR bR.out hlt
   have J:Hid (segs R (k + 1) (S.set ((47 - k) / 8) (s * 256 + x))):=segs_step R S k x s lR lS hlt xr hs hJ.out
   have x1:=(hbel.cell (p:=⟨b,o + k,none⟩) hb).trans (hc k hlt)
   rw [hx] at x1
   have x2:=hS.cell ((47 - k) / 8) _ (us_get S _ (by omega))
   rw [hs] at x2
   have fz:=hS.frozen ((47 - k) / 8)
   have hor:=or_join s x bs' bx
   have bs0:=bs'.1
   have bs1:=bs'.2
   have bx0:=bx.1
   have bx1:=bx.2
   have g1:(k:Int) < 48:=by omega
   have g2:(0:Int)≤(k:Int):=by omega
   have g3:(0:Int)≤(47 - (k:Int)) / 8:=by omega
   have g4:(47 - (k:Int)) / 8 < 6:=by omega
   have g5:((47 - (k:Int)) / 8).toNat=(47 - k) / 8:=by omega
   clear hx hs xr bx bs'
   go_wp2
   go_region
   all_goals go_wp2
   all_goals go_roundw
   case rel=>exact ⟨k + 1,S.set ((47 - k) / 8) (s * 256 + x),by omega,by go_num,by simpa using lS,fits_set fS _ _ (by omega) (by omega),J,(hZ.other _ _ (by simp)).drew,(hS.setu _ _).drew,(hbel.setCell (by simp) _).drew⟩
   case measure=>simp [intOf];omega
  ·have h6:(48:Int)≤(k:Int):=by omega
   have HQ:Hid (v64 S=N):=by
    have hk48:k=48:=by omega
    have e:=hJ.out
    rw [hk48] at e
    show _=_
    rw [segs_end R S lR lS e];exact HN.out
   obtain ⟨s0,s1,s2,s3,s4,s5,rfl⟩:=six lS
   obtain ⟨c0,c1,c2,c3,c4,c5⟩:=hS.cells6
   obtain ⟨z0,z1,z2,z3,z4,z5⟩:=hZ.cells6
   have f0:=hZ.frozen 0
   have f1:=hZ.frozen 1
   have f2:=hZ.frozen 2
   have f3:=hZ.frozen 3
   have f4:=hZ.frozen 4
   have f5:=hZ.frozen 5
   clear hJ
   go_wp2
   exact bodyPost_ret (v:=.tuple #[.agg #[.int .u64 s0,.int .u64 s1,.int .u64 s2,.int .u64 s3,.int .u64 s4,.int .u64 s5],.nilIface]) (by simp [results,Tryz.results63,go_sem,z0,z1,z2,z3,z4,z5]) rfl
    ⟨[s0,s1,s2,s3,s4,s5],rfl,rfl,fS,HQ.out,(((((hbel.setCell (by simp) _).setCell (by simp) _).setCell (by simp) _).setCell (by simp) _).setCell (by simp) _).setCell (by simp) _⟩
theorem iface_nilnot:∀ w:World,(binOp .neq 30 .nilIface .nilIface).run Tryz.prog w=.ok (.bool false) w:=fun _=>by kernel_rfl
theorem from6 {v:Value} {bs:List Int} {w:World} (h:Bs w v bs) (hl:bs.length=48) (hB:byt bs) :
  Calls Tryz.prog 63 #[v] w fun e w'=>∃ s0 s1 s2 s3 s4 s5:Int,e=.returned (.tuple #[.agg #[.int .u64 s0,.int .u64 s1,.int .u64 s2,.int .u64 s3,.int .u64 s4,.int .u64 s5],.nilIface])∧fits [s0,s1,s2,s3,s4,s5]∧v64 [s0,s1,s2,s3,s4,s5]=beN bs∧Below w.heap.size w w':=by
 refine (from_right v bs w h hl hB).mono ?_
 rintro e w' ⟨S,rfl,lS,fS,hS,hb⟩
 obtain ⟨s0,s1,s2,s3,s4,s5,rfl⟩:=six lS
 exact ⟨s0,s1,s2,s3,s4,s5,rfl,fS,hS,hb⟩
theorem lessN_no {A B:List Int} (h:v64 B≤v64 A):lessN A B=0:=by
 unfold lessN;rw [if_neg (by omega)]
theorem lessN_yes {A B:List Int} (h:v64 A < v64 B):lessN A B=1:=by
 unfold lessN;rw [if_pos h]
end Go.Proofs.YtlkljfnenonfgaaGreatDoor
