/- Bytes in slices: what lies where, and the number that they are. limb.From: the number of 48 bytes. limb.From told by six letters; errors held against nil. '==' on six limbs. '==' on the program's points. The reference's numbers as slices: their lengths; stores beside them. What stays through a walk: known blocks of whatever cells; any other block may be written. The program's points by value: opened as they are read, and shut again. A package-level variable that is a point: from the row's list to its cells. append of any bytes, also of none, to a row of one's own; rows apart. AES's numbers: products of bytes, substitutes, states. Plain facts. States as rows of 16 bytes: rows turned, columns mixed, as numbers. AES's round keys, as numbers. Plain facts. Round keys as they lie. Codes as numbers. -/
import Derived.Test.YtlkljfnenonfgaaGreatDoorBase
import Derived.Test.YtlkljfnenonfgaaGreatDoorLimb
import Derived.Test.YtlkljfnenonfgaaGreatDoorRows
import Derived.Deep.RegionHeld3
import Derived.Laws.StructEq
import Derived.Deep.FieldsWide
import Derived.Lib.LaidTab
import Derived.Stop.LaidErr
import Derived.LaidMore
import Derived.ProofKit
import Derived.Lib.SlFresh
import Derived.Deep.AppendLies
import Derived.Deep.OwnRows
import Derived.Laws.BitsAllLaws
import Derived.Deep.WholeRow
import Derived.Deep.DeepCutAuto
import Derived.Deep.DeepFit
import Derived.Great.BuildSlice
namespace Go.Proofs.YtlkljfnenonfgaaGreatDoor
open Go.RowKit
open Go.ChangeShapes Go.WideShapes Go.ChangeAt Go.RowKit Go.Deep
open Go.ChangeShapes Go.WideShapes Go.ChangeAt Go.RowKit
/-- the slice value v, in the world w, holds the bytes bs -/
def Bs (w:World) (v:Value) (bs:List Int):Prop :=
 ∃ ao cap,v=.slice ao bs.length cap∧cap≤maxLen∧bs.length≤cap∧(0 < bs.length→∃ b o,ao=some ⟨b,o,none⟩∧b < w.heap.size∧∀ j,j < bs.length→w.cell? ⟨b,o + j,none⟩=some (.int .u8 (bs.getD j 0)))
def byt (bs:List Int):Prop:=∀ j,0≤bs.getD j 0∧bs.getD j 0 < 256
theorem Bs.later {w w':World} {v:Value} {bs:List Int} (h:Bs w v bs) (hb:Below w.heap.size w w'):Bs w' v bs:=by
 obtain ⟨ao,cap,h1,h2,h3,h4⟩:=h
 refine ⟨ao,cap,h1,h2,h3,fun hp=>?_⟩
 obtain ⟨b,o,e1,e2,e3⟩:=h4 hp
 exact ⟨b,o,e1,Nat.lt_of_lt_of_le e2 hb.size,fun j hj=>(hb.cell e2).trans (e3 j hj)⟩
/-- the number of bytes, the highest first -/
def beN (bs:List Int):Int:=pv 256 bs.reverse
theorem byt_rev {bs:List Int} (h:byt bs) (j:Nat):0≤bs.reverse.getD j 0∧bs.reverse.getD j 0 < 256:=by
 by_cases hj:j < bs.length
 ·have:bs.reverse.getD j 0=bs.getD (bs.length - 1 - j) 0:=by
   simp [List.getD_eq_getElem?_getD,List.getElem?_reverse hj]
  rw [this];exact h _
 ·have:bs.reverse.getD j 0=0:=by rw [List.getD_eq_getElem?_getD,List.getElem?_eq_none (by simp;omega)];rfl
  rw [this];decide
theorem rev_get (bs:List Int) (j:Nat) (hj:j < bs.length):bs.reverse.getD (bs.length - 1 - j) 0=bs.getD j 0:=by
 have:bs.length - 1 - (bs.length - 1 - j)=j:=by omega
 simp [List.getD_eq_getElem?_getD,List.getElem?_reverse (show bs.length - 1 - j < bs.length by omega),this]
theorem pv256_bound:∀ (A:List Int),(∀ j,0≤A.getD j 0∧A.getD j 0 < 256)→0≤pv 256 A∧pv 256 A < 256 ^ A.length
 | [],_=>by simp [pv]
 | a :: A,h=>by
  have h0:0≤a∧a < 256:=h 0
  have ih:=pv256_bound A (fun j=>h (j + 1))
  simp only [pv,List.length_cons,Int.pow_succ] at *
  generalize (256:Int) ^ A.length=p at *
  generalize pv 256 A=v at *
  omega
abbrev u8s (A:List Int):List Value:=A.map (Value.int .u8)
theorem u8s_get (A:List Int) (j:Nat) (h:j < A.length):(u8s A)[j]?=some (.int .u8 (A.getD j 0)):=by
 simp [u8s,h]
theorem Bs.of_own {w:World} {base:Nat} {e:TypeId} {v:Value} {n:Nat} {D:List Int} (h:w.ownsRow base e 1 v n (u8s D)):Bs w v D:=by
 obtain ⟨hl,h⟩:=h
 have hn:D.length=n:=by simpa using hl
 rcases h with ⟨h1,h2⟩|⟨g,cap,cur,h1,h2,h3,h4,h5,h6,h7⟩
 ·exact ⟨none,0,by rw [h1,hn,h2],Nat.zero_le _,by omega,fun h=>by omega⟩
 ·refine ⟨_,cap,by rw [hn];exact h1,h5,by omega,fun _=>⟨g,0,rfl,(Array.getElem?_eq_some_iff.1 h3).1,fun j hj=>?_⟩⟩
  have e1:(cur.toList.take (n * 1))[j]?=some (.int .u8 (D.getD j 0)):=by rw [h7];exact u8s_get D j hj
  rw [List.getElem?_take,if_pos (by omega)] at e1
  rw [Nat.zero_add]
  simp only [World.cell?,h3,Option.isSome_none,Bool.false_eq_true,if_false]
  simpa using e1
theorem byt_of (A:List Int) (h:∀ j,j < A.length→0≤A.getD j 0∧A.getD j 0 < 256):byt A:=by
 intro j
 by_cases hj:j < A.length
 ·exact h j hj
 ·rw [getD_none A j (by omega)];decide
/-- what limb j holds behind k bytes, the lowest byte first -/
def segF (R:List Int) (k j:Nat):List Int:=(R.take (8 * j + 8)).drop (max (8 * j) (48 - k))
def segs (R:List Int) (k:Nat) (S:List Int):Prop:=∀ j,j < 6→S.getD j 0=pv 256 (segF R k j)
theorem segs_zero (R:List Int) (lR:R.length=48):segs R 0 [0,0,0,0,0,0]:=by
 intro j hj
 have e:segF R 0 j=[]:=by
  unfold segF
  apply List.drop_eq_nil_of_le
  simp;omega
 rw [e]
 match j,hj with
 | 0,_=>rfl
 | 1,_=>rfl
 | 2,_=>rfl
 | 3,_=>rfl
 | 4,_=>rfl
 | 5,_=>rfl
theorem segF_here (R:List Int) (k:Nat) (lR:R.length=48) (hk:k < 48):segF R (k + 1) ((47 - k) / 8)=R.getD (47 - k) 0 :: segF R k ((47 - k) / 8):=by
 unfold segF
 have e1:max (8 * ((47 - k) / 8)) (48 - (k + 1))=47 - k:=by omega
 have e2:max (8 * ((47 - k) / 8)) (48 - k)=47 - k + 1:=by omega
 have hl:47 - k < (R.take (8 * ((47 - k) / 8) + 8)).length:=by simp;omega
 rw [e1,e2,List.drop_eq_getElem_cons hl]
 congr 1
 rw [List.getElem_take,List.getD_eq_getElem?_getD,List.getElem?_eq_getElem (by omega)]
 rfl
theorem segF_else (R:List Int) (k j:Nat) (lR:R.length=48) (hk:k < 48) (hj:j < 6) (hne:(47 - k) / 8≠j):segF R (k + 1) j=segF R k j:=by
 unfold segF
 by_cases h:48 - k≤8 * j
 ·have e1:max (8 * j) (48 - (k + 1))=8 * j:=by omega
  have e2:max (8 * j) (48 - k)=8 * j:=by omega
  rw [e1,e2]
 ·rw [List.drop_eq_nil_of_le (by simp;omega),List.drop_eq_nil_of_le (by simp;omega)]
theorem segF_bound (R:List Int) (k:Nat) (lR:R.length=48) (hR:∀ j,0≤R.getD j 0∧R.getD j 0 < 256) (hk:k < 48):0≤pv 256 (segF R k ((47 - k) / 8))∧pv 256 (segF R k ((47 - k) / 8)) < 72057594037927936:=by
 have hg:∀ j,0≤(segF R k ((47 - k) / 8)).getD j 0∧(segF R k ((47 - k) / 8)).getD j 0 < 256:=by
  intro j
  unfold segF
  by_cases h:max (8 * ((47 - k) / 8)) (48 - k) + j < 8 * ((47 - k) / 8) + 8
  ·have:((R.take (8 * ((47 - k) / 8) + 8)).drop (max (8 * ((47 - k) / 8)) (48 - k))).getD j 0=R.getD (max (8 * ((47 - k) / 8)) (48 - k) + j) 0:=by
    simp only [List.getD_eq_getElem?_getD,List.getElem?_drop,List.getElem?_take,h,if_true]
   rw [this];exact hR _
  ·have:((R.take (8 * ((47 - k) / 8) + 8)).drop (max (8 * ((47 - k) / 8)) (48 - k))).getD j 0=0:=by
    simp only [List.getD_eq_getElem?_getD,List.getElem?_drop,List.getElem?_take,h,if_false]
    rfl
   rw [this];decide
 have b:=pv256_bound _ hg
 have hl:(segF R k ((47 - k) / 8)).length≤7:=by
  unfold segF;simp;omega
 have p:(256:Int) ^ (segF R k ((47 - k) / 8)).length≤256 ^ 7:=by
  generalize (segF R k ((47 - k) / 8)).length=n at *
  match n,hl with
  | 0,_=>decide
  | 1,_=>decide
  | 2,_=>decide
  | 3,_=>decide
  | 4,_=>decide
  | 5,_=>decide
  | 6,_=>decide
  | 7,_=>decide
 have e:(256:Int) ^ 7=72057594037927936:=by decide
 omega
theorem segs_step (R S:List Int) (k:Nat) (x s:Int) (lR:R.length=48) (lS:S.length=6) (hk:k < 48) (hx:R.getD (47 - k) 0=x) (hs:S.getD ((47 - k) / 8) 0=s) (h:segs R k S):segs R (k + 1) (S.set ((47 - k) / 8) (s * 256 + x)):=by
 intro j hj
 by_cases hjk:(47 - k) / 8=j
 ·have h0:=h _ (show (47 - k) / 8 < 6 by omega)
  rw [← hjk,getD_set_same _ _ _ (by omega),segF_here R k lR hk,pv,hx,← h0,hs]
  omega
 ·have:(S.set ((47 - k) / 8) (s * 256 + x)).getD j 0=S.getD j 0:=by simp [List.getD_eq_getElem?_getD,hjk]
  rw [this,segF_else R k j lR hk hj hjk]
  exact h j hj
theorem segs_end (R S:List Int) (lR:R.length=48) (lS:S.length=6) (h:segs R 48 S):v64 S=pv 256 R:=by
 obtain ⟨s0,s1,s2,s3,s4,s5,rfl⟩:=six lS
 have key:∀ n,n≤6→pv 256 (R.take (8 * n))=pv 18446744073709551616 ([s0,s1,s2,s3,s4,s5].take n):=by
  intro n
  induction n with
  | zero=>intro _;simp [pv]
  | succ n ih =>
   intro hn
   have h1:=h n (by omega)
   have e0:segF R 48 n=(R.take (8 * n + 8)).drop (8 * n):=by unfold segF;congr 1;omega
   have e1:R.take (8 * (n + 1))=R.take (8 * n)++segF R 48 n:=by
    rw [e0,show 8 * (n + 1)=8 * n + 8 by omega]
    have:=List.take_append_drop (8 * n) (R.take (8 * n + 8))
    rw [List.take_take,show min (8 * n) (8 * n + 8)=8 * n by omega] at this
    exact this.symm
   rw [e1,pv_append,ih (by omega),pv_take _ _ n (by simp;omega),h1]
   have e2:(R.take (8 * n)).length=8 * n:=by simp;omega
   rw [e2,Int.pow_mul]
   have e3:(256:Int) ^ 8=18446744073709551616:=by decide
   rw [e3]
 have:=key 6 (by omega)
 rw [List.take_of_length_le (by omega),List.take_of_length_le (by simp)] at this
 exact this.symm
theorem or_join (s x:Int) (hs:0≤s∧s < 72057594037927936) (hx:0≤x∧x < 256):bits .or .u64 (s * 256) x=s * 256 + x:=by
 rw [u64_or _ _ (by omega) (by omega) hx.1 (by omega)]
 have e:=nat_join 8 (s * 256).toNat x.toNat (by omega) (by omega)
 rw [e]
 omega
set_option maxRecDepth 100000 in
set_option maxHeartbeats 1000000 in
theorem from_right (v:Value) (bs:List Int) (w:World) (h:Bs w v bs) (hl:bs.length=48) (hB:byt bs) :
  Calls Tryz.prog 63 #[v] w fun e w'=>∃ S:List Int,e=.returned (.tuple #[.agg (us S).toArray,.nilIface])∧S.length=6∧fits S∧v64 S=beN bs∧Below w.heap.size w w':=by
 obtain ⟨ao,cap,rfl,h2,h3,h4⟩:=h
 unfold maxLen at h2
 obtain ⟨b,o,rfl,hb,hc⟩:=h4 (by omega)
 rw [hl] at h3 hc ⊢
 have b2:=(Blk.new w (us [0,0,0,0,0,0]) 24 w.heap.size rfl).alloc (.cells (us [0,0,0,0,0,0]).toArray 24)
 have b3:=Blk.new (w.alloc (.cells (us [0,0,0,0,0,0]).toArray 24)) (us [0,0,0,0,0,0]) 24 (w.heap.size + 1) (by simp)
 have hbel:Below w.heap.size w ((w.alloc (.cells (us [0,0,0,0,0,0]).toArray 24)).alloc (.cells (us [0,0,0,0,0,0]).toArray 24)):=((Below.refl _ _).alloc (Nat.le_refl _) _).alloc (by simp) _
 obtain ⟨R,hR⟩:∃ R,bs.reverse=R:=⟨_,rfl⟩
 have lR:R.length=48:=by rw [← hR];simpa using hl
 have bR:Hid (∀ j,0≤R.getD j 0∧R.getD j 0 < 256):=fun j=>hR ▸ byt_rev hB j
 have gR:Hid (∀ j,j < 48→R.getD (47 - j) 0=bs.getD j 0):=fun j hj=>by
  have:=rev_get bs j (by omega)
  rw [hl,hR] at this
  exact this
 have HN:Hid (pv 256 R=beN bs):=by unfold beN;rw [hR];rfl
 obtain ⟨N,hN⟩:∃ N,beN bs=N:=⟨_,rfl⟩
 rw [hN] at HN ⊢
 have sz:=segs_zero R lR
 clear hN hR h4
 go_enter Tryz.func63,Tryz.ntmps63
 go_wp2
 go_loopw [17] (fun i wr=>∃ (k:Nat) (S:List Int),k≤48∧i=.int .i64 k∧S.length=6∧fits S∧Hid (segs R k S)∧Blk wr w.heap.size (us [0,0,0,0,0,0])∧Blk wr (w.heap.size + 1) (us S)∧Below w.heap.size w wr)
  (fun i _=>48 - (intOf i).toNat)
 case atStart=>exact ⟨0,[0,0,0,0,0,0],by omega,rfl,rfl,fits_zero 6,sz,b2,b3,hbel⟩
 case round =>
  obtain ⟨k,S,hk,rfl,lS,fS,hJ,hZ,hS,hbel⟩:=hrel
  clear b2 b3
  by_cases hlt:k < 48
  ·obtain ⟨x,hx⟩:∃ x,bs.getD k 0=x:=⟨_,rfl⟩
   obtain ⟨s,hs⟩:∃ s,S.getD ((47 - k) / 8) 0=s:=⟨_,rfl⟩
   have xr:R.getD (47 - k) 0=x:=by rw [gR.out k hlt,hx]
   have bx:0≤x∧x < 256:=hx ▸ hB k
   have bs':0≤s∧s < 72057594037927936:=by
    have e:=hJ.out _ (show (47 - k) / 8 < 6 by omega)
    rw [hs] at e
    rw [e];exact segF_bound R k lR bR.out hlt
   have J:Hid (segs R (k + 1) (S.set ((47 - k) / 8) (s * 256 + x))):=segs_step R S k x s lR lS hlt xr hs hJ.out
   have x1:=(hbel.cell (p:=⟨b,o + k,none⟩) hb).trans (hc k hlt)
   rw [hx] at x1
   have x2:=hS.cell ((47 - k) / 8) _ (us_get S _ (by omega))
   rw [hs] at x2
   have fz:=hS.frozen ((47 - k) / 8)
   have hor:=or_join s x bs' bx
   have bs0:=bs'.1
   have bs1:=bs'.2
   have bx0:=bx.1
   have bx1:=bx.2
   have g1:(k:Int) < 48:=by omega
   have g2:(0:Int)≤(k:Int):=by omega
   have g3:(0:Int)≤(47 - (k:Int)) / 8:=by omega
   have g4:(47 - (k:Int)) / 8 < 6:=by omega
   have g5:((47 - (k:Int)) / 8).toNat=(47 - k) / 8:=by omega
   clear hx hs xr bx bs'
   go_wp2
   go_region
   all_goals go_wp2
   all_goals go_roundw
   case rel=>exact ⟨k + 1,S.set ((47 - k) / 8) (s * 256 + x),by omega,by go_num,by simpa using lS,fits_set fS _ _ (by omega) (by omega),J,(hZ.other _ _ (by simp)).drew,(hS.setu _ _).drew,(hbel.setCell (by simp) _).drew⟩
   case measure=>simp [intOf];omega
  ·have h6:(48:Int)≤(k:Int):=by omega
   have HQ:Hid (v64 S=N):=by
    have hk48:k=48:=by omega
    have e:=hJ.out
    rw [hk48] at e
    show _=_
    rw [segs_end R S lR lS e];exact HN.out
   obtain ⟨s0,s1,s2,s3,s4,s5,rfl⟩:=six lS
   obtain ⟨c0,c1,c2,c3,c4,c5⟩:=hS.cells6
   obtain ⟨z0,z1,z2,z3,z4,z5⟩:=hZ.cells6
   have f0:=hZ.frozen 0
   have f1:=hZ.frozen 1
   have f2:=hZ.frozen 2
   have f3:=hZ.frozen 3
   have f4:=hZ.frozen 4
   have f5:=hZ.frozen 5
   clear hJ
   go_wp2
   exact bodyPost_ret (v:=.tuple #[.agg #[.int .u64 s0,.int .u64 s1,.int .u64 s2,.int .u64 s3,.int .u64 s4,.int .u64 s5],.nilIface]) (by simp [results,Tryz.results63,go_sem,z0,z1,z2,z3,z4,z5]) rfl
    ⟨[s0,s1,s2,s3,s4,s5],rfl,rfl,fS,HQ.out,(((((hbel.setCell (by simp) _).setCell (by simp) _).setCell (by simp) _).setCell (by simp) _).setCell (by simp) _).setCell (by simp) _⟩
theorem iface_nilnot:∀ w:World,(binOp .neq 30 .nilIface .nilIface).run Tryz.prog w=.ok (.bool false) w:=fun _=>by kernel_rfl
theorem from6 {v:Value} {bs:List Int} {w:World} (h:Bs w v bs) (hl:bs.length=48) (hB:byt bs) :
  Calls Tryz.prog 63 #[v] w fun e w'=>∃ s0 s1 s2 s3 s4 s5:Int,e=.returned (.tuple #[.agg #[.int .u64 s0,.int .u64 s1,.int .u64 s2,.int .u64 s3,.int .u64 s4,.int .u64 s5],.nilIface])∧fits [s0,s1,s2,s3,s4,s5]∧v64 [s0,s1,s2,s3,s4,s5]=beN bs∧Below w.heap.size w w':=by
 refine (from_right v bs w h hl hB).mono ?_
 rintro e w' ⟨S,rfl,lS,fS,hS,hb⟩
 obtain ⟨s0,s1,s2,s3,s4,s5,rfl⟩:=six lS
 exact ⟨s0,s1,s2,s3,s4,s5,rfl,fS,hS,hb⟩
theorem lessN_no {A B:List Int} (h:v64 B≤v64 A):lessN A B=0:=by
 unfold lessN;rw [if_neg (by omega)]
theorem lessN_yes {A B:List Int} (h:v64 A < v64 B):lessN A B=1:=by
 unfold lessN;rw [if_pos h]
theorem info_u64:(Tryz.prog.info? 22).map (fun i=>(i.zero,i.size,i.bytes))=some (some (.int .u64 0),1,8):=by kernel_rfl
theorem eql_six (x0 x1 x2 x3 x4 x5 y0 y1 y2 y3 y4 y5:Int):∀ w:World,(Op.equalIn 10000 24 (.agg #[.int .u64 x0,.int .u64 x1,.int .u64 x2,.int .u64 x3,.int .u64 x4,.int .u64 x5]) (.agg #[.int .u64 y0,.int .u64 y1,.int .u64 y2,.int .u64 y3,.int .u64 y4,.int .u64 y5])).run Tryz.prog w=.ok (decide ([x0,x1,x2,x3,x4,x5]=[y0,y1,y2,y3,y4,y5])) w:=fun w=>by
 cases hi:Tryz.prog.info? 22 with
 | none=>have:=info_u64;rw [hi] at this;simp at this
 | some i=>exact run_eql_us (P:=Tryz.prog) w (t:=24) (e:=22) (n:=6) Tryz.underlying24 hi (by kernel_rfl) Tryz.underlying22 (by kernel_rfl) [x0,x1,x2,x3,x4,x5] [y0,y1,y2,y3,y4,y5] rfl rfl
theorem num_len {w:World} {v:Value} {N:Int} (h:NumIs w v N):∃ (ao:Option Addr) (n cap:Nat),v=.slice ao n cap∧n≤cap∧cap≤maxLen∧((n:Int)=0↔N=0):=by
 obtain ⟨D,sD,dD,tD,rfl⟩:=h
 obtain ⟨ao,cap,rfl,m,k,-⟩:=sD.form
 refine ⟨ao,D.length,cap,rfl,k,m,fun h=>?_,fun h=>?_⟩
 ·match D,h with
  | [],_=>rfl
 ·apply Classical.byContradiction
  intro hn
  have l:=trd_lower D dD tD (by omega)
  have p:(0:Int) < 4294967296 ^ (D.length - 1):=Int.pow_pos (by decide)
  omega
theorem NumIs.form {w:World} {v:Value} {N:Int} (h:NumIs w v N):∃ (ao:Option Addr) (n cap:Nat),v=.slice ao n cap:=by
 obtain ⟨ao,n,cap,e,-⟩:=num_len h
 exact ⟨ao,n,cap,e⟩
/-- a store into a block that begins with a bool leaves numbers as they are -/
theorem NumIs.set {w:World} {v:Value} {N:Int} {b j:Nat} {c:Bool} {X:List Value} {y:Value} (h:NumIs w v N) (B:Blk w b (.bool c :: X)):NumIs (w.setCell ⟨b,j,none⟩ y) v N:=by
 obtain ⟨D,sD,h2⟩:=h
 refine ⟨D,?_,h2⟩
 rcases sD with ⟨h1,h3⟩|⟨b',cap,h1,h3,h4,h5,h6⟩
 ·exact .inl ⟨h1,h3⟩
 ·refine .inr ⟨b',cap,h1,h3,h4,by simpa using h5,fun k hk=>?_⟩
  have h0:=h6 0 (by omega)
  have hb:=B.cell 0 _ rfl
  have hne:b'≠b:=by
   rintro rfl
   rw [hb] at h0
   simp at h0
  rw [World.cell?_setCell_other _ _ _ _ (by simp)]
  exact h6 k hk
theorem held3 {w0 W:World} (bs:List (Nat × List Value)) (hB:∀ b X,(b,X)∈bs→Blk W b X) (bel:Below w0.heap.size w0 W) :
  ∃ S:World→Prop,Hd S W∧Hid (∀ w1 w2,Hd S w1→Below w1.heap.size w1 w2→Hd S w2)∧Hid (∀ w1 o,Hd S w1→Hd S (w1.alloc o))∧Hid (∀ w1,Hd S w1→Hd S w1.drew)∧Hid (∀ (w1:World) (o o':Obj),W.heap.size≤w1.heap.size→Hd S (w1.alloc o)→Hd S (w1.alloc o')) ∧
   Hid (∀ w1 b j y,Hd S w1→(W.heap.size≤b∨∀ c X,(c,X)∈bs→c≠b)→w0.heap.size≤b→Hd S (w1.setCell ⟨b,j,none⟩ y)) ∧
   Hid (∀ w1,Hd S w1→W.heap.size≤w1.heap.size)∧Hid (∀ w1,Hd S w1→Below w0.heap.size w0 w1)∧Hid (∀ w1 b X,Hd S w1→(b,X)∈bs→Blk w1 b X) ∧
   Hid (∀ w1 b cs,Hd S w1→(W.heap.size≤b∨∀ c X,(c,X)∈bs→c≠b)→w0.heap.size≤b→Hd S (w1.setRow b cs)):=by
 refine ⟨fun wx=>(∀ b X,(b,X)∈bs→Blk wx b X)∧W.heap.size≤wx.heap.size∧Below w0.heap.size w0 wx,⟨hB,Nat.le_refl _,bel⟩,?_,?_,?_,?_,?_,?_,?_,?_,?_⟩
 ·rintro w1 w2 ⟨h1,h3,h4⟩ hb
  exact ⟨fun b X h=>(h1 b X h).later hb,Nat.le_trans h3 hb.size,below_step h4 hb⟩
 ·rintro w1 o ⟨h1,h3,h4⟩
  exact ⟨fun b X h=>(h1 b X h).alloc o,by simp;omega,below_alloc h4⟩
 ·rintro w1 ⟨h1,h3,h4⟩
  exact ⟨h1,h3,h4.drew⟩
 ·rintro w1 o o' hn ⟨h1,h3,h4⟩
  exact ⟨fun b X h=>(h1 b X h).swap (Nat.lt_of_lt_of_le (hB b X h).lt hn),by simp;omega,below_swap h4 (Nat.le_trans bel.size hn)⟩
 ·rintro w1 b j y ⟨h1,h3,h4⟩ hn hl
  refine ⟨fun c X h=>(h1 c X h).other _ _ ?_,by simpa using h3,h4.setCell hl _⟩
  rcases hn with hn|hn
  ·have:=(hB c X h).lt
   exact Nat.ne_of_lt (Nat.lt_of_lt_of_le this hn)
  ·exact hn c X h
 ·rintro w1 ⟨_,h3,_⟩
  exact h3
 ·rintro w1 ⟨_,_,h4⟩
  exact h4
 ·rintro w1 b X ⟨h1,_,_⟩ h
  exact h1 b X h
 ·rintro w1 b cs ⟨h1,h3,h4⟩ hn hl
  refine ⟨fun c X h=>(h1 c X h).row ?_,by simpa [World.setRow] using h3,below_setRow h4 hl _⟩
  rcases hn with hn|hn
  ·have:=(hB c X h).lt
   exact Nat.ne_of_lt (Nat.lt_of_lt_of_le this hn)
  ·exact hn c X h

variable {H:Type} {enc:TypeId × Value→H} {w:World} {base:Nat} {spare:Nat→Bool} {held:Bool}
theorem cells_u384:Tryz.prog.cellsOf 24=6:=by kernel_rfl
theorem cells_u64:Tryz.prog.cellsOf 22=1:=by kernel_rfl
theorem cells_pt:Tryz.prog.cellsOf 26=13:=by kernel_rfl
theorem cells_bool:Tryz.prog.cellsOf 4=1:=by kernel_rfl
theorem thirteenV {l:List Value} (h:l.length=13):∃ v0 v1 v2 v3 v4 v5 v6 v7 v8 v9 v10 v11 v12,l=[v0,v1,v2,v3,v4,v5,v6,v7,v8,v9,v10,v11,v12]:=by
 match l,h with
 | [v0,v1,v2,v3,v4,v5,v6,v7,v8,v9,v10,v11,v12],_=>exact ⟨v0,v1,v2,v3,v4,v5,v6,v7,v8,v9,v10,v11,v12,rfl⟩
theorem open_pt {cs:Array Value} {d:DataW H} {p:List MemPlace} (h:DataW.Trod enc Tryz.prog w base spare held 26 (.agg cs) d p) :
  ∃ (x0 x1 x2 x3 x4 x5 y0 y1 y2 y3 y4 y5:Int) (n:Bool),cs=#[.int .u64 x0,.int .u64 x1,.int .u64 x2,.int .u64 x3,.int .u64 x4,.int .u64 x5,.int .u64 y0,.int .u64 y1,.int .u64 y2,.int .u64 y3,.int .u64 y4,.int .u64 y5,.bool n]∧d=.agg [.agg [.lit (.int .u64 x0),.lit (.int .u64 x1),.lit (.int .u64 x2),.lit (.int .u64 x3),.lit (.int .u64 x4),.lit (.int .u64 x5)],.agg [.lit (.int .u64 y0),.lit (.int .u64 y1),.lit (.int .u64 y2),.lit (.int .u64 y3),.lit (.int .u64 y4),.lit (.int .u64 y5)],.lit (.bool n)]∧p=[]∧fits [x0,x1,x2,x3,x4,x5]∧fits [y0,y1,y2,y3,y4,y5]:=by
 obtain ⟨fuel,hf⟩:=h
 obtain ⟨y0,y1,y2,m,hx,hl,t0,t1,t2⟩:=trod_struct3 Tryz.underlying26 hf
 obtain ⟨l⟩:=cs
 simp only [Value.cells] at hl t0 t1 t2
 rw [cells_pt] at hl
 obtain ⟨v0,v1,v2,v3,v4,v5,v6,v7,v8,v9,v10,v11,v12,rfl⟩:=thirteenV hl
 simp only [cells_u384,cells_bool,List.drop_zero,List.drop_succ_cons,List.take_succ_cons,List.take_zero] at t0 t1 t2
 obtain ⟨A,lA,eA,dA,pA,fA⟩:=open_arr (n:=6) Tryz.underlying24 cells_u384 Tryz.underlying22 cells_u64 (cs:=#[v0,v1,v2,v3,v4,v5]) (d:=y0.1) (p:=y0.2) ⟨m,t0⟩
 obtain ⟨B,lB,eB,dB,pB,fB⟩:=open_arr (n:=6) Tryz.underlying24 cells_u384 Tryz.underlying22 cells_u64 (cs:=#[v6,v7,v8,v9,v10,v11]) (d:=y1.1) (p:=y1.2) ⟨m,t1⟩
 obtain ⟨n,h2,hb⟩:=DataW.trod_bool Tryz.underlying4 t2
 obtain ⟨x0,x1,x2,x3,x4,x5,rfl⟩:=six lA
 obtain ⟨z0,z1,z2,z3,z4,z5,rfl⟩:=six lB
 simp only [us,List.map_cons,List.map_nil,Array.mk.injEq,List.cons.injEq,and_true] at eA eB h2 dA dB
 obtain ⟨rfl,rfl,rfl,rfl,rfl,rfl⟩:=eA
 obtain ⟨rfl,rfl,rfl,rfl,rfl,rfl⟩:=eB
 subst h2
 obtain ⟨e1,e2⟩:=Prod.mk.inj hx
 refine ⟨x0,x1,x2,x3,x4,x5,z0,z1,z2,z3,z4,z5,n,rfl,?_,?_,fA,fB⟩
 ·rw [e1,dA,dB,hb]
 ·rw [e2,pA,pB,hb];rfl
theorem shut_pt (x0 x1 x2 x3 x4 x5 y0 y1 y2 y3 y4 y5:Int) (n:Bool) (fX:fits [x0,x1,x2,x3,x4,x5]) (fY:fits [y0,y1,y2,y3,y4,y5]) :
  DataW.Trod enc Tryz.prog w base spare held 26 (.agg #[.int .u64 x0,.int .u64 x1,.int .u64 x2,.int .u64 x3,.int .u64 x4,.int .u64 x5,.int .u64 y0,.int .u64 y1,.int .u64 y2,.int .u64 y3,.int .u64 y4,.int .u64 y5,.bool n]) (.agg [.agg [.lit (.int .u64 x0),.lit (.int .u64 x1),.lit (.int .u64 x2),.lit (.int .u64 x3),.lit (.int .u64 x4),.lit (.int .u64 x5)],.agg [.lit (.int .u64 y0),.lit (.int .u64 y1),.lit (.int .u64 y2),.lit (.int .u64 y3),.lit (.int .u64 y4),.lit (.int .u64 y5)],.lit (.bool n)]) []:=by
 obtain ⟨m0,h0⟩:=shut_six (enc:=enc) (w:=w) (base:=base) (spare:=spare) (held:=held) Tryz.underlying24 cells_u384 Tryz.underlying22 cells_u64 x0 x1 x2 x3 x4 x5 fX
 obtain ⟨m1,h1⟩:=shut_six (enc:=enc) (w:=w) (base:=base) (spare:=spare) (held:=held) Tryz.underlying24 cells_u384 Tryz.underlying22 cells_u64 y0 y1 y2 y3 y4 y5 fY
 obtain ⟨m2,h2⟩:=shut_bool (enc:=enc) (w:=w) (base:=base) (spare:=spare) (held:=held) Tryz.underlying4 n
 refine ⟨_,trod_struct3_mk (n:=max m0 (max m1 m2)) (cs:=[.int .u64 x0,.int .u64 x1,.int .u64 x2,.int .u64 x3,.int .u64 x4,.int .u64 x5,.int .u64 y0,.int .u64 y1,.int .u64 y2,.int .u64 y3,.int .u64 y4,.int .u64 y5,.bool n]) Tryz.underlying26 (by rw [cells_pt];rfl) (y0:=(.agg [.lit (.int .u64 x0),.lit (.int .u64 x1),.lit (.int .u64 x2),.lit (.int .u64 x3),.lit (.int .u64 x4),.lit (.int .u64 x5)],[])) (y1:=(.agg [.lit (.int .u64 y0),.lit (.int .u64 y1),.lit (.int .u64 y2),.lit (.int .u64 y3),.lit (.int .u64 y4),.lit (.int .u64 y5)],[])) (y2:=(.lit (.bool n),[])) ?_ ?_ ?_⟩
 ·simp only [cells_u384,List.drop_zero,List.take_succ_cons,List.take_zero]
  exact DataW.trod_le (Nat.le_max_left _ _) h0
 ·simp only [cells_u384,List.drop_succ_cons,List.drop_zero,List.take_succ_cons,List.take_zero]
  exact DataW.trod_le (Nat.le_trans (Nat.le_max_left _ _) (Nat.le_max_right _ _)) h1
 ·simp only [cells_bool,List.drop_succ_cons,List.drop_zero,List.take_succ_cons,List.take_zero]
  exact DataW.trod_le (Nat.le_trans (Nat.le_max_right _ _) (Nat.le_max_right _ _)) h2
theorem ptIs_of_head {W:World} {name:String} {rest:List (String × DataW Unit)} {g:Nat} {x0 x1 x2 x3 x4 x5 y0 y1 y2 y3 y4 y5:Int} {n:Bool}
  (hg:Tryz.prog.globalNamed name=some g) (hty:(Tryz.prog.globals[g]?).map (·.type)=some 26)
  (h:laidMet Tryz.prog ((name,.agg [.agg [.lit (.int .u64 x0),.lit (.int .u64 x1),.lit (.int .u64 x2),.lit (.int .u64 x3),.lit (.int .u64 x4),.lit (.int .u64 x5)],.agg [.lit (.int .u64 y0),.lit (.int .u64 y1),.lit (.int .u64 y2),.lit (.int .u64 y3),.lit (.int .u64 y4),.lit (.int .u64 y5)],.lit (.bool n)]) :: rest) W):∀ i v,([.int .u64 x0,.int .u64 x1,.int .u64 x2,.int .u64 x3,.int .u64 x4,.int .u64 x5,.int .u64 y0,.int .u64 y1,.int .u64 y2,.int .u64 y3,.int .u64 y4,.int .u64 y5,.bool n]:List Value)[i]?=some v→W.cell? ⟨g,i,none⟩=some v:=by
 obtain ⟨ps,⟨g',t',cs,fuel,p,q,hg',ht',hvar,hd,_,_⟩,_⟩:=h
 obtain rfl:=Option.some.inj (hg.symm.trans hg')
 obtain rfl:=Option.some.inj (hty.symm.trans ht')
 obtain ⟨a0,a1,a2,a3,a4,a5,b0,b1,b2,b3,b4,b5,m,e1,e2,-,-,-⟩:=open_pt (cs:=cs) ⟨fuel,hd⟩
 simp only [DataW.agg.injEq,List.cons.injEq,DataW.lit.injEq,Lit.int.injEq,Lit.bool.injEq,and_true,true_and] at e2
 obtain ⟨⟨rfl,rfl,rfl,rfl,rfl,rfl⟩,⟨rfl,rfl,rfl,rfl,rfl,rfl⟩,rfl⟩:=e2
 rw [e1] at hvar
 intro i v hv
 have:=World.var?_cell hg hvar i
 rw [this]
 simpa using hv
theorem info_bA:(Tryz.prog.info? 5).map (fun i=>(i.zero,i.size,i.bytes))=some (some (.int .u8 0),1,1):=by kernel_rfl
theorem run_append_empty {w:World} {base ao:Option Addr} {n cap c:Nat} {ty:TypeId} (h:n≤cap) :
  (Builtin.append_ #[27,27] ty #[.slice base n cap,.slice ao 0 c]).run Tryz.prog w=.ok (.slice base n cap) w:=by
 have hu:∀ w:World,(underlying 27).run Tryz.prog w=.ok (.slice 5) w:=run_underlying Tryz.underlying27
 have hs:∀ w:World,(Go.sizeOf 5).run Tryz.prog w=.ok 1 w:=fun w=>by kernel_rfl
 have hl:∀ (a:Addr) (w:World),(loadCells a 0).run Tryz.prog w=.ok #[] w:=fun _ _=>rfl
 cases base<;>cases ao<;>simp [hl,Builtin.append_,hu,hs,h,Builtin.firstCells,Builtin.lenOf,Result.andThen,storeCells]
/-- a row of one's own is a slice -/
theorem own_slice {w:World} {base:Nat} {e:TypeId} {v:Value} {n:Nat} {xs:List Value} (h:w.ownsRow base e 1 v n xs):∃ ao cap,v=.slice ao n cap∧n≤cap∧cap≤maxLen:=by
 rcases h.2 with ⟨h1,h2⟩|⟨g,cap,cur,h1,h2,h3,h4,h5,h6,h7⟩
 ·subst h2;exact ⟨none,0,h1,Nat.le_refl _,Nat.zero_le _⟩
 ·exact ⟨_,cap,h1,h4,h5⟩
theorem grown_same (w:World) (row:Option Nat):w.grownBy w row:=⟨rfl,rfl,rfl,Nat.le_refl _,fun _ _ _=>rfl⟩
/-- bytes behind a row of one's own, be they none -/
theorem wpList_append_bs {ops:Array Oper} {rest:List Oper} {o:Oper} {a:Act} {w:World} {Q:Exit→Act→World→Prop} (hgd:o.guard=none) (s x:Operand)
  (ho:o.op=.call { callee:=.builtin .append,args:=#[s,x],argTypes:=#[27,27] })
  (base:Nat) (v:Value) (n:Nat) (xs:List Int) (hs:a.eval s=v) (hown:w.ownsRow base 5 1 v n (u8s xs))
  (u:Value) (B:List Int) (hx:a.eval x=u) (hB:Bs w u B) (h47:n + B.length≤140737488355328) (hbase:base≤w.heap.size)
  (h:∀ v' w',w'.ownsRow base 5 1 v' (n + B.length) (u8s (xs++B))→w.grownBy w' v.ownBlock→(v'.ownBlock=v.ownBlock∨v'.ownBlock=some w.heap.size)→wpList Tryz.prog ops Q rest (a.put o.dst v') w') :
  wpList Tryz.prog ops Q (o :: rest) a w:=by
 obtain ⟨ao,cap,rfl,c1,c2,c3⟩:=hB
 by_cases h0:B.length=0
 ·obtain rfl:B=[]:=List.eq_nil_of_length_eq_zero h0
  obtain ⟨bo,cp,rfl,k1,k2⟩:=own_slice hown
  refine Lib.wpList_append_run_sl w hgd s x 27 ho _ _ hs hx (run_append_empty k1) ?_
  exact h _ w (by simpa using hown) (grown_same _ _) (.inl rfl)
 ·obtain ⟨b,of,rfl,hb0,hc0⟩:=c3 (by omega)
  obtain ⟨i0,hi0,hz0,hz1,hz2⟩:=info_parts info_bA
  refine wpList_append_lies _ hgd s x _ ho base 5 i0 _ 1 1 Tryz.underlying27 hi0 hz0 hz1 hz2 rfl (by omega) v n (u8s xs) hs hown ⟨b,of,none⟩ B.length cap (u8s B) hx (by simp [u8s]) ?_ (by simp [u8s,Value.oneCell']) (by omega) (by unfold maxLen;omega) (by omega) hbase w.heap.size rfl ?_
  ·intro j z hz
   have hj:j < B.length:=by
    have:=(List.getElem?_eq_some_iff.1 hz).1
    simpa [u8s] using this
   have e:(⟨b,of,none⟩:Addr).add j=⟨b,of + j,none⟩:=by unfold Addr.add;split<;>simp_all
   rw [u8s_get B j hj] at hz
   rw [e,← hz]
   exact hc0 j hj
  ·intro g cap1 w' hown1 hgrow hat hlt
   refine h _ w' (by simpa [u8s] using hown1) hgrow ?_
   rcases hat with e|e
   ·exact .inl (by rw [e];rfl)
   ·exact .inr (by rw [← e];rfl)
theorem bs_one (w:World) (y:Int):Bs (w.alloc (.cells #[.int .u8 y] 5)) (.slice (some ⟨w.heap.size,0,none⟩) 1 1) [y]:=by
 have B:=Blk.new w [.int .u8 y] 5 w.heap.size rfl
 exact ⟨_,1,rfl,by decide,Nat.le_refl _,fun _=>⟨w.heap.size,0,rfl,B.lt,fun j hj=>by
  have e:j=0:=by simp at hj;exact hj
  subst e
  exact B.cell 0 _ rfl⟩⟩
theorem own_under {w:World} {base:Nat} {e:TypeId} {v:Value} {n:Nat} {xs:List Value} (h:w.ownsRow base e 1 v n xs) {g:Nat} (hg:v.ownBlock=some g):g < w.heap.size:=by
 rcases h.2 with ⟨h1,h2⟩|⟨g',cap,cur,h1,h2,h3,h4⟩
 ·rw [h1] at hg;simp [Value.ownBlock] at hg
 ·rw [h1] at hg
  simp only [Value.ownBlock,Option.some.injEq] at hg
  subst hg
  exact (Array.getElem?_eq_some_iff.1 h3).1
/-- two rows apart -/
def Apart (v u:Value):Prop:=∀ g,v.ownBlock=some g→u.ownBlock=some g→False
theorem Apart.swap {v u:Value} (h:Apart v u):Apart u v:=fun g a b=>h g b a
theorem Apart.new {w:World} {base:Nat} {e:TypeId} {v u v':Value} {n:Nat} {xs:List Value} (h:Apart v u) (ho:w.ownsRow base e 1 u n xs) (hv:v'.ownBlock=v.ownBlock∨v'.ownBlock=some w.heap.size):Apart v' u:=by
 intro g a b
 rcases hv with k|k
 ·exact h g (by rw [← k];exact a) b
 ·rw [k] at a
  have:=own_under ho b
  simp only [Option.some.injEq] at a
  omega
theorem below_own {w w':World} {base:Nat} {row:Option Nat} {B:Nat} {a:World} (hb:Below B a w) (hg:w.grownBy w' row) (hs:B≤w.heap.size) (hr:∀ g,row=some g→base≤g) (h:B≤base):Below B a w':=Below.grown hb hg hs (fun j hj=>Nat.le_trans h (hr j hj))
/-- a product of polynomials: the first k terms -/
def polN (a b:Nat):Nat→Nat
 | 0=>0
 | k + 1=>if b / 2 ^ k % 2=1 then polN a b k ^^^ (a * 2 ^ k) else polN a b k
/-- the rest: k steps from the highest on -/
def restN (p:Nat):Nat→Nat
 | 0=>p
 | k + 1=>if restN p k / 2 ^ (14 - k) % 2=1 then restN p k ^^^ (283 * 2 ^ (6 - k)) else restN p k
/-- a product of bytes -/
def prdN (a b:Nat):Nat:=restN (polN a b 8) 7 % 256
theorem prdN_lt (a b:Nat):prdN a b < 256:=Nat.mod_lt _ (by decide)
/-- the last of the first k numbers from 1 on whose product with a is 1 -/
def invN (a:Nat):Nat→Nat
 | 0=>0
 | k + 1=>if prdN a (k + 1)=1 then k + 1 else invN a k
/-- a bit of the substitute -/
def bitA (v i:Nat):Nat:=(99 / 2 ^ i % 2 + v / 2 ^ i % 2 + v / 2 ^ ((i + 4) % 8) % 2 + v / 2 ^ ((i + 5) % 8) % 2 + v / 2 ^ ((i + 6) % 8) % 2 + v / 2 ^ ((i + 7) % 8) % 2) % 2
def affN (v:Nat):Nat→Nat
 | 0=>0
 | k + 1=>affN v k + bitA v k * 2 ^ k
theorem affN_lt (v:Nat):∀ k,affN v k < 2 ^ k
 | 0=>by rw [affN];decide
 | k + 1=>by
  have ih:=affN_lt v k
  have:bitA v k≤1:=Nat.le_of_lt_succ (Nat.mod_lt _ (by decide))
  rw [affN,Nat.pow_succ]
  have:=Nat.mul_le_mul_right (2 ^ k) this
  omega
/-- a substitute -/
def subN (a:Nat):Nat:=affN (invN a 255) 8
theorem subN_lt (a:Nat):subN a < 256:=affN_lt _ 8
theorem info_b16:(Tryz.prog.info? 5).map (fun i=>(i.zero,i.size,i.bytes))=some (some (.int .u8 0),1,1):=by kernel_rfl
theorem zero_16:Hid (∀ w:World,(zeroValue 91).run Tryz.prog w=.ok (.agg (u8s (List.replicate 16 0)).toArray) w):=fun w=>by kernel_rfl
theorem size_16:(Tryz.prog.info? 91).map (·.size)=some 16:=by kernel_rfl
theorem u8_ones (A:List Int):((u8s A).toArray).all (·.oneCell')=true:=by
 rw [Array.all_eq_true_iff_forall_mem]
 intro v hv
 simp only [u8s,List.mem_toArray,List.mem_map] at hv
 obtain ⟨x,_,rfl⟩:=hv
 rfl
theorem Blk.setb {w:World} {b:Nat} {S:List Int} (h:Blk w b (u8s S)) (k:Nat) (s:Int):Blk (w.setCell ⟨b,k,none⟩ (.int .u8 s)) b (u8s (S.set k s)):=by
 have e:=h.set k (.int .u8 s)
 rwa [show (u8s S).set k (.int .u8 s)=u8s (S.set k s) by simp [u8s,List.map_set]] at e
def turnN (S:List Int):List Int:=(List.range 16).map fun j=>S.getD (5 * j % 16) 0
theorem turnN_len (S:List Int):(turnN S).length=16:=by simp [turnN]
/-- what a column is multiplied by -/
def tmN (r k:Nat):Nat:=if (k + 4 - r) % 4=0 then 2 else if (k + 4 - r) % 4=1 then 3 else 1
/-- the first k terms of a place -/
def accN (S:List Int) (c r:Nat):Nat→Nat
 | 0=>0
 | k + 1=>accN S c r k ^^^ prdN (tmN r k) (S.getD (4 * c + k) 0).toNat
theorem accN_lt (S:List Int) (c r:Nat):∀ k,accN S c r k < 256
 | 0=>by rw [accN];decide
 | k + 1=>Nat.xor_lt_two_pow (n:=8) (accN_lt S c r k) (prdN_lt _ _)
def mixN (S:List Int):List Int:=(List.range 16).map fun j=>((accN S (j / 4) (j % 4) 4:Nat):Int)
theorem mixN_len (S:List Int):(mixN S).length=16:=by simp [mixN]
theorem fourA {P:Nat→Prop} (h0:P 0) (h1:P 1) (h2:P 2) (h3:P 3):∀ r,r < 4→P r
 | 0,_=>h0
 | 1,_=>h1
 | 2,_=>h2
 | 3,_=>h3
theorem xorb_byte {x c:Int} (x0:0≤x∧x < 256) (c0:0≤c∧c < 256):0≤bits .xor .u8 x c∧bits .xor .u8 x c < 256:=by
 obtain ⟨a,rfl⟩:=Int.eq_ofNat_of_zero_le x0.1
 obtain ⟨b,rfl⟩:=Int.eq_ofNat_of_zero_le c0.1
 rw [u8_xor_nat a b (by omega) (by omega)]
 have:=Nat.xor_lt_two_pow (x:=a) (y:=b) (n:=8) (by omega) (by omega)
 omega
/-- a byte's substitute -/
def sbN (x:Int):Int:=((subN x.toNat:Nat):Int)
theorem sbN_byte (x:Int):0≤sbN x∧sbN x < 256:=by
 have:=subN_lt x.toNat
 unfold sbN
 omega
def powN:Nat→Nat
 | 0=>1
 | n + 1=>prdN (powN n) 2
theorem powN_lt:∀ n,powN n < 256
 | 0=>by decide
 | _ + 1=>prdN_lt _ _
/-- what is put to the i-th word, from the one before it -/
def tN (P:List Int) (i:Nat):List Int :=
 if i % 8=0 then [bits .xor .u8 (sbN (P.getD 1 0)) ((powN ((i - 1) / 8):Nat):Int),sbN (P.getD 2 0),sbN (P.getD 3 0),sbN (P.getD 0 0)]
 else if i % 8=4 then [sbN (P.getD 0 0),sbN (P.getD 1 0),sbN (P.getD 2 0),sbN (P.getD 3 0)] else P
def x4N (T Q:List Int):List Int:=(List.range 4).map fun k=>bits .xor .u8 (T.getD k 0) (Q.getD k 0)
theorem x4N_get {T Q:List Int} {k:Nat} (h:k < 4):(x4N T Q).getD k 0=bits .xor .u8 (T.getD k 0) (Q.getD k 0):=by
 simp [x4N,List.getD_eq_getElem?_getD,h]
/-- the first i words -/
def wrdN (K:List Int):Nat→List (List Int)
 | 0=>[]
 | i + 1=>wrdN K i++[if i < 8 then (K.drop (4 * i)).take 4 else x4N (tN ((wrdN K i).getD (i - 1) []) i) ((wrdN K i).getD (i - 8) [])]
theorem wrdN_len (K:List Int):∀ i,(wrdN K i).length=i
 | 0=>rfl
 | i + 1=>by rw [wrdN,List.length_append,wrdN_len K i];rfl
/-- the j-th word -/
def WN (K:List Int) (j:Nat):List Int:=(wrdN K (j + 1)).getD j []
theorem wrdN_get (K:List Int) {j:Nat}:∀ {i:Nat},j < i→(wrdN K i).getD j []=WN K j
 | 0,h=>absurd h (by omega)
 | i + 1,h=>by
  by_cases e:j=i
  ·subst e;rfl
  ·rw [wrdN,List.getD_eq_getElem?_getD,List.getElem?_append_left (by rw [wrdN_len];omega),← List.getD_eq_getElem?_getD]
   exact wrdN_get K (by omega)
theorem WN_lo {K:List Int} {j:Nat} (h:j < 8):WN K j=(K.drop (4 * j)).take 4:=by
 rw [WN,wrdN,List.getD_eq_getElem?_getD,List.getElem?_append_right (by rw [wrdN_len];exact Nat.le_refl _),wrdN_len,Nat.sub_self,if_pos h]
 rfl
theorem WN_hi {K:List Int} {j:Nat} (h:8≤j):WN K j=x4N (tN (WN K (j - 1)) j) (WN K (j - 8)):=by
 rw [WN,wrdN,List.getD_eq_getElem?_getD,List.getElem?_append_right (by rw [wrdN_len];exact Nat.le_refl _),wrdN_len,Nat.sub_self,if_neg (by omega),wrdN_get K (show j - 1 < j by omega),wrdN_get K (show j - 8 < j by omega)]
 rfl
def byteN (X:List Int):Prop:=∀ k,k < 4→0≤X.getD k 0∧X.getD k 0 < 256
theorem tN_byte {P:List Int} (h:byteN P) (i:Nat):byteN (tN P i):=by
 have p:=powN_lt ((i - 1) / 8)
 have q:0≤((powN ((i - 1) / 8):Nat):Int)∧((powN ((i - 1) / 8):Nat):Int) < 256:=by omega
 unfold tN
 split
 ·exact fourA (xorb_byte (sbN_byte _) q) (sbN_byte _) (sbN_byte _) (sbN_byte _)
 ·split
  ·exact fourA (sbN_byte _) (sbN_byte _) (sbN_byte _) (sbN_byte _)
  ·exact h
theorem WN_byte {K:List Int} (b:∀ j,0≤K.getD j 0∧K.getD j 0 < 256):∀ j,byteN (WN K j):=by
 intro j
 induction j using Nat.strongRecOn with
 | _ j ih =>
  by_cases h:j < 8
  ·intro k hk
   rw [WN_lo h,List.getD_eq_getElem?_getD,List.getElem?_take,if_pos hk,List.getElem?_drop,← List.getD_eq_getElem?_getD]
   exact b _
  ·intro k hk
   rw [WN_hi (by omega),x4N_get hk]
   exact xorb_byte (tN_byte (ih (j - 1) (by omega)) j k hk) (ih (j - 8) (by omega) k hk)
/-- the i-th round key -/
def keyN (K:List Int) (i:Nat):List Int:=(List.range 16).map fun k=>(WN K (4 * i + k / 4)).getD (k % 4) 0
theorem keyN_len (K:List Int) (i:Nat):(keyN K i).length=16:=by simp [keyN]
theorem keyN_get {K:List Int} {i k:Nat} (h:k < 16):(keyN K i).getD k 0=(WN K (4 * i + k / 4)).getD (k % 4) 0:=by
 simp [keyN,List.getD_eq_getElem?_getD,h]
/-- the words lie in a row of slices, none of them in the row itself -/
def WordsAt (w:World) (wv:Value) (i:Nat) (vs:List Value) (K:List Int):Prop:=∀ j,j < i→∃ g o c,vs[j]?=some (.slice (some ⟨g,o,none⟩) 4 c)∧4≤c∧c≤maxLen∧g < w.heap.size∧(∀ gb,wv.ownBlock=some gb→g≠gb)∧∀ k,k < 4→w.cell? ⟨g,o + k,none⟩=some (.int .u8 ((WN K j).getD k 0))
theorem WordsAt.later {w w':World} {wv:Value} {i:Nat} {vs:List Value} {K:List Int} (h:WordsAt w wv i vs K) (hb:Below w.heap.size w w'):WordsAt w' wv i vs K:=fun j hj=>by
 obtain ⟨g,o,c,h1,h2,h3,h4,h5,h6⟩:=h j hj
 exact ⟨g,o,c,h1,h2,h3,Nat.lt_of_lt_of_le h4 hb.size,h5,fun k hk=>cell_later (h6 k hk) hb⟩
theorem WordsAt.step {w w':World} {wv v':Value} {i:Nat} {vs:List Value} {K:List Int} (h:WordsAt w wv i vs K) (hl:vs.length=i) (hg:w.grownBy w' wv.ownBlock) (hv:v'.ownBlock=wv.ownBlock∨∃ H,v'.ownBlock=some H∧w.heap.size≤H) {g o c:Nat} (c1:4≤c) (c2:c≤maxLen) (g1:g < w.heap.size) (g2:∀ gb,wv.ownBlock=some gb→g≠gb) (hc:∀ k,k < 4→w.cell? ⟨g,o + k,none⟩=some (.int .u8 ((WN K i).getD k 0))):WordsAt w' v' (i + 1) (vs++[.slice (some ⟨g,o,none⟩) 4 c]) K:=by
 have key:∀ g,g < w.heap.size→(∀ gb,wv.ownBlock=some gb→g≠gb)→g < w'.heap.size∧(∀ gb,v'.ownBlock=some gb→g≠gb)∧∀ o y,w.cell? ⟨g,o,none⟩=some y→w'.cell? ⟨g,o,none⟩=some y:=by
  intro g a1 a2
  refine ⟨Nat.lt_of_lt_of_le a1 hg.size,fun gb hb=>?_,fun o y hy=>hg.cell hy (fun e=>a2 g e.symm rfl)⟩
  rcases hv with e|⟨H,e,hH⟩
  ·exact a2 gb (by rw [← e];exact hb)
  ·rw [e] at hb
   simp only [Option.some.injEq] at hb
   omega
 intro j hj
 by_cases e:j < i
 ·obtain ⟨g',o',c',h1,h2,h3,h4,h5,h6⟩:=h j e
  obtain ⟨k1,k2,k3⟩:=key g' h4 h5
  exact ⟨g',o',c',by rw [List.getElem?_append_left (by omega)];exact h1,h2,h3,k1,k2,fun k hk=>k3 _ _ (h6 k hk)⟩
 ·obtain rfl:j=i:=by omega
  obtain ⟨k1,k2,k3⟩:=key g g1 g2
  exact ⟨g,o,c,by rw [List.getElem?_append_right (by omega),hl,Nat.sub_self];rfl,c1,c2,k1,k2,fun k hk=>k3 _ _ (hc k hk)⟩
/-- the first r round keys, one behind the other -/
def allN (K:List Int):Nat→List Int
 | 0=>[]
 | r + 1=>allN K r++keyN K r
theorem allN_len (K:List Int):∀ r,(allN K r).length=16 * r
 | 0=>rfl
 | r + 1=>by rw [allN,List.length_append,allN_len K r,keyN_len];omega
theorem allN_get {K:List Int} {i k:Nat} (hk:k < 16):∀ {r:Nat},i < r→(allN K r).getD (16 * i + k) 0=(keyN K i).getD k 0
 | 0,h=>absurd h (by omega)
 | r + 1,h=>by
  by_cases e:i=r
  ·subst e
   rw [allN,List.getD_eq_getElem?_getD,List.getElem?_append_right (by rw [allN_len];omega),allN_len,← List.getD_eq_getElem?_getD,show 16 * i + k - 16 * i=k by omega]
  ·rw [allN,List.getD_eq_getElem?_getD,List.getElem?_append_left (by rw [allN_len];omega),← List.getD_eq_getElem?_getD]
   exact allN_get hk (by omega)
def sbZ (X:List Int) (k:Nat):List Int:=(List.range 16).map fun j=>if j < k then sbN (X.getD j 0) else X.getD j 0
def sboxN (X:List Int):List Int:=sbZ X 16
def xkZ (X Y:List Int) (k:Nat):List Int:=(List.range 16).map fun j=>if j < k then bits .xor .u8 (X.getD j 0) (Y.getD j 0) else X.getD j 0
def xkN (X Y:List Int):List Int:=xkZ X Y 16
theorem sbZ_len (X:List Int) (k:Nat):(sbZ X k).length=16:=by simp [sbZ]
theorem xkZ_len (X Y:List Int) (k:Nat):(xkZ X Y k).length=16:=by simp [xkZ]
theorem map_self {X:List Int} (l:X.length=16):((List.range 16).map fun j=>X.getD j 0)=X:=by
 apply List.ext_getElem?
 intro j
 by_cases hj:j < 16
 ·rw [List.getElem?_map,List.getElem?_range hj,Option.map_some,List.getD_eq_getElem?_getD,List.getElem?_eq_getElem (by omega)]
  rfl
 ·rw [List.getElem?_eq_none (by simp;omega),List.getElem?_eq_none (by omega)]
theorem sbZ_0 {X:List Int} (l:X.length=16):sbZ X 0=X:=by
 have e:sbZ X 0=(List.range 16).map fun j=>X.getD j 0:=by unfold sbZ;apply List.map_congr_left;intro j _;rw [if_neg (by omega)]
 rw [e,map_self l]
theorem xkZ_0 {X Y:List Int} (l:X.length=16):xkZ X Y 0=X:=by
 have e:xkZ X Y 0=(List.range 16).map fun j=>X.getD j 0:=by unfold xkZ;apply List.map_congr_left;intro j _;rw [if_neg (by omega)]
 rw [e,map_self l]
theorem zset {f g:Nat→Int} {k:Nat}:((List.range 16).map fun j=>if j < k then f j else g j).set k (f k)=(List.range 16).map fun j=>if j < k + 1 then f j else g j:=by
 apply List.ext_getElem?
 intro j
 by_cases hj:j < 16
 ·by_cases e:k=j
  ·subst e
   rw [List.getElem?_set_self (by simpa using hj)]
   simp [hj]
  ·rw [List.getElem?_set_ne e]
   simp only [List.getElem?_map,List.getElem?_range hj,Option.map_some,Option.some.injEq]
   by_cases l:j < k
   ·rw [if_pos l,if_pos (by omega)]
   ·rw [if_neg l,if_neg (by omega)]
 ·rw [List.getElem?_eq_none (by simp;omega),List.getElem?_eq_none (by simp;omega)]
theorem sbZ_set {X:List Int} {k:Nat}:(sbZ X k).set k (sbN (X.getD k 0))=sbZ X (k + 1):=zset (f:=fun j=>sbN (X.getD j 0))
theorem xkZ_set {X Y:List Int} {k:Nat}:(xkZ X Y k).set k (bits .xor .u8 (X.getD k 0) (Y.getD k 0))=xkZ X Y (k + 1):=zset (f:=fun j=>bits .xor .u8 (X.getD j 0) (Y.getD j 0))
theorem xkZ_get {X Y:List Int} {k:Nat} (h:k < 16):(xkZ X Y k).getD k 0=X.getD k 0:=by
 simp [xkZ,List.getD_eq_getElem?_getD,h]
theorem byt_map {f:Nat→Int} (h:∀ j,j < 16→0≤f j∧f j < 256):byt ((List.range 16).map f):=byt_of _ (fun j hj=>by
 have hj2:j < 16:=by simpa using hj
 have e:((List.range 16).map f).getD j 0=f j:=by simp [List.getD_eq_getElem?_getD,hj2]
 rw [e]
 exact h j hj2)
theorem sboxN_byt (X:List Int):byt (sboxN X):=byt_map (f:=fun j=>if j < 16 then sbN (X.getD j 0) else X.getD j 0) fun j hj=>by
 simp only [if_pos hj]
 exact sbN_byte _
theorem turnN_byt {X:List Int} (h:byt X):byt (turnN X):=byt_map fun _ _=>h _
theorem mixN_byt (X:List Int):byt (mixN X):=byt_map fun j _=>by have:=accN_lt X (j / 4) (j % 4) 4;omega
theorem keyN_byt {K:List Int} (b:byt K) (i:Nat):byt (keyN K i):=byt_map fun k _=>WN_byte b _ _ (by omega)
theorem xkN_byt {X Y:List Int} (h:byt X) (k:byt Y):byt (xkN X Y):=byt_map (f:=fun j=>if j < 16 then bits .xor .u8 (X.getD j 0) (Y.getD j 0) else X.getD j 0) fun j hj=>by
 simp only [if_pos hj]
 exact xorb_byte (h j) (k j)
/-- a round before its key -/
def preN (X:List Int) (i:Nat):List Int:=if i=0 then X else if i < 14 then mixN (turnN (sboxN X)) else turnN (sboxN X)
/-- i rounds -/
def encN (K S:List Int):Nat→List Int
 | 0=>S
 | i + 1=>xkN (preN (encN K S i) i) (keyN K i)
theorem preN_byt {X:List Int} (h:byt X) (i:Nat):byt (preN X i):=by
 unfold preN
 split
 ·exact h
 ·split
  ·exact mixN_byt _
  ·exact turnN_byt (sboxN_byt _)
theorem encN_len {K S:List Int} (l:S.length=16):∀ i,(encN K S i).length=16
 | 0=>l
 | _ + 1=>xkZ_len _ _ _
theorem encN_byt {K S:List Int} (h:byt S) (k:byt K):∀ i,byt (encN K S i)
 | 0=>h
 | i + 1=>xkN_byt (preN_byt (encN_byt h k i) i) (keyN_byt k i)
end Go.Proofs.YtlkljfnenonfgaaGreatDoor
