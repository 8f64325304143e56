/- Bytes in slices: what lies where, and the number that they are. limb.From: the number of 48 bytes. limb.From told by six letters; errors held against nil. Whole rows out of known blocks, in drawn regions and in straight code. A row loaded as one step of a drawn region. Bytes as text. Names as they lie. Elements as trees, and as they lie. An element's bytes. Plain facts. What is amiss with an element that is to be written. Elements read out of bytes: what is read, or what is amiss and where. Plain facts. Elements out of cells; plain facts. -/
import Derived.Test.YtohcdbifhnfcbaaGreatDoorLimb
import Derived.Test.YtohcdbifhnfcbaaGreatDoorRows
import Derived.Deep.RegionHeld3
import Derived.Laws.Rows
import Derived.Laws.Tables
import Derived.Tactics
import Derived.Deep.WholeRow
import Derived.Deep.DeepCutAuto
import Derived.Deep.DeepFit
import Derived.Laws.BytesArg
import Derived.Deep.OwnRows
import Derived.Laws.StructEq
namespace Go.Proofs.YtohcdbifhnfcbaaGreatDoor
open Go.RowKit
/-- the slice value v, in the world w, holds the bytes bs -/
def Bs (w:World) (v:Value) (bs:List Int):Prop :=
 ∃ ao cap,v=.slice ao bs.length cap∧cap≤maxLen∧bs.length≤cap∧(0 < bs.length→∃ b o,ao=some ⟨b,o,none⟩∧b < w.heap.size∧∀ j,j < bs.length→w.cell? ⟨b,o + j,none⟩=some (.int .u8 (bs.getD j 0)))
def byt (bs:List Int):Prop:=∀ j,0≤bs.getD j 0∧bs.getD j 0 < 256
theorem Bs.later {w w':World} {v:Value} {bs:List Int} (h:Bs w v bs) (hb:Below w.heap.size w w'):Bs w' v bs:=by
 obtain ⟨ao,cap,h1,h2,h3,h4⟩:=h
 refine ⟨ao,cap,h1,h2,h3,fun hp=>?_⟩
 obtain ⟨b,o,e1,e2,e3⟩:=h4 hp
 exact ⟨b,o,e1,Nat.lt_of_lt_of_le e2 hb.size,fun j hj=>(hb.cell e2).trans (e3 j hj)⟩
/-- the number of bytes, the highest first -/
def beN (bs:List Int):Int:=pv 256 bs.reverse
theorem byt_rev {bs:List Int} (h:byt bs) (j:Nat):0≤bs.reverse.getD j 0∧bs.reverse.getD j 0 < 256:=by
 by_cases hj:j < bs.length
 ·have:bs.reverse.getD j 0=bs.getD (bs.length - 1 - j) 0:=by
   simp [List.getD_eq_getElem?_getD,List.getElem?_reverse hj]
  rw [this];exact h _
 ·have:bs.reverse.getD j 0=0:=by rw [List.getD_eq_getElem?_getD,List.getElem?_eq_none (by simp;omega)];rfl
  rw [this];decide
theorem rev_get (bs:List Int) (j:Nat) (hj:j < bs.length):bs.reverse.getD (bs.length - 1 - j) 0=bs.getD j 0:=by
 have:bs.length - 1 - (bs.length - 1 - j)=j:=by omega
 simp [List.getD_eq_getElem?_getD,List.getElem?_reverse (show bs.length - 1 - j < bs.length by omega),this]
theorem pv256_bound:∀ (A:List Int),(∀ j,0≤A.getD j 0∧A.getD j 0 < 256)→0≤pv 256 A∧pv 256 A < 256 ^ A.length
 | [],_=>by simp [pv]
 | a :: A,h=>by
  have h0:0≤a∧a < 256:=h 0
  have ih:=pv256_bound A (fun j=>h (j + 1))
  simp only [pv,List.length_cons,Int.pow_succ] at *
  generalize (256:Int) ^ A.length=p at *
  generalize pv 256 A=v at *
  omega
abbrev u8s (A:List Int):List Value:=A.map (Value.int .u8)
theorem u8s_get (A:List Int) (j:Nat) (h:j < A.length):(u8s A)[j]?=some (.int .u8 (A.getD j 0)):=by
 simp [u8s,h]
theorem own_made (w:World) (cs:List Value) (e:TypeId) (n base:Nat) (hl:cs.length=n) (hb:base≤w.heap.size) (hm:n≤maxLen) :
  (w.alloc (.cells cs.toArray e)).ownsRow base e 1 (.slice (some ⟨w.heap.size,0,none⟩) n n) n cs :=
 ⟨by omega,.inr ⟨w.heap.size,n,cs.toArray,rfl,hb,by show (w.heap.push _)[w.heap.size]?=_;simp,Nat.le_refl _,hm,by simp;omega,by rw [List.take_of_length_le (by simp;omega)]⟩⟩
theorem Bs.of_own {w:World} {base:Nat} {e:TypeId} {v:Value} {n:Nat} {D:List Int} (h:w.ownsRow base e 1 v n (u8s D)):Bs w v D:=by
 obtain ⟨hl,h⟩:=h
 have hn:D.length=n:=by simpa using hl
 rcases h with ⟨h1,h2⟩|⟨g,cap,cur,h1,h2,h3,h4,h5,h6,h7⟩
 ·exact ⟨none,0,by rw [h1,hn,h2],Nat.zero_le _,by omega,fun h=>by omega⟩
 ·refine ⟨_,cap,by rw [hn];exact h1,h5,by omega,fun _=>⟨g,0,rfl,(Array.getElem?_eq_some_iff.1 h3).1,fun j hj=>?_⟩⟩
  have e1:(cur.toList.take (n * 1))[j]?=some (.int .u8 (D.getD j 0)):=by rw [h7];exact u8s_get D j hj
  rw [List.getElem?_take,if_pos (by omega)] at e1
  rw [Nat.zero_add]
  simp only [World.cell?,h3,Option.isSome_none,Bool.false_eq_true,if_false]
  simpa using e1
theorem byt_of (A:List Int) (h:∀ j,j < A.length→0≤A.getD j 0∧A.getD j 0 < 256):byt A:=by
 intro j
 by_cases hj:j < A.length
 ·exact h j hj
 ·rw [getD_none A j (by omega)];decide
/-- what limb j holds behind k bytes, the lowest byte first -/
def segF (R:List Int) (k j:Nat):List Int:=(R.take (8 * j + 8)).drop (max (8 * j) (48 - k))
def segs (R:List Int) (k:Nat) (S:List Int):Prop:=∀ j,j < 6→S.getD j 0=pv 256 (segF R k j)
theorem segs_zero (R:List Int) (lR:R.length=48):segs R 0 [0,0,0,0,0,0]:=by
 intro j hj
 have e:segF R 0 j=[]:=by
  unfold segF
  apply List.drop_eq_nil_of_le
  simp;omega
 rw [e]
 match j,hj with
 | 0,_=>rfl
 | 1,_=>rfl
 | 2,_=>rfl
 | 3,_=>rfl
 | 4,_=>rfl
 | 5,_=>rfl
theorem segF_here (R:List Int) (k:Nat) (lR:R.length=48) (hk:k < 48):segF R (k + 1) ((47 - k) / 8)=R.getD (47 - k) 0 :: segF R k ((47 - k) / 8):=by
 unfold segF
 have e1:max (8 * ((47 - k) / 8)) (48 - (k + 1))=47 - k:=by omega
 have e2:max (8 * ((47 - k) / 8)) (48 - k)=47 - k + 1:=by omega
 have hl:47 - k < (R.take (8 * ((47 - k) / 8) + 8)).length:=by simp;omega
 rw [e1,e2,List.drop_eq_getElem_cons hl]
 congr 1
 rw [List.getElem_take,List.getD_eq_getElem?_getD,List.getElem?_eq_getElem (by omega)]
 rfl
theorem segF_else (R:List Int) (k j:Nat) (lR:R.length=48) (hk:k < 48) (hj:j < 6) (hne:(47 - k) / 8≠j):segF R (k + 1) j=segF R k j:=by
 unfold segF
 by_cases h:48 - k≤8 * j
 ·have e1:max (8 * j) (48 - (k + 1))=8 * j:=by omega
  have e2:max (8 * j) (48 - k)=8 * j:=by omega
  rw [e1,e2]
 ·rw [List.drop_eq_nil_of_le (by simp;omega),List.drop_eq_nil_of_le (by simp;omega)]
theorem segF_bound (R:List Int) (k:Nat) (lR:R.length=48) (hR:∀ j,0≤R.getD j 0∧R.getD j 0 < 256) (hk:k < 48):0≤pv 256 (segF R k ((47 - k) / 8))∧pv 256 (segF R k ((47 - k) / 8)) < 72057594037927936:=by
 have hg:∀ j,0≤(segF R k ((47 - k) / 8)).getD j 0∧(segF R k ((47 - k) / 8)).getD j 0 < 256:=by
  intro j
  unfold segF
  by_cases h:max (8 * ((47 - k) / 8)) (48 - k) + j < 8 * ((47 - k) / 8) + 8
  ·have:((R.take (8 * ((47 - k) / 8) + 8)).drop (max (8 * ((47 - k) / 8)) (48 - k))).getD j 0=R.getD (max (8 * ((47 - k) / 8)) (48 - k) + j) 0:=by
    simp only [List.getD_eq_getElem?_getD,List.getElem?_drop,List.getElem?_take,h,if_true]
   rw [this];exact hR _
  ·have:((R.take (8 * ((47 - k) / 8) + 8)).drop (max (8 * ((47 - k) / 8)) (48 - k))).getD j 0=0:=by
    simp only [List.getD_eq_getElem?_getD,List.getElem?_drop,List.getElem?_take,h,if_false]
    rfl
   rw [this];decide
 have b:=pv256_bound _ hg
 have hl:(segF R k ((47 - k) / 8)).length≤7:=by
  unfold segF;simp;omega
 have p:(256:Int) ^ (segF R k ((47 - k) / 8)).length≤256 ^ 7:=by
  generalize (segF R k ((47 - k) / 8)).length=n at *
  match n,hl with
  | 0,_=>decide
  | 1,_=>decide
  | 2,_=>decide
  | 3,_=>decide
  | 4,_=>decide
  | 5,_=>decide
  | 6,_=>decide
  | 7,_=>decide
 have e:(256:Int) ^ 7=72057594037927936:=by decide
 omega
theorem segs_step (R S:List Int) (k:Nat) (x s:Int) (lR:R.length=48) (lS:S.length=6) (hk:k < 48) (hx:R.getD (47 - k) 0=x) (hs:S.getD ((47 - k) / 8) 0=s) (h:segs R k S):segs R (k + 1) (S.set ((47 - k) / 8) (s * 256 + x)):=by
 intro j hj
 by_cases hjk:(47 - k) / 8=j
 ·have h0:=h _ (show (47 - k) / 8 < 6 by omega)
  rw [← hjk,getD_set_same _ _ _ (by omega),segF_here R k lR hk,pv,hx,← h0,hs]
  omega
 ·have:(S.set ((47 - k) / 8) (s * 256 + x)).getD j 0=S.getD j 0:=by simp [List.getD_eq_getElem?_getD,hjk]
  rw [this,segF_else R k j lR hk hj hjk]
  exact h j hj
theorem segs_end (R S:List Int) (lR:R.length=48) (lS:S.length=6) (h:segs R 48 S):v64 S=pv 256 R:=by
 obtain ⟨s0,s1,s2,s3,s4,s5,rfl⟩:=six lS
 have key:∀ n,n≤6→pv 256 (R.take (8 * n))=pv 18446744073709551616 ([s0,s1,s2,s3,s4,s5].take n):=by
  intro n
  induction n with
  | zero=>intro _;simp [pv]
  | succ n ih =>
   intro hn
   have h1:=h n (by omega)
   have e0:segF R 48 n=(R.take (8 * n + 8)).drop (8 * n):=by unfold segF;congr 1;omega
   have e1:R.take (8 * (n + 1))=R.take (8 * n)++segF R 48 n:=by
    rw [e0,show 8 * (n + 1)=8 * n + 8 by omega]
    have:=List.take_append_drop (8 * n) (R.take (8 * n + 8))
    rw [List.take_take,show min (8 * n) (8 * n + 8)=8 * n by omega] at this
    exact this.symm
   rw [e1,pv_append,ih (by omega),pv_take _ _ n (by simp;omega),h1]
   have e2:(R.take (8 * n)).length=8 * n:=by simp;omega
   rw [e2,Int.pow_mul]
   have e3:(256:Int) ^ 8=18446744073709551616:=by decide
   rw [e3]
 have:=key 6 (by omega)
 rw [List.take_of_length_le (by omega),List.take_of_length_le (by simp)] at this
 exact this.symm
theorem or_join (s x:Int) (hs:0≤s∧s < 72057594037927936) (hx:0≤x∧x < 256):bits .or .u64 (s * 256) x=s * 256 + x:=by
 rw [u64_or _ _ (by omega) (by omega) hx.1 (by omega)]
 have e:=nat_join 8 (s * 256).toNat x.toNat (by omega) (by omega)
 rw [e]
 omega
set_option maxRecDepth 100000 in
set_option maxHeartbeats 1000000 in
theorem from_right (v:Value) (bs:List Int) (w:World) (h:Bs w v bs) (hl:bs.length=48) (hB:byt bs) :
  Calls Tryz.prog 155 #[v] w fun e w'=>∃ S:List Int,e=.returned (.tuple #[.agg (us S).toArray,.nilIface])∧S.length=6∧fits S∧v64 S=beN bs∧Below w.heap.size w w':=by
 obtain ⟨ao,cap,rfl,h2,h3,h4⟩:=h
 unfold maxLen at h2
 obtain ⟨b,o,rfl,hb,hc⟩:=h4 (by omega)
 rw [hl] at h3 hc ⊢
 have b2:=(Blk.new w (us [0,0,0,0,0,0]) 29 w.heap.size rfl).alloc (.cells (us [0,0,0,0,0,0]).toArray 29)
 have b3:=Blk.new (w.alloc (.cells (us [0,0,0,0,0,0]).toArray 29)) (us [0,0,0,0,0,0]) 29 (w.heap.size + 1) (by simp)
 have hbel:Below w.heap.size w ((w.alloc (.cells (us [0,0,0,0,0,0]).toArray 29)).alloc (.cells (us [0,0,0,0,0,0]).toArray 29)):=((Below.refl _ _).alloc (Nat.le_refl _) _).alloc (by simp) _
 obtain ⟨R,hR⟩:∃ R,bs.reverse=R:=⟨_,rfl⟩
 have lR:R.length=48:=by rw [← hR];simpa using hl
 have bR:Hid (∀ j,0≤R.getD j 0∧R.getD j 0 < 256):=fun j=>hR ▸ byt_rev hB j
 have gR:Hid (∀ j,j < 48→R.getD (47 - j) 0=bs.getD j 0):=fun j hj=>by
  have:=rev_get bs j (by omega)
  rw [hl,hR] at this
  exact this
 have HN:Hid (pv 256 R=beN bs):=by unfold beN;rw [hR];rfl
 obtain ⟨N,hN⟩:∃ N,beN bs=N:=⟨_,rfl⟩
 rw [hN] at HN ⊢
 have sz:=segs_zero R lR
 clear hN hR h4
 go_enter Tryz.func155,Tryz.ntmps155
 go_wp2
 go_loopw [17] (fun i wr=>∃ (k:Nat) (S:List Int),k≤48∧i=.int .i64 k∧S.length=6∧fits S∧Hid (segs R k S)∧Blk wr w.heap.size (us [0,0,0,0,0,0])∧Blk wr (w.heap.size + 1) (us S)∧Below w.heap.size w wr)
  (fun i _=>48 - (intOf i).toNat)
 case atStart=>exact ⟨0,[0,0,0,0,0,0],by omega,rfl,rfl,fits_zero 6,sz,b2,b3,hbel⟩
 case round =>
  obtain ⟨k,S,hk,rfl,lS,fS,hJ,hZ,hS,hbel⟩:=hrel
  clear b2 b3
  by_cases hlt:k < 48
  ·obtain ⟨x,hx⟩:∃ x,bs.getD k 0=x:=⟨_,rfl⟩
   obtain ⟨s,hs⟩:∃ s,S.getD ((47 - k) / 8) 0=s:=⟨_,rfl⟩
   have xr:R.getD (47 - k) 0=x:=by rw [gR.out k hlt,hx]
   have bx:0≤x∧x < 256:=hx ▸ hB k
   have bs':0≤s∧s < 72057594037927936:=by
    have e:=hJ.out _ (show (47 - k) / 8 < 6 by omega)
    rw [hs] at e
    rw [e];exact segF_bound R k lR bR.out hlt
   have J:Hid (segs R (k + 1) (S.set ((47 - k) / 8) (s * 256 + x))):=segs_step R S k x s lR lS hlt xr hs hJ.out
   have x1:=(hbel.cell (p:=⟨b,o + k,none⟩) hb).trans (hc k hlt)
   rw [hx] at x1
   have x2:=hS.cell ((47 - k) / 8) _ (us_get S _ (by omega))
   rw [hs] at x2
   have fz:=hS.frozen ((47 - k) / 8)
   have hor:=or_join s x bs' bx
   have bs0:=bs'.1
   have bs1:=bs'.2
   have bx0:=bx.1
   have bx1:=bx.2
   have g1:(k:Int) < 48:=by omega
   have g2:(0:Int)≤(k:Int):=by omega
   have g3:(0:Int)≤(47 - (k:Int)) / 8:=by omega
   have g4:(47 - (k:Int)) / 8 < 6:=by omega
   have g5:((47 - (k:Int)) / 8).toNat=(47 - k) / 8:=by omega
   clear hx hs xr bx bs'
   go_wp2
   go_region
   all_goals go_wp2
   all_goals go_roundw
   case rel=>exact ⟨k + 1,S.set ((47 - k) / 8) (s * 256 + x),by omega,by go_num,by simpa using lS,fits_set fS _ _ (by omega) (by omega),J,(hZ.other _ _ (by simp)).drew,(hS.setu _ _).drew,(hbel.setCell (by simp) _).drew⟩
   case measure=>simp [intOf];omega
  ·have h6:(48:Int)≤(k:Int):=by omega
   have HQ:Hid (v64 S=N):=by
    have hk48:k=48:=by omega
    have e:=hJ.out
    rw [hk48] at e
    show _=_
    rw [segs_end R S lR lS e];exact HN.out
   obtain ⟨s0,s1,s2,s3,s4,s5,rfl⟩:=six lS
   obtain ⟨c0,c1,c2,c3,c4,c5⟩:=hS.cells6
   obtain ⟨z0,z1,z2,z3,z4,z5⟩:=hZ.cells6
   have f0:=hZ.frozen 0
   have f1:=hZ.frozen 1
   have f2:=hZ.frozen 2
   have f3:=hZ.frozen 3
   have f4:=hZ.frozen 4
   have f5:=hZ.frozen 5
   clear hJ
   go_wp2
   exact bodyPost_ret (v:=.tuple #[.agg #[.int .u64 s0,.int .u64 s1,.int .u64 s2,.int .u64 s3,.int .u64 s4,.int .u64 s5],.nilIface]) (by simp [results,Tryz.results155,go_sem,z0,z1,z2,z3,z4,z5]) rfl
    ⟨[s0,s1,s2,s3,s4,s5],rfl,rfl,fS,HQ.out,(((((hbel.setCell (by simp) _).setCell (by simp) _).setCell (by simp) _).setCell (by simp) _).setCell (by simp) _).setCell (by simp) _⟩
theorem iface_nilnot:∀ w:World,(binOp .neq 35 .nilIface .nilIface).run Tryz.prog w=.ok (.bool false) w:=fun _=>by kernel_rfl
theorem from6 {v:Value} {bs:List Int} {w:World} (h:Bs w v bs) (hl:bs.length=48) (hB:byt bs) :
  Calls Tryz.prog 155 #[v] w fun e w'=>∃ s0 s1 s2 s3 s4 s5:Int,e=.returned (.tuple #[.agg #[.int .u64 s0,.int .u64 s1,.int .u64 s2,.int .u64 s3,.int .u64 s4,.int .u64 s5],.nilIface])∧fits [s0,s1,s2,s3,s4,s5]∧v64 [s0,s1,s2,s3,s4,s5]=beN bs∧Below w.heap.size w w':=by
 refine (from_right v bs w h hl hB).mono ?_
 rintro e w' ⟨S,rfl,lS,fS,hS,hb⟩
 obtain ⟨s0,s1,s2,s3,s4,s5,rfl⟩:=six lS
 exact ⟨s0,s1,s2,s3,s4,s5,rfl,fS,hS,hb⟩
theorem lessN_no {A B:List Int} (h:v64 B≤v64 A):lessN A B=0:=by
 unfold lessN;rw [if_neg (by omega)]
theorem lessN_yes {A B:List Int} (h:v64 A < v64 B):lessN A B=1:=by
 unfold lessN;rw [if_pos h]
theorem exec_load {P:Program} {o:Oper} {a:Act} {w:World} {ty:TypeId} {x:Operand} {ad:Addr} {v:Value} (ho:o.op=.load ty x) (hx:a.eval x=.pointer (some ad)) (h:(loadVar ty ad).run P w=.ok v w):(execOp a.eval o).run P w=.ok (.value v) w:=by
 unfold execOp
 simp only [ho,hx,Instr.loadAt,Instr.sureAddr,Sem.run_bind,Sem.run_pure,Result.andThen_ok,h]
/-- a whole array out of a block that is known -/
theorem Blk.load {P:Program} {w:World} {g n:Nat} {F:List Value} {ty:TypeId} {d:TypeDesc} (B:Blk w g F) (hu:P.underlying ty=some d) (hd:(match d with|.struct _|.array _ _=>true|_=>false)=true) (hs:(P.info? ty).map (·.size)=some n) (hn:F.length=n):(loadVar ty ⟨g,0,none⟩).run P w=.ok (.agg F.toArray) w:=by
 obtain ⟨t,ht⟩:=B
 exact run_loadVar_row w g t ty F.toArray (0,0) d ht hu hd (by rw [hs,List.size_toArray,hn])
/-- a load, guarded or not, whose answer is known -/
theorem wpList_load_run {P:Program} {ops:Array Oper} {rest:List Oper} {o:Oper} {a:Act} {w:World} {Q:Exit→Act→World→Prop} {ty:TypeId} {x:Operand} {ad:Addr} {v:Value} (hw:Region.wanted o (yielded ops a.tmps)=true) (ho:o.op=.load ty x) (hx:a.eval x=.pointer (some ad)) (h:(loadVar ty ad).run P w=.ok v w)
  (k:wpList P ops Q rest (a.put o.dst v) w):wpList P ops Q (o :: rest) a w:=by
 refine wpList_step fun K hK=>?_
 simp only [hw,if_true]
 unfold Oper.wp execOp
 simp only [ho,hx,Instr.loadAt,Instr.sureAddr,Sem.run_bind,Sem.run_pure,Result.andThen_ok,h]
 exact hK _ _ k
/-- a whole array out of cells that are known one by one -/
theorem load_cells {P:Program} {w:World} {g o n:Nat} {F:List Value} {ty:TypeId} {d:TypeDesc} (hc:∀ j v,F[j]?=some v→w.cell? ⟨g,o + j,none⟩=some v) (hn:F.length=n) (hu:P.underlying ty=some d) (hd:(match d with|.struct _|.array _ _=>true|_=>false)=true) (hs:(P.info? ty).map (·.size)=some n):(loadVar ty ⟨g,o,none⟩).run P w=.ok (.agg F.toArray) w:=by
 have hl:(loadCells ⟨g,o,none⟩ F.length).run P w=.ok F.toArray w :=
  run_loadCells_list (P:=P) w ⟨g,o,none⟩ F (fun j v hv=>by
   have hadd:(⟨g,o,none⟩:Addr).add j=⟨g,o + j,none⟩:=by unfold Addr.add;split<;>simp_all
   rw [hadd]
   exact hc j v hv)
 cases hq:P.info? ty with
 | none=>simp [hq] at hs
 | some i =>
  have hz:i.size=F.length:=by simp [hq] at hs;omega
  have hagg:(isAgg ty).run P w=.ok true w:=by
   unfold isAgg
   rw [Sem.run_bind,run_underlying hu w]
   cases d<;>simp_all
  simp [loadVar,Sem.run_bind,hagg,sizeOf,typeInfo,hq,hz,hl]
/-- bytes of a block that is known whole -/
theorem Blk.bs {w:World} {g q:Nat} {P:List Int} (B:Blk w g (u8s P)) (l:P.length=q) (h:q≤maxLen):Bs w (.slice (some ⟨g,0,none⟩) q q) P :=
 ⟨some ⟨g,0,none⟩,q,by rw [l],h,by omega,fun _=>⟨g,0,rfl,B.lt,fun j hj=>by rw [Nat.zero_add];exact B.cell j _ (u8s_get P j hj)⟩⟩
theorem made_zero (n:Nat):madeCells #[.int .u8 0] n=(u8s (List.replicate n 0)).toArray:=by
 apply Array.ext
 ·simp [madeCells]
 ·intro i h1 h2
  simp [madeCells,Nat.mod_one]
theorem results_row_tmp {P:Program} {fn:Func} {p u:Tmp} {ty:TypeId} (h:fn.results=#[.cell p ty,.tmp u]) (tmps:Array Value) (w:World) (g:Nat) (t:TypeId) (cs:Array Value) (fr:Nat × Nat) (d:TypeDesc)
  (hp:tmps.getD p undef=.pointer (some ⟨g,0,none⟩)) (hg:w.heap[g]?=some (.cells cs t fr))
  (hu:P.underlying ty=some d) (hd:(match d with|.struct _|.array _ _=>true|_=>false)=true) (hi:(P.info? ty).map (·.size)=some cs.size) :
  (results fn tmps).run P w=.ok (.tuple #[.agg cs,tmps.getD u undef]) w:=by
 have hp':tmps[p]?.getD undef=.pointer (some ⟨g,0,none⟩):=by simpa using hp
 simp [results,h,hp',asAddr,run_loadVar_row w g t ty cs fr d hg hu hd hi]
theorem conv_s {w:World} {b o n cap:Nat} {bs:List Int} (h:Bs w (.slice (some ⟨b,o,none⟩) n cap) bs) (hn:0 < n):(convert 22 9 (.slice (some ⟨b,o,none⟩) n cap)).run Tryz.prog w=.ok (.string (strOfNums bs)) w:=by
 obtain ⟨ao,c,e,-,-,h4⟩:=h
 simp only [Value.slice.injEq] at e
 obtain ⟨rfl,rfl,rfl⟩:=e
 obtain ⟨b',o',e',-,h6⟩:=h4 hn
 simp only [Option.some.injEq,Addr.mk.injEq] at e'
 obtain ⟨rfl,rfl,-⟩:=e'
 exact run_convert_bytes_arg w 22 5 Tryz.underlying22 Tryz.underlying5 b o bs.length _ bs rfl h6 9 Tryz.underlying9
theorem Bs.form {w:World} {v:Value} {bs:List Int} (h:Bs w v bs) (h0:0 < bs.length):∃ b o cap,v=.slice (some ⟨b,o,none⟩) bs.length cap∧bs.length≤cap∧cap≤maxLen:=by
 obtain ⟨ao,cap,e,h1,h2,h3⟩:=h
 obtain ⟨b,o,rfl,_⟩:=h3 h0
 exact ⟨b,o,cap,e,h2,h1⟩
theorem conv_any {w:World} {v:Value} {bs:List Int} (h:Bs w v bs):(convert 22 9 v).run Tryz.prog w=.ok (.string (strOfNums bs)) w:=by
 by_cases h0:0 < bs.length
 ·obtain ⟨b,o,cap,rfl,_,_⟩:=h.form h0
  exact conv_s h h0
 ·obtain rfl:bs=[]:=List.eq_nil_of_length_eq_zero (by omega)
  obtain ⟨ao,cap,rfl,_,_,_⟩:=h
  cases ao<;>kernel_rfl
/-- a part: its kind, its text's bytes -/
abbrev Pn:=Int × List Int
/-- a name as it lies -/
def NmAt (w:World) (v:Value) (n:List Pn):Prop:=∃ ao cap,v=.slice ao n.length cap∧n.length≤cap∧cap≤maxLen∧(0 < n.length→∃ b o,ao=some ⟨b,o,none⟩∧b < w.heap.size∧∀ i p,n[i]?=some p→w.cell? ⟨b,o + i * 2,none⟩=some (.int .i64 p.1)∧w.cell? ⟨b,o + i * 2 + 1,none⟩=some (.string (strOfNums p.2)))
/-- kinds that are ints, texts that are bytes -/
def WfN (n:List Pn):Prop:=∀ (i:Nat) (p:Pn),n[i]?=some p→(-9223372036854775808≤p.1∧p.1 < 9223372036854775808)∧byt p.2∧p.2.length≤maxLen
theorem NmAt.later {w w':World} {v:Value} {n:List Pn} (h:NmAt w v n) (hb:Below w.heap.size w w'):NmAt w' v n:=by
 obtain ⟨ao,cap,e,h1,h2,h3⟩:=h
 refine ⟨ao,cap,e,h1,h2,fun h0=>?_⟩
 obtain ⟨b,o,e2,hl,hc⟩:=h3 h0
 exact ⟨b,o,e2,Nat.lt_of_lt_of_le hl hb.size,fun i p hp=>⟨(hb.cell (p:=⟨b,o + i * 2,none⟩) hl).trans (hc i p hp).1,(hb.cell (p:=⟨b,o + i * 2 + 1,none⟩) hl).trans (hc i p hp).2⟩⟩
theorem NmAt.nil0 (w:World):NmAt w (.slice none 0 0) []:=⟨_,_,rfl,Nat.le_refl _,by decide,fun h=>absurd h (by decide)⟩
theorem str_one {A B:List Int} (ha:byt A) (hb:byt B) (h:strOfNums A=strOfNums B):A=B:=by
 have e:∀ {A B:List Int},byt A→byt B→(A.map fun n=>UInt8.ofNat n.toNat)=(B.map fun n=>UInt8.ofNat n.toNat)→A=B:=by
  intro A
  induction A with
  | nil=>intro B _ _ h;cases B with
   | nil=>rfl
   | cons b B=>simp at h
  | cons a A ih=>intro B ha hb h;cases B with
   | nil=>simp at h
   | cons b B =>
    simp only [List.map_cons,List.cons.injEq] at h
    have h0:=ha 0
    have k0:=hb 0
    simp only [List.getD_cons_zero] at h0 k0
    have e1:a=b:=by
     have:=congrArg UInt8.toNat h.1
     rw [UInt8.toNat_ofNat_of_lt' (by have:UInt8.size=256:=rfl;omega),UInt8.toNat_ofNat_of_lt' (by have:UInt8.size=256:=rfl;omega)] at this
     omega
    rw [e1,ih (fun j=>by simpa using ha (j + 1)) (fun j=>by simpa using hb (j + 1)) h.2]
 refine e ha hb ?_
 have:=congrArg (fun s:ByteArray=>s.data.toList) h
 simpa [strOfNums] using this
theorem part_fields : (Tryz.prog.fieldsOf 106).toList.map (fun f => (f.name == "_", f.type, f.offset)) = [(false, 3, 0), (false, 9, 1)] := by kernel_rfl
theorem eqF_consN {P : Program} {w : World} {d : Nat} {xs ys : Array Value} {f : Field} {fs : List Field} {a b : Value} {r : Bool} (hn : (f.name == "_") = false) (ha : ∀ w, (part f.type xs f.offset).run P w = .ok a w) (hb : ∀ w, (part f.type ys f.offset).run P w = .ok b w) (hr : ∀ w, (Op.equalIn d f.type a b).run P w = .ok r w) :
  (Op.eqFields d xs ys (f :: fs)).run P w=if r then (Op.eqFields d xs ys fs).run P w else .ok false w:=by
 have : f.name ≠ "_" := by simpa using hn
 rw [Op.eqFields,if_pos this]
 simp only [Sem.run_bind,ha,hb,hr,Result.andThen_ok]
 cases r<;>simp
theorem ba_beq:∀ x y:ByteArray,(x == y)=(x.data == y.data)
 | ⟨_⟩,⟨_⟩=>rfl
theorem str_dec {A B:List Int} (ha:byt A) (hb:byt B):(strOfNums A == strOfNums B)=decide (A=B):=by
 rw [ba_beq]
 by_cases h:A=B
 ·subst h
  simp
 ·rw [decide_eq_false h,beq_eq_false_iff_ne]
  exact fun e=>h (str_one ha hb (ByteArray.ext e))
theorem eqPt (k1 k2:Int) (s1 s2:List Int) (h1:byt s1) (h2:byt s2):∀ w:World,(Op.equalIn 10000 106 (.agg #[.int .i64 k1,.string (strOfNums s1)]) (.agg #[.int .i64 k2,.string (strOfNums s2)])).run Tryz.prog w=.ok (decide ((k1,s1)=(k2,s2))) w:=fun w=>by
 rw [run_equalIn_struct w 9999 106 _ _ (by kernel_rfl) (by kernel_rfl)]
 have hf:=part_fields
 have hs:=str_dec h1 h2
 generalize (Tryz.prog.fieldsOf 106).toList=fs at *
 have hl:fs.length=2:=by simpa using congrArg List.length hf
 obtain ⟨t1,e1⟩:∃ t,strOfNums s1=t:=⟨_,rfl⟩
 obtain ⟨t2,e2⟩:∃ t,strOfNums s2=t:=⟨_,rfl⟩
 rw [e1,e2] at hs ⊢
 match fs,hl,hf with
 | [f0,f1],_,hf =>
  simp only [List.map_cons,List.map_nil,List.cons.injEq,and_true,Prod.mk.injEq] at hf
  obtain ⟨⟨n0,y0,o0⟩,⟨n1,y1,o1⟩⟩:=hf
  rw [eqF_consN (r:=decide (k1=k2)) n0 (a:=.int .i64 k1) (b:=.int .i64 k2) (by rw [y0,o0];intro w;kernel_rfl) (by rw [y0,o0];intro w;kernel_rfl) (by rw [y0];intro w;kernel_rfl)]
  rw [eqF_consN (r:=t1 == t2) n1 (a:=.string t1) (b:=.string t2) (by rw [y1,o1];intro w;kernel_rfl) (by rw [y1,o1];intro w;kernel_rfl) (by rw [y1];intro w;kernel_rfl)]
  simp only [Op.eqFields,Sem.run_pure]
  rw [hs]
  by_cases c1:k1=k2<;>by_cases c2:s1=s2<;>simp [c1,c2]
/-- an element -/
inductive Tl where
 | mk (c t:Int) (m:Bool) (b:List Int) (ks:List Tl)
mutual
/-- how many elements it has in it, with itself -/
def szT:Tl→Nat
 | .mk _ _ _ _ ks=>1 + szL ks
def szL:List Tl→Nat
 | []=>0
 | k :: ks=>szT k + szL ks
end
theorem szT_pos:∀ t:Tl,0 < szT t
 | .mk _ _ _ _ ks=>by rw [szT];omega
theorem szL_get:∀ {ks:List Tl} {i:Nat} {k:Tl},ks[i]?=some k→szT k≤szL ks
 | [],i,k,h=>by simp at h
 | x :: xs,0,k,h=>by
  simp at h
  subst h
  rw [szL]
  omega
 | x :: xs,i + 1,k,h=>by
  rw [List.getElem?_cons_succ] at h
  have:=szL_get h
  rw [szL]
  omega
/-- cells that lie somewhere -/
def CsAt (w:World) (g o:Nat) (cs:List Value):Prop:=g < w.heap.size∧∀ j v,cs[j]?=some v→w.cell? ⟨g,o + j,none⟩=some v
theorem CsAt.later {w w':World} {g o:Nat} {cs:List Value} (h:CsAt w g o cs) (hb:Below w.heap.size w w'):CsAt w' g o cs :=
 ⟨Nat.lt_of_lt_of_le h.1 hb.size,fun j v hj=>(hb.cell (p:=⟨g,o + j,none⟩) h.1).trans (h.2 j v hj)⟩
mutual
/-- an element as five cells tell it -/
def TlAt (w:World):Tl→List Value→Prop
 | .mk c t m b ks,cs=>∃ bv ao cap,cs=[.int .i64 c,.int .i64 t,.bool m,bv,.slice ao ks.length cap]∧Bs w bv b∧ks.length≤cap∧cap≤maxLen∧(0 < ks.length→∃ g o,ao=some ⟨g,o,none⟩∧KidsAt w ks g o)
def KidsAt (w:World):List Tl→Nat→Nat→Prop
 | [],_,_=>True
 | k :: ks,g,o=>(∃ cs,CsAt w g o cs∧TlAt w k cs)∧KidsAt w ks g (o + 5)
end
theorem TlAt.five {w:World}:∀ {t:Tl} {cs:List Value},TlAt w t cs→cs.length=5
 | .mk ..,_,h=>by
  rw [TlAt] at h
  obtain ⟨_,_,_,rfl,_⟩:=h
  rfl
mutual
theorem TlAt.later {w w':World} (hb:Below w.heap.size w w'):∀ {t:Tl} {cs:List Value},TlAt w t cs→TlAt w' t cs
 | .mk c t m b ks,cs,h=>by
  rw [TlAt] at h ⊢
  obtain ⟨bv,ao,cap,h1,h2,h3,h4,h5⟩:=h
  refine ⟨bv,ao,cap,h1,h2.later hb,h3,h4,fun h0=>?_⟩
  obtain ⟨g,o,e,hk⟩:=h5 h0
  exact ⟨g,o,e,KidsAt.later hb hk⟩
theorem KidsAt.later {w w':World} (hb:Below w.heap.size w w'):∀ {ks:List Tl} {g o:Nat},KidsAt w ks g o→KidsAt w' ks g o
 | [],_,_,_=>by rw [KidsAt];trivial
 | k :: ks,g,o,h=>by
  rw [KidsAt] at h ⊢
  obtain ⟨⟨cs,h1,h2⟩,h3⟩:=h
  exact ⟨⟨cs,h1.later hb,TlAt.later hb h2⟩,KidsAt.later hb h3⟩
end
theorem KidsAt.get {w:World}:∀ {ks:List Tl} {g o i:Nat} {k:Tl},KidsAt w ks g o→ks[i]?=some k→∃ cs,CsAt w g (o + 5 * i) cs∧TlAt w k cs
 | [],_,_,i,_,_,h=>by simp at h
 | x :: xs,g,o,0,k,h,e=>by
  rw [KidsAt] at h
  simp at e
  subst e
  exact h.1
 | x :: xs,g,o,i + 1,k,h,e=>by
  rw [KidsAt] at h
  rw [List.getElem?_cons_succ] at e
  have:=KidsAt.get h.2 e
  rw [show o + 5 * (i + 1)=o + 5 + 5 * i by omega]
  exact this
mutual
/-- numbers that are ints, bytes that are bytes -/
def WfT:Tl→Prop
 | .mk c t _ b ks=>(-9223372036854775808≤c∧c < 9223372036854775808)∧(-9223372036854775808≤t∧t < 9223372036854775808)∧byt b∧WfL ks
def WfL:List Tl→Prop
 | []=>True
 | k :: ks=>WfT k∧WfL ks
end
theorem WfL.get:∀ {ks:List Tl} {i:Nat} {k:Tl},WfL ks→ks[i]?=some k→WfT k
 | [],i,k,_,h=>by simp at h
 | x :: xs,0,k,h,e=>by
  rw [WfL] at h
  simp at e
  subst e
  exact h.1
 | x :: xs,i + 1,k,h,e=>by
  rw [WfL] at h
  rw [List.getElem?_cons_succ] at e
  exact WfL.get h.2 e
/-- may one element be, what is in it aside? -/
def fine1 (c t:Int) (m:Bool) (b:List Int) (ks:List Tl):Bool:=decide (0≤c) && decide (c≤3) && decide (0≤t) && decide (t≤30) && !(m && decide (0 < b.length)) && !(!m && decide (0 < ks.length))
mutual
def fineT:Tl→Bool
 | .mk c t m b ks=>fine1 c t m b ks && fineL ks
def fineL:List Tl→Bool
 | []=>true
 | k :: ks=>fineT k && fineL ks
end
mutual
def depT:Tl→Nat
 | .mk _ _ _ _ ks=>depL ks + 1
def depL:List Tl→Nat
 | []=>0
 | k :: ks=>max (depT k) (depL ks)
end
theorem fineL_drop {ks:List Tl} {i:Nat} {k:Tl} (h:ks[i]?=some k):fineL (ks.drop i)=(fineT k && fineL (ks.drop (i + 1))):=by
 have e:=List.getElem?_eq_some_iff.1 h
 rw [List.drop_eq_getElem_cons e.1,e.2,fineL]
theorem depL_app:∀ (xs ys:List Tl),depL (xs++ys)=max (depL xs) (depL ys)
 | [],ys=>by simp [depL]
 | x :: xs,ys=>by rw [List.cons_append,depL,depL,depL_app xs ys,Nat.max_assoc]
theorem depL_next {ks:List Tl} {i:Nat} {k:Tl} (h:ks[i]?=some k):depL (ks.take (i + 1))=max (depL (ks.take i)) (depT k):=by
 rw [List.take_add_one,h]
 show depL (ks.take i++[k])=_
 rw [depL_app]
 simp [depL]
/-- an element's first byte -/
def headB (c t:Int) (m:Bool):Int:=64 * c + t + (if m then 32 else 0)
/-- a length as it is told -/
def lenB (n:Nat):List Int :=
 if n < 128 then [(n:Int)] else if n < 256 then [129,(n:Int)] else if n < 65536 then [130,((n / 256:Nat):Int),((n % 256:Nat):Int)] else [131,((n / 65536 % 256:Nat):Int),((n / 256 % 256:Nat):Int),((n % 256:Nat):Int)]
mutual
/-- an element's bytes -/
def bytesT:Tl→List Int
 | .mk c t m b ks=>headB c t m :: (lenB (b++bytesL ks).length++(b++bytesL ks))
def bytesL:List Tl→List Int
 | []=>[]
 | k :: ks=>bytesT k++bytesL ks
end
theorem bytesL_app:∀ (xs ys:List Tl),bytesL (xs++ys)=bytesL xs++bytesL ys
 | [],ys=>by rw [bytesL];rfl
 | x :: xs,ys=>by rw [List.cons_append,bytesL,bytesL,bytesL_app xs ys,List.append_assoc]
theorem bytesL_next {ks:List Tl} {i:Nat} {k:Tl} (h:ks[i]?=some k):bytesL (ks.take (i + 1))=bytesL (ks.take i)++bytesT k:=by
 rw [List.take_add_one,h]
 show bytesL (ks.take i++[k])=_
 rw [bytesL_app,bytesL,bytesL,List.append_nil]
theorem lenB_len (n:Nat):(lenB n).length≤4:=by
 unfold lenB
 split
 ·simp
 split
 ·simp
 split<;>simp
theorem bytesL_le {ks:List Tl}:∀ {i:Nat},i≤ks.length→(bytesL (ks.take i)).length≤(bytesL ks).length:=fun {i} _=>by
 have e:bytesL ks=bytesL (ks.take i)++bytesL (ks.drop i):=by rw [← bytesL_app,List.take_append_drop]
 rw [e,List.length_append]
 omega
theorem bytesL_kid {ks:List Tl} {i:Nat} {k:Tl} (h:ks[i]?=some k):(bytesL (ks.take i)).length + (bytesT k).length≤(bytesL ks).length:=by
 have:=bytesL_le (ks:=ks) (i:=i + 1) (by have:=(List.getElem?_eq_some_iff.1 h).1;omega)
 rw [bytesL_next h,List.length_append] at this
 exact this
theorem fineL.get:∀ {ks:List Tl} {i:Nat} {k:Tl},fineL ks=true→ks[i]?=some k→fineT k=true
 | [],i,k,_,h=>by simp at h
 | x :: xs,0,k,h,e=>by
  rw [fineL,Bool.and_eq_true] at h
  simp at e
  subst e
  exact h.1
 | x :: xs,i + 1,k,h,e=>by
  rw [fineL,Bool.and_eq_true] at h
  rw [List.getElem?_cons_succ] at e
  exact fineL.get h.2 e
theorem fine1_num {c t:Int} {m:Bool} {b:List Int} {ks:List Tl} (h:fine1 c t m b ks=true):(0≤c∧c≤3)∧(0≤t∧t≤30):=by
 unfold fine1 at h
 simp only [Bool.and_eq_true,decide_eq_true_eq] at h
 omega
/-- what is amiss with an element that is to be written; none: 0 -/
noncomputable def wrN (T:Tl):Nat:=if fineT T=true then (if 16 < depT T then 9 else if 1048576 < (bytesT T).length then 2 else 0) else 1
/-- k bytes from place o on, the highest first -/
def beV (B:List Int) (o:Nat):Nat→Nat
 | 0=>0
 | k + 1=>256 * beV B o k + (B.getD (o + k) 0).toNat
/-- the byte at a place -/
def byN (B:List Int) (a:Nat):Nat:=(B.getD a 0).toNat
/-- a length told at a place, within an end: it, and where what it tells of begins -/
def lenP (B:List Int) (a en:Nat):Except (Nat × Nat) (Nat × Nat) :=
 if en≤a then .error (6,a)
 else if byN B a < 128 then .ok (byN B a,a + 1)
 else if byN B a=128∨131 < byN B a then .error (7,a)
 else if en < a + 1 + (byN B a - 128) then .error (6,a)
 else if byN B (a + 1)=0∨beV B (a + 1) (byN B a - 128) < 128 then .error (7,a)
 else .ok (beV B (a + 1) (byN B a - 128),a + 1 + (byN B a - 128))
/-- elements one behind the other, up to a place -/
def kidsP (f:Nat→Nat→Except (Nat × Nat) (Tl × Nat)) (stop:Nat):Nat→Nat→List Tl→Except (Nat × Nat) (List Tl × Nat)
 | 0,x,acc=>.ok (acc,x)
 | k + 1,x,acc=>if x < stop then (match f x stop with|.error e=>.error e|.ok (t,y)=>kidsP f stop k y (acc++[t])) else .ok (acc,x)
/-- an element at a place, within an end; d: how deep it may be -/
def elemP (B:List Int):Nat→Nat→Nat→Except (Nat × Nat) (Tl × Nat)
  | 0,a,_=>.error (9,a)
  | d + 1,a,en =>
    if en≤a then .error (6,a)
    else if byN B a % 32=31 then .error (7,a)
    else match lenP B (a + 1) en with
      | .error e=>.error e
      | .ok (n,f) =>
        if en < f + n then .error (6,a + 1)
        else if byN B a / 32 % 2=1 then
          (match kidsP (elemP B d) (f + n) n f [] with
            | .error e=>.error e
            | .ok (ks,z)=>.ok (.mk ((byN B a / 64:Nat):Int) ((byN B a % 32:Nat):Int) true [] ks,z))
        else .ok (.mk ((byN B a / 64:Nat):Int) ((byN B a % 32:Nat):Int) false ((B.drop f).take n) [],f + n)
/-- the whole: 2: too long (at no place) -/
def parseP (B:List Int):Except (Nat × Nat) Tl :=
 if 1048576 < B.length then .error (2,0)
 else match elemP B 16 0 B.length with
  | .error e=>.error e
  | .ok (t,z)=>if z < B.length then .error (8,z) else .ok t
theorem byN_lt {B:List Int} (h:byt B) (a:Nat):byN B a < 256:=by
 have:=h a
 unfold byN
 omega
theorem byN_int {B:List Int} (h:byt B) (a:Nat):B.getD a 0=((byN B a:Nat):Int):=by
 have:=h a
 unfold byN
 omega
/-- X stands there -/
def PreAt (B:List Int) (a:Nat) (X:List Int):Prop:=∀ j,j < X.length→B.getD (a + j) 0=X.getD j 0
theorem PreAt.two {B X Y:List Int} {a:Nat} (h:PreAt B a X) (k:PreAt B (a + X.length) Y):PreAt B a (X++Y):=fun j hj=>by
 rw [List.length_append] at hj
 rw [List.getD_eq_getElem?_getD (l:=X++Y),List.getElem?_append]
 split
 ·rw [← List.getD_eq_getElem?_getD];exact h j (by omega)
 ·rw [← List.getD_eq_getElem?_getD,← k (j - X.length) (by omega),show a + X.length + (j - X.length)=a + j by omega]
theorem PreAt.left {B X Y:List Int} {a:Nat} (h:PreAt B a (X++Y)):PreAt B a X:=fun j hj=>by
 have:=h j (by rw [List.length_append];omega)
 rw [this,List.getD_eq_getElem?_getD,List.getElem?_append_left hj,← List.getD_eq_getElem?_getD]
theorem PreAt.right {B X Y:List Int} {a:Nat} (h:PreAt B a (X++Y)):PreAt B (a + X.length) Y:=fun j hj=>by
 have:=h (X.length + j) (by rw [List.length_append];omega)
 rw [show a + X.length + j=a + (X.length + j) by omega,this,List.getD_eq_getElem?_getD,List.getElem?_append_right (by omega),← List.getD_eq_getElem?_getD,show X.length + j - X.length=j by omega]
theorem PreAt.nil {B:List Int} {a:Nat}:PreAt B a []:=fun j hj=>by simp at hj
theorem PreAt.one {B:List Int} {a:Nat} {x:Int} (h:B.getD a 0=x):PreAt B a [x]:=fun j hj=>by
 have e:j=0:=by simp at hj;exact hj
 subst e
 exact h
theorem PreAt.cons {B X:List Int} {a:Nat} {x:Int} (h:B.getD a 0=x) (k:PreAt B (a + 1) X):PreAt B a (x :: X):=(PreAt.one h).two k
theorem PreAt.head {B X:List Int} {a:Nat} {x:Int} (h:PreAt B a (x :: X)):B.getD a 0=x:=h 0 (by simp)
theorem PreAt.tail {B X:List Int} {a:Nat} {x:Int} (h:PreAt B a (x :: X)):PreAt B (a + 1) X:=PreAt.right (X:=[x]) h
theorem PreAt.take {B X:List Int} {a:Nat} (h:PreAt B a X) (l:a + X.length≤B.length):(B.drop a).take X.length=X:=by
 apply List.ext_getElem
 ·rw [List.length_take,List.length_drop];omega
 ·intro j h1 h2
  have:=h j h2
  rw [List.getElem_take,List.getElem_drop]
  simpa [List.getD_eq_getElem?_getD,h2,show a + j < B.length by omega] using this
theorem PreAt.of_take {B:List Int} {a n:Nat} (l:a + n≤B.length):PreAt B a ((B.drop a).take n)∧((B.drop a).take n).length=n:=by
 have e:((B.drop a).take n).length=n:=by rw [List.length_take,List.length_drop];omega
 refine ⟨fun j hj=>?_,e⟩
 rw [e] at hj
 rw [List.getD_eq_getElem?_getD,List.getD_eq_getElem?_getD,List.getElem?_take,if_pos hj,List.getElem?_drop]
theorem PreAt.all {B X:List Int} (h:PreAt B 0 X) (l:X.length=B.length):B=X:=by
 have:=h.take (by omega)
 rw [List.drop_zero,l,List.take_length] at this
 exact this
theorem byt_takeP {B:List Int} (h:byt B) (a n:Nat):byt ((B.drop a).take n):=fun j=>by
 rw [List.getD_eq_getElem?_getD,List.getElem?_take]
 split
 ·rw [List.getElem?_drop,← List.getD_eq_getElem?_getD];exact h _
 ·exact ⟨by decide,by decide⟩
/-- a length that is taken is told by those bytes -/
theorem len_ok {B:List Int} {a en n f:Nat} (b:byt B) (h:lenP B a en=.ok (n,f)):a < en∧f≤en∧f=a + (lenB n).length∧n < 16777216∧PreAt B a (lenB n):=by
 unfold lenP at h
 have l0:=byN_lt b a
 have l1:=byN_lt b (a + 1)
 have l2:=byN_lt b (a + 2)
 have l3:=byN_lt b (a + 3)
 have i0:=byN_int b a
 have i1:=byN_int b (a + 1)
 have i2:=byN_int b (a + 2)
 have i3:=byN_int b (a + 3)
 by_cases c1:en≤a
 ·rw [if_pos c1] at h;cases h
 ·rw [if_neg c1] at h
  by_cases c2:byN B a < 128
  ·rw [if_pos c2] at h
   simp only [Except.ok.injEq,Prod.mk.injEq] at h
   obtain ⟨rfl,rfl⟩:=h
   have e:lenB (byN B a)=[((byN B a:Nat):Int)]:=by unfold lenB;rw [if_pos c2]
   rw [e]
   exact ⟨by omega,by omega,rfl,by omega,PreAt.one i0⟩
  ·rw [if_neg c2] at h
   by_cases c3:byN B a=128∨131 < byN B a
   ·rw [if_pos c3] at h;cases h
   ·rw [if_neg c3] at h
    by_cases c4:en < a + 1 + (byN B a - 128)
    ·rw [if_pos c4] at h;cases h
    ·rw [if_neg c4] at h
     by_cases c5:byN B (a + 1)=0∨beV B (a + 1) (byN B a - 128) < 128
     ·rw [if_pos c5] at h;cases h
     ·rw [if_neg c5] at h
      simp only [Except.ok.injEq,Prod.mk.injEq] at h
      obtain ⟨rfl,rfl⟩:=h
      have hm:byN B a=129∨byN B a=130∨byN B a=131:=by omega
      rcases hm with e|e|e
      ·rw [e] at c4 c5 i0 ⊢
       have ev:beV B (a + 1) (129 - 128)=byN B (a + 1):=by show 256 * 0 + byN B (a + 1 + 0)=_;simp
       rw [ev] at c5 ⊢
       have el:lenB (byN B (a + 1))=[129,((byN B (a + 1):Nat):Int)]:=by unfold lenB;rw [if_neg (by omega),if_pos (by omega)]
       rw [el]
       exact ⟨by omega,by omega,rfl,by omega,PreAt.cons i0 (PreAt.one i1)⟩
      ·rw [e] at c4 c5 i0 ⊢
       have ev:beV B (a + 1) (130 - 128)=256 * byN B (a + 1) + byN B (a + 2):=by show 256 * (256 * 0 + byN B (a + 1 + 0)) + byN B (a + 1 + 1)=_;simp
       rw [ev] at c5 ⊢
       have el:lenB (256 * byN B (a + 1) + byN B (a + 2))=[130,((byN B (a + 1):Nat):Int),((byN B (a + 2):Nat):Int)]:=by
        unfold lenB
        rw [if_neg (by omega),if_neg (by omega),if_pos (by omega),show (256 * byN B (a + 1) + byN B (a + 2)) / 256=byN B (a + 1) by omega,show (256 * byN B (a + 1) + byN B (a + 2)) % 256=byN B (a + 2) by omega]
       rw [el]
       exact ⟨by omega,by omega,rfl,by omega,PreAt.cons i0 (PreAt.cons i1 (PreAt.one i2))⟩
      ·rw [e] at c4 c5 i0 ⊢
       have ev:beV B (a + 1) (131 - 128)=256 * (256 * byN B (a + 1) + byN B (a + 2)) + byN B (a + 3):=by show 256 * (256 * (256 * 0 + byN B (a + 1 + 0)) + byN B (a + 1 + 1)) + byN B (a + 1 + 2)=_;simp
       rw [ev] at c5 ⊢
       have el:lenB (256 * (256 * byN B (a + 1) + byN B (a + 2)) + byN B (a + 3))=[131,((byN B (a + 1):Nat):Int),((byN B (a + 2):Nat):Int),((byN B (a + 3):Nat):Int)]:=by
        unfold lenB
        rw [if_neg (by omega),if_neg (by omega),if_neg (by omega),show (256 * (256 * byN B (a + 1) + byN B (a + 2)) + byN B (a + 3)) / 65536 % 256=byN B (a + 1) by omega,show (256 * (256 * byN B (a + 1) + byN B (a + 2)) + byN B (a + 3)) / 256 % 256=byN B (a + 2) by omega,show (256 * (256 * byN B (a + 1) + byN B (a + 2)) + byN B (a + 3)) % 256=byN B (a + 3) by omega]
       rw [el]
       exact ⟨by omega,by omega,rfl,by omega,PreAt.cons i0 (PreAt.cons i1 (PreAt.cons i2 (PreAt.one i3)))⟩
/-- a length that is told is taken -/
theorem len_of {B:List Int} {a en n:Nat} (h:PreAt B a (lenB n)) (hn:n < 16777216) (he:a + (lenB n).length≤en):lenP B a en=.ok (n,a + (lenB n).length):=by
 unfold lenP
 unfold lenB at h he ⊢
 by_cases c1:n < 128
 ·rw [if_pos c1] at h he ⊢
  have e0:byN B a=n:=by unfold byN;rw [h.head];omega
  simp only [List.length_singleton] at he ⊢
  rw [if_neg (by omega),e0,if_pos c1]
 ·rw [if_neg c1] at h he ⊢
  by_cases c2:n < 256
  ·rw [if_pos c2] at h he ⊢
   have e0:byN B a=129:=by unfold byN;rw [h.head];rfl
   have e1:byN B (a + 1)=n:=by unfold byN;rw [h.tail.head];omega
   have ev:beV B (a + 1) (129 - 128)=n:=by show 256 * 0 + byN B (a + 1 + 0)=_;rw [Nat.add_zero,e1];omega
   simp only [List.length_cons,List.length_nil] at he ⊢
   rw [if_neg (by omega),e0,if_neg (by omega),if_neg (by omega),if_neg (by omega),e1,ev,if_neg (by omega)]
  ·rw [if_neg c2] at h he ⊢
   by_cases c3:n < 65536
   ·rw [if_pos c3] at h he ⊢
    have e0:byN B a=130:=by unfold byN;rw [h.head];rfl
    have e1:byN B (a + 1)=n / 256:=by unfold byN;rw [h.tail.head];omega
    have e2:byN B (a + 1 + 1)=n % 256:=by unfold byN;rw [h.tail.tail.head];omega
    have ev:beV B (a + 1) (130 - 128)=n:=by show 256 * (256 * 0 + byN B (a + 1 + 0)) + byN B (a + 1 + 1)=_;rw [Nat.add_zero (a + 1),e1,e2];omega
    simp only [List.length_cons,List.length_nil] at he ⊢
    rw [if_neg (by omega),e0,if_neg (by omega),if_neg (by omega),if_neg (by omega),e1,ev,if_neg (by omega)]
   ·rw [if_neg c3] at h he ⊢
    have e0:byN B a=131:=by unfold byN;rw [h.head];rfl
    have e1:byN B (a + 1)=n / 65536 % 256:=by unfold byN;rw [h.tail.head];omega
    have e2:byN B (a + 1 + 1)=n / 256 % 256:=by unfold byN;rw [h.tail.tail.head];omega
    have e3:byN B (a + 1 + 2)=n % 256:=by unfold byN;rw [show a + 1 + 2=a + 1 + 1 + 1 by omega,h.tail.tail.tail.head];omega
    have ev:beV B (a + 1) (131 - 128)=n:=by show 256 * (256 * (256 * 0 + byN B (a + 1 + 0)) + byN B (a + 1 + 1)) + byN B (a + 1 + 2)=_;rw [Nat.add_zero (a + 1),e1,e2,e3];omega
    simp only [List.length_cons,List.length_nil] at he ⊢
    rw [if_neg (by omega),e0,if_neg (by omega),if_neg (by omega),if_neg (by omega),e1,ev,if_neg (by omega)]
theorem lenB_pos (n:Nat):1≤(lenB n).length:=by
 unfold lenB
 split
 ·simp
 ·split
  ·simp
  ·split<;>simp
theorem bytesT_len (c t:Int) (m:Bool) (b:List Int) (ks:List Tl):(bytesT (.mk c t m b ks)).length=1 + (lenB (b++bytesL ks).length).length + (b++bytesL ks).length:=by
 rw [bytesT,List.length_cons,List.length_append]
 omega
theorem bytesT_two:∀ T:Tl,2≤(bytesT T).length
 | .mk c t m b ks=>by
  rw [bytesT_len]
  have:=lenB_pos (b++bytesL ks).length
  omega
theorem bytesL_two:∀ ks:List Tl,2 * ks.length≤(bytesL ks).length
 | []=>by simp
 | k :: ks=>by
  rw [bytesL,List.length_append,List.length_cons]
  have:=bytesT_two k
  have:=bytesL_two ks
  omega
/-- an element that is read: its bytes stand there -/
def ElOk (B:List Int) (d a:Nat) (T:Tl) (z:Nat):Prop:=z=a + (bytesT T).length∧PreAt B a (bytesT T)∧fineT T=true∧depT T≤d∧WfT T
theorem kids_ok {B:List Int} {d stop:Nat} {f:Nat→Nat→Except (Nat × Nat) (Tl × Nat)} (hf:∀ a T z,f a stop=.ok (T,z)→ElOk B d a T z∧z≤stop) :
  ∀ (k x:Nat) (acc ks:List Tl) (z:Nat),kidsP f stop k x acc=.ok (ks,z)→x≤stop→∃ ls,ks=acc++ls∧z=x + (bytesL ls).length∧PreAt B x (bytesL ls)∧fineL ls=true∧depL ls≤d∧WfL ls∧z≤stop∧(stop≤x + k→z=stop)
 | 0,x,acc,ks,z,h,hx=>by
  simp only [kidsP,Except.ok.injEq,Prod.mk.injEq] at h
  obtain ⟨rfl,rfl⟩:=h
  exact ⟨[],by simp,by simp [bytesL],by rw [bytesL];exact PreAt.nil,by rw [fineL],by rw [depL];omega,by rw [WfL];trivial,hx,fun h=>by omega⟩
 | k + 1,x,acc,ks,z,h,hx=>by
  rw [kidsP] at h
  by_cases c:x < stop
  ·rw [if_pos c] at h
   cases hq:f x stop with
   | error e=>rw [hq] at h;cases h
   | ok p =>
    obtain ⟨t,y⟩:=p
    rw [hq] at h
    obtain ⟨⟨q1,q2,q3,q4,q5⟩,q6⟩:=hf x t y hq
    obtain ⟨ls,r1,r2,r3,r4,r5,r6,r7,r8⟩:=kids_ok hf k y (acc++[t]) ks z h q6
    have b2:=bytesT_two t
    refine ⟨t :: ls,by rw [r1,List.append_assoc];rfl,by rw [bytesL,List.length_append];omega,?_,by rw [fineL,q3,r4];rfl,by rw [depL];omega,by rw [WfL];exact ⟨q5,r6⟩,r7,fun h=>r8 (by omega)⟩
    rw [bytesL]
    refine q2.two ?_
    rw [← q1]
    exact r3
  ·rw [if_neg c] at h
   simp only [Except.ok.injEq,Prod.mk.injEq] at h
   obtain ⟨rfl,rfl⟩:=h
   exact ⟨[],by simp,by simp [bytesL],by rw [bytesL];exact PreAt.nil,by rw [fineL],by rw [depL];omega,by rw [WfL];trivial,hx,fun h=>by omega⟩
theorem head_of (x:Nat):headB ((x / 64:Nat):Int) ((x % 32:Nat):Int) (decide (x / 32 % 2=1))=(x:Int):=by
 unfold headB
 by_cases c:x / 32 % 2=1
 ·rw [decide_eq_true c,if_pos rfl];omega
 ·rw [decide_eq_false c,if_neg (by decide)];omega
theorem elem_ok {B:List Int} (b:byt B):∀ (d a en:Nat) (T:Tl) (z:Nat),en≤B.length→elemP B d a en=.ok (T,z)→ElOk B d a T z∧z≤en
 | 0,a,en,T,z,_,h=>by rw [elemP] at h;cases h
 | d + 1,a,en,T,z,he,h=>by
  rw [elemP] at h
  by_cases c1:en≤a
  ·rw [if_pos c1] at h;cases h
  rw [if_neg c1] at h
  by_cases c2:byN B a % 32=31
  ·rw [if_pos c2] at h;cases h
  rw [if_neg c2] at h
  cases hl:lenP B (a + 1) en with
  | error e=>rw [hl] at h;cases h
  | ok p =>
   obtain ⟨n,f⟩:=p
   rw [hl] at h
   simp only at h
   by_cases c3:en < f + n
   ·rw [if_pos c3] at h;cases h
   rw [if_neg c3] at h
   obtain ⟨p1,p2,p3,p4,p5⟩:=len_ok b hl
   have hb:byN B a < 256:=byN_lt b a
   have hh:=head_of (byN B a)
   by_cases c4:byN B a / 32 % 2=1
   ·rw [if_pos c4] at h
    rw [decide_eq_true c4] at hh
    cases hk:kidsP (elemP B d) (f + n) n f [] with
    | error e=>rw [hk] at h;cases h
    | ok p =>
     obtain ⟨ks,y⟩:=p
     rw [hk] at h
     simp only [Except.ok.injEq,Prod.mk.injEq] at h
     obtain ⟨rfl,rfl⟩:=h
     obtain ⟨ls,r1,r2,r3,r4,r5,r6,r7,r8⟩:=kids_ok (B:=B) (d:=d) (fun a T z hz=>elem_ok b d a (f + n) T z (by omega) hz) n f [] ks y hk (by omega)
     rw [List.nil_append] at r1
     subst r1
     have ez:=r8 (by omega)
     have en':(bytesL ks).length=n:=by omega
     refine ⟨⟨?_,?_,?_,?_,?_⟩,by omega⟩
     ·rw [bytesT_len,List.nil_append,en'];omega
     ·rw [bytesT,List.nil_append,en',hh]
      refine PreAt.cons (byN_int b a) (p5.two ?_)
      rw [← p3]
      exact r3
     ·rw [fineT,r4,Bool.and_true]
      unfold fine1
      simp
      omega
     ·rw [depT];omega
     ·rw [WfT]
      exact ⟨by omega,by omega,fun j=>by simp,r6⟩
   ·rw [if_neg c4] at h
    rw [decide_eq_false c4] at hh
    simp only [Except.ok.injEq,Prod.mk.injEq] at h
    obtain ⟨rfl,rfl⟩:=h
    obtain ⟨t1,t2⟩:=PreAt.of_take (B:=B) (a:=f) (n:=n) (by omega)
    refine ⟨⟨?_,?_,?_,?_,?_⟩,by omega⟩
    ·rw [bytesT_len,bytesL,List.append_nil,t2];omega
    ·rw [bytesT,bytesL,List.append_nil,t2,hh]
     refine PreAt.cons (byN_int b a) (p5.two ?_)
     rw [← p3]
     exact t1
    ·rw [fineT,fineL]
     unfold fine1
     simp
     omega
    ·rw [depT,depL];omega
    ·rw [WfT,WfL]
     exact ⟨by omega,by omega,byt_takeP b f n,trivial⟩
theorem fine1_more {c t:Int} {m:Bool} {b:List Int} {ks:List Tl} (h:fine1 c t m b ks=true):(m=true→b=[])∧(m=false→ks=[]):=by
 unfold fine1 at h
 simp only [Bool.and_eq_true,Bool.not_eq_true',Bool.and_eq_false_iff,decide_eq_false_iff_not,Bool.not_eq_false'] at h
 obtain ⟨⟨_,h1⟩,h2⟩:=h
 constructor
 ·intro e
  subst e
  rcases h1 with h1|h1
  ·cases h1
  ·exact List.eq_nil_of_length_eq_zero (by omega)
 ·intro e
  subst e
  rcases h2 with h2|h2
  ·cases h2
  ·exact List.eq_nil_of_length_eq_zero (by omega)
theorem kids_of {B:List Int} {d stop:Nat} {f:Nat→Nat→Except (Nat × Nat) (Tl × Nat)} (hf:∀ T a,fineT T=true→depT T≤d→(bytesT T).length < 16777216→PreAt B a (bytesT T)→a + (bytesT T).length≤stop→f a stop=.ok (T,a + (bytesT T).length)) :
  ∀ (ks:List Tl) (k x:Nat) (acc:List Tl),ks.length≤k→fineL ks=true→depL ks≤d→(bytesL ks).length < 16777216→PreAt B x (bytesL ks)→x + (bytesL ks).length=stop→kidsP f stop k x acc=.ok (acc++ks,stop)
 | [],k,x,acc,_,_,_,_,_,hs=>by
  rw [bytesL,List.length_nil,Nat.add_zero] at hs
  subst hs
  cases k with
  | zero=>rw [kidsP,List.append_nil]
  | succ k=>rw [kidsP,if_neg (by omega),List.append_nil]
 | t :: ks,0,x,acc,hk,_,_,_,_,_=>by simp at hk
 | t :: ks,k + 1,x,acc,hk,hfi,hd,hl,hp,hs=>by
  rw [bytesL,List.length_append] at hl hs
  rw [bytesL] at hp
  rw [fineL,Bool.and_eq_true] at hfi
  rw [depL] at hd
  have b2:=bytesT_two t
  rw [kidsP,if_pos (by omega),hf t x hfi.1 (by omega) (by omega) hp.left (by omega)]
  simp only
  rw [kids_of hf ks k (x + (bytesT t).length) (acc++[t]) (by simpa using hk) hfi.2 (by omega) (by omega) hp.right (by omega),List.append_assoc]
  rfl
/-- an element's bytes are read as it -/
theorem elem_of {B:List Int}:∀ (d:Nat) (T:Tl) (a en:Nat),en≤B.length→fineT T=true→depT T≤d→(bytesT T).length < 16777216→PreAt B a (bytesT T)→a + (bytesT T).length≤en→elemP B d a en=.ok (T,a + (bytesT T).length)
 | 0,.mk c t m b ks,a,en,_,_,hd,_,_,_=>by rw [depT] at hd;omega
 | d + 1,.mk c t m b ks,a,en,he,hfi,hd,hl,hp,hs=>by
  rw [fineT,Bool.and_eq_true] at hfi
  rw [depT] at hd
  have nums:=fine1_num hfi.1
  have more:=fine1_more hfi.1
  rw [bytesT_len] at hl hs ⊢
  rw [bytesT] at hp
  have lp:=lenB_pos (b++bytesL ks).length
  have h0:byN B a=(headB c t m).toNat:=by unfold byN;rw [hp.head]
  have hb:(byN B a:Int)=64 * c + t + (if m then 32 else 0):=by
   rw [h0]
   unfold headB
   split<;>omega
  have hlen:=len_of (B:=B) (a:=a + 1) (en:=en) hp.tail.left (by omega) (by omega)
  have hrest:=hp.tail.right
  rw [elemP,if_neg (by omega),if_neg (by cases m<;>simp at hb<;>omega),hlen]
  simp only
  obtain ⟨n,hn⟩:∃ n,(b++bytesL ks).length=n:=⟨_,rfl⟩
  rw [hn] at hl hs hlen hrest lp ⊢
  obtain ⟨e,hee⟩:∃ e,a + 1 + (lenB n).length=e:=⟨_,rfl⟩
  rw [hee] at hrest ⊢
  rw [if_neg (by omega)]
  cases m with
  | true =>
   have eb:=more.1 rfl
   subst eb
   rw [List.nil_append] at hn hrest
   simp at hb
   have b2:=bytesL_two ks
   rw [if_pos (by omega),kids_of (B:=B) (d:=d) (fun T a h1 h2 h3 h4 h5=>elem_of d T a (e + n) (by omega) h1 h2 h3 h4 h5) ks n e [] (by omega) hfi.2 (by omega) (by omega) hrest (by omega)]
   simp only [List.nil_append,Except.ok.injEq,Prod.mk.injEq,Tl.mk.injEq,and_true]
   refine ⟨⟨by omega,by omega⟩,by omega⟩
  | false =>
   have ek:=more.2 rfl
   subst ek
   rw [bytesL,List.append_nil] at hn hrest
   simp at hb
   rw [if_neg (by omega)]
   have ht:=hrest.take (by omega)
   rw [hn] at ht
   rw [ht]
   simp only [Except.ok.injEq,Prod.mk.injEq,Tl.mk.injEq,and_true]
   refine ⟨⟨by omega,by omega⟩,by omega⟩
/-- what is read whole is told by those bytes alone -/
theorem parse_ok {B:List Int} {T:Tl} (b:byt B) (h:parseP B=.ok T):bytesT T=B∧fineT T=true∧depT T≤16∧WfT T∧B.length≤1048576:=by
 unfold parseP at h
 by_cases c:1048576 < B.length
 ·rw [if_pos c] at h;cases h
 rw [if_neg c] at h
 cases hq:elemP B 16 0 B.length with
 | error e=>rw [hq] at h;cases h
 | ok p =>
  obtain ⟨U,z⟩:=p
  rw [hq] at h
  simp only at h
  by_cases c2:z < B.length
  ·rw [if_pos c2] at h;cases h
  rw [if_neg c2] at h
  simp only [Except.ok.injEq] at h
  subst h
  obtain ⟨⟨q1,q2,q3,q4,q5⟩,q6⟩:=elem_ok b 16 0 B.length U z (Nat.le_refl _) hq
  exact ⟨(q2.all (by omega)).symm,q3,q4,q5,by omega⟩
theorem pre_self (X Y:List Int):PreAt (X++Y) 0 X:=fun j hj=>by
 rw [Nat.zero_add,List.getD_eq_getElem?_getD,List.getElem?_append_left hj,← List.getD_eq_getElem?_getD]
/-- what is written is read as it was; with bytes behind, these are too many -/
theorem parse_of {T:Tl} {Y:List Int} (hf:fineT T=true) (hd:depT T≤16) (hl:(bytesT T++Y).length≤1048576):parseP (bytesT T++Y)=if Y.length=0 then .ok T else .error (8,(bytesT T).length):=by
 unfold parseP
 rw [if_neg (by omega)]
 have ll:(bytesT T++Y).length=(bytesT T).length + Y.length:=List.length_append
 rw [elem_of 16 T 0 (bytesT T++Y).length (Nat.le_refl _) hf hd (by omega) (pre_self _ _) (by omega),Nat.zero_add]
 simp only
 by_cases c:Y.length=0
 ·rw [if_neg (by omega),if_pos c]
 ·rw [if_pos (by omega),if_neg c]
theorem byt_catP {A B:List Int} (ha:byt A) (hb:byt B):byt (A++B):=fun j=>by
 rw [List.getD_eq_getElem?_getD,List.getElem?_append]
 split
 ·rw [← List.getD_eq_getElem?_getD];exact ha j
 ·rw [← List.getD_eq_getElem?_getD];exact hb _
theorem byt_consP {x:Int} {A:List Int} (hx:0≤x∧x < 256) (ha:byt A):byt (x :: A):=fun j=>by
 cases j with
 | zero=>exact hx
 | succ j=>rw [List.getD_cons_succ];exact ha j
theorem byt_nilP:byt []:=fun j=>by simp
theorem lenB_byt (n:Nat):byt (lenB n):=by
 unfold lenB
 split
 ·exact byt_consP (by omega) byt_nilP
 ·split
  ·exact byt_consP (by omega) (byt_consP (by omega) byt_nilP)
  ·split
   ·exact byt_consP (by omega) (byt_consP (by omega) (byt_consP (by omega) byt_nilP))
   ·exact byt_consP (by omega) (byt_consP (by omega) (byt_consP (by omega) (byt_consP (by omega) byt_nilP)))
mutual
theorem bytesT_byt:∀ {T:Tl},fineT T=true→WfT T→byt (bytesT T)
 | .mk c t m b ks,h,hw=>by
  rw [fineT,Bool.and_eq_true] at h
  rw [WfT] at hw
  have nums:=fine1_num h.1
  rw [bytesT]
  refine byt_consP ?_ (byt_catP (lenB_byt _) (byt_catP hw.2.2.1 (bytesL_byt h.2 hw.2.2.2)))
  unfold headB
  split<;>omega
theorem bytesL_byt:∀ {ks:List Tl},fineL ks=true→WfL ks→byt (bytesL ks)
 | [],_,_=>by rw [bytesL];exact byt_nilP
 | k :: ks,h,hw=>by
  rw [fineL,Bool.and_eq_true] at h
  rw [WfL] at hw
  rw [bytesL]
  exact byt_catP (bytesT_byt h.1 hw.1) (bytesL_byt h.2 hw.2)
end
theorem size_tlv:(Tryz.prog.info? 53).map (·.size)=some 5:=by kernel_rfl
/-- an element out of the cells where it lies -/
theorem tlv_load {w:World} {g o:Nat} {cs:List Value} (h:CsAt w g o cs) (l:cs.length=5):(loadVar 53 ⟨g,o,none⟩).run Tryz.prog w=.ok (.agg cs.toArray) w :=
 load_cells (n:=5) (fun j v hv=>h.2 j v hv) l Tryz.underlying53 rfl size_tlv
theorem get_kid {ks:List Tl} {i:Nat} (h:i < ks.length):∃ k,ks[i]?=some k:=⟨ks[i],List.getElem?_eq_getElem h⟩
theorem fine1_bad {c t:Int} {m:Bool} {b:List Int} {ks:List Tl} (h:c < 0∨3 < c∨t < 0∨30 < t∨(m=true∧0 < b.length)∨(m=false∧0 < ks.length)):fine1 c t m b ks=false:=by
 unfold fine1
 rcases h with h|h|h|h|⟨h1,h2⟩|⟨h1,h2⟩
 ·rw [decide_eq_false (show ¬ 0≤c by omega)];simp
 ·rw [decide_eq_false (show ¬ c≤3 by omega)];simp
 ·rw [decide_eq_false (show ¬ 0≤t by omega)];simp
 ·rw [decide_eq_false (show ¬ t≤30 by omega)];simp
 ·rw [h1,decide_eq_true h2];simp
 ·rw [h1,decide_eq_true h2];simp
theorem fine1_good {c t:Int} {m:Bool} {b:List Int} {ks:List Tl} (h1:0≤c∧c≤3) (h2:0≤t∧t≤30) (h3:m=true→b.length=0) (h4:m=false→ks.length=0):fine1 c t m b ks=true:=by
 unfold fine1
 rw [decide_eq_true h1.1,decide_eq_true h1.2,decide_eq_true h2.1,decide_eq_true h2.2]
 cases m with
 | true=>rw [decide_eq_false (show ¬ 0 < b.length by have:=h3 rfl;omega)];rfl
 | false=>rw [decide_eq_false (show ¬ 0 < ks.length by have:=h4 rfl;omega)];rfl
mutual
theorem depT_sz:∀ T:Tl,depT T≤szT T
 | .mk _ _ _ _ ks=>by
  have:=depL_szL ks
  rw [depT,szT]
  omega
theorem depL_szL:∀ ks:List Tl,depL ks≤szL ks
 | []=>by rw [depL];omega
 | k :: ks=>by
  have:=depT_sz k
  have:=depL_szL ks
  rw [depL,szL]
  omega
end
theorem below_stepD {a w w':World} (h:Below a.heap.size a w) (hb:Below w.heap.size w w'):Below a.heap.size a w':=h.trans (hb.mono h.size)
end Go.Proofs.YtohcdbifhnfcbaaGreatDoor
