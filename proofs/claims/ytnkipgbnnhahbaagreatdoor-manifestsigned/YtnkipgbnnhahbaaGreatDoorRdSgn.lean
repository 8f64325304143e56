/- The reference's From: the number of bytes, the highest first. The reference's To6: the lowest six limbs. What the document reads of elements. The program's Oid of layer 13. Texts of bytes are alike where the bytes are. An identifier's kind: what the program answers. The document's To6 into a row of cells. The document's reading of a signature. -/
import Derived.Test.YtnkipgbnnhahbaaGreatDoorApBs
import Derived.Test.YtnkipgbnnhahbaaGreatDoorCtSig
import Derived.Test.YtnkipgbnnhahbaaGreatDoorNum
import Derived.Test.YtnkipgbnnhahbaaGreatDoorMfPln
import Derived.Test.YtnkipgbnnhahbaaGreatDoorPmNumR
import Derived.Test.YtnkipgbnnhahbaaGreatDoorPmBits
import Derived.Test.YtnkipgbnnhahbaaGreatDoorClWr
import Derived.Test.YtnkipgbnnhahbaaGreatDoorHeld3
import Derived.Test.YtnkipgbnnhahbaaGreatDoorCtPl
import Derived.Test.YtnkipgbnnhahbaaGreatDoorDrDep
import Derived.Test.YtnkipgbnnhahbaaGreatDoorPrNumber
import Derived.Test.YtnkipgbnnhahbaaGreatDoorRdSgP
import Derived.Test.YtnkipgbnnhahbaaGreatDoorMfOf
import Derived.Test.YtnkipgbnnhahbaaGreatDoorEdDecode
import Derived.Test.YtnkipgbnnhahbaaGreatDoorCtSeal
import Derived.Test.YtnkipgbnnhahbaaGreatDoorRows
import Derived.Deep.OwnRows
import Derived.Deep.RegionHeld3
import Derived.Deep.AppendLies
import Derived.Deep.WholeRow
import Derived.Deep.DeepCutAuto
import Derived.Deep.DeepFit
import Derived.Great.BuildSlice
import Derived.Laws.Rows
import Derived.BigQuiet
import Derived.Laws.BytesArg
import Derived.Lib.Strings
namespace Go.Proofs.YtnkipgbnnhahbaaGreatDoor
open Go.RowKit
theorem info_from:(Tryz.prog.info? 23).map (fun i=>(i.zero,i.size,i.bytes))=some (some (.int .u64 0),1,8):=by kernel_rfl
theorem made_noughts (n:Nat):madeCells #[.int .u64 0] n=(us (List.replicate n 0)).toArray:=by
 apply Array.ext
 ·simp [madeCells]
 ·intro i h1 h2
  simp [madeCells,Nat.mod_one]
/-- what digit j holds behind i bytes, the lowest first -/
def segR (R:List Int) (i j:Nat):List Int:=(R.take (min i (4 * j + 4))).drop (4 * j)
def digs (R:List Int) (i:Nat) (P:List Int):Prop:=∀ j,P.getD j 0=pv 256 (segR R i j)
theorem segR_here (R:List Int) (i:Nat) (hi:i < R.length):segR R (i + 1) (i / 4)=segR R i (i / 4)++[R.getD i 0]:=by
 unfold segR
 have e1:min (i + 1) (4 * (i / 4) + 4)=i + 1:=by omega
 have e2:min i (4 * (i / 4) + 4)=i:=by omega
 rw [e1,e2,take_snoc R i hi,List.drop_append_of_le_length (by simp;omega)]
theorem segR_else (R:List Int) (i j:Nat) (hne:i / 4≠j):segR R (i + 1) j=segR R i j:=by
 unfold segR
 by_cases h:i < 4 * j
 ·rw [List.drop_eq_nil_of_le (by simp;omega),List.drop_eq_nil_of_le (by simp;omega)]
 ·have e1:min (i + 1) (4 * j + 4)=4 * j + 4:=by omega
  have e2:min i (4 * j + 4)=4 * j + 4:=by omega
  rw [e1,e2]
theorem segR_get (R:List Int) (hR:∀ j,0≤R.getD j 0∧R.getD j 0 < 256) (i j t:Nat):0≤(segR R i j).getD t 0∧(segR R i j).getD t 0 < 256:=by
 unfold segR
 by_cases h:4 * j + t < min i (4 * j + 4)
 ·have:((R.take (min i (4 * j + 4))).drop (4 * j)).getD t 0=R.getD (4 * j + t) 0:=by
   simp only [List.getD_eq_getElem?_getD,List.getElem?_drop,List.getElem?_take,h,if_true]
  rw [this];exact hR _
 ·have:((R.take (min i (4 * j + 4))).drop (4 * j)).getD t 0=0:=by
   simp only [List.getD_eq_getElem?_getD,List.getElem?_drop,List.getElem?_take,h,if_false]
   rfl
  rw [this];decide
theorem pow256_le (n m:Nat) (h:n≤m):(256:Int) ^ n≤256 ^ m:=by
 obtain ⟨c,rfl⟩:∃ c,m=n + c:=⟨m - n,by omega⟩
 have p:(0:Int) < 256 ^ c:=Int.pow_pos (by decide)
 have q:(0:Int) < 256 ^ n:=Int.pow_pos (by decide)
 have:=Int.mul_le_mul_of_nonneg_left (show (1:Int)≤256 ^ c by omega) (Int.le_of_lt q)
 rw [Int.pow_add]
 omega
theorem segR_bound (R:List Int) (hR:∀ j,0≤R.getD j 0∧R.getD j 0 < 256) (i j:Nat):0≤pv 256 (segR R i j)∧pv 256 (segR R i j) < 4294967296:=by
 have b:=pv256_bound _ (segR_get R hR i j)
 have hl:(segR R i j).length≤4:=by unfold segR;simp;omega
 have p:=pow256_le _ _ hl
 have e:(256:Int) ^ 4=4294967296:=by decide
 omega
theorem digs_step (R P:List Int) (i:Nat) (x p:Int) (hi:i < R.length) (lP:i / 4 < P.length) (hx:R.getD i 0=x) (hp:P.getD (i / 4) 0=p) (h:digs R i P):digs R (i + 1) (P.set (i / 4) (p + x * 256 ^ (i % 4))):=by
 intro j
 by_cases hj:i / 4=j
 ·have h0:=h (i / 4)
  have hl:(segR R i (i / 4)).length=i % 4:=by unfold segR;simp;omega
  rw [← hj,getD_set_same _ _ _ lP,segR_here R i hi,pv_append,hl,← h0,hp,hx]
  simp only [pv]
  grind
 ·have:(P.set (i / 4) (p + x * 256 ^ (i % 4))).getD j 0=P.getD j 0:=by simp [List.getD_eq_getElem?_getD,hj]
  rw [this,segR_else R i j hj]
  exact h j
theorem digs_end (R P:List Int) (hl:R.length < 4 * P.length) (h:digs R R.length P):v32 P=pv 256 R:=by
 have key:∀ n,n≤P.length→pv 256 (R.take (4 * n))=pv 4294967296 (P.take n):=by
  intro n
  induction n with
  | zero=>intro _;simp [pv]
  | succ n ih =>
   intro hn
   have h1:=h n
   by_cases hc:4 * n < R.length
   ·have e0:segR R R.length n=(R.take (4 * n + 4)).drop (4 * n):=by
     unfold segR
     by_cases hq:4 * n + 4≤R.length
     ·rw [show min R.length (4 * n + 4)=4 * n + 4 by omega]
     ·rw [show min R.length (4 * n + 4)=R.length by omega,List.take_of_length_le (Nat.le_refl _),List.take_of_length_le (by omega)]
    have e1:R.take (4 * (n + 1))=R.take (4 * n)++segR R R.length n:=by
     rw [e0,show 4 * (n + 1)=4 * n + 4 by omega]
     have:=List.take_append_drop (4 * n) (R.take (4 * n + 4))
     rw [List.take_take,show min (4 * n) (4 * n + 4)=4 * n by omega] at this
     exact this.symm
    rw [e1,pv_append,ih (by omega),pv_take _ _ n (by omega),h1]
    have e2:(R.take (4 * n)).length=4 * n:=by simp;omega
    rw [e2,Int.pow_mul]
    have e3:(256:Int) ^ 4=4294967296:=by decide
    rw [e3]
   ·have e0:segR R R.length n=[]:=by unfold segR;exact List.drop_eq_nil_of_le (by simp;omega)
    rw [e0] at h1
    rw [pv_take _ _ n (by omega),h1,← ih (by omega),List.take_of_length_le (by omega),List.take_of_length_le (by omega)]
    simp [pv]
 have:=key P.length (Nat.le_refl _)
 rw [List.take_of_length_le (by omega),List.take_of_length_le (Nat.le_refl _)] at this
 exact this.symm
theorem x_bound (x:Int) (j:Nat) (hx:0≤x∧x < 256) (hj:j≤3):0≤x * 256 ^ j∧x * 256 ^ j < 4294967296:=by
 have p:=pow256_le j 3 hj
 have q:(0:Int) < 256 ^ j:=Int.pow_pos (by decide)
 have e:(256:Int) ^ 3=16777216:=by decide
 have a:=Int.mul_nonneg hx.1 (Int.le_of_lt q)
 have b:=Int.mul_le_mul (show x≤255 by omega) (show (256:Int) ^ j≤16777216 by omega) (Int.le_of_lt q) (by decide)
 omega
set_option maxRecDepth 100000 in
set_option maxHeartbeats 1000000 in
theorem rfrom_any (v:Value) (bs:List Int) (w:World) (h:Bs w v bs) (hB:byt bs) (hn:bs.length≤1048576) :
  Calls Tryz.prog 57 #[v] w fun e w'=>∃ v',e=.returned v'∧NumIs w' v' (beN bs)∧Below w.heap.size w w':=by
 obtain ⟨ao,cap,rfl,h2,h3,h4⟩:=h
 unfold maxLen at h2
 obtain ⟨n,hl⟩:∃ n,bs.length=n:=⟨_,rfl⟩
 obtain ⟨R,hR⟩:∃ R,bs.reverse=R:=⟨_,rfl⟩
 have lR:R.length=n:=by rw [← hR];simpa using hl
 have bR:Hid (∀ j,0≤R.getD j 0∧R.getD j 0 < 256):=fun j=>hR ▸ byt_rev hB j
 have gR:Hid (∀ j,j < n→R.getD (n - 1 - j) 0=bs.getD j 0):=fun j hj=>by
  have:=rev_get bs j (by omega)
  rw [hl,hR] at this
  exact this
 have HN:Hid (pv 256 R=beN bs):=by unfold beN;rw [hR];rfl
 obtain ⟨N,hN⟩:∃ N,beN bs=N:=⟨_,rfl⟩
 rw [hN] at HN ⊢
 rw [hl] at hn h3 h4 ⊢
 clear hN hR hl
 have hmk:=run_make_row' 92 23 (.int .u64 0) 8 Tryz.underlying92 info_from rfl .i64 .i64 (n / 4 + 1) (by omega) (by omega)
 rw [made_noughts] at hmk
 have ec:((n / 4 + 1:Nat):Int)=(n:Int) / 4 + 1:=by omega
 rw [ec] at hmk
 have B0:=Blk.new w (us (List.replicate (n / 4 + 1) 0)) 23 w.heap.size rfl
 have bel0:Below w.heap.size w (w.alloc (.cells (us (List.replicate (n / 4 + 1) 0)).toArray 23)):=(Below.refl _ _).alloc (Nat.le_refl _) _
 have d0:digs R 0 (List.replicate (n / 4 + 1) 0):=by
  intro j
  rw [getD_rep]
  unfold segR
  simp [pv]
 generalize (us (List.replicate (n / 4 + 1) 0)).toArray=cs at hmk B0 bel0
 go_enter Tryz.func57,Tryz.ntmps57
 go_wp2
 clear hmk ec
 generalize w.alloc (.cells cs 23)=W at *
 go_loopw [4] (fun iv wr=>∃ (i:Nat) (P:List Int),i≤n∧iv=.int .i64 i∧P.length=n / 4 + 1∧Hid (digs R i P)∧Blk wr w.heap.size (us P)∧Below w.heap.size w wr)
  (fun i _=>n - (intOf i).toNat)
 case atStart=>exact ⟨0,List.replicate (n / 4 + 1) 0,by omega,rfl,by simp,d0,B0,bel0⟩
 case round =>
  obtain ⟨i,P,hi,rfl,lP,hJ,hS,hbel⟩:=hrel
  clear B0 bel0 d0
  by_cases hlt:i < n
  ·obtain ⟨b,o,rfl,hb,hc⟩:=h4 (by omega)
   clear h4
   obtain ⟨x,hx⟩:∃ x,bs.getD (n - 1 - i) 0=x:=⟨_,rfl⟩
   have xr:R.getD i 0=x:=by
    have:=gR.out (n - 1 - i) (by omega)
    rw [show n - 1 - (n - 1 - i)=i by omega] at this
    rw [this,hx]
   have bx:0≤x∧x < 256:=hx ▸ hB _
   have x1:=(hbel.cell (p:=⟨b,o + (n - 1 - i),none⟩) hb).trans (hc (n - 1 - i) (by omega))
   rw [hx] at x1
   obtain ⟨p,hp⟩:∃ p,P.getD (i / 4) 0=p:=⟨_,rfl⟩
   have bp:0≤p∧p < 4294967296:=by
    have:=hJ.out (i / 4)
    rw [hp] at this
    rw [this];exact segR_bound R bR.out i _
   have J:Hid (digs R (i + 1) (P.set (i / 4) (p + x * 256 ^ (i % 4)))):=digs_step R P i x p (by omega) (by omega) xr hp hJ.out
   have x2:=hS.cell (i / 4) _ (us_get P _ (by omega))
   rw [hp] at x2
   have fz:=hS.frozen (i / 4)
   have bx0:=bx.1
   have bx1:=bx.2
   have bp0:=bp.1
   have bp1:=bp.2
   have g1:(i:Int) < (n:Int):=by omega
   have g2:(0:Int)≤(n:Int) - 1 - (i:Int):=by omega
   have g3:(n:Int) - 1 - (i:Int) < (n:Int):=by omega
   have g4:((n:Int) - 1 - (i:Int)).toNat=n - 1 - i:=by omega
   clear hx xr hp hc hJ bp
   go_wp2
   obtain ⟨wo,hwo⟩:∃ wo:World,wo=wr:=⟨_,rfl⟩
   go_loop [6,7] (fun vv jv=>∃ j:Nat,j≤i % 4∧jv=.int .i64 j∧vv=.int .u64 (x * 256 ^ j)) (fun _ jv=>4 - (intOf jv).toNat)
   case atStart=>exact ⟨0,by omega,rfl,by simp⟩
   case round =>
    obtain ⟨j,hj,rfl,rfl⟩:=hrel
    by_cases hjl:j < i % 4
    ·have xb:=x_bound x j bx (by omega)
     have xn:=x_bound x (j + 1) bx (by omega)
     have xe:x * 256 ^ j * 256=x * 256 ^ (j + 1):=by rw [Int.pow_succ,Int.mul_assoc]
     obtain ⟨y,hy⟩:∃ y,x * 256 ^ j=y:=⟨_,rfl⟩
     obtain ⟨z,hz⟩:∃ z,x * 256 ^ (j + 1)=z:=⟨_,rfl⟩
     rw [hy] at xb xe ⊢
     rw [hz] at xe xn
     have HZ:Hid (y * 256=x * 256 ^ (j + 1)):=by show _=_;rw [hz];exact xe
     have b1:=xb.1
     have b2:=xb.2
     have g5:(j:Int) < (i:Int) % 4:=by omega
     clear hy hz xe xb xn
     go_wp2
     go_round
     case rel=>exact ⟨j + 1,by omega,by go_num,by rw [HZ.out]⟩
     case measure=>simp [intOf];omega
    ·have g5:¬ (j:Int) < (i:Int) % 4:=by omega
     have hje:j=i % 4:=by omega
     rw [hje]
     have xb:=x_bound x (i % 4) bx (by omega)
     obtain ⟨y,hy⟩:∃ y,x * 256 ^ (i % 4)=y:=⟨_,rfl⟩
     rw [hy] at xb J ⊢
     have b1:=xb.1
     have b2:=xb.2
     have g6:(0:Int)≤(i:Int) / 4:=by omega
     have g7:(i:Int) / 4 < ((n / 4 + 1:Nat):Int):=by omega
     have g8:(i:Int) / 4 < (n:Int) / 4 + 1:=by omega
     clear hy xb
     go_wp2
     go_roundw
     case rel=>exact ⟨i + 1,P.set (i / 4) (p + y),by omega,by go_num,by simpa using lP,J,hS.setu _ _,hbel.setCell (by simp) _⟩
     case measure=>simp [intOf];omega
  ·have h6:(n:Int)≤(i:Int):=by omega
   have hin:i=R.length:=by omega
   have dP:dig P:=fun j=>by
    have:=hJ.out j
    rw [this];exact segR_bound R bR.out i j
   have HQ:Hid (v32 P=N):=by
    have e:=hJ.out
    rw [hin] at e
    show _=_
    rw [digs_end R P (by omega) e];exact HN.out
   have hSl:Sl wr (.slice (some ⟨w.heap.size,0,none⟩) (n / 4 + 1) (n / 4 + 1)) P:=.inr ⟨w.heap.size,n / 4 + 1,by rw [lP],by omega,by unfold maxLen;omega,hS.lt,fun j hj=>hS.cell j _ (us_get P j hj)⟩
   clear hJ hin h4
   go_wp2_with fail
   refine (trim_any _ P _ hSl).mono ?_
   rintro e w' ⟨v',rfl,ht,hw⟩
   obtain rfl:=hw.symm
   have hQ:=ht.num dP
   rw [HQ.out] at hQ
   go_wp2_with fail
   go_ret
   exact ⟨v',rfl,hQ,hbel⟩
/-- a digit among the first k -/
def dg (D:List Int) (k i:Nat):Int:=if i < k then D.getD i 0 else 0
theorem dg_bd {D:List Int} (h:dig D) (k i:Nat):0≤dg D k i∧dg D k i < 4294967296:=by
 unfold dg
 split
 ·exact h i
 ·decide
/-- the limbs that the first k digits make -/
def joined (D:List Int) (k:Nat) (S:List Int):Prop:=∀ j,j < 6→S.getD j 0=dg D k (2 * j) + dg D k (2 * j + 1) * 4294967296
theorem getD_set_other (S:List Int) (k j:Nat) (s:Int) (h:k≠j):(S.set k s).getD j 0=S.getD j 0:=by simp [List.getD_eq_getElem?_getD,h]
theorem joined_even (D S:List Int) (k:Nat) (lS:S.length=6) (hk:k < 12) (he:k % 2=0) (h:joined D k S):joined D (k + 1) (S.set (k / 2) (D.getD k 0)):=by
 intro j hj
 by_cases hjk:k / 2=j
 ·subst hjk
  rw [getD_set_same _ _ _ (by omega)]
  have e1:2 * (k / 2)=k:=by omega
  rw [e1]
  simp [dg]
 ·rw [getD_set_other _ _ _ _ hjk,h j hj]
  have e1:dg D (k + 1) (2 * j)=dg D k (2 * j):=by
   unfold dg
   by_cases q:2 * j < k
   ·rw [if_pos q,if_pos (by omega)]
   ·rw [if_neg q,if_neg (by omega)]
  have e2:dg D (k + 1) (2 * j + 1)=dg D k (2 * j + 1):=by
   unfold dg
   by_cases q:2 * j + 1 < k
   ·rw [if_pos q,if_pos (by omega)]
   ·rw [if_neg q,if_neg (by omega)]
  rw [e1,e2]
theorem joined_odd (D S:List Int) (k:Nat) (lS:S.length=6) (hk:k < 12) (he:k % 2=1) (h:joined D k S):joined D (k + 1) (S.set (k / 2) (S.getD (k / 2) 0 + D.getD k 0 * 4294967296)):=by
 intro j hj
 by_cases hjk:k / 2=j
 ·subst hjk
  rw [getD_set_same _ _ _ (by omega),h _ hj]
  have e1:2 * (k / 2) + 1=k:=by omega
  rw [e1]
  have e2:2 * (k / 2) < k:=by omega
  simp [dg,e2,show 2 * (k / 2) < k + 1 by omega]
 ·rw [getD_set_other _ _ _ _ hjk,h j hj]
  have e1:dg D (k + 1) (2 * j)=dg D k (2 * j):=by
   unfold dg
   by_cases q:2 * j < k
   ·rw [if_pos q,if_pos (by omega)]
   ·rw [if_neg q,if_neg (by omega)]
  have e2:dg D (k + 1) (2 * j + 1)=dg D k (2 * j + 1):=by
   unfold dg
   by_cases q:2 * j + 1 < k
   ·rw [if_pos q,if_pos (by omega)]
   ·rw [if_neg q,if_neg (by omega)]
  rw [e1,e2]
theorem pvt (D:List Int) (k:Nat):v32 (D.take (k + 1))=v32 (D.take k) + 4294967296 ^ k * D.getD k 0:=by
 by_cases h:k < D.length
 ·exact pv_take _ D k h
 ·rw [List.take_of_length_le (by omega),List.take_of_length_le (by omega),getD_none D k (by omega)];simp
theorem v32_twelve (D:List Int):v32 (D.take 12)=D.getD 0 0 + 4294967296 ^ 1 * D.getD 1 0 + 4294967296 ^ 2 * D.getD 2 0 + 4294967296 ^ 3 * D.getD 3 0 + 4294967296 ^ 4 * D.getD 4 0 + 4294967296 ^ 5 * D.getD 5 0 + 4294967296 ^ 6 * D.getD 6 0 + 4294967296 ^ 7 * D.getD 7 0 + 4294967296 ^ 8 * D.getD 8 0 + 4294967296 ^ 9 * D.getD 9 0 + 4294967296 ^ 10 * D.getD 10 0 + 4294967296 ^ 11 * D.getD 11 0:=by
 rw [pvt D 11,pvt D 10,pvt D 9,pvt D 8,pvt D 7,pvt D 6,pvt D 5,pvt D 4,pvt D 3,pvt D 2,pvt D 1,pvt D 0]
 simp [v32,pv]
theorem joined_end (D S:List Int) (k:Nat) (lS:S.length=6) (hk:k=12∨(k=D.length∧k≤12)) (hD:dig D) (h:joined D k S):fits S∧v64 S=v32 D % 18446744073709551616 ^ 6:=by
 have hg:∀ i,i < 12→dg D k i=D.getD i 0:=by
  intro i hi
  unfold dg
  by_cases q:i < k
  ·rw [if_pos q]
  ·rw [if_neg q,getD_none D i (by omega)]
 obtain ⟨s0,s1,s2,s3,s4,s5,rfl⟩:=six lS
 have j0:=h 0 (by omega)
 have j1:=h 1 (by omega)
 have j2:=h 2 (by omega)
 have j3:=h 3 (by omega)
 have j4:=h 4 (by omega)
 have j5:=h 5 (by omega)
 rw [hg _ (by omega),hg _ (by omega)] at j0 j1 j2 j3 j4 j5
 simp only [List.getD_cons_zero,List.getD_cons_succ,Nat.mul_zero,Nat.zero_add,Nat.reduceMul,Nat.reduceAdd] at j0 j1 j2 j3 j4 j5
 have ht:=v32_twelve D
 have b:=v32_bound (D.take 12) (dig_take hD 12)
 have d0:=hD 0
 have d1:=hD 1
 have d2:=hD 2
 have d3:=hD 3
 have d4:=hD 4
 have d5:=hD 5
 have d6:=hD 6
 have d7:=hD 7
 have d8:=hD 8
 have d9:=hD 9
 have d10:=hD 10
 have d11:=hD 11
 have hf:fits [s0,s1,s2,s3,s4,s5]:=by
  intro j
  match j with
  | 0=>show 0≤s0∧s0 < _;omega
  | 1=>show 0≤s1∧s1 < _;omega
  | 2=>show 0≤s2∧s2 < _;omega
  | 3=>show 0≤s3∧s3 < _;omega
  | 4=>show 0≤s4∧s4 < _;omega
  | 5=>show 0≤s5∧s5 < _;omega
  | _ + 6=>exact ⟨by simp,by simp⟩
 refine ⟨hf,?_⟩
 have bS:=v64_bound _ hf
 have hS:v64 [s0,s1,s2,s3,s4,s5]=v32 (D.take 12):=by
  rw [ht]
  simp only [v64,pv]
  rw [j0,j1,j2,j3,j4,j5]
  generalize D.getD 0 0=a0
  generalize D.getD 1 0=a1
  generalize D.getD 2 0=a2
  generalize D.getD 3 0=a3
  generalize D.getD 4 0=a4
  generalize D.getD 5 0=a5
  generalize D.getD 6 0=a6
  generalize D.getD 7 0=a7
  generalize D.getD 8 0=a8
  generalize D.getD 9 0=a9
  generalize D.getD 10 0=a10
  generalize D.getD 11 0=a11
  omega
 have hsplit:v32 D=v32 (D.take 12) + 18446744073709551616 ^ 6 * v32 (D.drop 12):=by
  have e:=pv_append 4294967296 (D.take 12) (D.drop 12)
  rw [List.take_append_drop] at e
  simp only [v32]
  by_cases hl:12≤D.length
  ·have:(D.take 12).length=12:=by simp;omega
   rw [this] at e
   rw [e]
   have:(4294967296:Int) ^ 12=18446744073709551616 ^ 6:=by decide
   rw [this]
  ·have:D.drop 12=[]:=List.drop_eq_nil_of_le (by omega)
   rw [this] at e ⊢
   simp only [pv] at e ⊢
   omega
 rw [hS,lS] at bS
 rw [hS]
 rw [hsplit,Int.add_mul_emod_self_left,Int.emod_eq_of_lt bS.1 bS.2]
set_option maxRecDepth 100000 in
set_option maxHeartbeats 1000000 in
theorem to6_any (v:Value) (N:Int) (w:World) (hv:NumIs w v N) :
  Calls Tryz.prog 56 #[v] w fun e w'=>∃ S:List Int,e=.returned (.agg (us S).toArray)∧S.length=6∧fits S∧v64 S=N % 18446744073709551616 ^ 6∧Below w.heap.size w w':=by
 obtain ⟨D,sD,dD,-,rfl⟩:=hv
 obtain ⟨ao,cap,rfl,m1,k1,f1⟩:=sD.form
 unfold maxLen at m1
 have JE:=fun S k=>joined_end D S k
 obtain ⟨N,hN⟩:∃ N,v32 D % 18446744073709551616 ^ 6=N:=⟨_,rfl⟩
 rw [hN] at JE ⊢
 have HJ:Hid _:=JE
 clear JE hN
 obtain ⟨l,hl⟩:∃ l,D.length=l:=⟨_,rfl⟩
 rw [hl] at k1 f1 HJ ⊢
 clear sD hl
 have b2:=(Blk.new w (us [0,0,0,0,0,0]) 24 w.heap.size rfl).alloc (.cells (us [0,0,0,0,0,0]).toArray 24)
 have b3:=Blk.new (w.alloc (.cells (us [0,0,0,0,0,0]).toArray 24)) (us [0,0,0,0,0,0]) 24 (w.heap.size + 1) (by simp)
 have hbel:Below w.heap.size w ((w.alloc (.cells (us [0,0,0,0,0,0]).toArray 24)).alloc (.cells (us [0,0,0,0,0,0]).toArray 24)):=((Below.refl _ _).alloc (Nat.le_refl _) _).alloc (by simp) _
 go_enter Tryz.func56,Tryz.ntmps56
 go_wp2
 go_loopw [4] (fun i wr=>∃ (k:Nat) (S:List Int),k≤12∧k≤l∧i=.int .i64 k∧S.length=6∧Hid (joined D k S)∧Blk wr w.heap.size (us [0,0,0,0,0,0])∧Blk wr (w.heap.size + 1) (us S)∧Below w.heap.size w wr)
  (fun i _=>12 - (intOf i).toNat)
 case atStart=>exact ⟨0,[0,0,0,0,0,0],by omega,by omega,rfl,rfl,by
  show joined _ _ _
  intro j hj
  match j,hj with
  | 0,_=>rfl
  | 1,_=>rfl
  | 2,_=>rfl
  | 3,_=>rfl
  | 4,_=>rfl
  | 5,_=>rfl,b2,b3,hbel⟩
 case round =>
  obtain ⟨k,S,hk,hkl,rfl,lS,hJ,hZ,hS,hbel⟩:=hrel
  clear b2 b3
  by_cases hlt:k < 12∧k < l
  ·obtain ⟨hlt,hll⟩:=hlt
   obtain ⟨b,rfl,hb,hc⟩:=f1 (by omega)
   clear f1
   obtain ⟨d,hd⟩:∃ d,D.getD k 0=d:=⟨_,rfl⟩
   obtain ⟨s,hs⟩:∃ s,S.getD (k / 2) 0=s:=⟨_,rfl⟩
   have x1:=(hbel.cell (p:=⟨b,k,none⟩) hb).trans (hc k hll)
   rw [hd] at x1
   have bd:=dD k
   rw [hd] at bd
   have bd0:=bd.1
   have bd1:=bd.2
   have x2:=hS.cell (k / 2) _ (us_get S (k / 2) (by omega))
   rw [hs] at x2
   have fz:=hS.frozen (k / 2)
   have g1:(k:Int) < 12:=by omega
   have g2:(k:Int) < (l:Int):=by omega
   have g3:(0:Int)≤(k:Int):=by omega
   have g4:(0:Int)≤(k:Int) / 2:=by omega
   have g5:(k:Int) / 2 < 6:=by omega
   clear hc bd
   by_cases hp:k % 2=0
   ·have J:Hid (joined D (k + 1) (S.set (k / 2) d)):=by rw [← hd];exact joined_even D S k lS hlt hp hJ.out
    have g6:((k:Int) % 2 == 0)=true:=by simp;omega
    clear hd hs
    go_wp2
    go_roundw
    case rel=>exact ⟨k + 1,S.set (k / 2) d,by omega,by omega,by go_num,by simpa using lS,J,hZ.other _ _ (by simp),hS.setu _ _,hbel.setCell (by simp) _⟩
    case measure=>simp [intOf];omega
   ·have J:Hid (joined D (k + 1) (S.set (k / 2) (s + d * 4294967296))):=by rw [← hd,← hs];exact joined_odd D S k lS hlt (by omega) hJ.out
    have bs:0≤s∧s < 4294967296:=by
     have:=hJ.out (k / 2) (by omega)
     rw [hs] at this
     have e1:dg D k (2 * (k / 2) + 1)=0:=by unfold dg;rw [if_neg (by omega)]
     have e2:=dg_bd dD k (2 * (k / 2))
     omega
    have bs0:=bs.1
    have bs1:=bs.2
    have g6:((k:Int) % 2 == 0)=false:=by simp;omega
    have m1:IntKind.u64.wrap (d * 4294967296)=d * 4294967296:=by rw [IntKind.wrap_u64];omega
    have m2:IntKind.u64.wrap (s + d * 4294967296)=s + d * 4294967296:=by rw [IntKind.wrap_u64];omega
    have t1:IntKind.i64.wrap ((k:Int).tdiv 2)=(k:Int) / 2:=by rw [Int.tdiv_eq_ediv_of_nonneg (by omega),IntKind.wrap_i64];omega
    have t2:((k:Int) / 2).toNat=k / 2:=by omega
    clear hd hs bs
    go_wp2
    go_region
    all_goals go_wp2
    go_roundw
    case rel=>exact ⟨k + 1,S.set (k / 2) (s + d * 4294967296),by omega,by omega,by go_num,by simpa using lS,J,(hZ.other _ _ (by simp)).drew,(hS.setu _ _).drew,(hbel.setCell (by simp) _).drew⟩
    case measure=>simp [intOf];omega
  ·have HQ:Hid (fits S∧v64 S=N):=HJ.out S k lS (by omega) dD hJ.out
   have hfit:=HQ.out.1
   obtain ⟨s0,s1,s2,s3,s4,s5,rfl⟩:=six lS
   obtain ⟨c0,c1,c2,c3,c4,c5⟩:=hS.cells6
   obtain ⟨z0,z1,z2,z3,z4,z5⟩:=hZ.cells6
   have f0:=hZ.frozen 0
   have f1':=hZ.frozen 1
   have f2:=hZ.frozen 2
   have f3:=hZ.frozen 3
   have f4:=hZ.frozen 4
   have f5:=hZ.frozen 5
   clear hJ
   have gd:(12:Int)≤(k:Int)∨((k:Int) < 12∧¬ (k:Int) < (l:Int)):=by omega
   rcases gd with g1|⟨g1,g2⟩
   all_goals
    go_wp2
    exact bodyPost_ret (v:=.agg #[.int .u64 s0,.int .u64 s1,.int .u64 s2,.int .u64 s3,.int .u64 s4,.int .u64 s5]) (by simp [results,Tryz.results56,go_sem,z0,z1,z2,z3,z4,z5]) rfl
     ⟨[s0,s1,s2,s3,s4,s5],rfl,rfl,HQ.out.1,HQ.out.2,(((((hbel.setCell (by simp) _).setCell (by simp) _).setCell (by simp) _).setCell (by simp) _).setCell (by simp) _).setCell (by simp) _⟩
theorem num_nz {b:List Int} {c:Nat} (h:numP b=.error c):¬ (c:Int)=0:=by
 unfold numP at h
 repeat' (split at h)
 all_goals first|(cases h;decide)|(exact absurd h (by simp))
theorem num_bytR {b n:List Int} (h:byt b) (e:numP b=.ok n):byt n:=by
 unfold numP at e
 repeat' (split at e)
 all_goals first|(cases e;exact h)|(cases e;exact byt_dropM h _)|(exact absurd e (by simp))
theorem bits_nz {b:List Int} {c:Nat} (h:bitsP b=.error c):¬ (c:Int)=0:=by
 unfold bitsP at h
 split at h
 ·cases h;decide
 ·split at h
  ·cases h
  ·cases h;decide
theorem bits_bytR {b n:List Int} {k:Int} (h:byt b) (e:bitsP b=.ok (n,k)):byt n:=by
 unfold bitsP at e
 split at e
 ·cases e
 ·split at e
  ·cases e
   exact byt_dropM h _
  ·cases e
theorem byt_nilR:byt []:=fun j=>by simp
theorem bs_nilR (w:World):Bs w (.slice none 0 0) []:=⟨none,0,rfl,Nat.zero_le _,Nat.zero_le _,fun h=>absurd h (Nat.lt_irrefl 0)⟩
theorem newv_nilR (w:World):NewV w (.slice none 0 0):=fun a n c e _=>by cases e
/-- what the three tell, in one form -/
theorem r13_NumberU {v:Value} {B:List Int} {w:World} (hv:Bs w v B) (b:byt B) (hl:B.length≤140737488355328):Calls Tryz.prog 55 #[v] w fun e w'=>∃ (ao:Option Addr) (n k:Nat) (cc:Int) (nb:List Int),e=.returned (.tuple #[.slice ao n k,.int .i64 cc])∧Hid (Bs w' (.slice ao n k) nb)∧Hid (byt nb)∧Hid (nb.length=n)∧Hid (NewV w (.slice ao n k))∧Below w.heap.size w w'∧Hid (cc=0→numP B=.ok nb)∧Hid (¬ cc=0→okO (numP B)=none):=by
 refine (r13_NumberN hv b hl).mono ?_
 rintro e w' ⟨h1,h2⟩
 cases hn:numP B with
 | ok n =>
  obtain ⟨v',rfl,k1,k2,k3⟩:=h1 n hn
  obtain ⟨ao,cap,rfl,-,-,-⟩:=id k1
  exact ⟨ao,_,cap,0,n,rfl,k1,num_bytR b hn,rfl,k2,k3,fun _=>rfl,fun h=>absurd rfl h⟩
 | error c =>
  obtain ⟨rfl,k3⟩:=h2 c hn
  exact ⟨none,0,0,c,[],rfl,bs_nilR _,byt_nilR,rfl,newv_nilR _,k3,fun h=>absurd h (num_nz hn),fun _=>rfl⟩
theorem r13_BitsU {v:Value} {B:List Int} {w:World} (hv:Bs w v B) (b:byt B) (hl:B.length≤140737488355328):Calls Tryz.prog 54 #[v] w fun e w'=>∃ (ao:Option Addr) (n k:Nat) (fr cc:Int) (nb:List Int),e=.returned (.tuple #[.slice ao n k,.int .i64 fr,.int .i64 cc])∧Hid (Bs w' (.slice ao n k) nb)∧Hid (byt nb)∧Hid (nb.length=n)∧Below w.heap.size w w'∧Hid (cc=0→bitsP B=.ok (nb,fr))∧Hid (¬ cc=0→∃ c9,bitsP B=.error c9):=by
 refine (r13_Bits hv b hl).mono ?_
 rintro e w' ⟨h1,h2⟩
 cases hn:bitsP B with
 | ok q =>
  obtain ⟨n,f⟩:=q
  obtain ⟨v',rfl,k1,k3⟩:=h1 n f hn
  obtain ⟨ao,cap,rfl,-,-,-⟩:=id k1
  exact ⟨ao,_,cap,f,0,n,rfl,k1,bits_bytR b hn,rfl,k3,fun _=>rfl,fun h=>absurd rfl h⟩
 | error c =>
  obtain ⟨rfl,k3⟩:=h2 c hn
  exact ⟨none,0,0,0,c,[],rfl,bs_nilR _,byt_nilR,rfl,k3,fun h=>absurd h (bits_nz hn),fun _=>⟨c,rfl⟩⟩
/-- bytes, and whether they are what was asked -/
def BytB (w:World) (r:Option (List Int)) (e:Ending) (w':World):Prop:=Below w.heap.size w w'∧(r=none→∃ (ao:Option Addr) (n k:Nat) (nb:List Int),e=.returned (.tuple #[.slice ao n k,.bool false])∧Bs w' (.slice ao n k) nb∧byt nb∧nb.length=n)∧(∀ nb,r=some nb→∃ (ao:Option Addr) (n k:Nat),e=.returned (.tuple #[.slice ao n k,.bool true])∧Bs w' (.slice ao n k) nb∧byt nb∧nb.length=n)
theorem BytB.no {w w':World} {r:Option (List Int)} {ao:Option Addr} {n k:Nat} {nb:List Int} (h:r=none) (hv:Bs w' (.slice ao n k) nb) (hy:byt nb) (hl:nb.length=n) (hb:Below w.heap.size w w'):BytB w r (.returned (.tuple #[.slice ao n k,.bool false])) w':=⟨hb,fun _=>⟨ao,n,k,nb,rfl,hv,hy,hl⟩,fun m q=>(by rw [h] at q;cases q)⟩
theorem BytB.yes {w w':World} {r:Option (List Int)} {ao:Option Addr} {n k:Nat} {nb:List Int} (h:r=some nb) (hv:Bs w' (.slice ao n k) nb) (hy:byt nb) (hl:nb.length=n) (hb:Below w.heap.size w w'):BytB w r (.returned (.tuple #[.slice ao n k,.bool true])) w':=⟨hb,fun q=>(by rw [h] at q;cases q),fun m q=>(by rw [h] at q;cases q;exact ⟨ao,n,k,rfl,hv,hy,hl⟩)⟩
/-- the same, new -/
def BytN (w:World) (r:Option (List Int)) (e:Ending) (w':World):Prop:=Below w.heap.size w w'∧∃ (ao:Option Addr) (n k:Nat) (nb:List Int),Bs w' (.slice ao n k) nb∧byt nb∧nb.length=n∧NewV w (.slice ao n k)∧(r=none→e=.returned (.tuple #[.slice ao n k,.bool false]))∧(∀ b,r=some b→b=nb∧e=.returned (.tuple #[.slice ao n k,.bool true]))
theorem BytN.no {w w':World} {r:Option (List Int)} {ao:Option Addr} {n k:Nat} {nb:List Int} (h:r=none) (hv:Bs w' (.slice ao n k) nb) (hy:byt nb) (hl:nb.length=n) (hn:NewV w (.slice ao n k)) (hb:Below w.heap.size w w'):BytN w r (.returned (.tuple #[.slice ao n k,.bool false])) w':=⟨hb,ao,n,k,nb,hv,hy,hl,hn,fun _=>rfl,fun m q=>(by rw [h] at q;cases q)⟩
theorem BytN.yes {w w':World} {r:Option (List Int)} {ao:Option Addr} {n k:Nat} {nb:List Int} (h:r=some nb) (hv:Bs w' (.slice ao n k) nb) (hy:byt nb) (hl:nb.length=n) (hn:NewV w (.slice ao n k)) (hb:Below w.heap.size w w'):BytN w r (.returned (.tuple #[.slice ao n k,.bool true])) w':=⟨hb,ao,n,k,nb,hv,hy,hl,hn,fun q=>(by rw [h] at q;cases q),fun m q=>(by rw [h] at q;cases q;exact ⟨rfl,rfl⟩)⟩
/-- an int, and whether it is what was asked -/
def IntB (w:World) (r:Option Int) (e:Ending) (w':World):Prop:=Below w.heap.size w w'∧(r=none→∃ x:Int,e=.returned (.tuple #[.int .i64 x,.bool false]))∧(∀ x,r=some x→e=.returned (.tuple #[.int .i64 x,.bool true]))
theorem IntB.no {w w':World} {r:Option Int} {x:Int} (h:r=none) (hb:Below w.heap.size w w'):IntB w r (.returned (.tuple #[.int .i64 x,.bool false])) w':=⟨hb,fun _=>⟨x,rfl⟩,fun m q=>(by rw [h] at q;cases q)⟩
theorem IntB.yes {w w':World} {r:Option Int} {x:Int} (h:r=some x) (hb:Below w.heap.size w w'):IntB w r (.returned (.tuple #[.int .i64 x,.bool true])) w':=⟨hb,fun q=>(by rw [h] at q;cases q),fun m q=>(by rw [h] at q;cases q;rfl)⟩
set_option linter.unusedSimpArgs false in
set_option maxRecDepth 100000 in
set_option maxHeartbeats 1000000 in
theorem r16_Bits {c t:Int} {m:Bool} {b:List Int} {ks:List Tl} {cs:List Value} {w:World} (h:TlAt w (.mk c t m b ks) cs) (wf:WfT (.mk c t m b ks)) (hsz:b.length≤140737488351232):Calls Tryz.prog 29 #[.agg cs.toArray] w (BytB w (bitD (.mk c t m b ks))):=by
 have HSz:Hid (b.length≤140737488351232):=hsz
 have HBy:Hid (byt b):=by rw [WfT] at wf;exact wf.2.2.1
 clear wf hsz
 have HT9:Hid (TlAt w (.mk c t m b ks) cs):=h
 rw [TlAt] at h
 obtain ⟨bv,ao,kc,hcs,hbv,-,hkm,hkk⟩:=h
 have HBv:Hid (Bs w bv b):=hbv
 obtain ⟨ba,bc,rfl,-,-,-⟩:=hbv
 have HK:Hid (0 < ks.length→∃ g o,ao=some ⟨g,o,none⟩∧KidsAt w ks g o):=hkk
 obtain ⟨BL,hBL⟩:∃ z,b.length=z:=⟨_,rfl⟩
 obtain ⟨KL,hKL⟩:∃ z,ks.length=z:=⟨_,rfl⟩
 have HBL:Hid (b.length=BL):=hBL
 have HKL:Hid (ks.length=KL):=hKL
 have HKM:Hid (kc≤maxLen):=hkm
 rw [hBL] at hcs HBv
 rw [hKL] at hcs HK
 clear hBL hKL hkk hkm
 subst hcs
 have B0:=Blk.new w [.int .i64 c,.int .i64 t,.bool m,.slice ba BL bc,.slice ao KL kc] 41 w.heap.size rfl
 have bel:Below w.heap.size w (w.alloc (.cells #[.int .i64 c,.int .i64 t,.bool m,.slice ba BL bc,.slice ao KL kc] 41)):=(Below.refl _ _).alloc (Nat.le_refl _) _
 go_enter Tryz.func29,Tryz.ntmps29
 go_upto_region 1 with fail
 generalize w.alloc (.cells #[.int .i64 c,.int .i64 t,.bool m,.slice ba BL bc,.slice ao KL kc] 41)=W at *
 have e3:=B0.cell 3 _ rfl
 have l0:=B0.lt
 go_wp2_with fail
 refine (r13_BitsU (HBv.out.later bel) HBy.out (by have:=HSz.out;omega)).mono ?_
 rintro e w1 ⟨ao1,n1,k1,fr,cc,nb,rfl,HN,HY,HL,hb,HOk,HBd⟩
 replace B0:=B0.later hb
 replace bel:=below_step bel hb
 clear hb e3 l0
 have e0:=B0.cell 0 _ rfl
 have e1:=B0.cell 1 _ rfl
 have e2:=B0.cell 2 _ rfl
 have l0:=B0.lt
 by_cases hq:c=0
 rotate_left
 ·have H:Hid (bitD (.mk c t m b ks)=none):=by show _=_;rw [bitD_mk,if_neg (fun h=>hq h.1)]
  have d1:(c == 0)=false:=by rw [beq_eq_false_iff_ne];exact hq
  clear hq
  go_wp2_with fail
  refine bodyPost_ret (results_tmp2 rfl _ _ _) rfl ?_
  exact BytB.no H.out HN.out HY.out HL.out bel
 subst hq
 by_cases hq:t=3
 rotate_left
 ·have H:Hid (bitD (.mk 0 t m b ks)=none):=by show _=_;rw [bitD_mk,if_neg (fun h=>hq h.2.1)]
  have d1:(t == 3)=false:=by rw [beq_eq_false_iff_ne];exact hq
  clear hq
  go_wp2_with fail
  refine bodyPost_ret (results_tmp2 rfl _ _ _) rfl ?_
  exact BytB.no H.out HN.out HY.out HL.out bel
 subst hq
 by_cases hq:m=false
 rotate_left
 ·have H:Hid (bitD (.mk 0 3 m b ks)=none):=by show _=_;rw [bitD_mk,if_neg (fun h=>hq h.2.2)]
  have hq2:m=true:=by cases m with
   | true=>rfl
   | false=>exact absurd rfl hq
  subst hq2
  clear hq
  go_wp2_with fail
  refine bodyPost_ret (results_tmp2 rfl _ _ _) rfl ?_
  exact BytB.no H.out HN.out HY.out HL.out bel
 subst hq
 by_cases hq:cc=0
 rotate_left
 ·have H:Hid (bitD (.mk 0 3 false b ks)=none):=by show _=_;obtain ⟨c9,hc9⟩:=HBd.out hq;rw [bitD_mk,if_pos ⟨rfl,rfl,rfl⟩,hc9]
  have d1:(cc == 0)=false:=by rw [beq_eq_false_iff_ne];exact hq
  clear hq
  go_wp2_with fail
  refine bodyPost_ret (results_tmp2 rfl _ _ _) rfl ?_
  exact BytB.no H.out HN.out HY.out HL.out bel
 subst hq
 by_cases hq:fr=0
 rotate_left
 ·have H:Hid (bitD (.mk 0 3 false b ks)=none):=by show _=_;rw [bitD_mk,if_pos ⟨rfl,rfl,rfl⟩,HOk.out rfl];exact if_neg hq
  have d1:(fr == 0)=false:=by rw [beq_eq_false_iff_ne];exact hq
  clear hq
  go_wp2_with fail
  refine bodyPost_ret (results_tmp2 rfl _ _ _) rfl ?_
  exact BytB.no H.out HN.out HY.out HL.out bel
 subst hq
 have H:Hid (bitD (.mk 0 3 false b ks)=some nb):=by show _=_;rw [bitD_mk,if_pos ⟨rfl,rfl,rfl⟩,HOk.out rfl];rfl
 go_wp2_with fail
 refine bodyPost_ret (results_tmp2 rfl _ _ _) rfl ?_
 exact BytB.yes H.out HN.out HY.out HL.out bel
/-- words that are answered in a block of their own, or an error's code -/
def RetU (w:World) (r:Except Nat (List Int)) (e:Ending) (w':World):Prop:=(∀ n,r=.ok n→∃ v':Value,e=.returned (.tuple #[v',.nilIface])∧Us w' v' n∧NewV w v'∧Below w.heap.size w w')∧(∀ c,r=.error c→∃ (ao:Option Addr) (cap:Nat),e=.returned (.tuple #[.slice ao 0 cap,.iface 46 (.int .i64 (c:Int))])∧Below w.heap.size w w')
theorem RetU.ok {w w':World} {r:Except Nat (List Int)} {n:List Int} {v:Value} (h:r=.ok n) (hb:Us w' v n) (hn:NewV w v) (bel:Below w.heap.size w w'):RetU w r (.returned (.tuple #[v,.nilIface])) w' :=
 ⟨fun m hm=>(by rw [h] at hm;cases hm;exact ⟨v,rfl,hb,hn,bel⟩),fun c hc=>(by rw [h] at hc;cases hc)⟩
theorem RetU.bad {w w':World} {r:Except Nat (List Int)} {c:Nat} {ao:Option Addr} {cap:Nat} (h:r=.error c) (bel:Below w.heap.size w w'):RetU w r (.returned (.tuple #[.slice ao 0 cap,.iface 46 (.int .i64 (c:Int))])) w' :=
 ⟨fun m hm=>(by rw [h] at hm;cases hm),fun c2 hc=>(by rw [h] at hc;cases hc;exact ⟨ao,cap,rfl,bel⟩)⟩
theorem str_oneS:∀ {A B:List Int},byt A→byt B→(A.map fun n=>UInt8.ofNat n.toNat)=(B.map fun n=>UInt8.ofNat n.toNat)→A=B
 | [],[],_,_,_=>rfl
 | [],_ :: _,_,_,h=>by simp at h
 | _ :: _,[],_,_,h=>by simp at h
 | a :: A,b :: B,ha,hb,h=>by
  simp only [List.map_cons,List.cons.injEq] at h
  have a0:0≤a∧a < 256:=ha 0
  have b0:0≤b∧b < 256:=hb 0
  have e:=congrArg UInt8.toNat h.1
  rw [UInt8.toNat_ofNat_of_lt' (show a.toNat < 256 by omega),UInt8.toNat_ofNat_of_lt' (show b.toNat < 256 by omega)] at e
  have t:=str_oneS (fun j=>ha (j + 1)) (fun j=>hb (j + 1)) h.2
  rw [t,show a=b by omega]
theorem str_eqS {A B:List Int} (ha:byt A) (hb:byt B):((strOfNums A).toList == (strOfNums B).toList)=decide (A=B):=by
 have e:∀ X:List Int,(strOfNums X).toList=X.map fun n=>UInt8.ofNat n.toNat:=fun X=>by
  rw [Lib.toList_data]
  rfl
 rw [e,e]
 by_cases h:A=B
 ·subst h
  simp
 ·rw [decide_eq_false h]
  apply beq_eq_false_iff_ne.2
  intro e
  exact h (str_oneS ha hb e)
/-- what kindOf tells -/
def KindR (w:World) (B:List Int) (e:Ending) (w':World):Prop:=Below w.heap.size w w'∧(kindB B=none→e=.returned (.tuple #[.int .i64 0,.iface 46 (.int .i64 7)]))∧(∀ k,kindB B=some k→e=.returned (.tuple #[.int .i64 k,.nilIface]))
theorem KindR.bad {w w':World} {B:List Int} (h:kindB B=none) (hb:Below w.heap.size w w'):KindR w B (.returned (.tuple #[.int .i64 0,.iface 46 (.int .i64 7)])) w':=⟨hb,fun _=>rfl,fun p k=>(by rw [h] at k;cases k)⟩
theorem KindR.ok {w w':World} {B:List Int} {k:Int} (h:kindB B=some k) (hb:Below w.heap.size w w'):KindR w B (.returned (.tuple #[.int .i64 k,.nilIface])) w':=⟨hb,fun k=>(by rw [h] at k;cases k),fun p k=>(by rw [h] at k;cases k;rfl)⟩
theorem uTo6 {v:Value} {x:Int} {w:World} (h:NumIs w v x) (h0:0≤x) (h1:x < 18446744073709551616 ^ 6):Calls Tryz.prog 56 #[v] w fun e w'=>∃ es,e=.returned (.agg es.toArray)∧U6 es x∧Below w.heap.size w w':=by
 refine (to6_any v x w h).mono ?_
 rintro e w' ⟨T,rfl,lT,fT,hT,hb⟩
 obtain ⟨z0,z1,z2,z3,z4,z5,rfl⟩:=six_of lT
 refine ⟨_,rfl,⟨z0,z1,z2,z3,z4,z5,rfl,fT,?_⟩,hb⟩
 rw [hT,Int.emod_eq_of_lt h0 h1]
theorem bs_old {w:World} {v:Value} {B:List Int} (h:Bs w v B):∀ a m c,v=.slice (some a) m c→0 < m→a.block < w.heap.size:=fun a m c e h0=>by
 obtain ⟨ao,cap,e1,-,-,h3⟩:=h
 rw [e1] at e
 simp only [Value.slice.injEq] at e
 obtain ⟨e2,e3,-⟩:=e
 obtain ⟨b,o,e4,hl,-⟩:=h3 (by omega)
 rw [e4] at e2
 cases e2
 exact hl
theorem bs_not {w:World} {g:Nat} {v:Value} {B:List Int} (h:Bs w v B) (R:Blk w g [.int .u64 0,.int .u64 0,.int .u64 0,.int .u64 0,.int .u64 0,.int .u64 0,.int .u64 0,.int .u64 0,.int .u64 0,.int .u64 0,.int .u64 0,.int .u64 0]):∀ a m c,v=.slice (some a) m c→0 < m→a.block≠g:=fun a m c e h0 hg=>by
 obtain ⟨ao,cap,e1,-,-,h3⟩:=h
 rw [e1] at e
 simp only [Value.slice.injEq] at e
 obtain ⟨e2,e3,-⟩:=e
 obtain ⟨b,o,e4,hl,hc⟩:=h3 (by omega)
 rw [e4] at e2
 cases e2
 have hg':b=g:=hg
 subst hg'
 have h9:=hc 0 (by omega)
 obtain ⟨t,ht⟩:=R
 rw [Nat.add_zero] at h9
 simp only [World.cell?,ht,Option.isSome_none,Bool.false_eq_true,if_false] at h9
 have h8:=List.mem_of_getElem? (show ([.int .u64 0,.int .u64 0,.int .u64 0,.int .u64 0,.int .u64 0,.int .u64 0,.int .u64 0,.int .u64 0,.int .u64 0,.int .u64 0,.int .u64 0,.int .u64 0]:List Value)[o]?=some (.int .u8 (B.getD 0 0)) by simpa using h9)
 simp at h8
theorem size_sgD:(Tryz.prog.info? 27).map (·.size)=some 12:=by kernel_rfl
theorem zero_sgD:Hid (∀ w:World,(zeroValue 27).run Tryz.prog w=.ok (.agg #[.int .u64 0,.int .u64 0,.int .u64 0,.int .u64 0,.int .u64 0,.int .u64 0,.int .u64 0,.int .u64 0,.int .u64 0,.int .u64 0,.int .u64 0,.int .u64 0]) w):=fun w=>by kernel_rfl
set_option linter.unusedSimpArgs false in
set_option maxRecDepth 100000 in
set_option maxHeartbeats 8000000 in
theorem r14_Decode {v:Value} {B:List Int} {w:World} (hv:Bs w v B) (b:byt B):Calls Tryz.prog 30 #[v] w (SigE w (sigD B)):=by
 have HV:Hid (Bs w v B):=hv
 have HY:Hid (byt B):=b
 obtain ⟨va,vc,rfl,-,-,-⟩:=hv
 obtain ⟨BL,hBL⟩:∃ z,B.length=z:=⟨_,rfl⟩
 rw [hBL] at HV ⊢
 clear hBL b
 have R0:=Blk.new w [.int .u64 0,.int .u64 0,.int .u64 0,.int .u64 0,.int .u64 0,.int .u64 0,.int .u64 0,.int .u64 0,.int .u64 0,.int .u64 0,.int .u64 0,.int .u64 0] 27 w.heap.size rfl
 have bel:Below w.heap.size w (w.alloc (.cells #[.int .u64 0,.int .u64 0,.int .u64 0,.int .u64 0,.int .u64 0,.int .u64 0,.int .u64 0,.int .u64 0,.int .u64 0,.int .u64 0,.int .u64 0,.int .u64 0] 27)):=(Below.refl _ _).alloc (Nat.le_refl _) _
 have hz:=zero_sgD.out
 go_enter Tryz.func30,Tryz.ntmps30
 go_upto_region 1 with fail
 generalize w.alloc (.cells #[.int .u64 0,.int .u64 0,.int .u64 0,.int .u64 0,.int .u64 0,.int .u64 0,.int .u64 0,.int .u64 0,.int .u64 0,.int .u64 0,.int .u64 0,.int .u64 0] 27)=W at *
 clear hz
 go_wp2_with fail
 refine (r12_Parse (HV.out.later bel) HY.out).mono ?_
 rintro e w1 ⟨hok,hbad⟩
 cases hp:parseP B with
 | error q =>
  obtain ⟨c,p⟩:=q
  obtain ⟨rfl,hb⟩:=hbad c p hp
  have H:Hid (sigD B=none):=sigD_e hp
  have hc0:¬ (c:Int)=0:=by rcases parse_bad hp with k|k|k|k|k<;>omega
  have d1:((c:Int) == 0)=false:=by rw [beq_eq_false_iff_ne];exact hc0
  have d2:((c:Int) != 0)=true:=by rw [bne,d1];rfl
  replace R0:=R0.later hb
  replace bel:=below_step bel hb
  clear hb hok hbad hp hc0
  obtain ⟨ap,hap⟩:∃ z,atP c p=z:=⟨_,rfl⟩
  rw [hap]
  clear hap
  have hz:=zero_tlv.out
  replace R0:=R0.alloc (.cells #[.int .i64 0,.int .i64 0,.bool false,.slice none 0 0,.slice none 0 0] 41)
  replace bel:=below_alloc (o:=.cells #[.int .i64 0,.int .i64 0,.bool false,.slice none 0 0,.slice none 0 0] 41) bel
  go_upto_region 2 with (first|((with_reducible show wpList _ _ _ ({ dst:=_,op:=.store _ _ _,type:=_,pos:=_,after:=_,guard:=_ } :: _) _ _);refine wpList_store_row rfl 41 _ _ rfl w1.heap.size #[.int .i64 0,.int .i64 0,.bool false,.slice none 0 0,.slice none 0 0] rfl rfl 41 _ (heap_alloc_last _ _) (by rw [size_tlv];rfl) rfl (by simp [Value.oneCell']) ?_;rw [World.setRow_alloc_new])|fail)
  generalize w1.alloc (.cells #[.int .i64 0,.int .i64 0,.bool false,.slice none 0 0,.slice none 0 0] 41)=V1 at *
  clear hz
  have hz:=zero_sgD.out
  obtain ⟨tR,hR⟩:=R0
  have HR1:Hid _:=hR
  clear hR
  go_wp2_with (first|((with_reducible show wpList _ _ _ ({ dst:=_,op:=.store _ _ _,type:=_,pos:=_,after:=_,guard:=_ } :: _) _ _);refine wpList_store_row rfl 27 _ _ rfl (w.heap.size) #[.int .u64 0,.int .u64 0,.int .u64 0,.int .u64 0,.int .u64 0,.int .u64 0,.int .u64 0,.int .u64 0,.int .u64 0,.int .u64 0,.int .u64 0,.int .u64 0] rfl rfl tR _ HR1.out (by rw [size_sgD];rfl) rfl (by simp [Value.oneCell']) ?_)|fail)
  refine bodyPost_ret (results_row_tmp rfl _ _ (w.heap.size) tR #[.int .u64 0,.int .u64 0,.int .u64 0,.int .u64 0,.int .u64 0,.int .u64 0,.int .u64 0,.int .u64 0,.int .u64 0,.int .u64 0,.int .u64 0,.int .u64 0] (0,0) _ rfl (setRow_heap _ _ _ _ _ _ HR1.out) Tryz.underlying27 rfl (by rw [size_sgD];rfl)) rfl ?_
  exact SigE.no0 H.out (below_setRow bel (Nat.le_refl _) _)
 | ok T =>
  obtain ⟨cs1,rfl,hd,hb⟩:=hok T hp
  have ht1:=hd.now
  replace R0:=R0.later hb
  replace bel:=below_step bel hb
  clear hb hok hbad hd
  have HT1:Hid (TlAt w1 T cs1):=ht1
  obtain ⟨c1,t1,m1,b1,k1⟩:=T
  rw [TlAt] at ht1
  obtain ⟨bv1,ao1,kc1,hcs1,hbv1,-,hkm1,hkk1⟩:=ht1
  obtain ⟨ba1,bc1,rfl,-,-,-⟩:=hbv1
  have HK1:Hid (0 < k1.length→∃ g o,ao1=some ⟨g,o,none⟩∧KidsAt w1 k1 g o):=hkk1
  obtain ⟨BL1,hBL1⟩:∃ z,b1.length=z:=⟨_,rfl⟩
  obtain ⟨KL1,hKL1⟩:∃ z,k1.length=z:=⟨_,rfl⟩
  have HKL1:Hid (k1.length=KL1):=hKL1
  have HKM1:Hid (kc1≤maxLen):=hkm1
  rw [hBL1] at hcs1
  rw [hKL1] at hcs1 HK1
  clear hBL1 hKL1 hkk1 hkm1
  subst hcs1

  have HP:Hid (parseP B=.ok (.mk c1 t1 m1 b1 k1)):=hp
  have HGd:Hid (GdT (.mk c1 t1 m1 b1 k1)):=GdT.of HY.out hp
  clear hp
  have hz:=zero_tlv.out
  have Bk:=Blk.new w1 [.int .i64 c1,.int .i64 t1,.bool m1,.slice ba1 BL1 bc1,.slice ao1 KL1 kc1] 41 w1.heap.size rfl
  have st:Below w1.heap.size w1 (w1.alloc (.cells #[.int .i64 c1,.int .i64 t1,.bool m1,.slice ba1 BL1 bc1,.slice ao1 KL1 kc1] 41)):=(Below.refl _ _).alloc (Nat.le_refl _) _
  replace R0:=R0.later st
  replace bel:=below_step bel st
  go_upto_region 2 with (first|((with_reducible show wpList _ _ _ ({ dst:=_,op:=.store _ _ _,type:=_,pos:=_,after:=_,guard:=_ } :: _) _ _);refine wpList_store_row rfl 41 _ _ rfl w1.heap.size #[.int .i64 c1,.int .i64 t1,.bool m1,.slice ba1 BL1 bc1,.slice ao1 KL1 kc1] rfl rfl 41 _ (heap_alloc_last _ _) (by rw [size_tlv];rfl) rfl (by simp [Value.oneCell']) ?_;rw [World.setRow_alloc_new])|fail)
  clear hz
  obtain ⟨gt,hgt⟩:∃ z,z=w1.heap.size:=⟨_,rfl⟩
  rw [← hgt] at Bk ⊢
  generalize w1.alloc (.cells #[.int .i64 c1,.int .i64 t1,.bool m1,.slice ba1 BL1 bc1,.slice ao1 KL1 kc1] 41)=V1 at *
  clear hgt
  have f4:=Bk.cell 4 _ rfl
  have fl:=Bk.lt
  by_cases hq:KL1=2
  rotate_left
  ·have HQ:Hid (¬ KL1=2):=hq
   have H:Hid (sigD B=none):=sigD_n HP.out (sigP_kids (fun h=>HQ.out (by rw [← HKL1.out];exact h)))
   have d1:((KL1:Int) == 2)=false:=by rw [beq_eq_false_iff_ne];omega
   have d2:((KL1:Int) != 2)=true:=by rw [bne,d1];rfl
   clear hq
   have hz:=zero_sgD.out
   obtain ⟨tR,hR⟩:=R0
   have HR1:Hid _:=hR
   clear hR
   go_wp2_with (first|((with_reducible show wpList _ _ _ ({ dst:=_,op:=.store _ _ _,type:=_,pos:=_,after:=_,guard:=_ } :: _) _ _);refine wpList_store_row rfl 27 _ _ rfl (w.heap.size) #[.int .u64 0,.int .u64 0,.int .u64 0,.int .u64 0,.int .u64 0,.int .u64 0,.int .u64 0,.int .u64 0,.int .u64 0,.int .u64 0,.int .u64 0,.int .u64 0] rfl rfl tR _ HR1.out (by rw [size_sgD];rfl) rfl (by simp [Value.oneCell']) ?_)|fail)
   refine bodyPost_ret (results_row_tmp rfl _ _ (w.heap.size) tR #[.int .u64 0,.int .u64 0,.int .u64 0,.int .u64 0,.int .u64 0,.int .u64 0,.int .u64 0,.int .u64 0,.int .u64 0,.int .u64 0,.int .u64 0,.int .u64 0] (0,0) _ rfl (setRow_heap _ _ _ _ _ _ HR1.out) Tryz.underlying27 rfl (by rw [size_sgD];rfl)) rfl ?_
   exact SigE.no0 H.out (below_setRow bel (Nat.le_refl _) _)
  subst hq
  obtain ⟨p9,q9,hk2⟩:∃ p q,k1=[p,q]:=by
   have h:=HKL1.out
   match k1,h with
   | [p,q],_=>exact ⟨p,q,rfl⟩
  subst hk2
  obtain ⟨g2b,o2b,hao,hks⟩:=HK1.out (by omega)
  subst hao
  rw [KidsAt,KidsAt] at hks
  obtain ⟨⟨cs3,hc3,ht3⟩,⟨cs4,hc4,ht4⟩,-⟩:=hks
  have hg3:=HGd.out.kid (i:=0) rfl
  have hg4:=HGd.out.kid (i:=1) rfl
  obtain ⟨c3,t3,m3,b3,k3⟩:=p9
  rw [TlAt] at ht3
  obtain ⟨bv3,ka3,kc3,hcs3,hb3,x13,x23,hk3⟩:=ht3
  subst hcs3
  obtain ⟨ba3,bc3,rfl,y13,y23,y33⟩:=id hb3
  have HB3:Hid (Bs w1 (.slice ba3 b3.length bc3) b3):=hb3
  have HK3:Hid (0 < k3.length→∃ g o,ka3=some ⟨g,o,none⟩∧KidsAt w1 k3 g o):=hk3
  obtain ⟨N3,hN3⟩:∃ N,b3.length=N:=⟨_,rfl⟩
  obtain ⟨K3,hK3⟩:∃ K,k3.length=K:=⟨_,rfl⟩
  have HN3:Hid (b3.length=N3):=hN3
  have HL3:Hid (k3.length=K3):=hK3
  rw [hN3] at HB3 hc3
  rw [hK3] at hc3 HK3
  clear hN3 hK3 hk3 hb3 y13 y23 y33 x13 x23
  obtain ⟨c4,t4,m4,b4,k4⟩:=q9
  rw [TlAt] at ht4
  obtain ⟨bv4,ka4,kc4,hcs4,hb4,x14,x24,hk4⟩:=ht4
  subst hcs4
  obtain ⟨ba4,bc4,rfl,y14,y24,y34⟩:=id hb4
  have HB4:Hid (Bs w1 (.slice ba4 b4.length bc4) b4):=hb4
  have HK4:Hid (0 < k4.length→∃ g o,ka4=some ⟨g,o,none⟩∧KidsAt w1 k4 g o):=hk4
  obtain ⟨N4,hN4⟩:∃ N,b4.length=N:=⟨_,rfl⟩
  obtain ⟨K4,hK4⟩:∃ K,k4.length=K:=⟨_,rfl⟩
  have HN4:Hid (b4.length=N4):=hN4
  have HL4:Hid (k4.length=K4):=hK4
  rw [hN4] at HB4 hc4
  rw [hK4] at hc4 HK4
  clear hN4 hK4 hk4 hb4 y14 y24 y34 x14 x24
  have hw3:=hg3.wf
  have hw4:=hg4.wf
  rw [WfT] at hw3 hw4
  have HY3:Hid (byt b3∧b3.length≤1048576):=⟨hw3.2.2.1,hg3.body⟩
  have HY4:Hid (byt b4∧b4.length≤1048576):=⟨hw4.2.2.1,hg4.body⟩
  have HC3:Hid (w1.cell? ⟨g2b,o2b + 3,none⟩=some (.slice ba3 N3 bc3)∧g2b < w1.heap.size):=⟨hc3.2 3 _ rfl,hc3.1⟩
  have HC4:Hid (w1.cell? ⟨g2b,o2b + 5 + 3,none⟩=some (.slice ba4 N4 bc4)):=hc4.2 3 _ rfl
  clear hc3 hc4 hw3 hw4 hg3 hg4 HK3 HK4 HK1 HGd
  have u3:=cell_later HC3.out.1 st
  have ul:g2b < V1.heap.size:=Nat.lt_of_lt_of_le HC3.out.2 st.size
  go_wp2_with fail
  refine (r13_NumberU (HB3.out.later st) HY3.out.1 (by have:=HY3.out.2;omega)).mono ?_
  rintro e w2 ⟨ao5,n5,k5,cc5,nb5,rfl,HN5,HY5,HL5,-,hb,HOk5,HBd5⟩
  replace R0:=R0.later hb
  replace Bk:=Bk.later hb
  replace bel:=below_step bel hb
  replace st:=below_step st hb
  clear hb u3 ul f4 fl
  have f4:=Bk.cell 4 _ rfl
  have fl:=Bk.lt
  have u4:=cell_later HC4.out st
  have ul:g2b < w2.heap.size:=Nat.lt_of_lt_of_le HC3.out.2 st.size
  go_wp2_with fail
  refine (r13_NumberU (HB4.out.later st) HY4.out.1 (by have:=HY4.out.2;omega)).mono ?_
  rintro e w3 ⟨ao6,n6,k6,cc6,nb6,rfl,HN6,HY6,HL6,-,hb,HOk6,HBd6⟩
  replace HN5:Hid (Bs w3 (.slice ao5 n5 k5) nb5):=HN5.out.later hb
  replace R0:=R0.later hb
  replace bel:=below_step bel hb
  clear hb u4 ul f4 fl Bk st
  by_cases hq:cc5=0
  rotate_left
  ·have HQ:Hid (¬ (cc5=0)):=hq
   have H:Hid (sigD B=none):=sigD_n HP.out (sigP_num (.inl (HBd5.out hq)))
   have d1:(cc5 == 0)=false:=by rw [beq_eq_false_iff_ne];exact hq
   have d2:(cc5 != 0)=true:=by rw [bne,d1];rfl
   clear hq
   have hz:=zero_sgD.out
   obtain ⟨tR,hR⟩:=R0
   have HR1:Hid _:=hR
   clear hR
   go_wp2_with (first|((with_reducible show wpList _ _ _ ({ dst:=_,op:=.store _ _ _,type:=_,pos:=_,after:=_,guard:=_ } :: _) _ _);refine wpList_store_row rfl 27 _ _ rfl (w.heap.size) #[.int .u64 0,.int .u64 0,.int .u64 0,.int .u64 0,.int .u64 0,.int .u64 0,.int .u64 0,.int .u64 0,.int .u64 0,.int .u64 0,.int .u64 0,.int .u64 0] rfl rfl tR _ HR1.out (by rw [size_sgD];rfl) rfl (by simp [Value.oneCell']) ?_)|fail)
   refine bodyPost_ret (results_row_tmp rfl _ _ (w.heap.size) tR #[.int .u64 0,.int .u64 0,.int .u64 0,.int .u64 0,.int .u64 0,.int .u64 0,.int .u64 0,.int .u64 0,.int .u64 0,.int .u64 0,.int .u64 0,.int .u64 0] (0,0) _ rfl (setRow_heap _ _ _ _ _ _ HR1.out) Tryz.underlying27 rfl (by rw [size_sgD];rfl)) rfl ?_
   exact SigE.no0 H.out (below_setRow bel (Nat.le_refl _) _)
  subst hq
  have HO5:Hid (numP b3=.ok nb5):=HOk5.out rfl
  clear HOk5 HBd5
  by_cases hq:cc6=0
  rotate_left
  ·have HQ:Hid (¬ (cc6=0)):=hq
   have H:Hid (sigD B=none):=sigD_n HP.out (sigP_num (.inr (HBd6.out hq)))
   have d1:(cc6 == 0)=false:=by rw [beq_eq_false_iff_ne];exact hq
   have d2:(cc6 != 0)=true:=by rw [bne,d1];rfl
   clear hq
   have hz:=zero_sgD.out
   obtain ⟨tR,hR⟩:=R0
   have HR1:Hid _:=hR
   clear hR
   go_wp2_with (first|((with_reducible show wpList _ _ _ ({ dst:=_,op:=.store _ _ _,type:=_,pos:=_,after:=_,guard:=_ } :: _) _ _);refine wpList_store_row rfl 27 _ _ rfl (w.heap.size) #[.int .u64 0,.int .u64 0,.int .u64 0,.int .u64 0,.int .u64 0,.int .u64 0,.int .u64 0,.int .u64 0,.int .u64 0,.int .u64 0,.int .u64 0,.int .u64 0] rfl rfl tR _ HR1.out (by rw [size_sgD];rfl) rfl (by simp [Value.oneCell']) ?_)|fail)
   refine bodyPost_ret (results_row_tmp rfl _ _ (w.heap.size) tR #[.int .u64 0,.int .u64 0,.int .u64 0,.int .u64 0,.int .u64 0,.int .u64 0,.int .u64 0,.int .u64 0,.int .u64 0,.int .u64 0,.int .u64 0,.int .u64 0] (0,0) _ rfl (setRow_heap _ _ _ _ _ _ HR1.out) Tryz.underlying27 rfl (by rw [size_sgD];rfl)) rfl ?_
   exact SigE.no0 H.out (below_setRow bel (Nat.le_refl _) _)
  subst hq
  have HO6:Hid (numP b4=.ok nb6):=HOk6.out rfl
  clear HOk6 HBd6
  by_cases hq:n5≤48
  rotate_left
  ·have HQ:Hid (¬ (n5≤48)):=hq
   have H:Hid (sigD B=none):=by
    cases e9:sigP (.mk c1 t1 m1 b1 [.mk c3 t3 m3 b3 k3,.mk c4 t4 m4 b4 k4]) with
    | none=>exact sigD_n HP.out e9
    | some q =>
     obtain ⟨x9,y9⟩:=q
     have h9:=sigP_some e9
     have g9:=num_great HY3.out.1 h9.2.2.2.1 (by rw [show x9=nb5 from by have:=h9.2.2.2.1;rw [HO5.out] at this;cases this;rfl,HL5.out];omega)
     exact sigD_r HP.out e9 (fun h=>by have:=h.1.2;omega)
   have d1:(48:Int) < (n5:Int):=by omega
   clear hq
   have hz:=zero_sgD.out
   obtain ⟨tR,hR⟩:=R0
   have HR1:Hid _:=hR
   clear hR
   go_wp2_with (first|((with_reducible show wpList _ _ _ ({ dst:=_,op:=.store _ _ _,type:=_,pos:=_,after:=_,guard:=_ } :: _) _ _);refine wpList_store_row rfl 27 _ _ rfl (w.heap.size) #[.int .u64 0,.int .u64 0,.int .u64 0,.int .u64 0,.int .u64 0,.int .u64 0,.int .u64 0,.int .u64 0,.int .u64 0,.int .u64 0,.int .u64 0,.int .u64 0] rfl rfl tR _ HR1.out (by rw [size_sgD];rfl) rfl (by simp [Value.oneCell']) ?_)|fail)
   refine bodyPost_ret (results_row_tmp rfl _ _ (w.heap.size) tR #[.int .u64 0,.int .u64 0,.int .u64 0,.int .u64 0,.int .u64 0,.int .u64 0,.int .u64 0,.int .u64 0,.int .u64 0,.int .u64 0,.int .u64 0,.int .u64 0] (0,0) _ rfl (setRow_heap _ _ _ _ _ _ HR1.out) Tryz.underlying27 rfl (by rw [size_sgD];rfl)) rfl ?_
   exact SigE.no0 H.out (below_setRow bel (Nat.le_refl _) _)
  have g5:¬ (48:Int) < (n5:Int):=by omega
  have HL48:Hid (nb5.length≤48):=by show _≤_;rw [HL5.out];exact hq
  clear hq
  by_cases hq:n6≤48
  rotate_left
  ·have HQ:Hid (¬ (n6≤48)):=hq
   have H:Hid (sigD B=none):=by
    cases e9:sigP (.mk c1 t1 m1 b1 [.mk c3 t3 m3 b3 k3,.mk c4 t4 m4 b4 k4]) with
    | none=>exact sigD_n HP.out e9
    | some q =>
     obtain ⟨x9,y9⟩:=q
     have h9:=sigP_some e9
     have g9:=num_great HY4.out.1 h9.2.2.2.2 (by rw [show y9=nb6 from by have:=h9.2.2.2.2;rw [HO6.out] at this;cases this;rfl,HL6.out];omega)
     exact sigD_r HP.out e9 (fun h=>by have:=h.2.2;omega)
   have d1:(48:Int) < (n6:Int):=by omega
   clear hq
   have hz:=zero_sgD.out
   obtain ⟨tR,hR⟩:=R0
   have HR1:Hid _:=hR
   clear hR
   go_wp2_with (first|((with_reducible show wpList _ _ _ ({ dst:=_,op:=.store _ _ _,type:=_,pos:=_,after:=_,guard:=_ } :: _) _ _);refine wpList_store_row rfl 27 _ _ rfl (w.heap.size) #[.int .u64 0,.int .u64 0,.int .u64 0,.int .u64 0,.int .u64 0,.int .u64 0,.int .u64 0,.int .u64 0,.int .u64 0,.int .u64 0,.int .u64 0,.int .u64 0] rfl rfl tR _ HR1.out (by rw [size_sgD];rfl) rfl (by simp [Value.oneCell']) ?_)|fail)
   refine bodyPost_ret (results_row_tmp rfl _ _ (w.heap.size) tR #[.int .u64 0,.int .u64 0,.int .u64 0,.int .u64 0,.int .u64 0,.int .u64 0,.int .u64 0,.int .u64 0,.int .u64 0,.int .u64 0,.int .u64 0,.int .u64 0] (0,0) _ rfl (setRow_heap _ _ _ _ _ _ HR1.out) Tryz.underlying27 rfl (by rw [size_sgD];rfl)) rfl ?_
   exact SigE.no0 H.out (below_setRow bel (Nat.le_refl _) _)
  have g6:¬ (48:Int) < (n6:Int):=by omega
  have HM48:Hid (nb6.length≤48):=by show _≤_;rw [HL6.out];exact hq
  clear hq
  obtain ⟨x5,hx5⟩:∃ z,beN nb5=z:=⟨_,rfl⟩
  obtain ⟨y6,hy6⟩:∃ z,beN nb6=z:=⟨_,rfl⟩
  have HX5:Hid (beN nb5=x5):=hx5
  have HY9:Hid (beN nb6=y6):=hy6
  have HXb:Hid (0≤x5∧x5 < 18446744073709551616 ^ 6):=by rw [← hx5];exact ⟨beN_nonneg HY5.out,be_ltL HY5.out HL48.out⟩
  have HYb:Hid (0≤y6∧y6 < 18446744073709551616 ^ 6):=by rw [← hy6];exact ⟨beN_nonneg HY6.out,be_ltL HY6.out HM48.out⟩
  clear hx5 hy6
  go_wp2_with fail
  clear g5 g6
  refine (rfrom_any _ _ _ HN5.out HY5.out (by have:=HL48.out;omega)).mono ?_
  rintro e w4 ⟨v4,rfl,hn,hb⟩
  rw [HX5.out] at hn
  have HN4:Hid (NumIs w4 v4 x5):=hn
  replace HN6:Hid (Bs w4 (.slice ao6 n6 k6) nb6):=HN6.out.later hb
  replace R0:=R0.later hb
  replace bel:=below_step bel hb
  clear hb hn
  go_wp2_with fail
  refine (uTo6 HN4.out HXb.out.1 HXb.out.2).mono ?_
  rintro e w5 ⟨es,rfl,hu,hb⟩
  have HU5:Hid (U6 es x5):=hu
  replace HN6:Hid (Bs w5 (.slice ao6 n6 k6) nb6):=HN6.out.later hb
  replace R0:=R0.later hb
  replace bel:=below_step bel hb
  clear hb hu HN4
  go_wp2_with fail
  refine (rfrom_any _ _ _ HN6.out HY6.out (by have:=HM48.out;omega)).mono ?_
  rintro e w6 ⟨v6,rfl,hn,hb⟩
  rw [HY9.out] at hn
  have HN4:Hid (NumIs w6 v6 y6):=hn
  replace R0:=R0.later hb
  replace bel:=below_step bel hb
  clear hb hn
  go_wp2_with fail
  refine (uTo6 HN4.out HYb.out.1 HYb.out.2).mono ?_
  rintro e w7 ⟨fs,rfl,hu,hb⟩
  have HU7:Hid (U6 fs y6):=hu
  replace R0:=R0.later hb
  replace bel:=below_step bel hb
  clear hb hu HN4
  have q7:=build_sig HU5.out HU7.out
  obtain ⟨ts,hts⟩:∃ us,es++fs=us:=⟨_,rfl⟩
  have HT:Hid (es++fs=ts):=hts
  have HLt:Hid (ts.length=12):=by show _=_;rw [← hts,List.length_append,HU5.out.len,HU7.out.len]
  have HSt:Hid (ts.toArray.size=12):=by show _=_;rw [List.size_toArray];exact HLt.out
  have HOt:Hid (OneR ts):=by rw [← hts];exact HU5.out.ones.app HU7.out.ones
  rw [hts] at q7
  clear hts
  have hz:=zero_sgD.out
  have lR:=R0.lt
  have Bt:=Blk.new w7 ts 27 w7.heap.size rfl
  have hb:Below w7.heap.size w7 (w7.alloc (.cells ts.toArray 27)):=(Below.refl _ _).alloc (Nat.le_refl _) _
  replace R0:=R0.later hb
  replace bel:=below_step bel hb
  clear hb
  go_upto_region 9 with (first|(refine wpList_build_run (by rfl) (by rfl) (by rfl) (v:=.agg ts.toArray) (q7 _) ?_)|((with_reducible show wpList _ _ _ ({ dst:=_,op:=.store _ _ _,type:=_,pos:=_,after:=_,guard:=_ } :: _) _ _);refine wpList_store_row rfl 27 _ _ rfl w7.heap.size ts.toArray rfl rfl 27 _ (heap_alloc_last _ _) (by rw [size_sgD,HSt.out]) (by rw [HSt.out];rfl) HOt.out ?_;rw [World.setRow_alloc_new])|fail)
  clear hz q7
  obtain ⟨gs,hgs⟩:∃ g,g=w7.heap.size:=⟨_,rfl⟩
  have HGs:Hid (gs≠w.heap.size):=by show _≠_;omega
  rw [← hgs] at Bt ⊢
  generalize w7.alloc (.cells ts.toArray 27)=V7 at *
  clear hgs lR
  have hld:(loadVar 27 ⟨gs,0,none⟩).run Tryz.prog V7=.ok (.agg ts.toArray) V7:=Bt.load Tryz.underlying27 rfl size_sgD HLt.out
  have l0:=Bt.lt
  go_wp2_with (first|((with_reducible show wpList _ _ _ ({ dst:=_,op:=.load _ _,type:=_,pos:=_,after:=_,guard:=_ } :: _) _ _);refine wpList_load_run (by rfl) (by rfl) (by rfl) hld ?_)|fail)
  have cv:=r14_Encode (w:=V7) HU5.out HU7.out
  rw [HT.out] at cv
  refine cv.mono ?_
  rintro e w8 ⟨hb,hno,hyes⟩
  replace Bt:=Bt.later hb
  replace R0:=R0.later hb
  replace bel:=below_step bel hb
  clear hb cv hld l0
  by_cases hsc:isSc x5∧isSc y6
  rotate_left
  ·obtain rfl:=hno hsc
   have HSc:Hid (¬ (isSc x5∧isSc y6)):=hsc
   clear hno hyes hsc
   go_upto_region 10 with fail
   have HR9:Hid (Blk w8 w.heap.size [.int .u64 0,.int .u64 0,.int .u64 0,.int .u64 0,.int .u64 0,.int .u64 0,.int .u64 0,.int .u64 0,.int .u64 0,.int .u64 0,.int .u64 0,.int .u64 0]):=R0
   have HBt:Hid (Blk w8 gs ts):=Bt
   have stp:∀ w1 w2:World,(Agr (fun b=>b≠w.heap.size) w8 w1∧Below w.heap.size w w1∧∃ X:List Value,Blk w1 w.heap.size X∧X.length=12)→Below w1.heap.size w1 w2→(Agr (fun b=>b≠w.heap.size) w8 w2∧Below w.heap.size w w2∧∃ X:List Value,Blk w2 w.heap.size X∧X.length=12):=fun w1 w2 h hb=>⟨h.1.trans (Agr.below hb),below_step h.2.1 hb,h.2.2.choose,h.2.2.choose_spec.1.later hb,h.2.2.choose_spec.2⟩
   obtain ⟨S1,hS1,KB1,KI1,KD1⟩:∃ S:World→Prop,Hd S w8∧Hid (∀ wx,Hd S wx→Agr (fun b=>b≠w.heap.size) w8 wx∧Below w.heap.size w wx∧∃ X:List Value,Blk wx w.heap.size X∧X.length=12)∧Hid (∀ wx,(Agr (fun b=>b≠w.heap.size) w8 wx∧Below w.heap.size w wx∧∃ X:List Value,Blk wx w.heap.size X∧X.length=12)→Hd S wx)∧Hid (∀ wx,Hd S wx→Hd S wx.drew):=⟨fun wx=>Agr (fun b=>b≠w.heap.size) w8 wx∧Below w.heap.size w wx∧∃ X:List Value,Blk wx w.heap.size X∧X.length=12,⟨Agr.refl _ _,bel,_,R0,rfl⟩,fun _ h=>h,fun _ h=>h,fun wx h=>stp _ _ h (Below.drew (Below.refl _ _))⟩
   clear stp
   have R1:Hid (∀ wx,Hd S1 wx→(loadVar 27 ⟨gs,0,none⟩).run Tryz.prog wx=.ok (.agg ts.toArray) wx):=fun wx h=>(HBt.out.agr (KB1.out wx h).1 HGs.out).load Tryz.underlying27 rfl size_sgD HLt.out
   clear Bt R0 bel
   have HH4:Hid (sigD B=none):=by
    cases e9:sigP (.mk c1 t1 m1 b1 [.mk c3 t3 m3 b3 k3,.mk c4 t4 m4 b4 k4]) with
    | none=>exact sigD_n HP.out e9
    | some q =>
     obtain ⟨x9,y9⟩:=q
     have h9:=sigP_some e9
     have z1:=h9.2.2.2.1
     have z2:=h9.2.2.2.2
     rw [HO5.out] at z1
     rw [HO6.out] at z2
     cases z1
     cases z2
     exact sigD_r HP.out e9 (fun h=>HSc.out (by rw [HX5.out,HY9.out] at h;exact h))
   refine wp_region_noPanic ?_
   refine wp_region_held_drew (S:=Hd S1) (by kernel_rfl) (KD1.out _ hS1) (fun hHeld=>?_)
   clear hS1
   generalize World.drew _=wd1 at *
   refine wpAnyH_take (i:=0) (v:=.agg ts.toArray) rfl (by kernel_rfl) (by kernel_rfl) (by kernel_rfl) (fun _ _ _ h=>h) (Or.inl ⟨by rfl,fun wx h=>exec_load rfl rfl (R1.out wx h)⟩) (by assumption) ?_
   try simp only [Act.put,List.getElem_toArray,List.getElem_cons_zero,List.getElem_cons_succ,List.setIfInBounds_toArray,List.set_cons_zero,List.set_cons_succ]
   refine wpAnyH_take (i:=1) (v:=?_) rfl (by kernel_rfl) (by kernel_rfl) (by kernel_rfl) (fun _ _ _ h=>h) (Or.inl ⟨by rfl,?_⟩) (by assumption) ?_
   rotate_left
   ·intro w hSw
    go_simp
    with_reducible rfl
   try simp only [Act.put,List.getElem_toArray,List.getElem_cons_zero,List.getElem_cons_succ,List.setIfInBounds_toArray,List.set_cons_zero,List.set_cons_succ]
   refine wpAnyH_take (i:=2) (v:=?_) rfl (by kernel_rfl) (by kernel_rfl) (by kernel_rfl) (fun _ _ _ h=>h) (Or.inl ⟨by rfl,?_⟩) (by assumption) ?_
   rotate_left
   ·intro w hSw
    go_simp
    with_reducible rfl
   try simp only [Act.put,List.getElem_toArray,List.getElem_cons_zero,List.getElem_cons_succ,List.setIfInBounds_toArray,List.set_cons_zero,List.set_cons_succ]
   refine wpAnyH_take (i:=3) (v:=undef) rfl (by kernel_rfl) (by kernel_rfl) (by kernel_rfl) (fun _ _ _ h=>h) (Or.inr ⟨by rfl,rfl⟩) (by assumption) ?_
   try simp only [Act.put,List.getElem_toArray,List.getElem_cons_zero,List.getElem_cons_succ,List.setIfInBounds_toArray,List.set_cons_zero,List.set_cons_succ]
   refine wpAnyH_take (i:=4) (v:=undef) rfl (by kernel_rfl) (by kernel_rfl) (by kernel_rfl) (fun _ _ _ h=>h) (Or.inr ⟨by rfl,rfl⟩) (by assumption) ?_
   try simp only [Act.put,List.getElem_toArray,List.getElem_cons_zero,List.getElem_cons_succ,List.setIfInBounds_toArray,List.set_cons_zero,List.set_cons_succ]
   refine wpAnyH_take (i:=5) (v:=undef) rfl (by kernel_rfl) (by kernel_rfl) (by kernel_rfl) (fun _ _ _ h=>h) (Or.inr ⟨by rfl,rfl⟩) (by assumption) ?_
   try simp only [Act.put,List.getElem_toArray,List.getElem_cons_zero,List.getElem_cons_succ,List.setIfInBounds_toArray,List.set_cons_zero,List.set_cons_succ]
   refine wpAnyH_take (i:=6) (v:=undef) rfl (by kernel_rfl) (by kernel_rfl) (by kernel_rfl) (fun _ _ _ h=>h) (Or.inr ⟨by rfl,rfl⟩) (by assumption) ?_
   try simp only [Act.put,List.getElem_toArray,List.getElem_cons_zero,List.getElem_cons_succ,List.setIfInBounds_toArray,List.set_cons_zero,List.set_cons_succ]
   refine wpAnyH_take (i:=7) (v:=undef) rfl (by kernel_rfl) (by kernel_rfl) (by kernel_rfl) (fun _ _ _ h=>h) (Or.inr ⟨by rfl,rfl⟩) (by assumption) ?_
   try simp only [Act.put,List.getElem_toArray,List.getElem_cons_zero,List.getElem_cons_succ,List.setIfInBounds_toArray,List.set_cons_zero,List.set_cons_succ]
   refine wpAnyH_take (i:=8) (v:=?_) rfl (by kernel_rfl) (by kernel_rfl) (by kernel_rfl) (fun _ _ _ h=>h) (Or.inl ⟨by rfl,?_⟩) (by assumption) ?_
   rotate_left
   ·intro w hSw
    go_simp
    with_reducible rfl
   try simp only [Act.put,List.getElem_toArray,List.getElem_cons_zero,List.getElem_cons_succ,List.setIfInBounds_toArray,List.set_cons_zero,List.set_cons_succ]
   refine wpAnyH_ready (rs:=[9]) (by kernel_rfl) (by simp) ?_
   refine AllReadyH.cons rfl (fun K hK=>?_) ?_
   ·obtain ⟨hag,bel9,X9,R0,hX9⟩:=KB1.out _ hHeld
    obtain ⟨tR,hR⟩:=R0
    have HR1:Hid _:=hR
    clear hR
    rw [if_pos (by rfl)]
    refine wp_store_row 27 _ _ rfl w.heap.size ts.toArray rfl rfl tR _ HR1.out (by rw [size_sgD,HSt.out]) (by rw [HSt.out,List.size_toArray,hX9]) HOt.out ?_
    refine hK.out _ _ ?_ (fun hHeld2=>?_)
    ·exact KI1.out _ ⟨hag.row (fun h=>h rfl),below_setRow bel9 (Nat.le_refl _) _,ts,⟨tR,setRow_heap _ _ _ _ _ _ HR1.out⟩,HLt.out⟩
    ·clear hK K
     try clear hHeld
     have hHeld:=hHeld2
     clear hHeld2
     try simp only [Act.put,List.getElem_toArray,List.getElem_cons_zero,List.getElem_cons_succ,List.setIfInBounds_toArray,List.set_cons_zero,List.set_cons_succ]
     clear hag

     refine wpAnyH_take (i:=10) (v:=.bool false) rfl (by kernel_rfl) (by kernel_rfl) (by kernel_rfl) (fun _ _ _ h=>h) (Or.inl ⟨by rfl,fun wx h=>rfl⟩) (by assumption) ?_
     try simp only [Act.put,List.getElem_toArray,List.getElem_cons_zero,List.getElem_cons_succ,List.setIfInBounds_toArray,List.set_cons_zero,List.set_cons_succ]
     refine wpAnyH_done (by kernel_rfl) ?_ _
     refine NoPanic.normal ?_
     clear hHeld R1
     go_wp2_with fail
     refine bodyPost_ret (results_row_tmp rfl _ _ w.heap.size tR ts.toArray (0,0) _ rfl (setRow_heap _ _ _ _ _ _ HR1.out) Tryz.underlying27 rfl (by rw [size_sgD,HSt.out])) rfl ?_
     exact SigE.is (bb:=false) HT.out HU5.out HU7.out (fun q=>by cases q) (fun _=>HH4.out) (below_setRow bel9 (Nat.le_refl _) _)
   exact AllReadyH.nil

  obtain ⟨v8,X,Y,x,y,hSB,rfl,hv8⟩:=hyes hsc
  have HSc:Hid (isSc x5∧isSc y6):=hsc
  have HSB:Hid (SigB x5 y6 X Y x y):=hSB
  obtain ⟨wa,wc,hve,-,-,-⟩:=id hv8
  obtain ⟨VL,hVL⟩:∃ z,(bytesT (sigT x y)).length=z:=⟨_,rfl⟩
  rw [hVL] at hve
  subst hve
  have HV8:Hid (Bs w8 (.slice wa VL wc) (bytesT (sigT x y))):=hv8
  have HVb:Hid (Bs w8 (.slice va BL vc) B):=HV.out.later bel
  clear hno hyes hsc hSB hv8 hVL
  obtain ⟨s1,hs1⟩:∃ z,strOfNums (bytesT (sigT x y))=z:=⟨_,rfl⟩
  obtain ⟨s2,hs2⟩:∃ z,strOfNums B=z:=⟨_,rfl⟩
  obtain ⟨bb,hbb⟩:∃ z:Bool,(s1.toList == s2.toList)=z:=⟨_,rfl⟩
  have HBB:Hid ((bb=true↔bytesT (sigT x y)=B)):=by rw [← hbb,← hs1,← hs2,str_eqS (sig_byt (numOf_byt HSB.out.1.2.1 HSB.out.2.2.1) (numOf_byt HSB.out.2.1.2.1 HSB.out.2.2.2)) HY.out,decide_eq_true_eq];exact Iff.rfl
  go_upto_region 10 with fail
  have HR9:Hid (Blk w8 w.heap.size [.int .u64 0,.int .u64 0,.int .u64 0,.int .u64 0,.int .u64 0,.int .u64 0,.int .u64 0,.int .u64 0,.int .u64 0,.int .u64 0,.int .u64 0,.int .u64 0]):=R0
  have HBt:Hid (Blk w8 gs ts):=Bt
  have stp:∀ w1 w2:World,(Agr (fun b=>b≠w.heap.size) w8 w1∧Below w.heap.size w w1∧∃ X:List Value,Blk w1 w.heap.size X∧X.length=12)→Below w1.heap.size w1 w2→(Agr (fun b=>b≠w.heap.size) w8 w2∧Below w.heap.size w w2∧∃ X:List Value,Blk w2 w.heap.size X∧X.length=12):=fun w1 w2 h hb=>⟨h.1.trans (Agr.below hb),below_step h.2.1 hb,h.2.2.choose,h.2.2.choose_spec.1.later hb,h.2.2.choose_spec.2⟩
  obtain ⟨S1,hS1,KB1,KI1,KD1⟩:∃ S:World→Prop,Hd S w8∧Hid (∀ wx,Hd S wx→Agr (fun b=>b≠w.heap.size) w8 wx∧Below w.heap.size w wx∧∃ X:List Value,Blk wx w.heap.size X∧X.length=12)∧Hid (∀ wx,(Agr (fun b=>b≠w.heap.size) w8 wx∧Below w.heap.size w wx∧∃ X:List Value,Blk wx w.heap.size X∧X.length=12)→Hd S wx)∧Hid (∀ wx,Hd S wx→Hd S wx.drew):=⟨fun wx=>Agr (fun b=>b≠w.heap.size) w8 wx∧Below w.heap.size w wx∧∃ X:List Value,Blk wx w.heap.size X∧X.length=12,⟨Agr.refl _ _,bel,_,R0,rfl⟩,fun _ h=>h,fun _ h=>h,fun wx h=>stp _ _ h (Below.drew (Below.refl _ _))⟩
  clear stp
  have R1:Hid (∀ wx,Hd S1 wx→(loadVar 27 ⟨gs,0,none⟩).run Tryz.prog wx=.ok (.agg ts.toArray) wx):=fun wx h=>(HBt.out.agr (KB1.out wx h).1 HGs.out).load Tryz.underlying27 rfl size_sgD HLt.out
  clear Bt R0 bel
  have z1:=fun (wx:World) (h:Hd S1 wx)=>conv_any (bs_agrC HV8.out (bs_not HV8.out HR9.out) (KB1.out wx h).1)
  have z2:=fun (wx:World) (h:Hd S1 wx)=>conv_any (bs_agrC HVb.out (fun a m c e h0=>by have:=bs_old HV.out a m c e h0;show _≠_;omega) (KB1.out wx h).1)
  rw [hs1] at z1
  rw [hs2] at z2
  have sq:=hbb
  clear hs1 hs2 hbb
  have HH3:Hid (bb=true→sigD B=some (x5,y6)):=fun q=>sig_bwd HSB.out HSc.out (HBB.out.1 q)
  have HH4:Hid (bb=false→sigD B=none):=fun q=>by
   cases e9:sigP (.mk c1 t1 m1 b1 [.mk c3 t3 m3 b3 k3,.mk c4 t4 m4 b4 k4]) with
   | none=>exact sigD_n HP.out e9
   | some q9 =>
    exfalso
    obtain ⟨x9,y9⟩:=q9
    have h9:=sigP_some e9
    have u1:=h9.2.2.2.1
    have u2:=h9.2.2.2.2
    rw [HO5.out] at u1
    rw [HO6.out] at u2
    cases u1
    cases u2
    have h8:=sig_fwd HY.out HP.out e9 HY5.out HY6.out HL48.out HM48.out (by rw [HX5.out,HY9.out];exact HSB.out)
    rw [HBB.out.2 h8] at q
    cases q
  refine wp_region_noPanic ?_
  refine wp_region_held_drew (S:=Hd S1) (by kernel_rfl) (KD1.out _ hS1) (fun hHeld=>?_)
  clear hS1
  generalize World.drew _=wd1 at *
  refine wpAnyH_take (i:=0) (v:=.agg ts.toArray) rfl (by kernel_rfl) (by kernel_rfl) (by kernel_rfl) (fun _ _ _ h=>h) (Or.inl ⟨by rfl,fun wx h=>exec_load rfl rfl (R1.out wx h)⟩) (by assumption) ?_
  try simp only [Act.put,List.getElem_toArray,List.getElem_cons_zero,List.getElem_cons_succ,List.setIfInBounds_toArray,List.set_cons_zero,List.set_cons_succ]
  refine wpAnyH_take (i:=1) (v:=?_) rfl (by kernel_rfl) (by kernel_rfl) (by kernel_rfl) (fun _ _ _ h=>h) (Or.inl ⟨by rfl,?_⟩) (by assumption) ?_
  rotate_left
  ·intro w hSw
   go_simp
   with_reducible rfl
  try simp only [Act.put,List.getElem_toArray,List.getElem_cons_zero,List.getElem_cons_succ,List.setIfInBounds_toArray,List.set_cons_zero,List.set_cons_succ]
  refine wpAnyH_take (i:=2) (v:=?_) rfl (by kernel_rfl) (by kernel_rfl) (by kernel_rfl) (fun _ _ _ h=>h) (Or.inl ⟨by rfl,?_⟩) (by assumption) ?_
  rotate_left
  ·intro w hSw
   go_simp
   with_reducible rfl
  try simp only [Act.put,List.getElem_toArray,List.getElem_cons_zero,List.getElem_cons_succ,List.setIfInBounds_toArray,List.set_cons_zero,List.set_cons_succ]
  refine wpAnyH_take (i:=3) (v:=?_) rfl (by kernel_rfl) (by kernel_rfl) (by kernel_rfl) (fun _ _ _ h=>h) (Or.inl ⟨by rfl,?_⟩) (by assumption) ?_
  rotate_left
  ·intro w hSw
   go_simp
   with_reducible rfl
  try simp only [Act.put,List.getElem_toArray,List.getElem_cons_zero,List.getElem_cons_succ,List.setIfInBounds_toArray,List.set_cons_zero,List.set_cons_succ]
  refine wpAnyH_take (i:=4) (v:=?_) rfl (by kernel_rfl) (by kernel_rfl) (by kernel_rfl) (fun _ _ _ h=>h) (Or.inl ⟨by rfl,?_⟩) (by assumption) ?_
  rotate_left
  ·intro w hSw
   go_simp
   with_reducible rfl
  try simp only [Act.put,List.getElem_toArray,List.getElem_cons_zero,List.getElem_cons_succ,List.setIfInBounds_toArray,List.set_cons_zero,List.set_cons_succ]
  refine wpAnyH_take (i:=5) (v:=?_) rfl (by kernel_rfl) (by kernel_rfl) (by kernel_rfl) (fun _ _ _ h=>h) (Or.inl ⟨by rfl,?_⟩) (by assumption) ?_
  rotate_left
  ·intro w hSw
   go_simp
   with_reducible rfl
  try simp only [Act.put,List.getElem_toArray,List.getElem_cons_zero,List.getElem_cons_succ,List.setIfInBounds_toArray,List.set_cons_zero,List.set_cons_succ]
  refine wpAnyH_take (i:=6) (v:=?_) rfl (by kernel_rfl) (by kernel_rfl) (by kernel_rfl) (fun _ _ _ h=>h) (Or.inl ⟨by rfl,?_⟩) (by assumption) ?_
  rotate_left
  ·intro w hSw
   go_simp
   with_reducible rfl
  try simp only [Act.put,List.getElem_toArray,List.getElem_cons_zero,List.getElem_cons_succ,List.setIfInBounds_toArray,List.set_cons_zero,List.set_cons_succ]
  refine wpAnyH_take (i:=7) (v:=?_) rfl (by kernel_rfl) (by kernel_rfl) (by kernel_rfl) (fun _ _ _ h=>h) (Or.inl ⟨by rfl,?_⟩) (by assumption) ?_
  rotate_left
  ·intro w hSw
   go_simp
   with_reducible rfl
  try simp only [Act.put,List.getElem_toArray,List.getElem_cons_zero,List.getElem_cons_succ,List.setIfInBounds_toArray,List.set_cons_zero,List.set_cons_succ]
  refine wpAnyH_take (i:=8) (v:=?_) rfl (by kernel_rfl) (by kernel_rfl) (by kernel_rfl) (fun _ _ _ h=>h) (Or.inl ⟨by rfl,?_⟩) (by assumption) ?_
  rotate_left
  ·intro w hSw
   go_simp
   with_reducible rfl
  try simp only [Act.put,List.getElem_toArray,List.getElem_cons_zero,List.getElem_cons_succ,List.setIfInBounds_toArray,List.set_cons_zero,List.set_cons_succ]
  refine wpAnyH_ready (rs:=[9]) (by kernel_rfl) (by simp) ?_
  refine AllReadyH.cons rfl (fun K hK=>?_) ?_
  ·obtain ⟨hag,bel9,X9,R0,hX9⟩:=KB1.out _ hHeld
   obtain ⟨tR,hR⟩:=R0
   have HR1:Hid _:=hR
   clear hR
   rw [if_pos (by rfl)]
   refine wp_store_row 27 _ _ rfl w.heap.size ts.toArray rfl rfl tR _ HR1.out (by rw [size_sgD,HSt.out]) (by rw [HSt.out,List.size_toArray,hX9]) HOt.out ?_
   refine hK.out _ _ ?_ (fun hHeld2=>?_)
   ·exact KI1.out _ ⟨hag.row (fun h=>h rfl),below_setRow bel9 (Nat.le_refl _) _,ts,⟨tR,setRow_heap _ _ _ _ _ _ HR1.out⟩,HLt.out⟩
   ·clear hK K
    try clear hHeld
    have hHeld:=hHeld2
    clear hHeld2
    try simp only [Act.put,List.getElem_toArray,List.getElem_cons_zero,List.getElem_cons_succ,List.setIfInBounds_toArray,List.set_cons_zero,List.set_cons_succ]
    clear hag

    refine wpAnyH_take (i:=10) (v:=.bool bb) rfl (by kernel_rfl) (by kernel_rfl) (by kernel_rfl) (fun _ _ _ h=>h) (Or.inl ⟨by rfl,fun wx h=>rfl⟩) (by assumption) ?_
    try simp only [Act.put,List.getElem_toArray,List.getElem_cons_zero,List.getElem_cons_succ,List.setIfInBounds_toArray,List.set_cons_zero,List.set_cons_succ]
    refine wpAnyH_done (by kernel_rfl) ?_ _
    refine NoPanic.normal ?_
    clear hHeld R1
    go_wp2_with fail
    refine bodyPost_ret (results_row_tmp rfl _ _ w.heap.size tR ts.toArray (0,0) _ rfl (setRow_heap _ _ _ _ _ _ HR1.out) Tryz.underlying27 rfl (by rw [size_sgD,HSt.out])) rfl ?_
    exact SigE.is (bb:=bb) HT.out HU5.out HU7.out HH3.out HH4.out (below_setRow bel9 (Nat.le_refl _) _)
  exact AllReadyH.nil
end Go.Proofs.YtnkipgbnnhahbaaGreatDoor
