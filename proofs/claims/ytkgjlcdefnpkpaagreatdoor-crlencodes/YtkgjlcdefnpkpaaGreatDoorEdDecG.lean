/- Digits told as bytes. limb.Bytes: a number's 48 bytes. (Plain part.) limb.Bytes: a number's 48 bytes. A signature's bytes. A signature's bytes: what was written is read as it was. Plain facts. Numbers in elements: plain facts. What limb.Less answers of rows of cells. What limb.From answers, as a row of cells. What limb.Bytes answers of a row of cells. What order.N answers, as a row of cells. What order.Decode answers, as a row of cells. What limb.Same answers of rows of cells. An error that is a Code. ecdsa.isA, numberOf and belowN. What ecdsa.Decode answers. -/
import Derived.Test.YtkgjlcdefnpkpaaGreatDoorPmNG
import Derived.Test.YtkgjlcdefnpkpaaGreatDoorEdG
import Derived.Test.YtkgjlcdefnpkpaaGreatDoorLimb
import Derived.Test.YtkgjlcdefnpkpaaGreatDoorDrTG
import Derived.Test.YtkgjlcdefnpkpaaGreatDoorBase
import Derived.Test.YtkgjlcdefnpkpaaGreatDoorCtRG
import Derived.Test.YtkgjlcdefnpkpaaGreatDoorDrDG
import Derived.Test.YtkgjlcdefnpkpaaGreatDoorPrG
import Derived.Test.YtkgjlcdefnpkpaaGreatDoorDcG3
import Derived.Test.YtkgjlcdefnpkpaaGreatDoorRows
import Derived.Deep.OwnRows
import Derived.Deep.WholeRow
import Derived.Deep.RegionHeld3
import Derived.Deep.DeepCutAuto
import Derived.Deep.DeepFit
import Derived.Deep.AppendLies
import Derived.Great.BuildSlice
import Derived.Laws.Rows
namespace Go.Proofs.YtkgjlcdefnpkpaaGreatDoor
open Go.RowKit
theorem mod_next (a:Int) (h0:0≤a) (k:Nat):a % 256 ^ k + 256 ^ k * (a / 256 ^ k % 256)=a % 256 ^ (k + 1):=by
 obtain ⟨n,rfl⟩:=Int.eq_ofNat_of_zero_le h0
 have e:=Nat.mod_mul (x:=n) (a:=256 ^ k) (b:=256)
 have h1:(256:Int) ^ k=((256 ^ k:Nat):Int):=(Int.natCast_pow 256 k).symm
 rw [Int.pow_succ,h1]
 generalize (256:Nat) ^ k=p at e
 have e2:((n % p + p * (n / p % 256):Nat):Int)=((n % (p * 256):Nat):Int):=by rw [e]
 exact e2
theorem digits_of (a:Int) (h0:0≤a) (Q:List Int) (hQ:∀ r,r < Q.length→Q.getD r 0=a / 256 ^ r % 256):pv 256 Q=a % 256 ^ Q.length:=by
 have key:∀ k,k≤Q.length→pv 256 (Q.take k)=a % 256 ^ k:=by
  intro k
  induction k with
  | zero=>intro _;simp [pv,Int.emod_one]
  | succ k ih =>
   intro hk
   rw [pv_take _ Q k (by omega),ih (by omega),hQ k (by omega),mod_next a h0 k]
 have:=key Q.length (Nat.le_refl _)
 rwa [List.take_of_length_le (Nat.le_refl _)] at this
theorem pv_take_any (b:Int) (D:List Int) (k:Nat):pv b (D.take (k + 1))=pv b (D.take k) + b ^ k * D.getD k 0:=by
 by_cases h:k < D.length
 ·exact pv_take b D k h
 ·rw [List.take_of_length_le (by omega),List.take_of_length_le (by omega),getD_none D k (by omega)];simp
theorem spread (c:Nat) (hc:0 < c) (A R:List Int) (hA:∀ j,0≤A.getD j 0∧A.getD j 0 < 256 ^ c) (hR:∀ t,t < R.length→R.getD t 0=A.getD (t / c) 0 / 256 ^ (t % c) % 256) :
  ∀ n,c * n≤R.length→pv 256 (R.take (c * n))=pv (256 ^ c) (A.take n):=by
 intro n
 induction n with
 | zero=>intro _;simp [pv]
 | succ n ih =>
  intro hn
  have hn':c * n + c≤R.length:=by rw [Nat.mul_succ] at hn;exact hn
  have e1:R.take (c * (n + 1))=R.take (c * n)++(R.take (c * n + c)).drop (c * n):=by
   rw [Nat.mul_succ]
   have:=List.take_append_drop (c * n) (R.take (c * n + c))
   rw [List.take_take,show min (c * n) (c * n + c)=c * n by omega] at this
   exact this.symm
  have hl:((R.take (c * n + c)).drop (c * n)).length=c:=by simp;omega
  have hQ:∀ r,r < ((R.take (c * n + c)).drop (c * n)).length→((R.take (c * n + c)).drop (c * n)).getD r 0=A.getD n 0 / 256 ^ r % 256:=by
   intro r hr
   rw [hl] at hr
   have e:((R.take (c * n + c)).drop (c * n)).getD r 0=R.getD (c * n + r) 0:=by
    simp only [List.getD_eq_getElem?_getD,List.getElem?_drop,List.getElem?_take,show c * n + r < c * n + c by omega,if_true]
   rw [e,hR _ (by omega),Nat.mul_add_div hc,Nat.div_eq_of_lt hr,Nat.mul_add_mod,Nat.mod_eq_of_lt hr,Nat.add_zero]
  have e2:=digits_of (A.getD n 0) (hA n).1 _ hQ
  have e3:(R.take (c * n)).length=c * n:=by simp;omega
  rw [e1,pv_append,ih (by omega),e2,hl,e3,Int.emod_eq_of_lt (hA n).1 (hA n).2,pv_take_any,Int.pow_mul]
/-- bytes are told by their number -/
theorem pv256_inj:∀ (A B:List Int),A.length=B.length→(∀ j,0≤A.getD j 0∧A.getD j 0 < 256)→(∀ j,0≤B.getD j 0∧B.getD j 0 < 256)→pv 256 A=pv 256 B→A=B
 | [],[],_,_,_,_=>rfl
 | [],b :: B,h,_,_,_=>by simp at h
 | a :: A,[],h,_,_,_=>by simp at h
 | a :: A,b :: B,h,hA,hB,hv=>by
  have ha:0≤a∧a < 256:=hA 0
  have hb:0≤b∧b < 256:=hB 0
  simp only [pv] at hv
  have h1:a=b:=by omega
  have h2:pv 256 A=pv 256 B:=by omega
  rw [h1,pv256_inj A B (by simpa using h) (fun j=>hA (j + 1)) (fun j=>hB (j + 1)) h2]
theorem beN_inj (A B:List Int) (hl:A.length=B.length) (hA:byt A) (hB:byt B) (h:beN A=beN B):A=B:=by
 have:=pv256_inj A.reverse B.reverse (by simpa using hl) (byt_rev hA) (byt_rev hB) h
 exact List.reverse_inj.1 this
theorem info_u8:(Tryz.prog.info? 5).map (fun i=>(i.zero,i.size,i.bytes))=some (some (.int .u8 0),1,1):=by kernel_rfl
theorem made_u8 (n:Nat):madeCells #[.int .u8 0] n=(u8s (List.replicate n 0)).toArray:=by
 apply Array.ext
 ·simp [madeCells]
 ·intro i h1 h2
  simp [madeCells,Nat.mod_one]
theorem Blk.set8 {w:World} {b:Nat} {S:List Int} (h:Blk w b (u8s S)) (k:Nat) (s:Int):Blk (w.setCell ⟨b,k,none⟩ (.int .u8 s)) b (u8s (S.set k s)):=by
 have:u8s (S.set k s)=(u8s S).set k (.int .u8 s):=by simp [u8s,List.map_set]
 rw [this];exact h.set k _
/-- the bytes of six limbs -/
def bytesOf (A:List Int):List Int:=(List.range 48).map fun i=>A.getD ((47 - i) / 8) 0 / 2 ^ ((47 - i) % 8 * 8) % 256
theorem bytesOf_len (A:List Int):(bytesOf A).length=48:=by simp [bytesOf]
theorem bytesOf_get (A:List Int) (i:Nat) (h:i < 48):(bytesOf A).getD i 0=A.getD ((47 - i) / 8) 0 / 2 ^ ((47 - i) % 8 * 8) % 256:=by
 rw [List.getD_eq_getElem?_getD,bytesOf,List.getElem?_map,List.getElem?_range h]
 rfl
theorem bytesOf_byt (A:List Int):byt (bytesOf A):=by
 apply byt_of
 intro j hj
 rw [bytesOf_len] at hj
 rw [bytesOf_get A j hj]
 omega
theorem two_pow (r:Nat):(2:Int) ^ (r * 8)=256 ^ r:=by
 rw [Nat.mul_comm,Int.pow_mul];rfl
theorem bytesOf_num (A:List Int) (lA:A.length=6) (fA:fits A):beN (bytesOf A)=v64 A:=by
 have hl:(bytesOf A).reverse.length=48:=by rw [List.length_reverse,bytesOf_len]
 have hR:∀ t,t < (bytesOf A).reverse.length→(bytesOf A).reverse.getD t 0=A.getD (t / 8) 0 / 256 ^ (t % 8) % 256:=by
  intro t ht
  rw [hl] at ht
  have e:=rev_get (bytesOf A) (47 - t) (by rw [bytesOf_len];omega)
  rw [bytesOf_len,show 48 - 1 - (47 - t)=t by omega] at e
  rw [e,bytesOf_get A _ (by omega),show 47 - (47 - t)=t by omega,two_pow]
 have e1:(256:Int) ^ 8=18446744073709551616:=by decide
 have h:=spread 8 (by decide) A (bytesOf A).reverse (fun j=>by rw [e1];exact fA j) hR 6 (by rw [hl];decide)
 rw [List.take_of_length_le (by rw [hl];decide),List.take_of_length_le (by omega),e1] at h
 exact h
set_option maxRecDepth 100000 in
set_option maxHeartbeats 1000000 in
theorem bytes_any (A:List Int) (w:World) (lA:A.length=6) (fA:fits A) :
  Calls Tryz.prog 62 #[.agg (us A).toArray] w fun e w'=>∃ g:Nat,e=.returned (.slice (some ⟨g,0,none⟩) 48 48)∧Blk w' g (u8s (bytesOf A))∧Below w.heap.size w w':=by
 have hmk:=run_make_row' 25 5 (.int .u8 0) 1 Tryz.underlying25 info_u8 rfl .i64 .i64 48 (by omega) (by omega)
 rw [made_u8] at hmk
 have b0:=(Blk.new w (us A) 28 w.heap.size rfl).alloc (.cells (u8s (List.replicate 48 0)).toArray 5)
 have b1:=Blk.new (w.alloc (.cells (us A).toArray 28)) (u8s (List.replicate 48 0)) 5 (w.heap.size + 1) (by simp)
 have bel:Below w.heap.size w ((w.alloc (.cells (us A).toArray 28)).alloc (.cells (u8s (List.replicate 48 0)).toArray 5)):=((Below.refl _ _).alloc (Nat.le_refl _) _).alloc (by simp) _
 generalize (u8s (List.replicate 48 0)).toArray=cs at hmk b0 b1 bel
 replace hmk:∀ w:World,(Instr.makeSlice 25 (.int .i64 48) (.int .i64 48)).run Tryz.prog w=.ok (.slice (some ⟨w.heap.size,0,none⟩) 48 48) (w.alloc (.cells cs 5)):=hmk
 have gX:Hid (∀ i,i < 48→(bytesOf A).getD i 0=A.getD ((47 - i) / 8) 0 / 2 ^ ((47 - i) % 8 * 8) % 256):=bytesOf_get A
 have lX:=bytesOf_len A
 obtain ⟨X,hX⟩:∃ X,bytesOf A=X:=⟨_,rfl⟩
 rw [hX] at gX lX ⊢
 clear hX
 go_enter Tryz.func62,Tryz.ntmps62
 go_wp2
 clear hmk
 generalize (w.alloc (.cells (us A).toArray 28)).alloc (.cells cs 5)=W at *
 go_loopw [7] (fun i wr=>∃ (k:Nat) (T:List Int),k≤48∧i=.int .i64 k∧T.length=48∧Hid (∀ j,j < k→T.getD j 0=X.getD j 0)∧Blk wr w.heap.size (us A)∧Blk wr (w.heap.size + 1) (u8s T)∧Below w.heap.size w wr)
  (fun i _=>48 - (intOf i).toNat)
 case atStart=>exact ⟨0,List.replicate 48 0,by omega,rfl,by simp,fun j hj=>absurd hj (by omega),b0,b1,bel⟩
 case round =>
  obtain ⟨k,T,hk,rfl,lT,hJ,hS,hT,hbel⟩:=hrel
  clear b0 b1 bel
  by_cases hlt:k < 48
  ·obtain ⟨a,ha⟩:∃ a,A.getD ((47 - k) / 8) 0=a:=⟨_,rfl⟩
   have ba:0≤a∧a < 18446744073709551616:=ha ▸ fA _
   have x1:=hS.cell ((47 - k) / 8) _ (us_get A _ (by omega))
   rw [ha] at x1
   have gk:=gX.out k hlt
   rw [ha] at gk
   have GK:Hid _:=gk
   have x2:=hT.cell k _ (u8s_get T k (by omega))
   have fz:=hT.frozen k
   obtain ⟨t,ht⟩:∃ t,T.getD k 0=t:=⟨_,rfl⟩
   rw [ht] at x2
   have a0:=ba.1
   have a1:=ba.2
   have g1:(k:Int) < 48:=by omega
   have g2:(0:Int)≤(k:Int):=by omega
   have g3:(0:Int)≤(47 - (k:Int)) / 8:=by omega
   have g4:(47 - (k:Int)) / 8 < 6:=by omega
   have g5:((47 - (k:Int)) / 8).toNat=(47 - k) / 8:=by omega
   clear ha ht gk ba
   go_wp2
   go_roundw
   case rel =>
    refine ⟨k + 1,T.set k (a / 2 ^ ((47 - k) % 8 * 8) % 256),by omega,by go_num,by simpa using lT,fun j hj=>?_,hS.other _ _ (by simp),hT.set8 _ _,hbel.setCell (by simp) _⟩
    by_cases hjk:k=j
    ·subst hjk
     rw [getD_set_same _ _ _ (by omega),GK.out]
    ·have e:(T.set k (a / 2 ^ ((47 - k) % 8 * 8) % 256)).getD j 0=T.getD j 0:=by simp [List.getD_eq_getElem?_getD,hjk]
     rw [e];exact hJ.out j (by omega)
   case measure=>simp [intOf];omega
  ·have h6:(48:Int)≤(k:Int):=by omega
   have hTX:T=X:=by
    apply List.ext_getElem (by omega)
    intro i h1 h2
    have:=hJ.out i (by omega)
    simpa [List.getD_eq_getElem?_getD,h1,h2] using this
   subst hTX
   clear hJ
   go_wp2
   go_ret
   exact ⟨_,rfl,hT,hbel⟩
/-- a signature's element, of two numbers' bodies -/
def sigT (x y:List Int):Tl:=.mk 0 16 true [] [.mk 0 2 false x [],.mk 0 2 false y []]
/-- a number in an element -/
def partP:Tl→Option (List Int)
 | .mk c t m b _=>if c=0∧t=2∧m=false then (match numP b with|.ok n=>some n|.error _=>none) else none
/-- two numbers in a list -/
def sigP:Tl→Option (List Int × List Int)
 | .mk c t m _ [a,b]=>if c=0∧t=16∧m=true then (match partP a,partP b with|some x,some y=>some (x,y)|_,_=>none) else none
 | _=>none
/-- 48 bytes of a number -/
def Is48 (X:List Int) (r:Int):Prop:=X.length=48∧byt X∧beN X=r
theorem num48 {X:List Int} (hl:X.length=48):∃ x,numOf X=.ok x∧x.length≤49:=by
 have h1:(lessZ X).length≤48:=by
  rw [lessZ_drop,List.length_drop]
  omega
 unfold numOf
 rw [if_neg (by omega)]
 by_cases c:(lessZ X).length=0∨127 < (lessZ X).getD 0 0
 ·exact ⟨_,by rw [if_pos c],by rw [List.length_cons];omega⟩
 ·exact ⟨_,by rw [if_neg c],by omega⟩
theorem numOf_byt {X x:List Int} (b:byt X) (h:numOf X=.ok x):byt x:=by
 have hl:byt (lessZ X):=by rw [lessZ_drop];exact byt_dropM b _
 unfold numOf at h
 split at h
 ·cases h
 ·split at h
  ·cases h
   exact byt_consP (by decide) hl
  ·cases h
   exact hl
theorem lenB_small {n:Nat} (h:n < 128):(lenB n).length=1:=by
 unfold lenB
 rw [if_pos h]
 rfl
theorem sig_len {x y:List Int} (hx:x.length≤49) (hy:y.length≤49):(bytesT (sigT x y)).length≤200:=by
 have k1:(bytesT (.mk 0 2 false x [])).length=x.length + 2:=by
  rw [bytesT_len,bytesL,List.append_nil,lenB_small (by omega)]
  omega
 have k2:(bytesT (.mk 0 2 false y [])).length=y.length + 2:=by
  rw [bytesT_len,bytesL,List.append_nil,lenB_small (by omega)]
  omega
 unfold sigT
 rw [bytesT_len]
 simp only [bytesL,List.nil_append,List.append_nil,List.length_append,k1,k2]
 rw [lenB_small (by omega)]
 omega
theorem sig_fine (x y:List Int):fineT (sigT x y)=true:=by
 simp [sigT,fineT,fineL,fine1]
theorem sig_dep (x y:List Int):depT (sigT x y)=2:=by
 simp [sigT,depT,depL]
theorem sig_sz (x y:List Int):szT (sigT x y)=3:=by
 simp [sigT,szT,szL]
theorem sig_wr {x y:List Int} (hx:x.length≤49) (hy:y.length≤49):wrN (sigT x y)=0:=by
 have:=sig_len hx hy
 unfold wrN
 rw [if_pos (sig_fine x y),if_neg (by rw [sig_dep];omega),if_neg (by omega)]
theorem sig_wf {x y:List Int} (bx:byt x) (bY:byt y):WfT (sigT x y):=by
 simp only [sigT,WfT,WfL]
 exact ⟨by omega,by omega,byt_nilP,⟨by omega,by omega,bx,trivial⟩,⟨by omega,by omega,bY,trivial⟩,trivial⟩
/-- a signature's element, as it lies -/
theorem sig_at {w:World} {g:Nat} {xv yv:Value} {x y:List Int} (hx:Bs w xv x) (hy:Bs w yv y) (B:Blk w g [.int .i64 0,.int .i64 2,.bool false,xv,.slice none 0 0,.int .i64 0,.int .i64 2,.bool false,yv,.slice none 0 0]):TlAt w (sigT x y) [.int .i64 0,.int .i64 16,.bool true,.slice none 0 0,.slice (some ⟨g,0,none⟩) 2 2]:=by
 have z0:Bs w (.slice none 0 0) []:=⟨none,0,rfl,by decide,by decide,fun h=>by simp at h⟩
 unfold sigT
 rw [TlAt]
 refine ⟨_,_,_,rfl,z0,by show 2≤2;omega,by decide,fun _=>⟨g,0,rfl,?_⟩⟩
 rw [KidsAt]
 refine ⟨⟨[.int .i64 0,.int .i64 2,.bool false,xv,.slice none 0 0],⟨B.lt,fun j v hj=>?_⟩,?_⟩,?_⟩
 ·rw [Nat.zero_add]
  refine B.cell j v ?_
  match j,hj with
  | 0,h=>exact h
  | 1,h=>exact h
  | 2,h=>exact h
  | 3,h=>exact h
  | 4,h=>exact h
  | j + 5,h=>simp at h
 ·rw [TlAt]
  exact ⟨_,_,_,rfl,hx,by decide,by decide,fun h=>absurd h (by simp)⟩
 ·rw [KidsAt]
  refine ⟨⟨[.int .i64 0,.int .i64 2,.bool false,yv,.slice none 0 0],⟨B.lt,fun j v hj=>?_⟩,?_⟩,?_⟩
  ·rw [Nat.zero_add]
   refine B.cell (5 + j) v ?_
   match j,hj with
   | 0,h=>exact h
   | 1,h=>exact h
   | 2,h=>exact h
   | 3,h=>exact h
   | 4,h=>exact h
   | j + 5,h=>simp at h
  ·rw [TlAt]
   exact ⟨_,_,_,rfl,hy,by decide,by decide,fun h=>absurd h (by simp)⟩
  ·rw [KidsAt];trivial
theorem uLess {cs ds:List Value} {x y:Int} {w:World} (h:U6 cs x) (k:U6 ds y):Calls Tryz.prog 134 #[.agg cs.toArray,.agg ds.toArray] w fun e w'=>e=.returned (.int .u64 (if x < y then 1 else 0))∧Below w.heap.size w w':=by
 obtain ⟨z0,z1,z2,z3,z4,z5,rfl,hf,rfl⟩:=h
 obtain ⟨y0,y1,y2,y3,y4,y5,rfl,kf,rfl⟩:=k
 refine (less6 hf kf).mono ?_
 rintro e w' ⟨rfl,hb⟩
 exact ⟨rfl,hb⟩
theorem uBytes {cs:List Value} {x:Int} {w:World} (h:U6 cs x):Calls Tryz.prog 62 #[.agg cs.toArray] w fun e w'=>∃ (g:Nat) (X:List Int),e=.returned (.slice (some ⟨g,0,none⟩) 48 48)∧Blk w' g (u8s X)∧X.length=48∧byt X∧beN X=x∧Below w.heap.size w w':=by
 obtain ⟨z0,z1,z2,z3,z4,z5,rfl,hf,rfl⟩:=h
 refine (bytes_any [z0,z1,z2,z3,z4,z5] w rfl hf).mono ?_
 rintro e w' ⟨g,rfl,B,hb⟩
 exact ⟨g,_,rfl,B,bytesOf_len _,bytesOf_byt _,bytesOf_num _ rfl hf,hb⟩
theorem uN {w:World} (G:GlsO w):Calls Tryz.prog 135 #[] w fun e w'=>∃ es,e=.returned (.agg es.toArray)∧U6 es QQ∧Below w.heap.size w w':=by
 refine (on6 G).mono ?_
 rintro e w' ⟨rfl,hb⟩
 exact ⟨_,rfl,⟨_,_,_,_,_,_,rfl,fits6 (by decide),by decide +kernel⟩,hb⟩
theorem uSame {cs ds:List Value} {x y:Int} {w:World} (h:U6 cs x) (k:U6 ds y):Calls Tryz.prog 133 #[.agg cs.toArray,.agg ds.toArray] w fun e w'=>e=.returned (.int .u64 (if x=y then 1 else 0))∧Below w.heap.size w w':=by
 obtain ⟨z0,z1,z2,z3,z4,z5,rfl,hf,rfl⟩:=h
 obtain ⟨y0,y1,y2,y3,y4,y5,rfl,kf,rfl⟩:=k
 refine (same_is hf kf rfl rfl).mono ?_
 rintro e w' ⟨rfl,hb⟩
 exact ⟨rfl,hb⟩
/-- an error that is a Code itself -/
def codeV (c:Int):Value:=.iface 56 (.int .i64 c)
theorem ne_nilT:∀ w:World,(binOp .neq 36 .nilIface .nilIface).run Tryz.prog w=.ok (.bool false) w:=fun _=>by kernel_rfl
/-- what Decode tells -/
def DecR (w:World) (B:List Int) (e:Ending) (w':World):Prop:=(∀ c p,parseP B=.error (c,p)→∃ er:Value,e=.returned (.tuple #[.agg #[.int .u64 0,.int .u64 0,.int .u64 0,.int .u64 0,.int .u64 0,.int .u64 0,.int .u64 0,.int .u64 0,.int .u64 0,.int .u64 0,.int .u64 0,.int .u64 0],er])∧ErAt w' c p er∧Below w.heap.size w w')∧(∀ T,parseP B=.ok T→(sigP T=none→e=.returned (.tuple #[.agg #[.int .u64 0,.int .u64 0,.int .u64 0,.int .u64 0,.int .u64 0,.int .u64 0,.int .u64 0,.int .u64 0,.int .u64 0,.int .u64 0,.int .u64 0,.int .u64 0],codeV 7])∧Below w.heap.size w w')∧(∀ x y,sigP T=some (x,y)→(¬ (isSc (beN x)∧isSc (beN y))→e=.returned (.tuple #[.agg #[.int .u64 0,.int .u64 0,.int .u64 0,.int .u64 0,.int .u64 0,.int .u64 0,.int .u64 0,.int .u64 0,.int .u64 0,.int .u64 0,.int .u64 0,.int .u64 0],codeV 3])∧Below w.heap.size w w')∧(isSc (beN x)→isSc (beN y)→∃ rs ss,e=.returned (.tuple #[.agg (rs++ss).toArray,.nilIface])∧U6 rs (beN x)∧U6 ss (beN y)∧Below w.heap.size w w')))
theorem DecR.bad {w w':World} {B:List Int} {c p:Nat} {er:Value} (h:parseP B=.error (c,p)) (k:ErAt w' c p er) (bel:Below w.heap.size w w'):DecR w B (.returned (.tuple #[.agg #[.int .u64 0,.int .u64 0,.int .u64 0,.int .u64 0,.int .u64 0,.int .u64 0,.int .u64 0,.int .u64 0,.int .u64 0,.int .u64 0,.int .u64 0,.int .u64 0],er])) w' :=
 ⟨fun c2 p2 h2=>(by rw [h] at h2;cases h2;exact ⟨er,rfl,k,bel⟩),fun T h2=>(by rw [h] at h2;cases h2)⟩
theorem DecR.form {w w':World} {B:List Int} {T:Tl} (h:parseP B=.ok T) (k:sigP T=none) (bel:Below w.heap.size w w'):DecR w B (.returned (.tuple #[.agg #[.int .u64 0,.int .u64 0,.int .u64 0,.int .u64 0,.int .u64 0,.int .u64 0,.int .u64 0,.int .u64 0,.int .u64 0,.int .u64 0,.int .u64 0,.int .u64 0],.iface 56 (.int .i64 7)])) w' :=
 ⟨fun c2 p2 h2=>(by rw [h] at h2;cases h2),fun T2 h2=>(by rw [h] at h2;cases h2;exact ⟨fun _=>⟨rfl,bel⟩,fun x y h3=>(by rw [k] at h3;cases h3)⟩)⟩
theorem DecR.range {w w':World} {B:List Int} {T:Tl} {x y:List Int} (h:parseP B=.ok T) (k:sigP T=some (x,y)) (hn:¬ (isSc (beN x)∧isSc (beN y))) (bel:Below w.heap.size w w'):DecR w B (.returned (.tuple #[.agg #[.int .u64 0,.int .u64 0,.int .u64 0,.int .u64 0,.int .u64 0,.int .u64 0,.int .u64 0,.int .u64 0,.int .u64 0,.int .u64 0,.int .u64 0,.int .u64 0],.iface 56 (.int .i64 3)])) w' :=
 ⟨fun c2 p2 h2=>(by rw [h] at h2;cases h2),fun T2 h2=>(by rw [h] at h2;cases h2;exact ⟨fun h3=>(by rw [k] at h3;cases h3),fun x2 y2 h3=>(by rw [k] at h3;cases h3;exact ⟨fun _=>⟨rfl,bel⟩,fun a b=>absurd ⟨a,b⟩ hn⟩)⟩)⟩
theorem DecR.ok {w w':World} {B:List Int} {T:Tl} {x y:List Int} {rs ss us:List Value} (h:parseP B=.ok T) (k:sigP T=some (x,y)) (hr:U6 rs (beN x)) (hs:U6 ss (beN y)) (h1:isSc (beN x)) (h2:isSc (beN y)) (hu:rs++ss=us) (bel:Below w.heap.size w w'):DecR w B (.returned (.tuple #[.agg us.toArray,.nilIface])) w' :=
 ⟨fun c2 p2 h2=>(by rw [h] at h2;cases h2),fun T2 h3=>(by rw [h] at h3;cases h3;exact ⟨fun h4=>(by rw [k] at h4;cases h4),fun x2 y2 h4=>(by rw [k] at h4;cases h4;exact ⟨fun hn=>absurd ⟨h1,h2⟩ hn,fun _ _=>⟨rs,ss,by rw [hu],hr,hs,bel⟩⟩)⟩)⟩
theorem ErAt.ne {w:World} {c p:Nat} {er:Value} (h:ErAt w c p er):∀ w:World,(binOp .neq 36 er .nilIface).run Tryz.prog w=.ok (.bool true) w:=fun w=>by
 rcases h with ⟨_,rfl⟩|⟨_,g,rfl,_⟩
 ·kernel_rfl
 ·kernel_rfl
/-- what was read of the kids so far -/
def RdTo (w:World) (gt:Nat) (ks:List Tl) (i:Nat) (X:List Value):Prop:=(∀ j,j < 2→∃ a n c,X[j]?=some (.slice a n c))∧∀ j,j < i→∃ k n v,ks[j]?=some k∧partP k=some n∧X[j]?=some v∧Bs w v n∧(∀ a m c,v=.slice (some a) m c→0 < m→a.block≠gt)∧byt n∧n.length≤64∧(48 < n.length→QQ≤beN n)
theorem RdTo.later {w w':World} {gt i:Nat} {ks:List Tl} {X:List Value} (h:RdTo w gt ks i X) (hb:Below w.heap.size w w'):RdTo w' gt ks i X :=
 ⟨h.1,fun j hj=>by obtain ⟨k,n,v,h1,h2,h3,h4,h5⟩:=h.2 j hj;exact ⟨k,n,v,h1,h2,h3,h4.later hb,h5⟩⟩
theorem bs_cellC {w:World} {v u:Value} {n:List Int} {g k:Nat} (h:Bs w v n) (hg:∀ a m c,v=.slice (some a) m c→0 < m→a.block≠g):Bs (w.setCell ⟨g,k,none⟩ u) v n:=by
 obtain ⟨ao,cp,e,h1,h2,h3⟩:=h
 refine ⟨ao,cp,e,h1,h2,fun h0=>?_⟩
 obtain ⟨b,o,e2,hb,hc⟩:=h3 h0
 have hne:b≠g:=hg ⟨b,o,none⟩ _ _ (by rw [e,e2]) h0
 refine ⟨b,o,e2,by simpa using hb,fun j hj=>?_⟩
 rw [World.cell?_setCell_far _ _ _ _ (by exact fun h=>hne h.symm)]
 exact hc j hj
theorem RdTo.next {w:World} {gt i:Nat} {ks:List Tl} {X:List Value} {k:Tl} {n:List Int} {a:Option Addr} {m c:Nat} (h:RdTo w gt ks i X) (hX:X.length=2) (hi:i < 2) (hk:ks[i]?=some k) (hp:partP k=some n) (hv:Bs w (.slice a m c) n) (hg:∀ b m' c',Value.slice a m c=.slice (some b) m' c'→0 < m'→b.block≠gt) (hb:byt n) (hl:n.length≤64) (hq:48 < n.length→QQ≤beN n):RdTo (w.setCell ⟨gt,i,none⟩ (.slice a m c)) gt ks (i + 1) (X.set i (.slice a m c)):=by
 refine ⟨fun j hj=>?_,fun j hj=>?_⟩
 ·by_cases e:j=i
  ·subst e
   exact ⟨_,_,_,List.getElem?_set_self (by omega)⟩
  ·rw [List.getElem?_set_ne (fun h=>e h.symm)]
   exact h.1 j hj
 ·by_cases e:j=i
  ·subst e
   exact ⟨k,n,_,hk,hp,List.getElem?_set_self (by omega),bs_cellC hv hg,hg,hb,hl,hq⟩
  ·rw [List.getElem?_set_ne (fun h=>e h.symm)]
   obtain ⟨k',n',v,h1,h2,h3,h4,h5,h6⟩:=h.2 j (by omega)
   exact ⟨k',n',v,h1,h2,h3,bs_cellC h4 h5,h5,h6⟩
end Go.Proofs.YtkgjlcdefnpkpaaGreatDoor
