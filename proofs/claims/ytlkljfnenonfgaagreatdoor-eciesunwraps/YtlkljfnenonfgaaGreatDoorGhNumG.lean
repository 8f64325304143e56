/- The field of blocks as numbers: bit i is x^i; sums are xor. Plain facts: products go either way round, in any order, and spread over sums. Blocks of 16 bytes as numbers: the highest bit of the first byte is x^0. Plain facts. Sums of blocks: bytes filled, their sum by a block, lengths in eight bytes. Plain facts. Rows of whole numbers that stand for a block by their parities. Plain facts. GCM's numbers: counters' blocks, the row, hidden bytes, tags. Plain facts. Bytes in a block of their own; parts of bytes. -/
import Derived.Test.YtlkljfnenonfgaaGreatDoorBase
import Derived.Test.YtlkljfnenonfgaaGreatDoorAeNumG
import Derived.Deep.OwnRows
import Derived.Laws.BytesArg
import Derived.Lib.Strings
namespace Go.Proofs.YtlkljfnenonfgaaGreatDoor
open Go.RowKit
/-- times x -/
def tN2 (v:Nat):Nat:=(v <<< 1) % 2 ^ 128 ^^^ (if v.testBit 127 then 135 else 0)
theorem xor_if (p q:Bool) (c:Nat):(if (p ^^ q) then c else 0)=(if p then c else 0) ^^^ (if q then c else 0):=by
 cases p<;>cases q<;>simp
theorem shl_mod_xor (u v:Nat):((u ^^^ v) <<< 1) % 2 ^ 128=((u <<< 1) % 2 ^ 128) ^^^ ((v <<< 1) % 2 ^ 128):=by
 apply Nat.eq_of_testBit_eq
 intro i
 simp only [Nat.testBit_mod_two_pow,Nat.testBit_xor,Nat.testBit_shiftLeft]
 by_cases h:i < 128<;>by_cases k:1≤i<;>simp [h,k]
theorem xor4_swap (a b c d:Nat):(a ^^^ b) ^^^ (c ^^^ d)=(a ^^^ c) ^^^ (b ^^^ d):=by
 apply Nat.eq_of_testBit_eq
 intro i
 simp only [Nat.testBit_xor]
 cases a.testBit i<;>cases b.testBit i<;>cases c.testBit i<;>cases d.testBit i<;>rfl
theorem tN2_xor (u v:Nat):tN2 (u ^^^ v)=tN2 u ^^^ tN2 v:=by
 unfold tN2
 rw [shl_mod_xor,Nat.testBit_xor,xor_if,xor4_swap]
theorem tN2_0:tN2 0=0:=by decide
/-- times x^k -/
def ttN:Nat→Nat→Nat
 | 0,v=>v
 | k + 1,v=>tN2 (ttN k v)
theorem ttN_xor:∀ (k u v:Nat),ttN k (u ^^^ v)=ttN k u ^^^ ttN k v
 | 0,_,_=>rfl
 | k + 1,u,v=>by rw [ttN,ttN_xor k,tN2_xor];rfl
theorem ttN_0:∀ k,ttN k 0=0
 | 0=>rfl
 | k + 1=>by rw [ttN,ttN_0 k,tN2_0]
theorem ttN_add:∀ (j k v:Nat),ttN (j + k) v=ttN j (ttN k v)
 | 0,k,v=>by rw [Nat.zero_add];rfl
 | j + 1,k,v=>by rw [show j + 1 + k=(j + k) + 1 by omega,ttN,ttN_add j];rfl
theorem tN2_pow {i:Nat} (h:i < 127):tN2 (2 ^ i)=2 ^ (i + 1):=by
 unfold tN2
 have e:(2 ^ i).testBit 127=false:=by rw [Nat.testBit_two_pow];simp;omega
 rw [e,Nat.shiftLeft_eq,← Nat.pow_add_one,Nat.mod_eq_of_lt (Nat.pow_lt_pow_right (by decide) (by omega))]
 simp
/-- x^k -/
theorem ttN_one:∀ {k:Nat},k < 128→ttN k 1=2 ^ k
 | 0,_=>rfl
 | k + 1,h=>by rw [ttN,ttN_one (by omega),tN2_pow (by omega)]
/-- a sum of n -/
def xsN (f:Nat→Nat):Nat→Nat
 | 0=>0
 | n + 1=>xsN f n ^^^ f n
theorem xsN_congr {f g:Nat→Nat}:∀ {n:Nat},(∀ i,i < n→f i=g i)→xsN f n=xsN g n
 | 0,_=>rfl
 | n + 1,h=>by rw [xsN,xsN,xsN_congr (fun i hi=>h i (by omega)),h n (by omega)]
theorem xsN_xor (f g:Nat→Nat):∀ n,xsN (fun i=>f i ^^^ g i) n=xsN f n ^^^ xsN g n
 | 0=>by simp [xsN]
 | n + 1=>by rw [xsN,xsN,xsN,xsN_xor f g n,xor4_swap]
theorem xsN_zero:∀ n,xsN (fun _=>0) n=0
 | 0=>rfl
 | n + 1=>by rw [xsN,xsN_zero n];rfl
theorem xsN_tt (k:Nat) (f:Nat→Nat):∀ n,ttN k (xsN f n)=xsN (fun i=>ttN k (f i)) n
 | 0=>ttN_0 k
 | n + 1=>by rw [xsN,ttN_xor,xsN_tt k f n];rfl
/-- one if the bit is set -/
def atN (a k c:Nat):Nat:=if a.testBit k then c else 0
theorem atN_xor2 (a k c d:Nat):atN a k (c ^^^ d)=atN a k c ^^^ atN a k d:=by
 unfold atN
 cases a.testBit k<;>simp
theorem atN_tt (j a k c:Nat):ttN j (atN a k c)=atN a k (ttN j c):=by
 unfold atN
 cases a.testBit k<;>simp [ttN_0]
/-- a number is the sum of its bits -/
theorem bits_sum (a:Nat):∀ n,xsN (fun i=>atN a i (2 ^ i)) n=a % 2 ^ n
 | 0=>by rw [Nat.pow_zero,Nat.mod_one];rfl
 | n + 1=>by
  rw [xsN,bits_sum a n]
  apply Nat.eq_of_testBit_eq
  intro i
  unfold atN
  rw [Nat.testBit_xor,Nat.testBit_mod_two_pow,Nat.testBit_mod_two_pow]
  by_cases h:i < n
  ·have e:((if a.testBit n then 2 ^ n else 0):Nat).testBit i=false:=by
    split
    ·rw [Nat.testBit_two_pow];simp;omega
    ·exact Nat.zero_testBit i
   rw [e]
   simp [h,show i < n + 1 by omega]
  ·by_cases k:i=n
   ·subst k
    have e:((if a.testBit i then 2 ^ i else 0):Nat).testBit i=a.testBit i:=by
     cases hh:a.testBit i
     ·simp
     ·simp [Nat.testBit_two_pow_self]
    rw [e]
    simp
   ·have e:((if a.testBit n then 2 ^ n else 0):Nat).testBit i=false:=by
     split
     ·rw [Nat.testBit_two_pow];simp;omega
     ·exact Nat.zero_testBit i
    rw [e]
    simp [h,show ¬ i < n + 1 by omega]
theorem bits_all {a:Nat} (h:a < 2 ^ 128):xsN (fun i=>atN a i (2 ^ i)) 128=a:=by
 rw [bits_sum,Nat.mod_eq_of_lt h]
/-- a product -/
def mulN2 (a b:Nat):Nat:=xsN (fun i=>atN a i (ttN i b)) 128
theorem mulN2_xor2 (a b c:Nat):mulN2 a (b ^^^ c)=mulN2 a b ^^^ mulN2 a c:=by
 unfold mulN2
 rw [← xsN_xor]
 exact xsN_congr (fun i _=>by rw [ttN_xor,atN_xor2])
theorem mulN2_tt (j a b:Nat):mulN2 a (ttN j b)=ttN j (mulN2 a b):=by
 unfold mulN2
 rw [xsN_tt]
 exact xsN_congr (fun i _=>by rw [atN_tt,← ttN_add,← ttN_add,Nat.add_comm])
theorem mulN2_one {a:Nat} (h:a < 2 ^ 128):mulN2 a 1=a:=by
 unfold mulN2
 rw [xsN_congr (g:=fun i=>atN a i (2 ^ i)) (fun i hi=>by rw [ttN_one hi])]
 exact bits_all h
theorem mulN2_zero (a:Nat):mulN2 a 0=0:=by
 unfold mulN2
 rw [xsN_congr (g:=fun _=>0) (fun i _=>by rw [ttN_0];unfold atN;simp)]
 exact xsN_zero 128
theorem mulN2_sum (a:Nat) (f:Nat→Nat):∀ n,mulN2 a (xsN f n)=xsN (fun i=>mulN2 a (f i)) n
 | 0=>mulN2_zero a
 | n + 1=>by rw [xsN,mulN2_xor2,mulN2_sum a f n];rfl
theorem mulN2_at (a b k c:Nat):mulN2 a (atN b k c)=atN b k (mulN2 a c):=by
 unfold atN
 cases b.testBit k<;>simp [mulN2_zero]
/-- either way round -/
theorem mulN2_comm {a b:Nat} (ha:a < 2 ^ 128) (hb:b < 2 ^ 128):mulN2 a b=mulN2 b a:=by
 conv=>lhs;rw [← bits_all hb]
 rw [mulN2_sum]
 show _=xsN (fun i=>atN b i (ttN i a)) 128
 refine xsN_congr (fun i hi=>?_)
 rw [mulN2_at,← ttN_one hi,mulN2_tt,mulN2_one ha]
/-- the coefficient of x^i -/
def cbB (S:List Int) (i:Nat):Bool:=(S.getD (i / 8) 0).toNat.testBit (7 - i % 8)
def blkN (S:List Int):Nat:=xsN (fun i=>if cbB S i then 2 ^ i else 0) 128
theorem xs_bit (f:Nat→Bool) (i:Nat):∀ n,(xsN (fun i=>if f i then 2 ^ i else 0) n).testBit i=(decide (i < n) && f i)
 | 0=>by simp [xsN]
 | n + 1=>by
  rw [xsN,Nat.testBit_xor,xs_bit f i n]
  by_cases e:i=n
  ·subst e
   cases f i<;>simp [Nat.testBit_two_pow_self]
  ·have h:((if f n then 2 ^ n else 0):Nat).testBit i=false:=by
    split
    ·rw [Nat.testBit_two_pow];simp;omega
    ·exact Nat.zero_testBit i
   rw [h]
   by_cases k:i < n
   ·simp [k,show i < n + 1 by omega]
   ·simp [k,show ¬ i < n + 1 by omega]
theorem blkN_bit (S:List Int) (i:Nat):(blkN S).testBit i=(decide (i < 128) && cbB S i):=xs_bit _ i 128
theorem blkN_lt (S:List Int):blkN S < 2 ^ 128:=by
 apply Nat.lt_pow_two_of_testBit
 intro i hi
 rw [blkN_bit]
 simp;omega
/-- a byte of eight bits, the highest first -/
def byte8 (f:Nat→Bool):Nat:=(f 0).toNat * 128 + (f 1).toNat * 64 + (f 2).toNat * 32 + (f 3).toNat * 16 + (f 4).toNat * 8 + (f 5).toNat * 4 + (f 6).toNat * 2 + (f 7).toNat
theorem byte8_lt (f:Nat→Bool):byte8 f < 256:=by
 unfold byte8
 have t:∀ b:Bool,b.toNat≤1:=fun b=>by cases b<;>decide
 have h0:=t (f 0);have h1:=t (f 1);have h2:=t (f 2);have h3:=t (f 3);have h4:=t (f 4);have h5:=t (f 5);have h6:=t (f 6);have h7:=t (f 7)
 omega
theorem byte8_all:∀ b0 b1 b2 b3 b4 b5 b6 b7:Bool,∀ r:Fin 8,(b0.toNat * 128 + b1.toNat * 64 + b2.toNat * 32 + b3.toNat * 16 + b4.toNat * 8 + b5.toNat * 4 + b6.toNat * 2 + b7.toNat).testBit (7 - r.1)=[b0,b1,b2,b3,b4,b5,b6,b7].getD r.1 false:=by decide +kernel
theorem byte8_bit (f:Nat→Bool) {r:Nat} (h:r < 8):(byte8 f).testBit (7 - r)=f r:=by
 have e:=byte8_all (f 0) (f 1) (f 2) (f 3) (f 4) (f 5) (f 6) (f 7) ⟨r,h⟩
 have k:[f 0,f 1,f 2,f 3,f 4,f 5,f 6,f 7].getD r false=f r:=by
  match r,h with
  | 0,_=>rfl
  | 1,_=>rfl
  | 2,_=>rfl
  | 3,_=>rfl
  | 4,_=>rfl
  | 5,_=>rfl
  | 6,_=>rfl
  | 7,_=>rfl
 rw [← k]
 exact e
/-- a number's block -/
def ofN (v:Nat):List Int:=(List.range 16).map fun j=>((byte8 (fun r=>v.testBit (8 * j + r)):Nat):Int)
theorem ofN_len (v:Nat):(ofN v).length=16:=by simp [ofN]
theorem ofN_get (v:Nat) {j:Nat} (h:j < 16):(ofN v).getD j 0=((byte8 (fun r=>v.testBit (8 * j + r)):Nat):Int):=by
 simp [ofN,List.getD_eq_getElem?_getD,h]
theorem ofN_byt (v:Nat):byt (ofN v):=byt_of _ (fun j hj=>by
 rw [ofN_len] at hj
 rw [ofN_get v hj]
 have:=byte8_lt (fun r=>v.testBit (8 * j + r))
 omega)
/-- the product of blocks -/
def mulB (A B:List Int):List Int:=ofN (mulN2 (blkN A) (blkN B))
theorem mulB_len (A B:List Int):(mulB A B).length=16:=ofN_len _
theorem mulB_byt (A B:List Int):byt (mulB A B):=ofN_byt _
theorem xk_len (A B:List Int):(xkN A B).length=16:=xkZ_len A B 16
def padK (n:Nat):Nat:=(16 - n % 16) % 16
/-- with noughts behind -/
def filF (B:List Int):List Int:=B++List.replicate (padK B.length) 0
theorem filF_len (B:List Int):(filF B).length=16 * ((B.length + 15) / 16):=by
 rw [filF,List.length_append,List.length_replicate]
 unfold padK
 omega
theorem byt_zeros (n:Nat):byt (List.replicate n 0):=fun j=>by
 rw [List.getD_eq_getElem?_getD,List.getElem?_replicate]
 split<;>decide
theorem byt_two {A B:List Int} (ha:byt A) (hb:byt B):byt (A++B):=fun j=>by
 rw [List.getD_eq_getElem?_getD,List.getElem?_append]
 split
 ·rw [← List.getD_eq_getElem?_getD];exact ha j
 ·rw [← List.getD_eq_getElem?_getD];exact hb _
theorem filF_byt {B:List Int} (h:byt B):byt (filF B):=byt_two h (byt_zeros _)
/-- the q-th block -/
def bkQ (C:List Int) (q:Nat):List Int:=(C.drop (16 * q)).take 16
theorem bkQ_get {C:List Int} {q j:Nat} (h:j < 16):(bkQ C q).getD j 0=C.getD (16 * q + j) 0:=by
 unfold bkQ
 rw [List.getD_eq_getElem?_getD,List.getElem?_take,if_pos h,List.getElem?_drop,← List.getD_eq_getElem?_getD]
theorem bkQ_byt {C:List Int} (h:byt C) (q:Nat):byt (bkQ C q):=fun j=>by
 by_cases k:j < 16
 ·rw [bkQ_get k];exact h _
 ·unfold bkQ
  rw [List.getD_eq_getElem?_getD,List.getElem?_take,if_neg k]
  exact ⟨by decide,by decide⟩
/-- the sum of the first q blocks -/
def hashQ (H C:List Int):Nat→List Int
 | 0=>List.replicate 16 0
 | q + 1=>mulB (xkN (hashQ H C q) (bkQ C q)) H
theorem hashQ_len (H C:List Int):∀ q,(hashQ H C q).length=16
 | 0=>List.length_replicate
 | _ + 1=>mulB_len _ _
theorem hashQ_byt (H C:List Int):∀ q,byt (hashQ H C q)
 | 0=>byt_zeros 16
 | _ + 1=>mulB_byt _ _
def hashB (H B:List Int):List Int:=hashQ H (filF B) ((filF B).length / 16)
theorem hashB_len (H B:List Int):(hashB H B).length=16:=hashQ_len _ _ _
theorem hashB_byt (H B:List Int):byt (hashB H B):=hashQ_byt _ _ _
/-- how many bits, in eight bytes -/
def lenN (n:Nat):List Int:=(List.range 8).map fun j=>((8 * n / 256 ^ (7 - j) % 256:Nat):Int)
theorem lenN_len (n:Nat):(lenN n).length=8:=by simp [lenN]
def wholeB (H A B:List Int):List Int:=hashB H (filF A++filF B++lenN A.length++lenN B.length)
theorem byt_eq {A B:List Int} (la:A.length=16) (lb:B.length=16) (h:∀ j,j < 16→A.getD j 0=B.getD j 0):A=B:=by
 apply List.ext_getElem (by omega)
 intro j h1 h2
 have:=h j (by omega)
 simpa [List.getD_eq_getElem?_getD,h1,h2] using this
/-- each of them at most b -/
def upTo (X:List Int) (b:Int):Prop:=∀ m,0≤X.getD m 0∧X.getD m 0≤b
theorem upTo.mono {X:List Int} {b d:Int} (h:upTo X b) (k:b≤d):upTo X d:=fun m=>by have:=h m;omega
/-- the counter's block n of a nonce -/
def ctrN (N:List Int) (n:Nat):List Int:=(List.range 16).map fun j=>if j < 12 then N.getD j 0 else ((n / 256 ^ (15 - j) % 256:Nat):Int)
theorem ctrN_len (N:List Int) (n:Nat):(ctrN N n).length=16:=by simp [ctrN]
theorem ctrN_byt {N:List Int} (h:byt N) (n:Nat):byt (ctrN N n):=byt_map fun j _=>by
 split
 ·exact h j
 ·have:n / 256 ^ (15 - j) % 256 < 256:=Nat.mod_lt _ (by decide)
  omega
/-- the code of the counter's block n -/
def rowN (K N:List Int) (n:Nat):List Int:=encN K (ctrN N n) 15
theorem rowN_len (K N:List Int) (n:Nat):(rowN K N n).length=16:=encN_len (ctrN_len N n) 15
theorem rowN_byt {K N:List Int} (k:byt K) (h:byt N) (n:Nat):byt (rowN K N n):=encN_byt (ctrN_byt h n) k 15
/-- the row's byte i -/
def rwb (K N:List Int) (i:Nat):Int:=(rowN K N (2 + i / 16)).getD (i % 16) 0
/-- bytes hidden: the first k -/
def hidZ (K N B:List Int) (k:Nat):List Int:=(List.range k).map fun i=>bits .xor .u8 (B.getD i 0) (rwb K N i)
def hidN (K N B:List Int):List Int:=hidZ K N B B.length
theorem hidZ_len (K N B:List Int) (k:Nat):(hidZ K N B k).length=k:=by simp [hidZ]
theorem hidN_len (K N B:List Int):(hidN K N B).length=B.length:=hidZ_len _ _ _ _
theorem hidN_get {K N B:List Int} {i:Nat} (h:i < B.length):(hidN K N B).getD i 0=bits .xor .u8 (B.getD i 0) (rwb K N i):=by
 simp [hidN,hidZ,List.getD_eq_getElem?_getD,h]
theorem rwb_byte {K N:List Int} (k:byt K) (h:byt N) (i:Nat):0≤rwb K N i∧rwb K N i < 256:=rowN_byt k h _ _
theorem hidN_byt {K N B:List Int} (k:byt K) (h:byt N) (b:byt B):byt (hidN K N B):=byt_of _ (fun j hj=>by
 rw [hidN_len] at hj
 rw [hidN_get hj]
 exact xorb_byte (b j) (rwb_byte k h j))
theorem xor_twice {x y:Int} (hx:0≤x∧x < 256) (hy:0≤y∧y < 256):bits .xor .u8 (bits .xor .u8 x y) y=x:=by
 obtain ⟨a,rfl⟩:=Int.eq_ofNat_of_zero_le hx.1
 obtain ⟨b,rfl⟩:=Int.eq_ofNat_of_zero_le hy.1
 have l:=Nat.xor_lt_two_pow (x:=a) (y:=b) (n:=8) (by omega) (by omega)
 rw [u8_xor_nat _ _ (by omega) (by omega),u8_xor_nat _ _ l (by omega),Nat.xor_assoc,Nat.xor_self,Nat.xor_zero]
theorem xor_same {x y:Int} (hx:0≤x∧x < 256) (hy:0≤y∧y < 256):bits .xor .u8 x y=x↔y=0:=by
 obtain ⟨a,rfl⟩:=Int.eq_ofNat_of_zero_le hx.1
 obtain ⟨b,rfl⟩:=Int.eq_ofNat_of_zero_le hy.1
 rw [u8_xor_nat _ _ (by omega) (by omega)]
 constructor
 ·intro h
  have h:a ^^^ b=a:=by omega
  have e:a ^^^ (a ^^^ b)=a ^^^ a:=by rw [h]
  rw [← Nat.xor_assoc,Nat.xor_self,Nat.zero_xor] at e
  omega
 ·intro h
  have h:b=0:=by omega
  rw [h,Nat.xor_zero]
/-- what was hidden is told -/
theorem hid_back {K N B:List Int} (k:byt K) (h:byt N) (b:byt B):hidN K N (hidN K N B)=B:=by
 apply List.ext_getElem?
 intro i
 by_cases hi:i < B.length
 ·have h1:=hidN_get (K:=K) (N:=N) (B:=hidN K N B) (i:=i) (by rw [hidN_len];exact hi)
  rw [hidN_get hi,xor_twice (b i) (rwb_byte k h i)] at h1
  rw [List.getD_eq_getElem?_getD,List.getD_eq_getElem?_getD,List.getElem?_eq_getElem (by rw [hidN_len,hidN_len];exact hi),List.getElem?_eq_getElem hi,Option.getD_some,Option.getD_some] at h1
  rw [List.getElem?_eq_getElem (by rw [hidN_len,hidN_len];exact hi),List.getElem?_eq_getElem hi,h1]
 ·rw [List.getElem?_eq_none (by rw [hidN_len,hidN_len];omega),List.getElem?_eq_none (by omega)]
/-- the tag of hidden bytes -/
def tagN (K N A H:List Int):List Int:=xkN (wholeB (encN K (List.replicate 16 0) 15) A H) (rowN K N 1)
theorem tagN_len (K N A H:List Int):(tagN K N A H).length=16:=xk_len _ _
theorem tagN_byt {K N A H:List Int} (k:byt K) (h:byt N):byt (tagN K N A H):=xkN_byt (hashB_byt _ _) (rowN_byt k h 1)
def sealN (K N A B:List Int):List Int:=hidN K N B++tagN K N A (hidN K N B)
theorem sealN_len (K N A B:List Int):(sealN K N A B).length=B.length + 16:=by rw [sealN,List.length_append,hidN_len,tagN_len]
theorem sealN_byt {K N A B:List Int} (k:byt K) (h:byt N) (b:byt B):byt (sealN K N A B):=byt_two (hidN_byt k h b) (tagN_byt k h)
theorem seal_take (K N A B:List Int):(sealN K N A B).take B.length=hidN K N B:=by
 rw [sealN,List.take_append_of_le_length (by rw [hidN_len];exact Nat.le_refl _),List.take_of_length_le (by rw [hidN_len];exact Nat.le_refl _)]
theorem seal_drop (K N A B:List Int):(sealN K N A B).drop B.length=tagN K N A (hidN K N B):=by
 rw [sealN,List.drop_append_of_le_length (by rw [hidN_len];exact Nat.le_refl _),List.drop_of_length_le (by rw [hidN_len];exact Nat.le_refl _),List.nil_append]
/-- with a byte of the tag turned -/
theorem turn_take {S:List Int} {n i:Nat} {x:Int} (h:n≤i):(S.set i x).take n=S.take n:=by
 rw [List.take_set]
 exact List.set_eq_of_length_le (by rw [List.length_take];omega)
theorem turn_same {S:List Int} {n i:Nat} {x:Int} (h:n≤i) (hi:i < S.length):(S.set i x).drop n=S.drop n↔x=S.getD i 0:=by
 constructor
 ·intro e
  have e2:((S.set i x).drop n)[i - n]?=(S.drop n)[i - n]?:=by rw [e]
  rw [List.getElem?_drop,List.getElem?_drop,show n + (i - n)=i by omega,List.getElem?_set_self hi,List.getElem?_eq_getElem hi] at e2
  rw [List.getD_eq_getElem?_getD,List.getElem?_eq_getElem hi]
  simpa using e2
 ·intro e
  rw [e,List.getD_eq_getElem?_getD,List.getElem?_eq_getElem hi,Option.getD_some,List.set_getElem_self]
/-- bytes in a block that was not there before -/
def FreshB (w w':World) (v:Value) (X:List Int):Prop:=∃ g o cap cur,v=.slice (some ⟨g,o,none⟩) X.length cap∧X.length≤cap∧cap≤maxLen∧w.heap.size≤g∧Blk w' g cur∧∀ j,j < X.length→cur[o + j]?=some (.int .u8 (X.getD j 0))
theorem FreshB.bs {w w':World} {v:Value} {X:List Int} (h:FreshB w w' v X):Bs w' v X:=by
 obtain ⟨g,o,cap,cur,rfl,h1,h2,h3,h4,h5⟩:=h
 exact ⟨_,cap,rfl,h2,h1,fun _=>⟨g,o,rfl,h4.lt,fun j hj=>h4.cell _ _ (h5 j hj)⟩⟩
theorem FreshB.of_own {w w':World} {e:TypeId} {v:Value} {n:Nat} {X:List Int} (h:w'.ownsRow w.heap.size e 1 v n (u8s X)) (h0:0 < n):FreshB w w' v X:=by
 obtain ⟨hl,h⟩:=h
 have hn:X.length=n:=by simpa using hl
 rcases h with ⟨h1,h2⟩|⟨g,cap,cur,h1,h2,h3,h4,h5,h6,h7⟩
 ·omega
 ·refine ⟨g,0,cap,cur.toList,by rw [hn];exact h1,by omega,h5,h2,⟨e,by simpa using h3⟩,fun j hj=>?_⟩
  have e1:(cur.toList.take (n * 1))[j]?=some (.int .u8 (X.getD j 0)):=by rw [h7];exact u8s_get X j hj
  rw [List.getElem?_take,if_pos (by omega)] at e1
  rw [Nat.zero_add]
  exact e1
theorem bs_uptoC {w:World} {ao:Option Addr} {n r cap:Nat} {B:List Int} (h:Bs w (.slice ao n cap) B) (hn:B.length=n) (hr:r≤n):Bs w (.slice ao r cap) (B.take r):=by
 obtain ⟨a,c,e,h1,h2,h3⟩:=h
 obtain ⟨rfl,_,rfl⟩:ao=a∧n=B.length∧cap=c:=by simpa using e
 have el:(B.take r).length=r:=by rw [List.length_take];omega
 refine ⟨ao,cap,by rw [el],h1,by rw [el];omega,fun h0=>?_⟩
 rw [el] at h0
 obtain ⟨b,o,rfl,k1,k2⟩:=h3 (by omega)
 refine ⟨b,o,rfl,k1,fun j hj=>?_⟩
 rw [el] at hj
 rw [k2 j (by omega),List.getD_eq_getElem?_getD,List.getD_eq_getElem?_getD,List.getElem?_take,if_pos hj]
theorem byt_takeC {B:List Int} (h:byt B) (r:Nat):byt (B.take r):=by
 intro j
 rw [List.getD_eq_getElem?_getD,List.getElem?_take]
 split
 ·rw [← List.getD_eq_getElem?_getD];exact h j
 ·exact ⟨by decide,by decide⟩
theorem byt_dropC {B:List Int} (h:byt B) (r:Nat):byt (B.drop r):=by
 intro j
 rw [List.getD_eq_getElem?_getD,List.getElem?_drop,← List.getD_eq_getElem?_getD]
 exact h _
theorem bs_dropC {w:World} {b o n r cap:Nat} {B:List Int} (h:Bs w (.slice (some ⟨b,o,none⟩) n cap) B) (hn:B.length=n) (hr:r < n):Bs w (.slice (some ⟨b,o + r,none⟩) (n - r) (cap - r)) (B.drop r):=by
 obtain ⟨a,c,e,h1,h2,h3⟩:=h
 obtain ⟨rfl,_,rfl⟩:some ⟨b,o,none⟩=a∧n=B.length∧cap=c:=by simpa using e
 have el:(B.drop r).length=n - r:=by rw [List.length_drop];omega
 obtain ⟨b',o',e',k1,k2⟩:=h3 (by omega)
 simp only [Option.some.injEq,Addr.mk.injEq] at e'
 obtain ⟨rfl,rfl,-⟩:=e'
 refine ⟨_,cap - r,by rw [el],by omega,by rw [el];omega,fun _=>⟨b,o + r,rfl,k1,fun j hj=>?_⟩⟩
 rw [el] at hj
 rw [Nat.add_assoc,k2 (r + j) (by omega),List.getD_eq_getElem?_getD,List.getD_eq_getElem?_getD,List.getElem?_drop]
/-- a block's type -/
def TyB (w:World) (g:Nat) (t:TypeId):Prop:=∃ cs:Array Value,w.heap[g]?=some (.cells cs t)
theorem TyB.new (w:World) (cs:Array Value) (t:TypeId) (g:Nat) (hg:g=w.heap.size):TyB (w.alloc (.cells cs t)) g t:=by
 subst hg
 exact ⟨cs,by show (w.heap.push _)[w.heap.size]?=_;simp⟩
theorem TyB.lt {w:World} {g:Nat} {t:TypeId} (h:TyB w g t):g < w.heap.size:=by
 obtain ⟨cs,h⟩:=h
 exact (Array.getElem?_eq_some_iff.1 h).1
theorem TyB.alloc {w:World} {g:Nat} {t:TypeId} (h:TyB w g t) (o:Obj):TyB (w.alloc o) g t:=by
 have hl:=h.lt
 obtain ⟨cs,h⟩:=h
 exact ⟨cs,by rw [Below.heap_alloc _ _ _ hl];exact h⟩
theorem TyB.later {w w':World} {g:Nat} {t:TypeId} (h:TyB w g t) (hb:Below w.heap.size w w'):TyB w' g t:=by
 have hl:=h.lt
 obtain ⟨cs,h⟩:=h
 exact ⟨cs,by rw [hb.block g hl];exact h⟩
theorem TyB.drew {w:World} {g:Nat} {t:TypeId} (h:TyB w g t):TyB w.drew g t:=h
theorem TyB.row {w:World} {g c:Nat} {t:TypeId} {cs:Array Value} (h:TyB w g t) (hc:g≠c):TyB (w.setRow c cs) g t:=by
 obtain ⟨ds,h⟩:=h
 exact ⟨ds,by rw [setRow_other _ _ _ _ hc];exact h⟩
theorem TyB.set {w:World} {g:Nat} {t:TypeId} (h:TyB w g t) (k:Nat) (v:Value):TyB (w.setCell ⟨g,k,none⟩ v) g t:=by
 obtain ⟨cs,h⟩:=h
 exact ⟨cs.setIfInBounds k v,by simp [World.setCell,Array.getElem?_modify,h]⟩
/-- a block known whole as a row of one's own -/
theorem own_blk {w:World} {base g:Nat} {e:TypeId} {X:List Int} {n:Nat} (T:TyB w g e) (B:Blk w g (u8s X)) (hb:base≤g) (hn:X.length=n) (hm:n≤maxLen):w.ownsRow base e 1 (.slice (some ⟨g,0,none⟩) n n) n (u8s X):=by
 subst hn
 obtain ⟨cs,h1⟩:=T
 obtain ⟨t,h2⟩:=B
 rw [h1] at h2
 simp only [Option.some.injEq,Obj.cells.injEq] at h2
 obtain ⟨rfl,rfl,-⟩:=h2
 refine ⟨by simp,.inr ⟨g,X.length,(u8s X).toArray,rfl,hb,h1,Nat.le_refl _,hm,?_⟩⟩
 simp
 exact List.take_of_length_le (by simp [u8s])
end Go.Proofs.YtlkljfnenonfgaaGreatDoor
