/- Blocks in two halves of 64 bits, the first coefficient highest: what the program's words of ghash hold. Plain facts. -/
import Derived.Test.YtlkljfnenonfgaaGreatDoorGhNumG
import Derived.Test.YtlkljfnenonfgaaGreatDoorAeLaneG
namespace Go.Proofs.YtlkljfnenonfgaaGreatDoor
open Go.RowKit
/-- bits o, o - 1, .. of a number, the first lowest: half a block -/
def rvB (v o:Nat):Nat:=xsN (fun k=>if v.testBit (o - k) then 2 ^ k else 0) 64
theorem rvB_bit (v o k:Nat):(rvB v o).testBit k=(decide (k < 64) && v.testBit (o - k)):=xs_bit (fun k=>v.testBit (o - k)) k 64
theorem rvB_lt (v o:Nat):rvB v o < 18446744073709551616:=by
 refine Nat.lt_pow_two_of_testBit (n:=64) _ (fun i hi=>?_)
 rw [rvB_bit]
 simp;omega
theorem word_ext {u v:Nat} (hu:u < 18446744073709551616) (hv:v < 18446744073709551616) (h:∀ i,i < 64→u.testBit i=v.testBit i):u=v:=by
 apply Nat.eq_of_testBit_eq
 intro i
 by_cases k:i < 64
 ·exact h i k
 ·have pw:(18446744073709551616:Nat)≤2 ^ i:=Nat.pow_le_pow_right (show 0 < 2 by decide) (show 64≤i by omega)
  rw [Nat.testBit_lt_two_pow (Nat.lt_of_lt_of_le hu pw),Nat.testBit_lt_two_pow (Nat.lt_of_lt_of_le hv pw)]
theorem rvB_xor (u v o:Nat):rvB (u ^^^ v) o=rvB u o ^^^ rvB v o:=by
 refine word_ext (rvB_lt _ _) (Nat.xor_lt_two_pow (n:=64) (rvB_lt _ _) (rvB_lt _ _)) (fun i hi=>?_)
 rw [Nat.testBit_xor,rvB_bit,rvB_bit,rvB_bit,Nat.testBit_xor]
 simp [hi]
theorem rvB_0 (o:Nat):rvB 0 o=0:=by
 refine word_ext (rvB_lt _ _) (by decide) (fun i _=>?_)
 rw [rvB_bit]
 simp
/-- half a block as the program holds it -/
def rvI (v o:Nat):Int:=((rvB v o:Nat):Int)
theorem rvI_0 (o:Nat):rvI 0 o=0:=by
 unfold rvI
 rw [rvB_0]
 rfl
/-- all ones, or none -/
def maskI (b:Bool):Int:=if b then 18446744073709551615 else 0
theorem mask_neg (b:Bool):IntKind.u64.wrap (-((b.toNat:Nat):Int))=maskI b:=by cases b<;>decide
theorem mask_negZ (b:Bool) {x:Int} (h:x=((b.toNat:Nat):Int)):IntKind.u64.wrap (-x)=maskI b:=by
 subst h
 exact mask_neg b
theorem and_mask (v o:Nat) (b:Bool):bits .and .u64 (rvI v o) (maskI b)=rvI (if b then v else 0) o:=by
 cases b
 ·have e:maskI false=((0:Nat):Int):=rfl
  unfold rvI
  rw [e,u64_and_nat _ _ (rvB_lt v o) (by decide),Nat.and_zero]
  simp only [Bool.false_eq_true,if_false,rvB_0]
 ·have e:maskI true=((18446744073709551615:Nat):Int):=rfl
  unfold rvI
  rw [e,u64_and_nat _ _ (rvB_lt v o) (by decide)]
  have k:rvB v o &&& 18446744073709551615=rvB v o:=by
   have:=Nat.and_two_pow_sub_one_of_lt_two_pow (n:=64) (rvB_lt v o)
   exact this
  rw [k]
  simp
theorem xor_rvI (u v o:Nat):bits .xor .u64 (rvI u o) (rvI v o)=rvI (u ^^^ v) o:=by
 unfold rvI
 rw [u64_xor_nat _ _ (rvB_lt u o) (rvB_lt v o),rvB_xor]
/-- the bit that falls out behind -/
theorem low_bit (v:Nat):bits .and .u64 (rvI v 127) 1=(((v.testBit 127).toNat:Nat):Int):=by
 unfold rvI
 rw [show (1:Int)=((1:Nat):Int) from rfl,u64_and_nat _ _ (rvB_lt v 127) (by decide),Nat.and_one_is_mod]
 have h:=rvB_bit v 127 0
 rw [Nat.testBit_zero] at h
 simp only [show (0:Nat) < 64 by decide,decide_true,Bool.true_and,Nat.sub_zero] at h
 rw [← h]
 rcases Nat.mod_two_eq_zero_or_one (rvB v 127) with e|e<;>rw [e]<;>rfl
theorem rest_bits:∀ k:Fin 64,(16212958658533785600:Nat).testBit k.1=(135:Nat).testBit (63 - k.1):=by decide +kernel
theorem rest_up {k:Nat} (h:64≤k):(135:Nat).testBit k=false:=Nat.testBit_lt_two_pow (Nat.lt_of_lt_of_le (show 135 < 2 ^ 64 by decide) (Nat.pow_le_pow_right (by decide) h))
theorem tN2_bit (v k:Nat) (h:k < 128):(tN2 v).testBit k=((decide (1≤k) && v.testBit (k - 1)) ^^ (v.testBit 127 && (135:Nat).testBit k)):=by
 unfold tN2
 rw [Nat.testBit_xor,Nat.testBit_mod_two_pow,Nat.testBit_shiftLeft]
 simp only [h,decide_true,Bool.true_and,ge_iff_le]
 cases v.testBit 127<;>simp
theorem half_bit (x i:Nat):(x / 2).testBit i=x.testBit (i + 1):=by
 have:=Nat.testBit_div_two_pow x (i:=i) (n:=1)
 simpa using this
/-- times x, the first half -/
theorem high_x (v:Nat):bits .xor .u64 (rvI v 63 / 2) (bits .and .u64 (maskI (v.testBit 127)) 16212958658533785600)=rvI (tN2 v) 63:=by
 have h1:rvI v 63 / 2=((rvB v 63 / 2:Nat):Int):=by unfold rvI;omega
 have h2:bits .and .u64 (maskI (v.testBit 127)) 16212958658533785600=(((if v.testBit 127 then 16212958658533785600 else 0):Nat):Int):=by cases v.testBit 127<;>decide
 have hl:=rvB_lt v 63
 have h3:(if v.testBit 127 then 16212958658533785600 else 0:Nat) < 18446744073709551616:=by split<;>decide
 rw [h1,h2,u64_xor_nat _ _ (by omega) h3]
 unfold rvI
 refine congrArg _ (word_ext (Nat.xor_lt_two_pow (n:=64) (by omega) h3) (rvB_lt _ _) (fun i hi=>?_))
 rw [Nat.testBit_xor,half_bit,rvB_bit,rvB_bit,tN2_bit _ _ (by omega),← rest_bits ⟨i,hi⟩]
 simp only [hi,decide_true,Bool.true_and]
 rw [show (decide (i + 1 < 64))=decide (1≤63 - i) from decide_eq_decide.2 (by omega),show 63 - (i + 1)=63 - i - 1 by omega]
 cases v.testBit 127<;>simp
/-- times x, the other half -/
theorem low_x (v:Nat):bits .or .u64 (IntKind.u64.wrap (rvI v 63 * 9223372036854775808)) (rvI v 127 / 2)=rvI (tN2 v) 127:=by
 have hl:=rvB_lt v 127
 have hh:=rvB_lt v 63
 have h1:rvI v 127 / 2=((rvB v 127 / 2:Nat):Int):=by unfold rvI;omega
 have h2:IntKind.u64.wrap (rvI v 63 * 9223372036854775808)=((rvB v 63 * 9223372036854775808 % 18446744073709551616:Nat):Int):=by rw [IntKind.wrap_u64];unfold rvI;omega
 have h3:rvB v 63 * 9223372036854775808 % 18446744073709551616 < 18446744073709551616:=Nat.mod_lt _ (by decide)
 rw [h1,h2,u64_or_nat _ _ h3 (by omega)]
 unfold rvI
 refine congrArg _ (word_ext (Nat.or_lt_two_pow (n:=64) h3 (by omega)) (rvB_lt _ _) (fun i hi=>?_))
 have e:rvB v 63 * 9223372036854775808 % 18446744073709551616=rvB v 63 <<< 63 % 2 ^ 64:=by rw [Nat.shiftLeft_eq]
 rw [Nat.testBit_or,half_bit,rvB_bit,rvB_bit,e,Nat.testBit_mod_two_pow,Nat.testBit_shiftLeft,rvB_bit,tN2_bit _ _ (by omega),rest_up (show 64≤127 - i by omega)]
 simp only [hi,decide_true,Bool.true_and,Bool.and_false,Bool.xor_false]
 by_cases k:i=63
 ·subst k
  simp
 ·simp only [show ¬ 63≤i by omega,show i + 1 < 64 by omega,show 1≤127 - i by omega,decide_true,decide_false,Bool.false_and,Bool.false_or,Bool.true_and]
  rw [show 127 - (i + 1)=127 - i - 1 by omega]
/-- a coefficient, as the program takes it out of a byte -/
theorem coef_bit {B:List Int} (h:byt B) (i:Nat) {n:Nat} (hn:n=7 - i % 8):IntKind.u64.wrap (bits .and .u8 (B.getD (i / 8) 0 / 2 ^ n) 1)=(((cbB B i).toNat:Nat):Int):=by
 subst hn
 have hb:=h (i / 8)
 obtain ⟨x,hx⟩:=Int.eq_ofNat_of_zero_le hb.1
 have e:(x:Int) / 2 ^ (7 - i % 8)=((x / 2 ^ (7 - i % 8):Nat):Int):=by
  rw [Int.natCast_ediv]
  simp
 have l:x / 2 ^ (7 - i % 8) < 256:=Nat.lt_of_le_of_lt (Nat.div_le_self _ _) (by omega)
 unfold cbB
 rw [hx,e,show (1:Int)=((1:Nat):Int) from rfl,u8_and_nat _ _ l (by decide),Nat.and_one_is_mod,Int.toNat_natCast]
 have t:x.testBit (7 - i % 8)=decide (x / 2 ^ (7 - i % 8) % 2=1):=by rw [Nat.testBit_eq_decide_div_mod_eq]
 rw [t]
 rcases Nat.mod_two_eq_zero_or_one (x / 2 ^ (7 - i % 8)) with e|e<;>rw [e]<;>rfl
/-- a product so far -/
def prP (a b i:Nat):Nat:=xsN (fun j=>atN b j (ttN j a)) i
theorem prP_next (a b i:Nat):prP a b (i + 1)=prP a b i ^^^ (if b.testBit i then ttN i a else 0):=rfl
theorem prP_all {A B:List Int}:ofN (prP (blkN A) (blkN B) 128)=mulB A B:=by
 show ofN (mulN2 (blkN B) (blkN A))=ofN (mulN2 (blkN A) (blkN B))
 rw [mulN2_comm (blkN_lt B) (blkN_lt A)]
/-- words of eight bytes are halves -/
theorem jn_bit:∀ {xs:List Nat} (k:Nat),lan xs→(jn xs).testBit k=(xs.getD (k / 8) 0).testBit (k % 8)
 | [],k,_=>by simp [jn]
 | x :: xs,k,h=>by
  have l:=lan_cons h
  rw [jn,tb x (jn xs) k l.1]
  split
  ·rename_i hk
   rw [show k / 8=0 by omega,show k % 8=k by omega,List.getD_cons_zero]
  ·rename_i hk
   rw [jn_bit (k - 8) l.2,show k / 8=(k - 8) / 8 + 1 by omega,List.getD_cons_succ,show k % 8=(k - 8) % 8 by omega]
theorem half_of {A:List Int} (b:byt A) {o:Nat} (ho:o≤8):((jn (rvN A o 8):Nat):Int)=rvI (blkN A) (8 * o + 63):=by
 unfold rvI
 refine congrArg _ (word_ext ?_ (rvB_lt _ _) (fun k hk=>?_))
 ·exact jn_64 (rvN_len A o 8) (rvN_lan b o 8)
 ·have g:=rvN_get (X:=A) (o:=o) (n:=8) (i:=7 - k / 8) (by omega)
  rw [show 8 - 1 - (7 - k / 8)=k / 8 by omega] at g
  rw [jn_bit k (rvN_lan b o 8),g,rvB_bit,blkN_bit]
  simp only [hk,decide_true,Bool.true_and,show 8 * o + 63 - k < 128 by omega]
  unfold cbB
  rw [show (8 * o + 63 - k) / 8=o + (7 - k / 8) by omega,show 7 - (8 * o + 63 - k) % 8=k % 8 by omega]
/-- two words' bytes, the highest of each first -/
def wdsL (x y:Nat):List Int:=(List.range 16).map fun j=>(((if j < 8 then x / 2 ^ (56 - 8 * j) else y / 2 ^ (56 - 8 * (j - 8))) % 256:Nat):Int)
def wdsZ (x y k:Nat):List Int:=(List.range 16).map fun j=>if j < k∨(8≤j∧j < 8 + k) then (((if j < 8 then x / 2 ^ (56 - 8 * j) else y / 2 ^ (56 - 8 * (j - 8))) % 256:Nat):Int) else 0
def wdsY (x y k:Nat):List Int:=(List.range 16).map fun j=>if j < k + 1∨(8≤j∧j < 8 + k) then (((if j < 8 then x / 2 ^ (56 - 8 * j) else y / 2 ^ (56 - 8 * (j - 8))) % 256:Nat):Int) else 0
theorem wdsL_len (x y:Nat):(wdsL x y).length=16:=by simp [wdsL]
theorem wdsZ_len (x y k:Nat):(wdsZ x y k).length=16:=by simp [wdsZ]
theorem wdsY_len (x y k:Nat):(wdsY x y k).length=16:=by simp [wdsY]
theorem wdsZ_0 (x y:Nat):wdsZ x y 0=List.replicate 16 0:=by
 unfold wdsZ
 rw [List.map_congr_left (g:=fun _=>(0:Int)) (fun j _=>by rw [if_neg (by omega)])]
 rfl
theorem wdsZ_8 (x y:Nat):wdsZ x y 8=wdsL x y:=by
 unfold wdsZ wdsL
 exact List.map_congr_left (fun j hj=>by rw [if_pos (by have:=List.mem_range.1 hj;omega)])
theorem wdsZ_set {x y k:Nat} (h:k < 8):(wdsZ x y k).set k ((x / 2 ^ (56 - 8 * k) % 256:Nat):Int)=wdsY x y k :=
 range_set _ (by omega) (by simp only [show k < k + 1 by omega,true_or,if_true,h]) (fun j hj=>by
  by_cases c:j < k∨(8≤j∧j < 8 + k)
  ·rw [if_pos c,if_pos (show j < k + 1∨(8≤j∧j < 8 + k) by omega)]
  ·rw [if_neg c,if_neg (show ¬ (j < k + 1∨(8≤j∧j < 8 + k)) by omega)])
theorem wdsY_set {x y k:Nat} (h:k < 8):(wdsY x y k).set (8 + k) ((y / 2 ^ (56 - 8 * k) % 256:Nat):Int)=wdsZ x y (k + 1) :=
 range_set _ (by omega) (by rw [if_pos (by omega),if_neg (by omega),show 8 + k - 8=k by omega]) (fun j hj=>by
  by_cases c:j < k + 1∨(8≤j∧j < 8 + k)
  ·rw [if_pos c,if_pos (show j < k + 1∨(8≤j∧j < 8 + (k + 1)) by omega)]
  ·rw [if_neg c,if_neg (show ¬ (j < k + 1∨(8≤j∧j < 8 + (k + 1))) by omega)])
theorem wdsL_byt (x y:Nat):byt (wdsL x y):=byt_of _ (fun j hj=>by
 rw [wdsL_len] at hj
 have e:(wdsL x y).getD j 0=(((if j < 8 then x / 2 ^ (56 - 8 * j) else y / 2 ^ (56 - 8 * (j - 8))) % 256:Nat):Int):=by simp [wdsL,List.getD_eq_getElem?_getD,hj]
 rw [e]
 have:=Nat.mod_lt (if j < 8 then x / 2 ^ (56 - 8 * j) else y / 2 ^ (56 - 8 * (j - 8))) (show 0 < 256 by decide)
 omega)
/-- a byte of half a block -/
theorem half_byte {v o k:Nat} (hk:k < 8) (ho:63≤o):rvB v o / 2 ^ (56 - 8 * k) % 256=byte8 (fun r=>v.testBit (o - 63 + 8 * k + r)):=by
 apply Nat.eq_of_testBit_eq
 intro t
 rw [show (256:Nat)=2 ^ 8 from rfl,Nat.testBit_mod_two_pow]
 by_cases ht:t < 8
 ·rw [Nat.testBit_div_two_pow,rvB_bit]
  have e:=byte8_bit (fun r=>v.testBit (o - 63 + 8 * k + r)) (r:=7 - t) (by omega)
  rw [show 7 - (7 - t)=t by omega] at e
  rw [e]
  simp only [ht,decide_true,Bool.true_and,show t + (56 - 8 * k) < 64 by omega]
  rw [show o - (t + (56 - 8 * k))=o - 63 + 8 * k + (7 - t) by omega]
 ·rw [Nat.testBit_lt_two_pow (x:=byte8 _) (Nat.lt_of_lt_of_le (byte8_lt _) (show 2 ^ 8≤2 ^ t from Nat.pow_le_pow_right (by decide) (by omega)))]
  simp [ht]
theorem wds_of (v:Nat):wdsL (rvB v 63) (rvB v 127)=ofN v:=by
 unfold wdsL ofN
 refine List.map_congr_left (fun j hj=>?_)
 have hj:=List.mem_range.1 hj
 by_cases h:j < 8
 ·rw [if_pos h,half_byte h (by decide),show 63 - 63 + 8 * j=8 * j by omega]
 ·rw [if_neg h,half_byte (by omega) (by decide),show 127 - 63 + 8 * (j - 8)=8 * j by omega]
/-- lengths -/
theorem wds_len (a b:Nat):wdsL (8 * a) (8 * b)=lenN a++lenN b:=by
 apply byt_eq (wdsL_len _ _) (by rw [List.length_append,lenN_len,lenN_len])
 intro j hj
 have e:(wdsL (8 * a) (8 * b)).getD j 0=(((if j < 8 then 8 * a / 2 ^ (56 - 8 * j) else 8 * b / 2 ^ (56 - 8 * (j - 8))) % 256:Nat):Int):=by simp [wdsL,List.getD_eq_getElem?_getD,hj]
 have g:∀ n i,i < 8→(lenN n).getD i 0=((8 * n / 256 ^ (7 - i) % 256:Nat):Int):=fun n i hi=>by simp [lenN,List.getD_eq_getElem?_getD,hi]
 have p:∀ i,i < 8→2 ^ (56 - 8 * i)=256 ^ (7 - i):=fun i hi=>by
  rw [show (256:Nat)=2 ^ 8 from rfl,← Nat.pow_mul,show 8 * (7 - i)=56 - 8 * i by omega]
 rw [e,List.getD_eq_getElem?_getD,List.getElem?_append,lenN_len]
 by_cases h:j < 8
 ·rw [if_pos h,if_pos h,← List.getD_eq_getElem?_getD,g a j h,p j h]
 ·rw [if_neg h,if_neg h,← List.getD_eq_getElem?_getD,g b (j - 8) (by omega),p (j - 8) (by omega)]
/-- a sum that goes on from Y -/
def addQ (H Y C:List Int):Nat→List Int
 | 0=>Y
 | q + 1=>mulB (xkN (addQ H Y C q) (bkQ C q)) H
theorem addQ_len {H Y C:List Int} (l:Y.length=16):∀ q,(addQ H Y C q).length=16
 | 0=>l
 | _ + 1=>mulB_len _ _
theorem addQ_byt {H Y C:List Int} (b:byt Y):∀ q,byt (addQ H Y C q)
 | 0=>b
 | _ + 1=>mulB_byt _ _
theorem hashQ_add (H C:List Int):∀ q,hashQ H C q=addQ H (List.replicate 16 0) C q
 | 0=>rfl
 | q + 1=>by rw [hashQ,addQ,hashQ_add H C q]
theorem bkQ_left {C D:List Int} {n q:Nat} (l:C.length=16 * n) (h:q < n):bkQ (C++D) q=bkQ C q:=by
 unfold bkQ
 rw [List.drop_append_of_le_length (by omega),List.take_append_of_le_length (by rw [List.length_drop];omega)]
theorem bkQ_right {C D:List Int} {n q:Nat} (l:C.length=16 * n):bkQ (C++D) (n + q)=bkQ D q:=by
 unfold bkQ
 rw [show 16 * (n + q)=C.length + 16 * q by omega,List.drop_length_add_append]
theorem addQ_left {H Y C D:List Int} {n:Nat} (l:C.length=16 * n):∀ q,q≤n→addQ H Y (C++D) q=addQ H Y C q
 | 0,_=>rfl
 | q + 1,h=>by rw [addQ,addQ,addQ_left l q (by omega),bkQ_left l (by omega)]
theorem addQ_right {H Y C D:List Int} {n:Nat} (l:C.length=16 * n):∀ q,addQ H Y (C++D) (n + q)=addQ H (addQ H Y C n) D q
 | 0=>addQ_left l n (Nat.le_refl n)
 | q + 1=>by rw [show n + (q + 1)=(n + q) + 1 by omega,addQ,addQ,addQ_right l q,bkQ_right l]
/-- how many blocks -/
def nbQ (B:List Int):Nat:=(B.length + 15) / 16
/-- the sum of bytes, from Y on -/
def addB (H Y B:List Int):List Int:=addQ H Y (filF B) (nbQ B)
theorem addB_len {H Y B:List Int} (l:Y.length=16):(addB H Y B).length=16:=addQ_len l _
theorem addB_byt {H Y B:List Int} (b:byt Y):byt (addB H Y B):=addQ_byt b _
theorem filF_whole {C:List Int} {n:Nat} (l:C.length=16 * n):filF C=C:=by
 unfold filF padK
 rw [l,show (16 - 16 * n % 16) % 16=0 by omega,List.replicate_zero,List.append_nil]
theorem bkQ_one {C:List Int} (l:C.length=16):bkQ C 0=C:=by
 unfold bkQ
 rw [List.drop_zero,List.take_of_length_le (by omega)]
theorem whole_add (H A B:List Int):wholeB H A B=mulB (xkN (addB H (addB H (List.replicate 16 0) A) B) (wdsL (8 * A.length) (8 * B.length))) H:=by
 have lA:=filF_len A
 have lB:=filF_len B
 have lL:(wdsL (8 * A.length) (8 * B.length)).length=16:=wdsL_len _ _
 unfold wholeB
 rw [List.append_assoc,← wds_len]
 have l2:(filF A++filF B).length=16 * (nbQ A + nbQ B):=by rw [List.length_append,lA,lB];unfold nbQ;omega
 have l3:(filF A++filF B++wdsL (8 * A.length) (8 * B.length)).length=16 * (nbQ A + nbQ B + 1):=by rw [List.length_append,l2,lL];omega
 unfold hashB
 rw [filF_whole l3,l3,Nat.mul_div_cancel_left _ (by decide),hashQ_add,addQ_right l2 1]
 have e:addQ H (List.replicate 16 0) (filF A++filF B) (nbQ A + nbQ B)=addB H (addB H (List.replicate 16 0) A) B:=addQ_right lA (nbQ B)
 rw [e,addQ,addQ,bkQ_one lL]
/-- a block, as the program copies it: what there is, and noughts behind -/
theorem bkQ_fil {B:List Int} {q:Nat} (h:16 * q < B.length):bkQ (filF B) q=(B.drop (16 * q)).take 16++(List.replicate 16 0).drop (min 16 (B.length - 16 * q)):=by
 have lf:=filF_len B
 apply byt_eq
 ·unfold bkQ
  rw [List.length_take,List.length_drop,lf]
  omega
 ·rw [List.length_append,List.length_take,List.length_drop,List.length_drop,List.length_replicate]
  omega
 ·intro j hj
  rw [bkQ_get hj]
  unfold filF
  have z:∀ n i:Nat,(List.replicate n (0:Int))[i]?.getD 0=0:=fun n i=>by
   rw [List.getElem?_replicate]
   split<;>rfl
  have e1:(B++List.replicate (padK B.length) 0).getD (16 * q + j) 0=if 16 * q + j < B.length then B.getD (16 * q + j) 0 else 0:=by
   rw [List.getD_eq_getElem?_getD,List.getElem?_append]
   split
   ·rw [← List.getD_eq_getElem?_getD]
   ·exact z _ _
  have e2:((B.drop (16 * q)).take 16++(List.replicate 16 (0:Int)).drop (min 16 (B.length - 16 * q))).getD j 0=if j < min 16 (B.length - 16 * q) then B.getD (16 * q + j) 0 else 0:=by
   rw [List.getD_eq_getElem?_getD,List.getElem?_append,List.length_take,List.length_drop]
   split
   ·rw [List.getElem?_take,if_pos hj,List.getElem?_drop,← List.getD_eq_getElem?_getD]
   ·rw [List.getElem?_drop]
    exact z _ _
  rw [e1,e2]
  by_cases k:16 * q + j < B.length
  ·rw [if_pos k,if_pos (by omega)]
  ·rw [if_neg k,if_neg (by omega)]
end Go.Proofs.YtlkljfnenonfgaaGreatDoor
