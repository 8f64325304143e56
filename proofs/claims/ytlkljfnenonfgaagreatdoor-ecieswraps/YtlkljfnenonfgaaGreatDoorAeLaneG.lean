/- AES's numbers: doubling is linear; columns mixed fourA times are as they were; substitutes are one to one. Plain facts. Bytes side by side in one number: lanes. Plain facts. Lanes told by a letter: what the words' operations do to them. Plain facts. Words of fourA bytes as numbers, and the words of the round keys. Plain facts. -/
import Derived.Test.YtlkljfnenonfgaaGreatDoorAeNumG
namespace Go.Proofs.YtlkljfnenonfgaaGreatDoor
open Go.RowKit
/-- twice a byte -/
def dblN (x:Nat):Nat:=if x / 128 % 2=1 then (2 * x) ^^^ 283 else 2 * x
theorem prd_two:∀ x:Fin 256,prdN 2 x.1=dblN x.1:=by decide +kernel
theorem prd_one:∀ x:Fin 256,prdN 1 x.1=x.1:=by decide +kernel
theorem prd_three:∀ x:Fin 256,prdN 3 x.1=dblN x.1 ^^^ x.1:=by decide +kernel
theorem dbl_xor_all:((List.range 256).all fun x=>(List.range 256).all fun y=>dblN (x ^^^ y) == (dblN x ^^^ dblN y))=true:=by decide +kernel
theorem dbl_xor {x y:Nat} (hx:x < 256) (hy:y < 256):dblN (x ^^^ y)=dblN x ^^^ dblN y:=by
 have h:=List.all_eq_true.1 dbl_xor_all x (List.mem_range.2 hx)
 have:=List.all_eq_true.1 h y (List.mem_range.2 hy)
 simpa using this
def SBX:List Nat:=[99,124,119,123,242,107,111,197,48,1,103,43,254,215,171,118,202,130,201,125,250,89,71,240,173,212,162,175,156,164,114,192,183,253,147,38,54,63,247,204,52,165,229,241,113,216,49,21,4,199,35,195,24,150,5,154,7,18,128,226,235,39,178,117,9,131,44,26,27,110,90,160,82,59,214,179,41,227,47,132,83,209,0,237,32,252,177,91,106,203,190,57,74,76,88,207,208,239,170,251,67,77,51,133,69,249,2,127,80,60,159,168,81,163,64,143,146,157,56,245,188,182,218,33,16,255,243,210,205,12,19,236,95,151,68,23,196,167,126,61,100,93,25,115,96,129,79,220,34,42,144,136,70,238,184,20,222,94,11,219,224,50,58,10,73,6,36,92,194,211,172,98,145,149,228,121,231,200,55,109,141,213,78,169,108,86,244,234,101,122,174,8,186,120,37,46,28,166,180,198,232,221,116,31,75,189,139,138,112,62,181,102,72,3,246,14,97,53,87,185,134,193,29,158,225,248,152,17,105,217,142,148,155,30,135,233,206,85,40,223,140,161,137,13,191,230,66,104,65,153,45,15,176,84,187,22]
theorem sbx_is:(List.range 256).map subN=SBX:=by decide +kernel
theorem sub_sbx {x:Nat} (h:x < 256):SBX.getD x 0=subN x:=by
 rw [← sbx_is]
 simp [List.getD_eq_getElem?_getD,h]
/-- a column's place -/
def colN (a b c d:Nat):Nat:=dblN a ^^^ (dblN b ^^^ b) ^^^ c ^^^ d
/-- lanes, the lowest first, as a number -/
def jn:List Nat→Nat
 | []=>0
 | x :: xs=>x + 256 * jn xs
def lan (xs:List Nat):Prop:=∀ x,x∈xs→x < 256
theorem lan_cons {x:Nat} {xs:List Nat} (h:lan (x :: xs)):x < 256∧lan xs:=⟨h x (List.Mem.head _),fun y hy=>h y (List.Mem.tail _ hy)⟩
theorem lan_map {f:Nat→Nat} (hf:∀ x,x < 256→f x < 256) {xs:List Nat} (h:lan xs):lan (xs.map f):=fun y hy=>by
 obtain ⟨x,hx,rfl⟩:=List.mem_map.1 hy
 exact hf x (h x hx)
theorem lan_zip {f:Nat→Nat→Nat} (hf:∀ x y,x < 256→y < 256→f x y < 256):∀ {xs ys:List Nat},lan xs→lan ys→lan (List.zipWith f xs ys)
 | [],_,_,_=>fun y hy=>by simp at hy
 | _ :: _,[],_,_=>fun y hy=>by simp at hy
 | x :: xs,y :: ys,h,k=>fun z hz=>by
  rw [List.zipWith_cons_cons] at hz
  rcases List.mem_cons.1 hz with rfl|hz
  ·exact hf x y (lan_cons h).1 (lan_cons k).1
  ·exact lan_zip hf (lan_cons h).2 (lan_cons k).2 z hz
theorem jn_lt:∀ {xs:List Nat},lan xs→jn xs < 256 ^ xs.length
 | [],_=>by simp [jn]
 | x :: xs,h=>by
  have:=jn_lt (lan_cons h).2
  have:=(lan_cons h).1
  rw [jn,List.length_cons,Nat.pow_succ]
  omega
theorem tb (x X j:Nat) (h:x < 256):(x + 256 * X).testBit j=if j < 8 then x.testBit j else X.testBit (j - 8):=by
 rw [Nat.add_comm]
 exact Nat.testBit_two_pow_mul_add X (i:=8) h j
theorem split_and {x X y Y:Nat} (hx:x < 256) (hy:y < 256):(x + 256 * X) &&& (y + 256 * Y)=(x &&& y) + 256 * (X &&& Y):=by
 apply Nat.eq_of_testBit_eq
 intro j
 rw [Nat.testBit_and,tb _ _ _ hx,tb _ _ _ hy,tb _ _ _ (Nat.lt_of_le_of_lt Nat.and_le_left hx)]
 split<;>rw [Nat.testBit_and]
theorem split_xor {x X y Y:Nat} (hx:x < 256) (hy:y < 256):(x + 256 * X) ^^^ (y + 256 * Y)=(x ^^^ y) + 256 * (X ^^^ Y):=by
 apply Nat.eq_of_testBit_eq
 intro j
 rw [Nat.testBit_xor,tb _ _ _ hx,tb _ _ _ hy,tb _ _ _ (Nat.xor_lt_two_pow (n:=8) hx hy)]
 split<;>rw [Nat.testBit_xor]
theorem split_or {x X y Y:Nat} (hx:x < 256) (hy:y < 256):(x + 256 * X) ||| (y + 256 * Y)=(x ||| y) + 256 * (X ||| Y):=by
 apply Nat.eq_of_testBit_eq
 intro j
 rw [Nat.testBit_or,tb _ _ _ hx,tb _ _ _ hy,tb _ _ _ (Nat.or_lt_two_pow (n:=8) hx hy)]
 split<;>rw [Nat.testBit_or]
theorem jn_and:∀ {xs ys:List Nat},xs.length=ys.length→lan xs→lan ys→jn xs &&& jn ys=jn (List.zipWith (· &&& ·) xs ys)
 | [],[],_,_,_=>by simp [jn]
 | x :: xs,y :: ys,l,h,k=>by
  rw [List.zipWith_cons_cons,jn,jn,jn,split_and (lan_cons h).1 (lan_cons k).1,jn_and (by simpa using l) (lan_cons h).2 (lan_cons k).2]
theorem jn_xor:∀ {xs ys:List Nat},xs.length=ys.length→lan xs→lan ys→jn xs ^^^ jn ys=jn (List.zipWith (· ^^^ ·) xs ys)
 | [],[],_,_,_=>by simp [jn]
 | x :: xs,y :: ys,l,h,k=>by
  rw [List.zipWith_cons_cons,jn,jn,jn,split_xor (lan_cons h).1 (lan_cons k).1,jn_xor (by simpa using l) (lan_cons h).2 (lan_cons k).2]
theorem jn_or:∀ {xs ys:List Nat},xs.length=ys.length→lan xs→lan ys→jn xs ||| jn ys=jn (List.zipWith (· ||| ·) xs ys)
 | [],[],_,_,_=>by simp [jn]
 | x :: xs,y :: ys,l,h,k=>by
  rw [List.zipWith_cons_cons,jn,jn,jn,split_or (lan_cons h).1 (lan_cons k).1,jn_or (by simpa using l) (lan_cons h).2 (lan_cons k).2]
theorem jn_mul (k:Nat):∀ xs:List Nat,jn xs * k=jn (xs.map (· * k))
 | []=>by simp [jn]
 | x :: xs=>by rw [List.map_cons,jn,jn,← jn_mul k xs,Nat.add_mul,Nat.mul_assoc]
/-- shifted to the right, what comes from the lane above taken off -/
theorem jn_shr {s k m:Nat} (hs:s + k=8) (hm:m < 2 ^ k):∀ xs:List Nat,lan xs→jn xs / 2 ^ s &&& jn (List.replicate xs.length m)=jn (xs.map fun x=>x / 2 ^ s &&& m)
 | [],_=>by simp [jn]
 | x :: xs,h=>by
  have p8:2 ^ s * 2 ^ k=256:=by rw [← Nat.pow_add,hs]
  have sp:0 < 2 ^ s:=Nat.two_pow_pos s
  have kp:0 < 2 ^ k:=Nat.two_pow_pos k
  have x8:=(lan_cons h).1
  have m8:m < 256:=by
   have:2 ^ k≤2 ^ 8:=Nat.pow_le_pow_right (by decide) (by omega)
   omega
  have xq:x / 2 ^ s < 2 ^ k:=by
   rw [Nat.div_lt_iff_lt_mul sp,Nat.mul_comm,p8]
   exact x8
  have e1:(x + 256 * jn xs) / 2 ^ s=x / 2 ^ s + 2 ^ k * jn xs:=by
   rw [← p8,Nat.mul_assoc,Nat.add_mul_div_left _ _ sp]
  have e2:x / 2 ^ s + 2 ^ k * jn xs=(x / 2 ^ s + 2 ^ k * (jn xs % 2 ^ s)) + 256 * (jn xs / 2 ^ s):=by
   have q:=Nat.div_add_mod (jn xs) (2 ^ s)
   have:2 ^ k * jn xs=2 ^ k * (jn xs % 2 ^ s) + 256 * (jn xs / 2 ^ s):=by
    conv=>lhs;rw [← q,Nat.mul_add,← Nat.mul_assoc,Nat.mul_comm (2 ^ k) (2 ^ s),p8]
    omega
   omega
  have l1:x / 2 ^ s + 2 ^ k * (jn xs % 2 ^ s) < 256:=by
   have a:jn xs % 2 ^ s + 1≤2 ^ s:=Nat.mod_lt _ sp
   have b:2 ^ k * (jn xs % 2 ^ s + 1)≤2 ^ k * 2 ^ s:=Nat.mul_le_mul_left _ a
   rw [Nat.mul_comm (2 ^ k) (2 ^ s),p8,Nat.mul_add,Nat.mul_one] at b
   omega
  have e3:(x / 2 ^ s + 2 ^ k * (jn xs % 2 ^ s)) &&& m=x / 2 ^ s &&& m:=by
   apply Nat.eq_of_testBit_eq
   intro j
   rw [Nat.testBit_and,Nat.testBit_and,Nat.add_comm,Nat.testBit_two_pow_mul_add _ xq]
   by_cases hj:j < k
   ·rw [if_pos hj]
   ·rw [if_neg hj,Nat.testBit_lt_two_pow (Nat.lt_of_lt_of_le hm (Nat.pow_le_pow_right (by decide) (by omega:k≤j))),Bool.and_false,Bool.and_false]
  rw [List.length_cons,List.replicate_succ,List.map_cons,jn,jn,jn,e1,e2,split_and l1 m8,e3,jn_shr hs hm xs (lan_cons h).2]
/-- shifted to the left, what comes from the lane below taken off -/
theorem jn_shl {s m:Nat} (hs:s≤8) (hm:m < 256) (h0:∀ j,j < s→m.testBit j=false):∀ (xs:List Nat) (c:Nat),c < 2 ^ s→lan xs→(jn xs * 2 ^ s + c) % 256 ^ xs.length &&& jn (List.replicate xs.length m)=jn (xs.map fun x=>x * 2 ^ s % 256 &&& m)
 | [],_,_,_=>by simp [jn]
 | x :: xs,c,hc,h=>by
  have sp:0 < 2 ^ s:=Nat.two_pow_pos s
  have x8:=(lan_cons h).1
  have cc:(x * 2 ^ s + c) / 256 < 2 ^ s:=by
   rw [Nat.div_lt_iff_lt_mul (by decide)]
   have:(x + 1) * 2 ^ s≤256 * 2 ^ s:=Nat.mul_le_mul_right _ x8
   rw [Nat.add_mul,Nat.one_mul] at this
   omega
  have e1:(x + 256 * jn xs) * 2 ^ s + c=(x * 2 ^ s + c) % 256 + 256 * (jn xs * 2 ^ s + (x * 2 ^ s + c) / 256):=by
   have q:=Nat.div_add_mod (x * 2 ^ s + c) 256
   rw [Nat.add_mul,Nat.mul_add,Nat.mul_assoc 256]
   omega
  have e2:((x * 2 ^ s + c) % 256 + 256 * (jn xs * 2 ^ s + (x * 2 ^ s + c) / 256)) % 256 ^ (xs.length + 1)=(x * 2 ^ s + c) % 256 + 256 * ((jn xs * 2 ^ s + (x * 2 ^ s + c) / 256) % 256 ^ xs.length):=by
   rw [Nat.pow_succ,Nat.mul_comm (256 ^ xs.length) 256,Nat.mod_mul,Nat.add_mul_mod_self_left,Nat.mod_mod,Nat.add_mul_div_left _ _ (by decide:0 < 256),Nat.div_eq_of_lt (Nat.mod_lt _ (by decide)),Nat.zero_add]
  have e3:(x * 2 ^ s + c) % 256 &&& m=x * 2 ^ s % 256 &&& m:=by
   apply Nat.eq_of_testBit_eq
   intro j
   rw [Nat.testBit_and,Nat.testBit_and]
   by_cases hj:j < s
   ·rw [h0 j hj,Bool.and_false,Bool.and_false]
   ·congr 1
    rw [show (256:Nat)=2 ^ 8 from rfl,Nat.testBit_mod_two_pow,Nat.testBit_mod_two_pow,Nat.mul_comm x,Nat.testBit_two_pow_mul_add _ hc,if_neg hj]
    have:=Nat.testBit_two_pow_mul_add x sp (i:=s) (b:=0) j
    rw [Nat.add_zero] at this
    rw [this,if_neg hj]
  rw [List.length_cons,List.replicate_succ,List.map_cons,jn,jn,jn,e1,e2,split_and (Nat.mod_lt _ (by decide)) hm,e3,jn_shl hs hm h0 xs _ cc (lan_cons h).2]
/-- a byte doubled, as lanes go -/
def dL (x:Nat):Nat:=(x * 2 % 256 &&& 254) ^^^ ((x / 128 &&& 1) * 27)
def dI (x:Nat):Nat→Nat
 | 0=>x
 | k + 1=>dL (dI x k)
def sI (x y:Nat):Nat→Nat
 | 0=>0
 | k + 1=>sI x y k ^^^ (dI x k &&& ((y / 2 ^ k &&& 1) * 255))
/-- a product, as lanes go -/
def pL (x y:Nat):Nat:=sI x y 8
def rL (s x:Nat):Nat:=(x / 2 ^ s &&& (255 / 2 ^ s)) ||| (x * 2 ^ (8 - s) % 256 &&& (255 - 255 / 2 ^ s))
def iL (x:Nat):Nat :=
 let a2:=pL x x
 let a3:=pL a2 x
 let q (y:Nat):=pL y y
 let a12:=q (q a3)
 let a15:=pL a12 a3
 let a240:=q (q (q (q a15)))
 pL (pL a240 a12) a2
def vL (v:Nat):Nat:=v ^^^ rL 4 v ^^^ rL 5 v ^^^ rL 6 v ^^^ rL 7 v ^^^ 99
theorem and1_lt (n:Nat):n &&& 1 < 2:=by rw [Nat.and_one_is_mod];omega
theorem dL_lt {x:Nat}:dL x < 256:=by
 have:=and1_lt (x / 128)
 exact Nat.xor_lt_two_pow (n:=8) (Nat.lt_of_le_of_lt Nat.and_le_right (by decide)) (by omega)
theorem dL_all:∀ x:Fin 256,dL x.1=dblN x.1:=by decide +kernel
theorem vL_all:(List.range 256).map (fun x=>vL (iL x))=SBX:=by decide +kernel
theorem vL_sub {x:Nat} (h:x < 256):vL (iL x)=subN x:=by
 have e:((List.range 256).map (fun x=>vL (iL x))).getD x 0=SBX.getD x 0:=by rw [vL_all]
 rw [sub_sbx h] at e
 simpa [List.getD_eq_getElem?_getD,h] using e
/-- a number of eight lanes -/
def Ln (a:Int) (xs:List Nat):Prop:=a=((jn xs:Nat):Int)∧xs.length=8∧lan xs
theorem jn_64 {xs:List Nat} (l:xs.length=8) (h:lan xs):jn xs < 18446744073709551616:=by
 have:=jn_lt h
 rw [l] at this
 exact this
theorem Ln.bd {a:Int} {xs:List Nat} (h:Ln a xs):0≤a∧a < 18446744073709551616:=by
 have:=jn_64 h.2.1 h.2.2
 rw [h.1]
 omega
theorem Ln.and {a b:Int} {xs ys:List Nat} (h:Ln a xs) (k:Ln b ys):Ln (bits .and .u64 a b) (List.zipWith (· &&& ·) xs ys):=by
 obtain ⟨rfl,l,h⟩:=h
 obtain ⟨rfl,m,k⟩:=k
 exact ⟨by rw [u64_and_nat _ _ (jn_64 l h) (jn_64 m k),jn_and (by omega) h k],by rw [List.length_zipWith];omega,lan_zip (fun x y hx _=>Nat.lt_of_le_of_lt Nat.and_le_left hx) h k⟩
theorem Ln.xor {a b:Int} {xs ys:List Nat} (h:Ln a xs) (k:Ln b ys):Ln (bits .xor .u64 a b) (List.zipWith (· ^^^ ·) xs ys):=by
 obtain ⟨rfl,l,h⟩:=h
 obtain ⟨rfl,m,k⟩:=k
 exact ⟨by rw [u64_xor_nat _ _ (jn_64 l h) (jn_64 m k),jn_xor (by omega) h k],by rw [List.length_zipWith];omega,lan_zip (fun x y hx hy=>Nat.xor_lt_two_pow (n:=8) hx hy) h k⟩
theorem Ln.or {a b:Int} {xs ys:List Nat} (h:Ln a xs) (k:Ln b ys):Ln (bits .or .u64 a b) (List.zipWith (· ||| ·) xs ys):=by
 obtain ⟨rfl,l,h⟩:=h
 obtain ⟨rfl,m,k⟩:=k
 exact ⟨by rw [u64_or_nat _ _ (jn_64 l h) (jn_64 m k),jn_or (by omega) h k],by rw [List.length_zipWith];omega,lan_zip (fun x y hx hy=>Nat.or_lt_two_pow (n:=8) hx hy) h k⟩
theorem Ln.mul {a:Int} {xs:List Nat} (h:Ln a xs) (m:Nat) (hm:∀ x,x∈xs→x * m < 256):Ln (IntKind.u64.wrap (a * (m:Int))) (xs.map (· * m)):=by
 obtain ⟨rfl,l,h⟩:=h
 have hl:lan (xs.map (· * m)):=fun y hy=>by
  obtain ⟨x,hx,rfl⟩:=List.mem_map.1 hy
  exact hm x hx
 have hb:=jn_64 (by rw [List.length_map];exact l) hl
 refine ⟨?_,by rw [List.length_map];exact l,hl⟩
 rw [← jn_mul] at hb ⊢
 rw [IntKind.wrap_u64]
 omega
theorem Ln.shr {a:Int} {xs:List Nat} (h:Ln a xs) (s k m:Nat) (hs:s + k=8) (hm:m < 2 ^ k) (q:Int) (hq:q=((jn (List.replicate 8 m):Nat):Int)):Ln (bits .and .u64 (a / 2 ^ s) q) (xs.map fun x=>x / 2 ^ s &&& m):=by
 obtain ⟨rfl,l,h⟩:=h
 subst hq
 have m8:m < 256:=by
  have:2 ^ k≤2 ^ 8:=Nat.pow_le_pow_right (by decide) (by omega)
  omega
 have b:=jn_64 l h
 have e:(((jn xs:Nat):Int) / 2 ^ s)=((jn xs / 2 ^ s:Nat):Int):=by simp
 have r8:jn (List.replicate 8 m) < 18446744073709551616:=jn_64 List.length_replicate (fun x hx=>by rw [List.eq_of_mem_replicate hx];exact m8)
 have e2:=jn_shr hs hm xs h
 rw [l] at e2
 refine ⟨by rw [e,u64_and_nat _ _ (Nat.lt_of_le_of_lt (Nat.div_le_self _ _) b) r8,e2],by rw [List.length_map];exact l,lan_map (fun x _=>Nat.lt_of_le_of_lt Nat.and_le_right m8) h⟩
theorem Ln.shl {a:Int} {xs:List Nat} (h:Ln a xs) (s m:Nat) (hs:s≤8) (hm:m < 256) (h0:∀ j,j < s→m.testBit j=false) (q:Int) (r:Nat) (hq:q=(r:Int)) (hr:18446744073709551615 - r=jn (List.replicate 8 m)) (hr2:r < 18446744073709551616):Ln (bits .andNot .u64 (IntKind.u64.wrap (a * 2 ^ s)) q) (xs.map fun x=>x * 2 ^ s % 256 &&& m):=by
 obtain ⟨rfl,l,h⟩:=h
 subst hq
 have e:IntKind.u64.wrap (((jn xs:Nat):Int) * 2 ^ s)=((jn xs * 2 ^ s % 18446744073709551616:Nat):Int):=by
  rw [IntKind.wrap_u64]
  have e1:(((jn xs:Nat):Int) * 2 ^ s)=((jn xs * 2 ^ s:Nat):Int):=by simp
  rw [e1]
  omega
 have e2:=jn_shl hs hm h0 xs 0 (Nat.two_pow_pos s) h
 rw [l,Nat.add_zero] at e2
 have e3:(256:Nat) ^ 8=18446744073709551616:=by decide
 rw [e3] at e2
 refine ⟨by rw [e,u64_andNot_nat _ _ (Nat.mod_lt _ (by decide)) hr2,hr,e2],by rw [List.length_map];exact l,lan_map (fun x _=>Nat.lt_of_le_of_lt Nat.and_le_right hm) h⟩
theorem lan_rep {n m:Nat} (h:m < 256):lan (List.replicate n m):=fun x hx=>by rw [List.eq_of_mem_replicate hx];exact h
theorem Ln.nil:Ln 0 (List.replicate 8 0):=⟨by decide,by decide,lan_rep (by decide)⟩
theorem Ln.congr {a:Int} {xs ys:List Nat} (h:Ln a xs) (e:xs=ys):Ln a ys:=e ▸ h
theorem zip_map (f:Nat→Nat→Nat) (g h:Nat→Nat):∀ xs:List Nat,List.zipWith f (xs.map g) (xs.map h)=xs.map fun x=>f (g x) (h x)
 | []=>rfl
 | x :: xs=>by rw [List.map_cons,List.map_cons,List.map_cons,List.zipWith_cons_cons,zip_map f g h xs]
theorem rep_map {xs:List Nat} {n m:Nat} (l:xs.length=n):List.replicate n m=xs.map fun _=>m:=by
 subst l
 exact (List.map_const' ..).symm
/-- doubled -/
theorem Ln.dbl {a : Int} {xs : List Nat} (h : Ln a xs) : Ln (bits .xor .u64 (bits .andNot .u64 (IntKind.u64.wrap (a * 2)) 72340172838076673) (IntKind.u64.wrap (bits .and .u64 (a / 128) 72340172838076673 * 27))) (xs.map dL) := by
  have h1 := h.shl 1 254 (by decide) (by decide) (fun j hj => by obtain rfl : j = 0 := by omega
                                                                 decide) 72340172838076673 72340172838076673 rfl (by decide) (by decide)
  have h2 := h.shr 7 1 1 (by decide) (by decide) 72340172838076673 (by decide)
  have h3 := h2.mul 27 (fun x hx => by
    obtain ⟨y, _, rfl⟩ := List.mem_map.1 hx
    have := and1_lt (y / 2 ^ 7)
    omega)
  have h4 := h1.xor h3
  rw [List.map_map, zip_map] at h4
  exact h4
theorem zip_step (k:Nat):∀ xs ys:List Nat,List.zipWith (· ^^^ ·) (List.zipWith (fun x y=>sI x y k) xs ys) (List.zipWith (· &&& ·) (xs.map fun x=>dI x k) ((ys.map fun y=>y / 2 ^ k &&& 1).map (· * 255)))=List.zipWith (fun x y=>sI x y (k + 1)) xs ys
 | [],_=>by simp
 | _ :: _,[]=>by simp
 | x :: xs,y :: ys=>by
  simp only [List.zipWith_cons_cons,List.map_cons,zip_step k xs ys]
  rfl
/-- a step of products -/
theorem Ln.prd {a b c:Int} {xs ys:List Nat} {k:Nat} (hk:k≤7) (h:Ln a (xs.map fun x=>dI x k)) (hb:Ln b ys) (hc:Ln c (List.zipWith (fun x y=>sI x y k) xs ys)):Ln (bits .xor .u64 c (bits .and .u64 a (IntKind.u64.wrap (bits .and .u64 (b / 2 ^ k) 72340172838076673 * 255)))) (List.zipWith (fun x y=>sI x y (k + 1)) xs ys):=by
 have h2:=hb.shr k (8 - k) 1 (by omega) (by
  have:2 ^ 1≤2 ^ (8 - k):=Nat.pow_le_pow_right (by decide) (by omega)
  omega) 72340172838076673 (by decide)
 have h3:=h2.mul 255 (fun x hx=>by
  obtain ⟨y,_,rfl⟩:=List.mem_map.1 hx
  have:=and1_lt (y / 2 ^ k)
  omega)
 have h4:=hc.xor (h.and h3)
 rw [zip_step] at h4
 exact h4
theorem sI_zero:∀ {xs ys:List Nat} {n:Nat},xs.length=n→ys.length=n→List.replicate n 0=List.zipWith (fun x y=>sI x y 0) xs ys
 | [],[],_,h,_=>by subst h;rfl
 | x :: xs,y :: ys,_,h,k=>by
  subst h
  rw [List.length_cons,List.replicate_succ,List.zipWith_cons_cons,sI_zero (n:=xs.length) rfl (by simpa using k)]
  rfl
theorem Ln.rot4 {a:Int} {xs:List Nat} (h:Ln a xs):Ln (bits .or .u64 (bits .and .u64 (a / 16) 1085102592571150095) (bits .andNot .u64 (IntKind.u64.wrap (a * 16)) 1085102592571150095)) (xs.map (rL 4)):=by
 have h1:=h.shr 4 4 15 (by decide) (by decide) 1085102592571150095 (by decide)
 have h2:=h.shl 4 240 (by decide) (by decide) (by decide) 1085102592571150095 1085102592571150095 rfl (by decide) (by decide)
 have h3:=h1.or h2
 rw [zip_map] at h3
 exact h3
theorem Ln.rot5 {a:Int} {xs:List Nat} (h:Ln a xs):Ln (bits .or .u64 (bits .and .u64 (a / 32) 506381209866536711) (bits .andNot .u64 (IntKind.u64.wrap (a * 8)) 506381209866536711)) (xs.map (rL 5)):=by
 have h1:=h.shr 5 3 7 (by decide) (by decide) 506381209866536711 (by decide)
 have h2:=h.shl 3 248 (by decide) (by decide) (by decide) 506381209866536711 506381209866536711 rfl (by decide) (by decide)
 have h3:=h1.or h2
 rw [zip_map] at h3
 exact h3
theorem Ln.rot6 {a:Int} {xs:List Nat} (h:Ln a xs):Ln (bits .or .u64 (bits .and .u64 (a / 64) 217020518514230019) (bits .andNot .u64 (IntKind.u64.wrap (a * 4)) 217020518514230019)) (xs.map (rL 6)):=by
 have h1:=h.shr 6 2 3 (by decide) (by decide) 217020518514230019 (by decide)
 have h2:=h.shl 2 252 (by decide) (by decide) (by decide) 217020518514230019 217020518514230019 rfl (by decide) (by decide)
 have h3:=h1.or h2
 rw [zip_map] at h3
 exact h3
theorem Ln.rot7 {a:Int} {xs:List Nat} (h:Ln a xs):Ln (bits .or .u64 (bits .and .u64 (a / 128) 72340172838076673) (bits .andNot .u64 (IntKind.u64.wrap (a * 2)) 72340172838076673)) (xs.map (rL 7)):=by
 have h1:=h.shr 7 1 1 (by decide) (by decide) 72340172838076673 (by decide)
 have h2:=h.shl 1 254 (by decide) (by decide) (by decide) 72340172838076673 72340172838076673 rfl (by decide) (by decide)
 have h3:=h1.or h2
 rw [zip_map] at h3
 exact h3
theorem Ln.sub {v p q r t:Int} {xs:List Nat} (hxs:lan xs) (h0:Ln v (xs.map iL)) (h4:Ln p ((xs.map iL).map (rL 4))) (h5:Ln q ((xs.map iL).map (rL 5))) (h6:Ln r ((xs.map iL).map (rL 6))) (h7:Ln t ((xs.map iL).map (rL 7))):Ln (bits .xor .u64 (bits .xor .u64 (bits .xor .u64 (bits .xor .u64 (bits .xor .u64 v p) q) r) t) 7161677110969590627) (xs.map subN):=by
 have l:xs.length=8:=by have:=h0.2.1;rwa [List.length_map] at this
 have h9:Ln 7161677110969590627 (xs.map fun _=>99):=by
  rw [← rep_map l]
  exact ⟨by decide,by decide,lan_rep (by decide)⟩
 have hx:=((((h0.xor h4).xor h5).xor h6).xor h7).xor h9
 simp only [List.map_map,zip_map] at hx
 refine hx.congr ?_
 apply List.map_congr_left
 intro x hxm
 exact vL_sub (hxs x hxm)
/-- one byte alone -/
theorem Ln.one {x:Int} (h:0≤x∧x < 256):Ln x (x.toNat :: List.replicate 7 0):=by
 refine ⟨?_,rfl,?_⟩
 ·show x=((x.toNat + 256 * 0:Nat):Int)
  omega
 ·intro y hy
  rcases List.mem_cons.1 hy with rfl|hy
  ·omega
  ·rw [List.eq_of_mem_replicate hy]
   decide
theorem Ln.low {a:Int} {x:Nat} {xs:List Nat} (h:Ln a (x :: xs)):IntKind.u8.wrap a=(x:Int):=by
 have:=(lan_cons h.2.2).1
 rw [IntKind.wrap_u8,h.1,jn]
 omega
theorem jn_get:∀ {xs:List Nat} {k:Nat},lan xs→k < xs.length→jn xs / 256 ^ k % 256=xs.getD k 0
 | [],_,_,h=>by simp at h
 | x :: xs,0,h,_=>by
  have:=(lan_cons h).1
  rw [jn,Nat.pow_zero,Nat.div_one,List.getD_cons_zero]
  omega
 | x :: xs,k + 1,h,hk=>by
  have l:=(lan_cons h).1
  rw [jn,List.getD_cons_succ,Nat.pow_succ,Nat.mul_comm (256 ^ k) 256,← Nat.div_div_eq_div_mul,show (x + 256 * jn xs) / 256=jn xs by omega]
  exact jn_get (lan_cons h).2 (by simpa using hk)
theorem jn_getP:∀ {xs:List Nat} {n k:Nat},lan xs→k < xs.length→n=8 * k→jn xs / 2 ^ n % 256=xs.getD k 0:=fun h hk hn=>by
 subst hn
 rw [Nat.pow_mul]
 exact jn_get h hk
/-- the first i bytes from place o on, the last one first -/
def rvN (X:List Int) (o:Nat):Nat→List Nat
 | 0=>[]
 | i + 1=>(X.getD (o + i) 0).toNat :: rvN X o i
theorem rvN_len (X:List Int) (o:Nat):∀ i,(rvN X o i).length=i
 | 0=>rfl
 | i + 1=>by rw [rvN,List.length_cons,rvN_len X o i]
theorem rvN_lan {X:List Int} (b:byt X) (o:Nat):∀ i,lan (rvN X o i)
 | 0=>fun y hy=>by simp [rvN] at hy
 | i + 1=>fun y hy=>by
  rcases List.mem_cons.1 hy with rfl|hy
  ·have:=b (o + i)
   omega
  ·exact rvN_lan b o i y hy
theorem rvN_get {X:List Int} {o:Nat}:∀ {n i:Nat},i < n→(rvN X o n).getD (n - 1 - i) 0=(X.getD (o + i) 0).toNat
 | 0,_,h=>absurd h (by omega)
 | n + 1,i,h=>by
  by_cases e:i=n
  ·subst e
   rw [show i + 1 - 1 - i=0 by omega,rvN,List.getD_cons_zero]
  ·rw [show n + 1 - 1 - i=(n - 1 - i) + 1 by omega,rvN,List.getD_cons_succ]
   exact rvN_get (by omega)
theorem rvN_bd {X:List Int} (b:byt X) (o:Nat) {i:Nat} (h:i < 8):jn (rvN X o i) < 72057594037927936:=by
 have:=jn_lt (rvN_lan b o i)
 rw [rvN_len] at this
 have:256 ^ i≤256 ^ 7:=Nat.pow_le_pow_right (by decide) (by omega)
 have e:(256:Nat) ^ 7=72057594037927936:=by decide
 omega
theorem rvN_bd4 {X:List Int} (b:byt X) (o:Nat) {i:Nat} (h:i < 4):jn (rvN X o i) < 16777216:=by
 have:=jn_lt (rvN_lan b o i)
 rw [rvN_len] at this
 have:256 ^ i≤256 ^ 3:=Nat.pow_le_pow_right (by decide) (by omega)
 have e:(256:Nat) ^ 3=16777216:=by decide
 omega
/-- a byte put below a number -/
theorem or_low {n:Nat} {y:Int} (h:n < 72057594037927936) (hy:0≤y∧y < 256):bits .or .u64 (IntKind.u64.wrap ((n:Int) * 256)) y=((y.toNat + 256 * n:Nat):Int):=by
 obtain ⟨b,rfl⟩:=Int.eq_ofNat_of_zero_le hy.1
 have e:IntKind.u64.wrap ((n:Int) * 256)=((n * 256:Nat):Int):=by rw [IntKind.wrap_u64];omega
 rw [e,u64_or_nat _ _ (by omega) (by omega)]
 have h:=Nat.shiftLeft_add_eq_or_of_lt (i:=8) (b:=b) (by omega) n
 rw [Nat.shiftLeft_eq] at h
 rw [← h]
 omega
theorem or_low4 {n:Nat} {y:Int} (h:n < 16777216) (hy:0≤y∧y < 256):bits .or .u32 ((n:Int) * 256 % 4294967296) y=((y.toNat + 256 * n:Nat):Int):=by
 obtain ⟨b,rfl⟩:=Int.eq_ofNat_of_zero_le hy.1
 have e:(n:Int) * 256 % 4294967296=((n * 256:Nat):Int):=by omega
 rw [e,u32_or_nat _ _ (by omega) (by omega)]
 have h:=Nat.shiftLeft_add_eq_or_of_lt (i:=8) (b:=b) (by omega) n
 rw [Nat.shiftLeft_eq] at h
 rw [← h]
 omega
/-- a byte taken out again -/
theorem lane_out {c:Int} {X:List Int} {o i n:Nat} (h:Ln c ((rvN X o 8).map subN)) (hi:i < 8) (hn:n=56 - 8 * i):IntKind.u8.wrap (c / 2 ^ n)=sbN (X.getD (o + i) 0):=by
 have e:c / 2 ^ n=((jn ((rvN X o 8).map subN) / 2 ^ n:Nat):Int):=by rw [h.1];simp
 have g:=jn_getP (xs:=(rvN X o 8).map subN) (n:=n) (k:=7 - i) h.2.2 (by rw [List.length_map,rvN_len];omega) (by omega)
 have g2:((rvN X o 8).map subN).getD (7 - i) 0=subN (X.getD (o + i) 0).toNat:=by
  have r:=rvN_get (X:=X) (o:=o) (n:=8) hi
  rw [show 8 - 1 - i=7 - i by omega] at r
  rw [List.getD_eq_getElem?_getD,List.getElem?_map,List.getElem?_eq_getElem (by rw [rvN_len];omega),Option.map_some,Option.getD_some,← r,List.getD_eq_getElem?_getD,List.getElem?_eq_getElem (by rw [rvN_len];omega),Option.getD_some]
 rw [g2] at g
 rw [e,IntKind.wrap_u8]
 unfold sbN
 omega
theorem sbZ_hi {X:List Int} {k j:Nat} (h:j < 16) (hk:k≤j):(sbZ X k).getD j 0=X.getD j 0:=by
 simp [sbZ,List.getD_eq_getElem?_getD,h,Nat.not_lt.2 hk]
/-- a number of fourA lanes -/
def L4 (a:Int) (xs:List Nat):Prop:=a=((jn xs:Nat):Int)∧xs.length=4∧lan xs
theorem jn_32 {xs:List Nat} (l:xs.length=4) (h:lan xs):jn xs < 4294967296:=by
 have:=jn_lt h
 rw [l] at this
 exact this
theorem L4.bd {a:Int} {xs:List Nat} (h:L4 a xs):0≤a∧a < 4294967296:=by
 have:=jn_32 h.2.1 h.2.2
 rw [h.1]
 omega
theorem L4.xor {a b:Int} {xs ys:List Nat} (h:L4 a xs) (k:L4 b ys):L4 (bits .xor .u32 a b) (List.zipWith (· ^^^ ·) xs ys):=by
 obtain ⟨rfl,l,h⟩:=h
 obtain ⟨rfl,m,k⟩:=k
 exact ⟨by rw [u32_xor_nat _ _ (jn_32 l h) (jn_32 m k),jn_xor (by omega) h k],by rw [List.length_zipWith];omega,lan_zip (fun x y hx hy=>Nat.xor_lt_two_pow (n:=8) hx hy) h k⟩
theorem jn_app (xs ys:List Nat):jn (xs++ys)=jn xs + 256 ^ xs.length * jn ys:=by
 induction xs with
 | nil=>simp [jn]
 | cons x xs ih=>rw [List.cons_append,jn,jn,ih,List.length_cons,Nat.pow_succ,Nat.mul_add,Nat.mul_comm (256 ^ xs.length) 256,Nat.mul_assoc,Nat.add_assoc]
theorem L4.wide {a:Int} {xs:List Nat} (h:L4 a xs):Ln a (xs++List.replicate 4 0):=by
 refine ⟨?_,by rw [List.length_append,h.2.1];rfl,fun x hx=>?_⟩
 ·rw [jn_app,show jn (List.replicate 4 0)=0 from rfl,Nat.mul_zero,Nat.add_zero]
  exact h.1
 ·rcases List.mem_append.1 hx with hx|hx
  ·exact h.2.2 x hx
  ·rw [List.eq_of_mem_replicate hx]
   decide
theorem Ln.narrow {a:Int} {xs ys:List Nat} (h:Ln a (xs++ys)) (l:xs.length=4):L4 (IntKind.u32.wrap a) xs:=by
 have hx:lan xs:=fun x hx=>h.2.2 x (List.mem_append_left _ hx)
 refine ⟨?_,l,hx⟩
 have b:=jn_32 l hx
 rw [IntKind.wrap_u32,h.1,jn_app,l]
 rw [show (256:Nat) ^ 4=4294967296 from rfl]
 omega
theorem L4.wrap {a:Int} {xs:List Nat} (h:L4 a xs):IntKind.u64.wrap a=a:=by
 have:=h.bd
 rw [IntKind.wrap_u64]
 omega
theorem L4.rot {a:Int} {p q r s:Nat} (h:L4 a [p,q,r,s]):L4 (bits .or .u32 (a * 256 % 4294967296) (a / 16777216)) [s,p,q,r]:=by
 obtain ⟨rfl,_,h⟩:=h
 have hp:=h p (by simp)
 have hq:=h q (by simp)
 have hr:=h r (by simp)
 have hs:=h s (by simp)
 have e:jn [p,q,r,s]=p + 256 * q + 65536 * r + 16777216 * s:=by simp only [jn];omega
 have e2:jn [s,p,q,r]=s + 256 * (p + 256 * q + 65536 * r):=by simp only [jn];omega
 have w1:((jn [p,q,r,s]:Nat):Int) * 256 % 4294967296=(((p + 256 * q + 65536 * r) * 256:Nat):Int):=by rw [e];omega
 have w2:(((jn [p,q,r,s]:Nat):Int) / 16777216)=((s:Nat):Int):=by rw [e];omega
 refine ⟨?_,rfl,fun x hx=>?_⟩
 ·rw [w1,w2,u32_or_nat _ _ (by omega) (by omega),e2]
  have:=Nat.shiftLeft_add_eq_or_of_lt (i:=8) (b:=s) (by omega) (p + 256 * q + 65536 * r)
  rw [Nat.shiftLeft_eq] at this
  rw [← this]
  omega
 ·simp only [List.mem_cons,List.not_mem_nil,or_false] at hx
  rcases hx with rfl|rfl|rfl|rfl<;>assumption
/-- a word's bytes, the last one first -/
def rv4 (P:List Int):List Nat:=[(P.getD 3 0).toNat,(P.getD 2 0).toNat,(P.getD 1 0).toNat,(P.getD 0 0).toNat]
theorem rv4_lan {P:List Int} (h:byteN P):lan (rv4 P):=by
 have h0:=h 0 (by decide)
 have h1:=h 1 (by decide)
 have h2:=h 2 (by decide)
 have h3:=h 3 (by decide)
 intro x hx
 simp only [rv4,List.mem_cons,List.not_mem_nil,or_false] at hx
 rcases hx with rfl|rfl|rfl|rfl<;>omega
/-- a word of the round keys -/
def wW (K:List Int) (j:Nat):Int:=((jn (rv4 (WN K j)):Nat):Int)
theorem wW_L4 {K:List Int} (b:byt K) (j:Nat):L4 (wW K j) (rv4 (WN K j)):=⟨rfl,rfl,rv4_lan (WN_byte b j)⟩
theorem pow_small:∀ n:Fin 7,powN n.1=2 ^ n.1:=by decide +kernel
theorem L4.pow {n:Nat} (h:n≤6):L4 (2 ^ n % 4294967296 * 16777216 % 4294967296) [0,0,0,powN n]:=by
 have p:=pow_small ⟨n,by omega⟩
 simp only at p
 have b:2 ^ n≤2 ^ 6:=Nat.pow_le_pow_right (by decide) h
 have e1:(2:Int) ^ n % 4294967296=((2 ^ n:Nat):Int):=by
  rw [show ((2:Int) ^ n)=((2 ^ n:Nat):Int) by simp]
  omega
 refine ⟨?_,rfl,fun x hx=>?_⟩
 ·rw [e1,p]
  simp only [jn]
  omega
 ·simp only [List.mem_cons,List.not_mem_nil,or_false] at hx
  rcases hx with rfl|rfl|rfl|rfl<;>omega
/-- what is put to a word, at the eighth ones -/
theorem t_eight {P:List Int} {i:Nat} (hi:i % 8=0):List.zipWith (· ^^^ ·) ([(P.getD 0 0).toNat,(P.getD 3 0).toNat,(P.getD 2 0).toNat,(P.getD 1 0).toNat].map subN) [0,0,0,powN ((i - 1) / 8)]=rv4 (tN P i):=by
 have e:bits .xor .u8 (sbN (P.getD 1 0)) ((powN ((i - 1) / 8):Nat):Int)=((subN (P.getD 1 0).toNat ^^^ powN ((i - 1) / 8):Nat):Int):=u8_xor_nat _ _ (subN_lt _) (powN_lt _)
 unfold tN
 rw [if_pos hi]
 simp only [rv4,List.getD_cons_zero,List.getD_cons_succ,List.map_cons,List.map_nil,List.zipWith_cons_cons,List.zipWith_nil_right,Nat.xor_zero,e,Int.toNat_natCast]
 simp [sbN]
theorem t_four {P:List Int} {i:Nat} (hi:i % 8=4):(rv4 P).map subN=rv4 (tN P i):=by
 unfold tN
 rw [if_neg (by omega),if_pos hi]
 simp [rv4,sbN]
theorem t_else {P:List Int} {i:Nat} (h0:¬ i % 8=0) (h4:¬ i % 8=4):rv4 P=rv4 (tN P i):=by
 unfold tN
 rw [if_neg h0,if_neg h4]
/-- the next word -/
theorem word_next {K:List Int} (b:byt K) {i:Nat} (hi:8≤i) {t:Int} (ht:L4 t (rv4 (tN (WN K (i - 1)) i))):bits .xor .u32 (wW K (i - 8)) t=wW K i:=by
 have h:=(wW_L4 b (i - 8)).xor ht
 rw [h.1]
 unfold wW
 congr 2
 have bt:=tN_byte (WN_byte b (i - 1)) i
 have bq:=WN_byte b (i - 8)
 rw [WN_hi hi]
 have e:∀ k,k < 4→(bits .xor .u8 ((tN (WN K (i - 1)) i).getD k 0) ((WN K (i - 8)).getD k 0)).toNat=((WN K (i - 8)).getD k 0).toNat ^^^ ((tN (WN K (i - 1)) i).getD k 0).toNat:=fun k hk=>by
  have h1:=bt k hk
  have h2:=bq k hk
  generalize (tN (WN K (i - 1)) i).getD k 0=x at *
  generalize (WN K (i - 8)).getD k 0=y at *
  obtain ⟨m,rfl⟩:=Int.eq_ofNat_of_zero_le h1.1
  obtain ⟨n,rfl⟩:=Int.eq_ofNat_of_zero_le h2.1
  rw [u8_xor_nat _ _ (by omega) (by omega),Int.toNat_natCast,Int.toNat_natCast,Int.toNat_natCast,Nat.xor_comm]
 simp only [rv4,List.zipWith_cons_cons,List.zipWith_nil_right]
 rw [x4N_get (by decide),x4N_get (by decide),x4N_get (by decide),x4N_get (by decide),e 0 (by decide),e 1 (by decide),e 2 (by decide),e 3 (by decide)]
/-- the first words are the key's -/
theorem word_first {K:List Int} {j:Nat} (h:j < 8):((jn (rvN K (4 * j) 4):Nat):Int)=wW K j:=by
 unfold wW
 congr 2
 have e:∀ k,k < 4→(WN K j).getD k 0=K.getD (4 * j + k) 0:=fun k hk=>by
  rw [WN_lo h,List.getD_eq_getElem?_getD,List.getElem?_take,if_pos hk,List.getElem?_drop,← List.getD_eq_getElem?_getD]
 simp only [rv4,rvN]
 rw [e 0 (by decide),e 1 (by decide),e 2 (by decide),e 3 (by decide)]
/-- a byte of a word -/
theorem word_out {K:List Int} (b:byt K) {j k n:Nat} (hk:k < 4) (hn:n=24 - 8 * k):IntKind.u8.wrap (wW K j / 2 ^ n)=(WN K j).getD k 0:=by
 have e:wW K j / 2 ^ n=((jn (rv4 (WN K j)) / 2 ^ n:Nat):Int):=by unfold wW;simp
 have g:=jn_getP (xs:=rv4 (WN K j)) (n:=n) (k:=3 - k) (rv4_lan (WN_byte b j)) (by show 3 - k < 4;omega) (by omega)
 have by_:=WN_byte b j k hk
 have g2:(rv4 (WN K j)).getD (3 - k) 0=((WN K j).getD k 0).toNat:=by
  have:k=0∨k=1∨k=2∨k=3:=by omega
  rcases this with rfl|rfl|rfl|rfl<;>rfl
 rw [g2] at g
 rw [e,IntKind.wrap_u8]
 omega
def w4s (X:List Int):List Value:=X.map (.int .u32 ·)
theorem w4s_get (X:List Int) (k:Nat) (h:k < X.length):(w4s X)[k]?=some (.int .u32 (X.getD k 0)):=by
 rw [w4s,List.getElem?_map,List.getD_eq_getElem?_getD,List.getElem?_eq_getElem h]
 rfl
theorem w4_ones (A:List Int):((w4s A).toArray).all (·.oneCell')=true:=by
 rw [Array.all_eq_true_iff_forall_mem]
 intro v hv
 simp only [w4s,List.mem_toArray,List.mem_map] at hv
 obtain ⟨x,_,rfl⟩:=hv
 rfl
theorem Blk.setw {w:World} {b:Nat} {S:List Int} (h:Blk w b (w4s S)) (k:Nat) (s:Int):Blk (w.setCell ⟨b,k,none⟩ (.int .u32 s)) b (w4s (S.set k s)):=by
 have e:=h.set k (.int .u32 s)
 rwa [show (w4s S).set k (.int .u32 s)=w4s (S.set k s) by simp [w4s,List.map_set]] at e
theorem range_set {f g:Nat→Int} {n k:Nat} (x:Int) (_:k < n) (h1:x=g k) (h2:∀ j,j≠k→f j=g j):((List.range n).map f).set k x=(List.range n).map g:=by
 apply List.ext_getElem?
 intro j
 by_cases hj:j < n
 ·by_cases e:k=j
  ·subst e
   rw [List.getElem?_set_self (by simpa using hj)]
   simp [hj,h1]
  ·rw [List.getElem?_set_ne e]
   simp only [List.getElem?_map,List.getElem?_range hj,Option.map_some,Option.some.injEq]
   exact h2 j (fun h=>e h.symm)
 ·rw [List.getElem?_eq_none (by simp;omega),List.getElem?_eq_none (by simp;omega)]
/-- the words while the key is laid: i bytes -/
def z1 (K:List Int) (i:Nat):List Int:=(List.range 60).map fun j=>if j < 8 then ((jn (rvN K (4 * j) (min 4 (i - 4 * j))):Nat):Int) else 0
theorem z1_len (K:List Int) (i:Nat):(z1 K i).length=60:=by simp [z1]
theorem z1_0 (K:List Int):z1 K 0=List.replicate 60 0:=by
 apply List.ext_getElem?
 intro j
 by_cases hj:j < 60
 ·simp only [z1,List.getElem?_map,List.getElem?_range hj,Option.map_some,List.getElem?_replicate,if_pos hj,Option.some.injEq]
  split
  ·rw [show min 4 (0 - 4 * j)=0 by omega];rfl
  ·rfl
 ·rw [List.getElem?_eq_none (by simp [z1];omega),List.getElem?_eq_none (by simp;omega)]
theorem z1_get {K:List Int} {i:Nat} (h:i < 32):(z1 K i).getD (i / 4) 0=((jn (rvN K (4 * (i / 4)) (i % 4)):Nat):Int):=by
 have h60:i / 4 < 60:=by omega
 simp only [z1,List.getD_eq_getElem?_getD,List.getElem?_map,List.getElem?_range h60,Option.map_some,Option.getD_some]
 rw [if_pos (by omega),show min 4 (i - 4 * (i / 4))=i % 4 by omega]
theorem z1_set {K:List Int} {i:Nat} (h:i < 32):(z1 K i).set (i / 4) (((K.getD i 0).toNat + 256 * jn (rvN K (4 * (i / 4)) (i % 4)):Nat):Int)=z1 K (i + 1):=by
 refine range_set _ (by omega) ?_ ?_
 ·rw [if_pos (by omega),show min 4 (i + 1 - 4 * (i / 4))=i % 4 + 1 by omega,rvN,jn,show 4 * (i / 4) + i % 4=i by omega]
 ·intro j hj
  split
  ·congr 3
   omega
  ·rfl
/-- the first i words -/
def z2 (K:List Int) (i:Nat):List Int:=(List.range 60).map fun j=>if j < i then wW K j else 0
theorem z2_len (K:List Int) (i:Nat):(z2 K i).length=60:=by simp [z2]
theorem z12 (K:List Int):z1 K 32=z2 K 8:=by
 unfold z1 z2
 apply List.map_congr_left
 intro j _
 by_cases h:j < 8
 ·rw [if_pos h,if_pos h,show min 4 (32 - 4 * j)=4 by omega,word_first h]
 ·rw [if_neg h,if_neg h]
theorem z2_get {K:List Int} {i j:Nat} (h:j < i) (h6:j < 60):(z2 K i).getD j 0=wW K j:=by
 simp only [z2,List.getD_eq_getElem?_getD,List.getElem?_map,List.getElem?_range h6,Option.map_some,Option.getD_some]
 rw [if_pos h]
theorem z2_set {K:List Int} {i:Nat} (h:i < 60):(z2 K i).set i (wW K i)=z2 K (i + 1):=by
 refine range_set _ h ?_ ?_
 ·rw [if_pos (by omega)]
 ·intro j hj
  by_cases e:j < i
  ·rw [if_pos e,if_pos (by omega)]
  ·rw [if_neg e,if_neg (by omega)]
/-- the round keys: t bytes -/
def allZ (K:List Int) (t:Nat):List Int:=(List.range 240).map fun j=>if j < t then (keyN K (j / 16)).getD (j % 16) 0 else 0
theorem allZ_len (K:List Int) (t:Nat):(allZ K t).length=240:=by rw [allZ,List.length_map,List.length_range]
theorem allZ_0 (K:List Int):allZ K 0=List.replicate 240 0:=by
 have e:allZ K 0=(List.range 240).map fun _=>(0:Int):=by
  unfold allZ
  apply List.map_congr_left
  intro j _
  rw [if_neg (by omega)]
 rw [e,List.map_const',List.length_range]
theorem allZ_set {K:List Int} {t i j:Nat} (ht:t=16 * i + j) (hj:j < 16) (hi:i < 15):(allZ K t).set t ((WN K (4 * i + j / 4)).getD (j % 4) 0)=allZ K (t + 1):=by
 refine range_set _ (by omega) ?_ ?_
 ·rw [if_pos (by omega),show t / 16=i by omega,show t % 16=j by omega,keyN_get hj]
 ·intro k hk
  by_cases e:k < t
  ·rw [if_pos e,if_pos (by omega)]
  ·rw [if_neg e,if_neg (by omega)]
theorem allZ_240 (K:List Int):allZ K 240=allN K 15:=by
 apply List.ext_getElem?
 intro j
 by_cases hj:j < 240
 ·have g:=allN_get (K:=K) (i:=j / 16) (k:=j % 16) (by omega) (r:=15) (by omega)
  rw [show 16 * (j / 16) + j % 16=j by omega] at g
  simp only [allZ,List.getElem?_map,List.getElem?_range hj,Option.map_some]
  rw [if_pos hj,← g,List.getD_eq_getElem?_getD,List.getElem?_eq_getElem (by rw [allN_len];omega),Option.getD_some]
 ·rw [List.getElem?_eq_none (by rw [allZ_len];omega),List.getElem?_eq_none (by rw [allN_len];omega)]
end Go.Proofs.YtlkljfnenonfgaaGreatDoor
