/- Digits told as bytes. -/
import Derived.Test.YtcogndaiamgnbaaGreatDoorFrom
namespace Go.Proofs.YtcogndaiamgnbaaGreatDoor
open Go.RowKit
theorem mod_next (a:Int) (h0:0≤a) (k:Nat):a % 256 ^ k + 256 ^ k * (a / 256 ^ k % 256)=a % 256 ^ (k + 1):=by
 obtain ⟨n,rfl⟩:=Int.eq_ofNat_of_zero_le h0
 have e:=Nat.mod_mul (x:=n) (a:=256 ^ k) (b:=256)
 have h1:(256:Int) ^ k=((256 ^ k:Nat):Int):=(Int.natCast_pow 256 k).symm
 rw [Int.pow_succ,h1]
 generalize (256:Nat) ^ k=p at e
 have e2:((n % p + p * (n / p % 256):Nat):Int)=((n % (p * 256):Nat):Int):=by rw [e]
 exact e2
theorem digits_of (a:Int) (h0:0≤a) (Q:List Int) (hQ:∀ r,r < Q.length→Q.getD r 0=a / 256 ^ r % 256):pv 256 Q=a % 256 ^ Q.length:=by
 have key:∀ k,k≤Q.length→pv 256 (Q.take k)=a % 256 ^ k:=by
  intro k
  induction k with
  | zero=>intro _;simp [pv,Int.emod_one]
  | succ k ih =>
   intro hk
   rw [pv_take _ Q k (by omega),ih (by omega),hQ k (by omega),mod_next a h0 k]
 have:=key Q.length (Nat.le_refl _)
 rwa [List.take_of_length_le (Nat.le_refl _)] at this
theorem pv_take_any (b:Int) (D:List Int) (k:Nat):pv b (D.take (k + 1))=pv b (D.take k) + b ^ k * D.getD k 0:=by
 by_cases h:k < D.length
 ·exact pv_take b D k h
 ·rw [List.take_of_length_le (by omega),List.take_of_length_le (by omega),getD_none D k (by omega)];simp
theorem spread (c:Nat) (hc:0 < c) (A R:List Int) (hA:∀ j,0≤A.getD j 0∧A.getD j 0 < 256 ^ c) (hR:∀ t,t < R.length→R.getD t 0=A.getD (t / c) 0 / 256 ^ (t % c) % 256) :
  ∀ n,c * n≤R.length→pv 256 (R.take (c * n))=pv (256 ^ c) (A.take n):=by
 intro n
 induction n with
 | zero=>intro _;simp [pv]
 | succ n ih =>
  intro hn
  have hn':c * n + c≤R.length:=by rw [Nat.mul_succ] at hn;exact hn
  have e1:R.take (c * (n + 1))=R.take (c * n)++(R.take (c * n + c)).drop (c * n):=by
   rw [Nat.mul_succ]
   have:=List.take_append_drop (c * n) (R.take (c * n + c))
   rw [List.take_take,show min (c * n) (c * n + c)=c * n by omega] at this
   exact this.symm
  have hl:((R.take (c * n + c)).drop (c * n)).length=c:=by simp;omega
  have hQ:∀ r,r < ((R.take (c * n + c)).drop (c * n)).length→((R.take (c * n + c)).drop (c * n)).getD r 0=A.getD n 0 / 256 ^ r % 256:=by
   intro r hr
   rw [hl] at hr
   have e:((R.take (c * n + c)).drop (c * n)).getD r 0=R.getD (c * n + r) 0:=by
    simp only [List.getD_eq_getElem?_getD,List.getElem?_drop,List.getElem?_take,show c * n + r < c * n + c by omega,if_true]
   rw [e,hR _ (by omega),Nat.mul_add_div hc,Nat.div_eq_of_lt hr,Nat.mul_add_mod,Nat.mod_eq_of_lt hr,Nat.add_zero]
  have e2:=digits_of (A.getD n 0) (hA n).1 _ hQ
  have e3:(R.take (c * n)).length=c * n:=by simp;omega
  rw [e1,pv_append,ih (by omega),e2,hl,e3,Int.emod_eq_of_lt (hA n).1 (hA n).2,pv_take_any,Int.pow_mul]
/-- bytes are told by their number -/
theorem pv256_inj:∀ (A B:List Int),A.length=B.length→(∀ j,0≤A.getD j 0∧A.getD j 0 < 256)→(∀ j,0≤B.getD j 0∧B.getD j 0 < 256)→pv 256 A=pv 256 B→A=B
 | [],[],_,_,_,_=>rfl
 | [],b :: B,h,_,_,_=>by simp at h
 | a :: A,[],h,_,_,_=>by simp at h
 | a :: A,b :: B,h,hA,hB,hv=>by
  have ha:0≤a∧a < 256:=hA 0
  have hb:0≤b∧b < 256:=hB 0
  simp only [pv] at hv
  have h1:a=b:=by omega
  have h2:pv 256 A=pv 256 B:=by omega
  rw [h1,pv256_inj A B (by simpa using h) (fun j=>hA (j + 1)) (fun j=>hB (j + 1)) h2]
theorem beN_inj (A B:List Int) (hl:A.length=B.length) (hA:byt A) (hB:byt B) (h:beN A=beN B):A=B:=by
 have:=pv256_inj A.reverse B.reverse (by simpa using hl) (byt_rev hA) (byt_rev hB) h
 exact List.reverse_inj.1 this
end Go.Proofs.YtcogndaiamgnbaaGreatDoor
