/- limb.Bytes: a number's 48 bytes. (Plain part.) limb.Bytes: a number's 48 bytes. -/
import Derived.Test.YtcogndaiamgnbaaGreatDoorSpread
import Derived.Test.YtcogndaiamgnbaaGreatDoorRows
import Derived.Deep.OwnRows
namespace Go.Proofs.YtcogndaiamgnbaaGreatDoor
open Go.RowKit
theorem info_u8:(Tryz.prog.info? 5).map (fun i=>(i.zero,i.size,i.bytes))=some (some (.int .u8 0),1,1):=by kernel_rfl
theorem made_u8 (n:Nat):madeCells #[.int .u8 0] n=(u8s (List.replicate n 0)).toArray:=by
 apply Array.ext
 ·simp [madeCells]
 ·intro i h1 h2
  simp [madeCells,Nat.mod_one]
theorem Blk.set8 {w:World} {b:Nat} {S:List Int} (h:Blk w b (u8s S)) (k:Nat) (s:Int):Blk (w.setCell ⟨b,k,none⟩ (.int .u8 s)) b (u8s (S.set k s)):=by
 have:u8s (S.set k s)=(u8s S).set k (.int .u8 s):=by simp [u8s,List.map_set]
 rw [this];exact h.set k _
/-- the bytes of six limbs -/
def bytesOf (A:List Int):List Int:=(List.range 48).map fun i=>A.getD ((47 - i) / 8) 0 / 2 ^ ((47 - i) % 8 * 8) % 256
theorem bytesOf_len (A:List Int):(bytesOf A).length=48:=by simp [bytesOf]
theorem bytesOf_get (A:List Int) (i:Nat) (h:i < 48):(bytesOf A).getD i 0=A.getD ((47 - i) / 8) 0 / 2 ^ ((47 - i) % 8 * 8) % 256:=by
 rw [List.getD_eq_getElem?_getD,bytesOf,List.getElem?_map,List.getElem?_range h]
 rfl
theorem bytesOf_byt (A:List Int):byt (bytesOf A):=by
 apply byt_of
 intro j hj
 rw [bytesOf_len] at hj
 rw [bytesOf_get A j hj]
 omega
theorem two_pow (r:Nat):(2:Int) ^ (r * 8)=256 ^ r:=by
 rw [Nat.mul_comm,Int.pow_mul];rfl
theorem bytesOf_num (A:List Int) (lA:A.length=6) (fA:fits A):beN (bytesOf A)=v64 A:=by
 have hl:(bytesOf A).reverse.length=48:=by rw [List.length_reverse,bytesOf_len]
 have hR:∀ t,t < (bytesOf A).reverse.length→(bytesOf A).reverse.getD t 0=A.getD (t / 8) 0 / 256 ^ (t % 8) % 256:=by
  intro t ht
  rw [hl] at ht
  have e:=rev_get (bytesOf A) (47 - t) (by rw [bytesOf_len];omega)
  rw [bytesOf_len,show 48 - 1 - (47 - t)=t by omega] at e
  rw [e,bytesOf_get A _ (by omega),show 47 - (47 - t)=t by omega,two_pow]
 have e1:(256:Int) ^ 8=18446744073709551616:=by decide
 have h:=spread 8 (by decide) A (bytesOf A).reverse (fun j=>by rw [e1];exact fA j) hR 6 (by rw [hl];decide)
 rw [List.take_of_length_le (by rw [hl];decide),List.take_of_length_le (by omega),e1] at h
 exact h
set_option maxRecDepth 100000 in
set_option maxHeartbeats 1000000 in
theorem bytes_any (A:List Int) (w:World) (lA:A.length=6) (fA:fits A) :
  Calls Tryz.prog 79 #[.agg (us A).toArray] w fun e w'=>∃ g:Nat,e=.returned (.slice (some ⟨g,0,none⟩) 48 48)∧Blk w' g (u8s (bytesOf A))∧Below w.heap.size w w':=by
 have hmk:=run_make_row' 22 5 (.int .u8 0) 1 Tryz.underlying22 info_u8 rfl .i64 .i64 48 (by omega) (by omega)
 rw [made_u8] at hmk
 have b0:=(Blk.new w (us A) 27 w.heap.size rfl).alloc (.cells (u8s (List.replicate 48 0)).toArray 5)
 have b1:=Blk.new (w.alloc (.cells (us A).toArray 27)) (u8s (List.replicate 48 0)) 5 (w.heap.size + 1) (by simp)
 have bel:Below w.heap.size w ((w.alloc (.cells (us A).toArray 27)).alloc (.cells (u8s (List.replicate 48 0)).toArray 5)):=((Below.refl _ _).alloc (Nat.le_refl _) _).alloc (by simp) _
 generalize (u8s (List.replicate 48 0)).toArray=cs at hmk b0 b1 bel
 replace hmk:∀ w:World,(Instr.makeSlice 22 (.int .i64 48) (.int .i64 48)).run Tryz.prog w=.ok (.slice (some ⟨w.heap.size,0,none⟩) 48 48) (w.alloc (.cells cs 5)):=hmk
 have gX:Hid (∀ i,i < 48→(bytesOf A).getD i 0=A.getD ((47 - i) / 8) 0 / 2 ^ ((47 - i) % 8 * 8) % 256):=bytesOf_get A
 have lX:=bytesOf_len A
 obtain ⟨X,hX⟩:∃ X,bytesOf A=X:=⟨_,rfl⟩
 rw [hX] at gX lX ⊢
 clear hX
 go_enter Tryz.func79,Tryz.ntmps79
 go_wp2
 clear hmk
 generalize (w.alloc (.cells (us A).toArray 27)).alloc (.cells cs 5)=W at *
 go_loopw [7] (fun i wr=>∃ (k:Nat) (T:List Int),k≤48∧i=.int .i64 k∧T.length=48∧Hid (∀ j,j < k→T.getD j 0=X.getD j 0)∧Blk wr w.heap.size (us A)∧Blk wr (w.heap.size + 1) (u8s T)∧Below w.heap.size w wr)
  (fun i _=>48 - (intOf i).toNat)
 case atStart=>exact ⟨0,List.replicate 48 0,by omega,rfl,by simp,fun j hj=>absurd hj (by omega),b0,b1,bel⟩
 case round =>
  obtain ⟨k,T,hk,rfl,lT,hJ,hS,hT,hbel⟩:=hrel
  clear b0 b1 bel
  by_cases hlt:k < 48
  ·obtain ⟨a,ha⟩:∃ a,A.getD ((47 - k) / 8) 0=a:=⟨_,rfl⟩
   have ba:0≤a∧a < 18446744073709551616:=ha ▸ fA _
   have x1:=hS.cell ((47 - k) / 8) _ (us_get A _ (by omega))
   rw [ha] at x1
   have gk:=gX.out k hlt
   rw [ha] at gk
   have GK:Hid _:=gk
   have x2:=hT.cell k _ (u8s_get T k (by omega))
   have fz:=hT.frozen k
   obtain ⟨t,ht⟩:∃ t,T.getD k 0=t:=⟨_,rfl⟩
   rw [ht] at x2
   have a0:=ba.1
   have a1:=ba.2
   have g1:(k:Int) < 48:=by omega
   have g2:(0:Int)≤(k:Int):=by omega
   have g3:(0:Int)≤(47 - (k:Int)) / 8:=by omega
   have g4:(47 - (k:Int)) / 8 < 6:=by omega
   have g5:((47 - (k:Int)) / 8).toNat=(47 - k) / 8:=by omega
   clear ha ht gk ba
   go_wp2
   go_roundw
   case rel =>
    refine ⟨k + 1,T.set k (a / 2 ^ ((47 - k) % 8 * 8) % 256),by omega,by go_num,by simpa using lT,fun j hj=>?_,hS.other _ _ (by simp),hT.set8 _ _,hbel.setCell (by simp) _⟩
    by_cases hjk:k=j
    ·subst hjk
     rw [getD_set_same _ _ _ (by omega),GK.out]
    ·have e:(T.set k (a / 2 ^ ((47 - k) % 8 * 8) % 256)).getD j 0=T.getD j 0:=by simp [List.getD_eq_getElem?_getD,hjk]
     rw [e];exact hJ.out j (by omega)
   case measure=>simp [intOf];omega
  ·have h6:(48:Int)≤(k:Int):=by omega
   have hTX:T=X:=by
    apply List.ext_getElem (by omega)
    intro i h1 h2
    have:=hJ.out i (by omega)
    simpa [List.getD_eq_getElem?_getD,h1,h2] using this
   subst hTX
   clear hJ
   go_wp2
   go_ret
   exact ⟨_,rfl,hT,hbel⟩
end Go.Proofs.YtcogndaiamgnbaaGreatDoor
