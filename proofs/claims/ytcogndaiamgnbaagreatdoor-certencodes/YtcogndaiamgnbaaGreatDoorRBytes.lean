/- The reference's Bytes, 48 of them. -/
import Derived.Test.YtcogndaiamgnbaaGreatDoorRefA
import Derived.Test.YtcogndaiamgnbaaGreatDoorLBytes
import Derived.Test.YtcogndaiamgnbaaGreatDoorRows
namespace Go.Proofs.YtcogndaiamgnbaaGreatDoor
open Go.RowKit
/-- the bytes of digits -/
def bytesIn (D:List Int):List Int:=(List.range 48).map fun i=>D.getD ((47 - i) / 4) 0 / 256 ^ ((47 - i) % 4) % 256
theorem bytesIn_len (D:List Int):(bytesIn D).length=48:=by simp [bytesIn]
theorem bytesIn_get (D:List Int) (i:Nat) (h:i < 48):(bytesIn D).getD i 0=D.getD ((47 - i) / 4) 0 / 256 ^ ((47 - i) % 4) % 256:=by
 rw [List.getD_eq_getElem?_getD,bytesIn,List.getElem?_map,List.getElem?_range h]
 rfl
theorem bytesIn_byt (D:List Int):byt (bytesIn D):=by
 apply byt_of
 intro j hj
 rw [bytesIn_len] at hj
 rw [bytesIn_get D j hj]
 omega
theorem bytesIn_num (D:List Int) (lD:D.length≤12) (dD:dig D):beN (bytesIn D)=v32 D:=by
 have hl:(bytesIn D).reverse.length=48:=by rw [List.length_reverse,bytesIn_len]
 have hR:∀ t,t < (bytesIn D).reverse.length→(bytesIn D).reverse.getD t 0=D.getD (t / 4) 0 / 256 ^ (t % 4) % 256:=by
  intro t ht
  rw [hl] at ht
  have e:=rev_get (bytesIn D) (47 - t) (by rw [bytesIn_len];omega)
  rw [bytesIn_len,show 48 - 1 - (47 - t)=t by omega] at e
  rw [e,bytesIn_get D _ (by omega),show 47 - (47 - t)=t by omega]
 have e1:(256:Int) ^ 4=4294967296:=by decide
 have h:=spread 4 (by decide) D (bytesIn D).reverse (fun j=>by rw [e1];exact dD j) hR 12 (by rw [hl];decide)
 rw [List.take_of_length_le (by rw [hl];decide),List.take_of_length_le (by omega),e1] at h
 exact h
theorem shifted (d:Int) (j:Nat):d / 256 ^ j / 256=d / 256 ^ (j + 1):=by
 rw [Int.pow_succ,Int.ediv_ediv_of_nonneg (Int.le_of_lt (Int.pow_pos (by decide)))]
theorem shifted_bd (d:Int) (j:Nat) (h0:0≤d) (h1:d < 4294967296):0≤d / 256 ^ j∧d / 256 ^ j < 4294967296:=by
 have hp:(0:Int) < 256 ^ j:=Int.pow_pos (by decide)
 exact ⟨Int.ediv_nonneg h0 (Int.le_of_lt hp),Int.lt_of_le_of_lt (Int.ediv_le_self _ h0) h1⟩
set_option maxRecDepth 100000 in
set_option maxHeartbeats 1000000 in
theorem rbytes_any (v:Value) (N:Int) (w:World) (hv:NumIs w v N) (hN:N < 4294967296 ^ 12) :
  Calls Tryz.prog 70 #[v,.int .i64 48] w fun e w'=>∃ (g:Nat) (X:List Int),e=.returned (.slice (some ⟨g,0,none⟩) 48 48)∧Blk w' g (u8s X)∧X.length=48∧byt X∧beN X=N∧Below w.heap.size w w':=by
 obtain ⟨D,sD,dD,tD,rfl⟩:=hv
 have lD:=v32_len D dD tD 12 hN
 have HQ:Hid (byt (bytesIn D)∧beN (bytesIn D)=v32 D):=⟨bytesIn_byt D,bytesIn_num D lD dD⟩
 have hmk:=run_make_row' 22 5 (.int .u8 0) 1 Tryz.underlying22 info_u8 rfl .i64 .i64 48 (by omega) (by omega)
 rw [made_u8] at hmk
 have b1:=Blk.new w (u8s (List.replicate 48 0)) 5 w.heap.size rfl
 have bel:Below w.heap.size w (w.alloc (.cells (u8s (List.replicate 48 0)).toArray 5)):=(Below.refl _ _).alloc (Nat.le_refl _) _
 generalize (u8s (List.replicate 48 0)).toArray=cs at hmk b1 bel
 replace hmk:∀ w:World,(Instr.makeSlice 22 (.int .i64 48) (.int .i64 48)).run Tryz.prog w=.ok (.slice (some ⟨w.heap.size,0,none⟩) 48 48) (w.alloc (.cells cs 5)):=hmk
 have gX:Hid (∀ i,i < 48→(bytesIn D).getD i 0=D.getD ((47 - i) / 4) 0 / 256 ^ ((47 - i) % 4) % 256):=bytesIn_get D
 have lX:=bytesIn_len D
 obtain ⟨X,hX⟩:∃ X,bytesIn D=X:=⟨_,rfl⟩
 obtain ⟨N,hNN⟩:∃ N,v32 D=N:=⟨_,rfl⟩
 rw [hX] at gX lX HQ
 rw [hNN] at HQ ⊢
 clear hX hNN hN tD
 obtain ⟨ao,c1,rfl,-,-,-⟩:=sD.form
 obtain ⟨l,hl⟩:∃ l,D.length=l:=⟨_,rfl⟩
 rw [hl] at sD ⊢
 clear hl lD
 go_enter Tryz.func70,Tryz.ntmps70
 go_wp2
 clear hmk
 generalize w.alloc (.cells cs 5)=W at *
 go_loopw [6] (fun iv wr=>∃ (i:Nat) (T:List Int),i≤48∧iv=.int .i64 i∧T.length=48∧Hid (∀ j,48 - i≤j→j < 48→T.getD j 0=X.getD j 0)∧Blk wr w.heap.size (u8s T)∧Below w.heap.size w wr)
  (fun i _=>48 - (intOf i).toNat)
 case atStart=>exact ⟨0,List.replicate 48 0,by omega,rfl,by simp,fun j hj hj2=>absurd hj (by omega),b1,bel⟩
 case round =>
  obtain ⟨i,T,hi,rfl,lT,hJ,hT,hbel⟩:=hrel
  clear b1 bel
  by_cases hlt:i < 48
  ·obtain ⟨d,hd⟩:∃ d,D.getD (i / 4) 0=d:=⟨_,rfl⟩
   have bd:0≤d∧d < 4294967296:=hd ▸ dD _
   have gk:=gX.out (47 - i) (by omega)
   rw [show 47 - (47 - i)=i by omega,hd] at gk
   have GK:Hid _:=gk
   have sD':=sD.later hbel
   have x2:=hT.cell (47 - i) _ (u8s_get T (47 - i) (by omega))
   have fz:=hT.frozen (47 - i)
   obtain ⟨t,ht⟩:∃ t,T.getD (47 - i) 0=t:=⟨_,rfl⟩
   rw [ht] at x2
   have g1:(i:Int) < 48:=by omega
   have g2:(0:Int)≤47 - (i:Int):=by omega
   have g3:47 - (i:Int) < 48:=by omega
   have g4:(47 - (i:Int)).toNat=47 - i:=by omega
   clear ht gk
   go_wp2_with fail
   have AT:=at_any _ D (i / 4) wr sD'
   have ei:((i / 4:Nat):Int)=(i:Int) / 4:=by omega
   rw [ei] at AT
   refine AT.mono ?_
   rintro e1 w' ⟨rfl,hw⟩
   obtain rfl:=hw.symm
   rw [hd]
   clear AT ei hd
   go_wp2_with fail
   go_loop [7,8] (fun vv jv=>∃ j:Nat,j≤i % 4∧jv=.int .i64 j∧vv=.int .u64 (d / 256 ^ j)) (fun _ jv=>4 - (intOf jv).toNat)
   case atStart=>exact ⟨0,by omega,rfl,by simp⟩
   case round =>
    obtain ⟨j,hj,rfl,rfl⟩:=hrel
    have bj:=shifted_bd d j bd.1 bd.2
    have bj0:=bj.1
    have bj1:=bj.2
    by_cases hjl:j < i % 4
    ·have HZ:Hid (d / 256 ^ j / 256=d / 256 ^ (j + 1)):=shifted d j
     obtain ⟨y,hy⟩:∃ y,d / 256 ^ j=y:=⟨_,rfl⟩
     rw [hy] at bj0 bj1 HZ ⊢
     have g5:(j:Int) < (i:Int) % 4:=by omega
     clear hy bj
     go_wp2
     go_round
     case rel=>exact ⟨j + 1,by omega,by go_num,by rw [HZ.out]⟩
     case measure=>simp [intOf];omega
    ·have g5:¬ (j:Int) < (i:Int) % 4:=by omega
     have hje:j=i % 4:=by omega
     have GK':Hid (X.getD (47 - i) 0=d / 256 ^ j % 256):=by rw [hje];exact GK
     obtain ⟨y,hy⟩:∃ y,d / 256 ^ j=y:=⟨_,rfl⟩
     rw [hy] at bj0 bj1 GK' ⊢
     clear hy bj hje
     go_wp2
     go_roundw
     case rel =>
      refine ⟨i + 1,T.set (47 - i) (y % 256),by omega,by go_num,by simpa using lT,fun q hq hq2=>?_,hT.set8 _ _,hbel.setCell (by simp) _⟩
      by_cases hjk:47 - i=q
      ·subst hjk
       rw [getD_set_same _ _ _ (by omega),GK'.out]
      ·have e:(T.set (47 - i) (y % 256)).getD q 0=T.getD q 0:=by simp [List.getD_eq_getElem?_getD,hjk]
       rw [e];exact hJ.out q (by omega) hq2
     case measure=>simp [intOf];omega
  ·have h6:(48:Int)≤(i:Int):=by omega
   have hTX:T=X:=by
    apply List.ext_getElem (by omega)
    intro k h1 h2
    have:=hJ.out k (by omega) (by omega)
    simpa [List.getD_eq_getElem?_getD,h1,h2] using this
   subst hTX
   clear hJ
   go_wp2
   go_ret
   exact ⟨_,T,rfl,hT,lX,HQ.out.1,HQ.out.2,hbel⟩
end Go.Proofs.YtcogndaiamgnbaaGreatDoor
