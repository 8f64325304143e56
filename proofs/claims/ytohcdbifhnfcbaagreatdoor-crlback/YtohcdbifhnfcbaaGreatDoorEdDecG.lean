/- order.Decode: the number of 48 bytes, below the order; or what is amiss. Digits told as bytes. limb.Bytes: a number's 48 bytes. (Plain part.) limb.Bytes: a number's 48 bytes. A signature's bytes. A signature's bytes: what was written is read as it was. Plain facts. Numbers in elements: plain facts. What limb.Less answers of rows of cells. What limb.From answers, as a row of cells. What limb.Bytes answers of a row of cells. What order.N answers, as a row of cells. What order.Decode answers, as a row of cells. What limb.Same answers of rows of cells. An error that is a Code. ecdsa.isA, numberOf and belowN. What ecdsa.Decode answers. -/
import Derived.Test.YtohcdbifhnfcbaaGreatDoorClWr
import Derived.Test.YtohcdbifhnfcbaaGreatDoorDrTG
import Derived.Test.YtohcdbifhnfcbaaGreatDoorLimb
import Derived.Test.YtohcdbifhnfcbaaGreatDoorPmOidN
import Derived.Test.YtohcdbifhnfcbaaGreatDoorDrDG
import Derived.Test.YtohcdbifhnfcbaaGreatDoorDcG1
import Derived.Test.YtohcdbifhnfcbaaGreatDoorPrG
import Derived.Test.YtohcdbifhnfcbaaGreatDoorDcG3
import Derived.Test.YtohcdbifhnfcbaaGreatDoorRows
import Derived.Deep.OwnRows
import Derived.Deep.WholeRow
import Derived.Deep.RegionHeld3
import Derived.Deep.DeepCutAuto
import Derived.Deep.DeepFit
import Derived.Deep.AppendLies
import Derived.Great.BuildSlice
import Derived.Laws.Rows
namespace Go.Proofs.YtohcdbifhnfcbaaGreatDoor
open Go.RowKit
set_option linter.unusedSimpArgs false
set_option maxRecDepth 100000
set_option maxHeartbeats 4000000
theorem same_no {A:Int} (h:A≠0):sameI A 0=0:=by unfold sameI;rw [if_neg h]
theorem same_yes {A:Int} (h:A=0):sameI A 0=1:=by unfold sameI;rw [if_pos h]
theorem odecode_zero {v:Value} {bs:List Int} {w:World} (h:Bs w v bs) (hl:bs.length=48) (hB:byt bs) (hr:beN bs=0) :
  Calls Tryz.prog 142 #[v] w fun e w'=>e=.returned (.tuple #[.agg #[.int .u64 0,.int .u64 0,.int .u64 0,.int .u64 0,.int .u64 0,.int .u64 0],.iface 46 (.int .i64 3)])∧Below w.heap.size w w':=by
 have HR:Hid _:=hr
 clear hr
 have B0:=Blk.new w (us [0,0,0,0,0,0]) 29 w.heap.size rfl
 have bel:=bal w (.cells (us [0,0,0,0,0,0]).toArray 29)
 have q1:=iface_nilnot
 go_enter Tryz.func142,Tryz.ntmps142
 go_wp2_with fail
 simp only [us,List.map_cons,List.map_nil] at B0 bel
 generalize w.alloc (Obj.cells #[.int .u64 0,.int .u64 0,.int .u64 0,.int .u64 0,.int .u64 0,.int .u64 0] 29)=W at *
 refine (from6 (h.later (bel.mono (Nat.le_refl _))) hl hB).mono ?_
 rintro e w1 ⟨s0,s1,s2,s3,s4,s5,rfl,fS,hs,hb⟩
 have HS:Hid _:=hs
 replace B0:=B0.later hb
 replace bel:=below_step bel hb
 clear hb hs
 have lt0:=B0.lt
 have HQ:Hid _:=same_yes (A:=v64 [s0,s1,s2,s3,s4,s5]) (by rw [HS.out];exact HR.out)
 go_wp2_with fail
 refine (same_is fS (fits_zero 6) rfl rfl).mono ?_
 rintro e w2 ⟨rfl,hb⟩
 rw [show v64 [0,0,0,0,0,0]=0 from rfl,HQ.out]
 have B1:=(Blk.new w1 (us [s0,s1,s2,s3,s4,s5]) 29 w1.heap.size rfl).later hb
 replace B0:=(B0.alloc (.cells (us [s0,s1,s2,s3,s4,s5]).toArray 29)).later hb
 replace bel:=below_step (below_alloc bel) hb
 clear hb HQ
 obtain ⟨bi,hbi⟩:∃ b,b=w1.heap.size:=⟨_,rfl⟩
 rw [← hbi] at B1 lt0 ⊢
 clear hbi
 have lt2:=B0.lt
 have lt3:=B1.lt
 have c0:=B0.cell 0 _ rfl;have q0:=B0.frozen 0;have c1:=B0.cell 1 _ rfl;have q1:=B0.frozen 1;have c2:=B0.cell 2 _ rfl;have q2:=B0.frozen 2;have c3:=B0.cell 3 _ rfl;have q3:=B0.frozen 3;have c4:=B0.cell 4 _ rfl;have q4:=B0.frozen 4;have c5:=B0.cell 5 _ rfl;have q5:=B0.frozen 5
 go_wp2_with fail
 exact bodyPost_ret (v:=.tuple #[.agg #[.int .u64 0,.int .u64 0,.int .u64 0,.int .u64 0,.int .u64 0,.int .u64 0],.iface 46 (.int .i64 3)]) (by simp [results,Tryz.results142,go_sem,c0,c1,c2,c3,c4,c5]) rfl ⟨rfl,below_put6 bel (Nat.le_refl _)⟩
theorem odecode_range {v:Value} {bs:List Int} {w:World} (G:GlsO w) (h:Bs w v bs) (hl:bs.length=48) (hB:byt bs) (hr:QQ≤beN bs) :
  Calls Tryz.prog 142 #[v] w fun e w'=>e=.returned (.tuple #[.agg #[.int .u64 0,.int .u64 0,.int .u64 0,.int .u64 0,.int .u64 0,.int .u64 0],.iface 46 (.int .i64 3)])∧Below w.heap.size w w':=by
 have HR:Hid _:=hr
 clear hr
 have B0:=Blk.new w (us [0,0,0,0,0,0]) 29 w.heap.size rfl
 have bel:=bal w (.cells (us [0,0,0,0,0,0]).toArray 29)
 have q1:=iface_nilnot
 go_enter Tryz.func142,Tryz.ntmps142
 go_wp2_with fail
 simp only [us,List.map_cons,List.map_nil] at B0 bel
 generalize w.alloc (Obj.cells #[.int .u64 0,.int .u64 0,.int .u64 0,.int .u64 0,.int .u64 0,.int .u64 0] 29)=W at *
 refine (from6 (h.later (bel.mono (Nat.le_refl _))) hl hB).mono ?_
 rintro e w1 ⟨s0,s1,s2,s3,s4,s5,rfl,fS,hs,hb⟩
 have HS:Hid _:=hs
 replace B0:=B0.later hb
 replace bel:=below_step bel hb
 clear hb hs
 have lt0:=B0.lt
 have HQ:Hid _:=same_no (A:=v64 [s0,s1,s2,s3,s4,s5]) (by rw [HS.out];have:=HR.out;have:=QQ_pos;omega)
 go_wp2_with fail
 refine (same_is fS (fits_zero 6) rfl rfl).mono ?_
 rintro e w2 ⟨rfl,hb⟩
 rw [show v64 [0,0,0,0,0,0]=0 from rfl,HQ.out]
 have B1:=(Blk.new w1 (us [s0,s1,s2,s3,s4,s5]) 29 w1.heap.size rfl).later hb
 replace B0:=(B0.alloc (.cells (us [s0,s1,s2,s3,s4,s5]).toArray 29)).later hb
 replace bel:=below_step (below_alloc bel) hb
 clear hb HQ
 obtain ⟨bi,hbi⟩:∃ b,b=w1.heap.size:=⟨_,rfl⟩
 rw [← hbi] at B1 lt0 ⊢
 clear hbi
 have lt2:=B0.lt
 have lt3:=B1.lt
 have HL:Hid _:=lessN_no (A:=[s0,s1,s2,s3,s4,s5]) (B:=[17072048233947408755,6348401684107011962,14367412456785391071,18446744073709551615,18446744073709551615,18446744073709551615]) (by rw [HS.out,QQ_v];exact HR.out)
 have GW:=G.below bel
 obtain ⟨l0,l1⟩:=GW.lts
 obtain ⟨⟨a0,a1,a2,a3,a4,a5⟩,GW1⟩:=GW
 clear GW1
 have d0:=B1.cell 0 _ rfl;have f0:=B1.frozen 0;have d1:=B1.cell 1 _ rfl;have f1:=B1.frozen 1;have d2:=B1.cell 2 _ rfl;have f2:=B1.frozen 2;have d3:=B1.cell 3 _ rfl;have f3:=B1.frozen 3;have d4:=B1.cell 4 _ rfl;have f4:=B1.frozen 4;have d5:=B1.cell 5 _ rfl;have f5:=B1.frozen 5
 go_wp2_with fail
 refine (less6 fS fQ).mono ?_
 rintro e w3 ⟨rfl,hb⟩
 rw [HL.out]
 replace B1:=B1.later hb
 replace B0:=B0.later hb
 replace bel:=below_step bel hb
 clear hb HL a0 a1 a2 a3 a4 a5 l0 l1 lt2 lt3 d0 d1 d2 d3 d4 d5 f0 f1 f2 f3 f4 f5
 have lt2:=B0.lt
 have lt3:=B1.lt
 have c0:=B0.cell 0 _ rfl;have q0:=B0.frozen 0;have c1:=B0.cell 1 _ rfl;have q1:=B0.frozen 1;have c2:=B0.cell 2 _ rfl;have q2:=B0.frozen 2;have c3:=B0.cell 3 _ rfl;have q3:=B0.frozen 3;have c4:=B0.cell 4 _ rfl;have q4:=B0.frozen 4;have c5:=B0.cell 5 _ rfl;have q5:=B0.frozen 5
 go_wp2_with fail
 exact bodyPost_ret (v:=.tuple #[.agg #[.int .u64 0,.int .u64 0,.int .u64 0,.int .u64 0,.int .u64 0,.int .u64 0],.iface 46 (.int .i64 3)]) (by simp [results,Tryz.results142,go_sem,c0,c1,c2,c3,c4,c5]) rfl ⟨rfl,below_put6 bel (Nat.le_refl _)⟩
theorem odecode_ok {v:Value} {bs:List Int} {w:World} (G:GlsO w) (h:Bs w v bs) (hl:bs.length=48) (hB:byt bs) (h0:0 < beN bs) (hr:beN bs < QQ) :
  Calls Tryz.prog 142 #[v] w fun e w'=>∃ s0 s1 s2 s3 s4 s5:Int,e=.returned (.tuple #[.agg #[.int .u64 s0,.int .u64 s1,.int .u64 s2,.int .u64 s3,.int .u64 s4,.int .u64 s5],.nilIface])∧fits [s0,s1,s2,s3,s4,s5]∧v64 [s0,s1,s2,s3,s4,s5]=beN bs∧Below w.heap.size w w':=by
 have HR:Hid _:=hr
 clear hr
 have H0:Hid _:=h0
 clear h0
 have B0:=Blk.new w (us [0,0,0,0,0,0]) 29 w.heap.size rfl
 have bel:=bal w (.cells (us [0,0,0,0,0,0]).toArray 29)
 have q1:=iface_nilnot
 go_enter Tryz.func142,Tryz.ntmps142
 go_wp2_with fail
 simp only [us,List.map_cons,List.map_nil] at B0 bel
 generalize w.alloc (Obj.cells #[.int .u64 0,.int .u64 0,.int .u64 0,.int .u64 0,.int .u64 0,.int .u64 0] 29)=W at *
 refine (from6 (h.later (bel.mono (Nat.le_refl _))) hl hB).mono ?_
 rintro e w1 ⟨s0,s1,s2,s3,s4,s5,rfl,fS,hs,hb⟩
 have HS:Hid _:=hs
 replace B0:=B0.later hb
 replace bel:=below_step bel hb
 clear hb hs
 have lt0:=B0.lt
 have HQ:Hid _:=same_no (A:=v64 [s0,s1,s2,s3,s4,s5]) (by rw [HS.out];have:=H0.out;omega)
 go_wp2_with fail
 refine (same_is fS (fits_zero 6) rfl rfl).mono ?_
 rintro e w2 ⟨rfl,hb⟩
 rw [show v64 [0,0,0,0,0,0]=0 from rfl,HQ.out]
 have B1:=(Blk.new w1 (us [s0,s1,s2,s3,s4,s5]) 29 w1.heap.size rfl).later hb
 replace B0:=(B0.alloc (.cells (us [s0,s1,s2,s3,s4,s5]).toArray 29)).later hb
 replace bel:=below_step (below_alloc bel) hb
 clear hb HQ
 obtain ⟨bi,hbi⟩:∃ b,b=w1.heap.size:=⟨_,rfl⟩
 rw [← hbi] at B1 lt0 ⊢
 clear hbi
 have lt2:=B0.lt
 have lt3:=B1.lt
 have HL:Hid _:=lessN_yes (A:=[s0,s1,s2,s3,s4,s5]) (B:=[17072048233947408755,6348401684107011962,14367412456785391071,18446744073709551615,18446744073709551615,18446744073709551615]) (by rw [HS.out,QQ_v];exact HR.out)
 have GW:=G.below bel
 obtain ⟨l0,l1⟩:=GW.lts
 obtain ⟨⟨a0,a1,a2,a3,a4,a5⟩,GW1⟩:=GW
 clear GW1
 have d0:=B1.cell 0 _ rfl;have f0:=B1.frozen 0;have d1:=B1.cell 1 _ rfl;have f1:=B1.frozen 1;have d2:=B1.cell 2 _ rfl;have f2:=B1.frozen 2;have d3:=B1.cell 3 _ rfl;have f3:=B1.frozen 3;have d4:=B1.cell 4 _ rfl;have f4:=B1.frozen 4;have d5:=B1.cell 5 _ rfl;have f5:=B1.frozen 5
 go_wp2_with fail
 refine (less6 fS fQ).mono ?_
 rintro e w3 ⟨rfl,hb⟩
 rw [HL.out]
 replace B1:=B1.later hb
 replace B0:=B0.later hb
 replace bel:=below_step bel hb
 clear hb HL a0 a1 a2 a3 a4 a5 l0 l1 lt2 lt3 d0 d1 d2 d3 d4 d5 f0 f1 f2 f3 f4 f5
 have lt2:=B0.lt
 have lt3:=B1.lt
 have c0:=B0.cell 0 _ rfl;have q0:=B0.frozen 0;have c1:=B0.cell 1 _ rfl;have q1:=B0.frozen 1;have c2:=B0.cell 2 _ rfl;have q2:=B0.frozen 2;have c3:=B0.cell 3 _ rfl;have q3:=B0.frozen 3;have c4:=B0.cell 4 _ rfl;have q4:=B0.frozen 4;have c5:=B0.cell 5 _ rfl;have q5:=B0.frozen 5
 have d0:=B1.cell 0 _ rfl;have f0:=B1.frozen 0;have d1:=B1.cell 1 _ rfl;have f1:=B1.frozen 1;have d2:=B1.cell 2 _ rfl;have f2:=B1.frozen 2;have d3:=B1.cell 3 _ rfl;have f3:=B1.frozen 3;have d4:=B1.cell 4 _ rfl;have f4:=B1.frozen 4;have d5:=B1.cell 5 _ rfl;have f5:=B1.frozen 5
 go_wp2_with fail
 exact bodyPost_ret (v:=.tuple #[.agg #[.int .u64 s0,.int .u64 s1,.int .u64 s2,.int .u64 s3,.int .u64 s4,.int .u64 s5],.nilIface]) (by simp [results,Tryz.results142,go_sem,c0,c1,c2,c3,c4,c5]) rfl ⟨s0,s1,s2,s3,s4,s5,rfl,fS,HS.out,below_put6 bel (Nat.le_refl _)⟩
theorem mod_next (a:Int) (h0:0≤a) (k:Nat):a % 256 ^ k + 256 ^ k * (a / 256 ^ k % 256)=a % 256 ^ (k + 1):=by
 obtain ⟨n,rfl⟩:=Int.eq_ofNat_of_zero_le h0
 have e:=Nat.mod_mul (x:=n) (a:=256 ^ k) (b:=256)
 have h1:(256:Int) ^ k=((256 ^ k:Nat):Int):=(Int.natCast_pow 256 k).symm
 rw [Int.pow_succ,h1]
 generalize (256:Nat) ^ k=p at e
 have e2:((n % p + p * (n / p % 256):Nat):Int)=((n % (p * 256):Nat):Int):=by rw [e]
 exact e2
theorem digits_of (a:Int) (h0:0≤a) (Q:List Int) (hQ:∀ r,r < Q.length→Q.getD r 0=a / 256 ^ r % 256):pv 256 Q=a % 256 ^ Q.length:=by
 have key:∀ k,k≤Q.length→pv 256 (Q.take k)=a % 256 ^ k:=by
  intro k
  induction k with
  | zero=>intro _;simp [pv,Int.emod_one]
  | succ k ih =>
   intro hk
   rw [pv_take _ Q k (by omega),ih (by omega),hQ k (by omega),mod_next a h0 k]
 have:=key Q.length (Nat.le_refl _)
 rwa [List.take_of_length_le (Nat.le_refl _)] at this
theorem pv_take_any (b:Int) (D:List Int) (k:Nat):pv b (D.take (k + 1))=pv b (D.take k) + b ^ k * D.getD k 0:=by
 by_cases h:k < D.length
 ·exact pv_take b D k h
 ·rw [List.take_of_length_le (by omega),List.take_of_length_le (by omega),getD_none D k (by omega)];simp
theorem spread (c:Nat) (hc:0 < c) (A R:List Int) (hA:∀ j,0≤A.getD j 0∧A.getD j 0 < 256 ^ c) (hR:∀ t,t < R.length→R.getD t 0=A.getD (t / c) 0 / 256 ^ (t % c) % 256) :
  ∀ n,c * n≤R.length→pv 256 (R.take (c * n))=pv (256 ^ c) (A.take n):=by
 intro n
 induction n with
 | zero=>intro _;simp [pv]
 | succ n ih =>
  intro hn
  have hn':c * n + c≤R.length:=by rw [Nat.mul_succ] at hn;exact hn
  have e1:R.take (c * (n + 1))=R.take (c * n)++(R.take (c * n + c)).drop (c * n):=by
   rw [Nat.mul_succ]
   have:=List.take_append_drop (c * n) (R.take (c * n + c))
   rw [List.take_take,show min (c * n) (c * n + c)=c * n by omega] at this
   exact this.symm
  have hl:((R.take (c * n + c)).drop (c * n)).length=c:=by simp;omega
  have hQ:∀ r,r < ((R.take (c * n + c)).drop (c * n)).length→((R.take (c * n + c)).drop (c * n)).getD r 0=A.getD n 0 / 256 ^ r % 256:=by
   intro r hr
   rw [hl] at hr
   have e:((R.take (c * n + c)).drop (c * n)).getD r 0=R.getD (c * n + r) 0:=by
    simp only [List.getD_eq_getElem?_getD,List.getElem?_drop,List.getElem?_take,show c * n + r < c * n + c by omega,if_true]
   rw [e,hR _ (by omega),Nat.mul_add_div hc,Nat.div_eq_of_lt hr,Nat.mul_add_mod,Nat.mod_eq_of_lt hr,Nat.add_zero]
  have e2:=digits_of (A.getD n 0) (hA n).1 _ hQ
  have e3:(R.take (c * n)).length=c * n:=by simp;omega
  rw [e1,pv_append,ih (by omega),e2,hl,e3,Int.emod_eq_of_lt (hA n).1 (hA n).2,pv_take_any,Int.pow_mul]
/-- bytes are told by their number -/
theorem pv256_inj:∀ (A B:List Int),A.length=B.length→(∀ j,0≤A.getD j 0∧A.getD j 0 < 256)→(∀ j,0≤B.getD j 0∧B.getD j 0 < 256)→pv 256 A=pv 256 B→A=B
 | [],[],_,_,_,_=>rfl
 | [],b :: B,h,_,_,_=>by simp at h
 | a :: A,[],h,_,_,_=>by simp at h
 | a :: A,b :: B,h,hA,hB,hv=>by
  have ha:0≤a∧a < 256:=hA 0
  have hb:0≤b∧b < 256:=hB 0
  simp only [pv] at hv
  have h1:a=b:=by omega
  have h2:pv 256 A=pv 256 B:=by omega
  rw [h1,pv256_inj A B (by simpa using h) (fun j=>hA (j + 1)) (fun j=>hB (j + 1)) h2]
theorem beN_inj (A B:List Int) (hl:A.length=B.length) (hA:byt A) (hB:byt B) (h:beN A=beN B):A=B:=by
 have:=pv256_inj A.reverse B.reverse (by simpa using hl) (byt_rev hA) (byt_rev hB) h
 exact List.reverse_inj.1 this
theorem info_u8:(Tryz.prog.info? 5).map (fun i=>(i.zero,i.size,i.bytes))=some (some (.int .u8 0),1,1):=by kernel_rfl
theorem made_u8 (n:Nat):madeCells #[.int .u8 0] n=(u8s (List.replicate n 0)).toArray:=by
 apply Array.ext
 ·simp [madeCells]
 ·intro i h1 h2
  simp [madeCells,Nat.mod_one]
theorem Blk.set8 {w:World} {b:Nat} {S:List Int} (h:Blk w b (u8s S)) (k:Nat) (s:Int):Blk (w.setCell ⟨b,k,none⟩ (.int .u8 s)) b (u8s (S.set k s)):=by
 have:u8s (S.set k s)=(u8s S).set k (.int .u8 s):=by simp [u8s,List.map_set]
 rw [this];exact h.set k _
/-- the bytes of six limbs -/
def bytesOf (A:List Int):List Int:=(List.range 48).map fun i=>A.getD ((47 - i) / 8) 0 / 2 ^ ((47 - i) % 8 * 8) % 256
theorem bytesOf_len (A:List Int):(bytesOf A).length=48:=by simp [bytesOf]
theorem bytesOf_get (A:List Int) (i:Nat) (h:i < 48):(bytesOf A).getD i 0=A.getD ((47 - i) / 8) 0 / 2 ^ ((47 - i) % 8 * 8) % 256:=by
 rw [List.getD_eq_getElem?_getD,bytesOf,List.getElem?_map,List.getElem?_range h]
 rfl
theorem bytesOf_byt (A:List Int):byt (bytesOf A):=by
 apply byt_of
 intro j hj
 rw [bytesOf_len] at hj
 rw [bytesOf_get A j hj]
 omega
theorem two_pow (r:Nat):(2:Int) ^ (r * 8)=256 ^ r:=by
 rw [Nat.mul_comm,Int.pow_mul];rfl
theorem bytesOf_num (A:List Int) (lA:A.length=6) (fA:fits A):beN (bytesOf A)=v64 A:=by
 have hl:(bytesOf A).reverse.length=48:=by rw [List.length_reverse,bytesOf_len]
 have hR:∀ t,t < (bytesOf A).reverse.length→(bytesOf A).reverse.getD t 0=A.getD (t / 8) 0 / 256 ^ (t % 8) % 256:=by
  intro t ht
  rw [hl] at ht
  have e:=rev_get (bytesOf A) (47 - t) (by rw [bytesOf_len];omega)
  rw [bytesOf_len,show 48 - 1 - (47 - t)=t by omega] at e
  rw [e,bytesOf_get A _ (by omega),show 47 - (47 - t)=t by omega,two_pow]
 have e1:(256:Int) ^ 8=18446744073709551616:=by decide
 have h:=spread 8 (by decide) A (bytesOf A).reverse (fun j=>by rw [e1];exact fA j) hR 6 (by rw [hl];decide)
 rw [List.take_of_length_le (by rw [hl];decide),List.take_of_length_le (by omega),e1] at h
 exact h
theorem bytes_any (A:List Int) (w:World) (lA:A.length=6) (fA:fits A) :
  Calls Tryz.prog 58 #[.agg (us A).toArray] w fun e w'=>∃ g:Nat,e=.returned (.slice (some ⟨g,0,none⟩) 48 48)∧Blk w' g (u8s (bytesOf A))∧Below w.heap.size w w':=by
 have hmk:=run_make_row' 22 5 (.int .u8 0) 1 Tryz.underlying22 info_u8 rfl .i64 .i64 48 (by omega) (by omega)
 rw [made_u8] at hmk
 have b0:=(Blk.new w (us A) 29 w.heap.size rfl).alloc (.cells (u8s (List.replicate 48 0)).toArray 5)
 have b1:=Blk.new (w.alloc (.cells (us A).toArray 29)) (u8s (List.replicate 48 0)) 5 (w.heap.size + 1) (by simp)
 have bel:Below w.heap.size w ((w.alloc (.cells (us A).toArray 29)).alloc (.cells (u8s (List.replicate 48 0)).toArray 5)):=((Below.refl _ _).alloc (Nat.le_refl _) _).alloc (by simp) _
 generalize (u8s (List.replicate 48 0)).toArray=cs at hmk b0 b1 bel
 replace hmk:∀ w:World,(Instr.makeSlice 22 (.int .i64 48) (.int .i64 48)).run Tryz.prog w=.ok (.slice (some ⟨w.heap.size,0,none⟩) 48 48) (w.alloc (.cells cs 5)):=hmk
 have gX:Hid (∀ i,i < 48→(bytesOf A).getD i 0=A.getD ((47 - i) / 8) 0 / 2 ^ ((47 - i) % 8 * 8) % 256):=bytesOf_get A
 have lX:=bytesOf_len A
 obtain ⟨X,hX⟩:∃ X,bytesOf A=X:=⟨_,rfl⟩
 rw [hX] at gX lX ⊢
 clear hX
 go_enter Tryz.func58,Tryz.ntmps58
 go_wp2
 clear hmk
 generalize (w.alloc (.cells (us A).toArray 29)).alloc (.cells cs 5)=W at *
 go_loopw [7] (fun i wr=>∃ (k:Nat) (T:List Int),k≤48∧i=.int .i64 k∧T.length=48∧Hid (∀ j,j < k→T.getD j 0=X.getD j 0)∧Blk wr w.heap.size (us A)∧Blk wr (w.heap.size + 1) (u8s T)∧Below w.heap.size w wr)
  (fun i _=>48 - (intOf i).toNat)
 case atStart=>exact ⟨0,List.replicate 48 0,by omega,rfl,by simp,fun j hj=>absurd hj (by omega),b0,b1,bel⟩
 case round =>
  obtain ⟨k,T,hk,rfl,lT,hJ,hS,hT,hbel⟩:=hrel
  clear b0 b1 bel
  by_cases hlt:k < 48
  ·obtain ⟨a,ha⟩:∃ a,A.getD ((47 - k) / 8) 0=a:=⟨_,rfl⟩
   have ba:0≤a∧a < 18446744073709551616:=ha ▸ fA _
   have x1:=hS.cell ((47 - k) / 8) _ (us_get A _ (by omega))
   rw [ha] at x1
   have gk:=gX.out k hlt
   rw [ha] at gk
   have GK:Hid _:=gk
   have x2:=hT.cell k _ (u8s_get T k (by omega))
   have fz:=hT.frozen k
   obtain ⟨t,ht⟩:∃ t,T.getD k 0=t:=⟨_,rfl⟩
   rw [ht] at x2
   have a0:=ba.1
   have a1:=ba.2
   have g1:(k:Int) < 48:=by omega
   have g2:(0:Int)≤(k:Int):=by omega
   have g3:(0:Int)≤(47 - (k:Int)) / 8:=by omega
   have g4:(47 - (k:Int)) / 8 < 6:=by omega
   have g5:((47 - (k:Int)) / 8).toNat=(47 - k) / 8:=by omega
   clear ha ht gk ba
   go_wp2
   go_roundw
   case rel =>
    refine ⟨k + 1,T.set k (a / 2 ^ ((47 - k) % 8 * 8) % 256),by omega,by go_num,by simpa using lT,fun j hj=>?_,hS.other _ _ (by simp),hT.set8 _ _,hbel.setCell (by simp) _⟩
    by_cases hjk:k=j
    ·subst hjk
     rw [getD_set_same _ _ _ (by omega),GK.out]
    ·have e:(T.set k (a / 2 ^ ((47 - k) % 8 * 8) % 256)).getD j 0=T.getD j 0:=by simp [List.getD_eq_getElem?_getD,hjk]
     rw [e];exact hJ.out j (by omega)
   case measure=>simp [intOf];omega
  ·have h6:(48:Int)≤(k:Int):=by omega
   have hTX:T=X:=by
    apply List.ext_getElem (by omega)
    intro i h1 h2
    have:=hJ.out i (by omega)
    simpa [List.getD_eq_getElem?_getD,h1,h2] using this
   subst hTX
   clear hJ
   go_wp2
   go_ret
   exact ⟨_,rfl,hT,hbel⟩
/-- a signature's element, of two numbers' bodies -/
def sigT (x y:List Int):Tl:=.mk 0 16 true [] [.mk 0 2 false x [],.mk 0 2 false y []]
/-- a number in an element -/
def partP:Tl→Option (List Int)
 | .mk c t m b _=>if c=0∧t=2∧m=false then (match numP b with|.ok n=>some n|.error _=>none) else none
/-- two numbers in a list -/
def sigP:Tl→Option (List Int × List Int)
 | .mk c t m _ [a,b]=>if c=0∧t=16∧m=true then (match partP a,partP b with|some x,some y=>some (x,y)|_,_=>none) else none
 | _=>none
/-- 48 bytes of a number -/
def Is48 (X:List Int) (r:Int):Prop:=X.length=48∧byt X∧beN X=r
theorem beN_zero (X:List Int):beN ((0:Int) :: X)=beN X:=by
 unfold beN
 rw [List.reverse_cons,pv_append]
 simp [pv]
theorem beN_less:∀ X:List Int,beN (lessZ X)=beN X
 | []=>rfl
 | x :: xs=>by
  rw [lessZ]
  split
  ·rename_i h
   subst h
   rw [beN_less xs,beN_zero]
  ·rfl
theorem num48 {X:List Int} (hl:X.length=48):∃ x,numOf X=.ok x∧x.length≤49:=by
 have h1:(lessZ X).length≤48:=by
  rw [lessZ_drop,List.length_drop]
  omega
 unfold numOf
 rw [if_neg (by omega)]
 by_cases c:(lessZ X).length=0∨127 < (lessZ X).getD 0 0
 ·exact ⟨_,by rw [if_pos c],by rw [List.length_cons];omega⟩
 ·exact ⟨_,by rw [if_neg c],by omega⟩
theorem numOf_byt {X x:List Int} (b:byt X) (h:numOf X=.ok x):byt x:=by
 have hl:byt (lessZ X):=by rw [lessZ_drop];exact byt_dropM b _
 unfold numOf at h
 split at h
 ·cases h
 ·split at h
  ·cases h
   exact byt_consP (by decide) hl
  ·cases h
   exact hl
theorem lenB_small {n:Nat} (h:n < 128):(lenB n).length=1:=by
 unfold lenB
 rw [if_pos h]
 rfl
theorem sig_len {x y:List Int} (hx:x.length≤49) (hy:y.length≤49):(bytesT (sigT x y)).length≤200:=by
 have k1:(bytesT (.mk 0 2 false x [])).length=x.length + 2:=by
  rw [bytesT_len,bytesL,List.append_nil,lenB_small (by omega)]
  omega
 have k2:(bytesT (.mk 0 2 false y [])).length=y.length + 2:=by
  rw [bytesT_len,bytesL,List.append_nil,lenB_small (by omega)]
  omega
 unfold sigT
 rw [bytesT_len]
 simp only [bytesL,List.nil_append,List.append_nil,List.length_append,k1,k2]
 rw [lenB_small (by omega)]
 omega
theorem sig_fine (x y:List Int):fineT (sigT x y)=true:=by
 simp [sigT,fineT,fineL,fine1]
theorem sig_dep (x y:List Int):depT (sigT x y)=2:=by
 simp [sigT,depT,depL]
theorem sig_sz (x y:List Int):szT (sigT x y)=3:=by
 simp [sigT,szT,szL]
theorem sig_wr {x y:List Int} (hx:x.length≤49) (hy:y.length≤49):wrN (sigT x y)=0:=by
 have:=sig_len hx hy
 unfold wrN
 rw [if_pos (sig_fine x y),if_neg (by rw [sig_dep];omega),if_neg (by omega)]
theorem sig_wf {x y:List Int} (bx:byt x) (bY:byt y):WfT (sigT x y):=by
 simp only [sigT,WfT,WfL]
 exact ⟨by omega,by omega,byt_nilP,⟨by omega,by omega,bx,trivial⟩,⟨by omega,by omega,bY,trivial⟩,trivial⟩
theorem sig_byt {x y:List Int} (bx:byt x) (bY:byt y):byt (bytesT (sigT x y)):=bytesT_byt (sig_fine x y) (sig_wf bx bY)
theorem sig_parse {x y:List Int} (hx:x.length≤49) (hy:y.length≤49):parseP (bytesT (sigT x y))=.ok (sigT x y):=by
 have hl:=sig_len hx hy
 have h:=parse_of (T:=sigT x y) (Y:=[]) (sig_fine x y) (by rw [sig_dep];omega) (by rw [List.append_nil];omega)
 rw [List.append_nil] at h
 rw [h]
 rfl
theorem sigP_back {X Y x y:List Int} (bX:byt X) (bY:byt Y) (hx:numOf X=.ok x) (hy:numOf Y=.ok y):sigP (sigT x y)=some (lessZ X,lessZ Y):=by
 have h1:=(num_back bX hx).1
 have h2:=(num_back bY hy).1
 simp only [sigT,sigP,partP,h1,h2]
 simp
theorem numC_good {B n:List Int} (b:byt B) (h:numP B=.ok n):byt n∧n.length≤64:=by
 unfold numP at h
 obtain ⟨R,hR⟩:∃ R,(if B.getD 0 0=0 then B.drop 1 else B)=R:=⟨_,rfl⟩
 rw [hR] at h
 have hb:byt R:=by
  rw [← hR]
  split
  ·exact byt_dropM b 1
  ·exact b
 by_cases g:B.length=0∨127 < B.getD 0 0∨(1 < B.length∧B.getD 0 0=0∧B.getD 1 0 < 128)
 ·rw [if_pos g] at h;cases h
 ·rw [if_neg g] at h
  by_cases g2:64 < R.length
  ·rw [if_pos g2] at h;cases h
  ·rw [if_neg g2] at h;cases h;exact ⟨hb,by omega⟩
theorem partC_no {c t:Int} {m:Bool} {b:List Int} {ks:List Tl} (h:¬ (c=0∧t=2∧m=false)):partP (.mk c t m b ks)=none:=by rw [partP,if_neg h]
theorem partC_bad {c t:Int} {m:Bool} {b:List Int} {ks:List Tl} {e:Nat} (h:numP b=.error e):partP (.mk c t m b ks)=none:=by
 rw [partP,h]
 split<;>rfl
theorem partC_ok {b n:List Int} {ks:List Tl} (h:numP b=.ok n):partP (.mk 0 2 false b ks)=some n:=by rw [partP,if_pos ⟨rfl,rfl,rfl⟩,h]
theorem beN_pad (m:Nat) (X:List Int):beN (List.replicate m 0++X)=beN X:=by
 induction m with
 | zero=>rfl
 | succ m ih=>rw [List.replicate_succ,List.cons_append,beN_zero,ih]
theorem beN_nonneg {X:List Int} (b:byt X):0≤beN X:=(pv256_bound X.reverse (byt_rev b)).1
theorem beN_ge {x:Int} {X:List Int} (b:byt (x :: X)) (h:x≠0):256 ^ X.length≤beN (x :: X):=by
 have h0:=b 0
 have hX:byt X:=fun j=>by have:=b (j + 1);simpa using this
 have h1:=beN_nonneg hX
 unfold beN at *
 rw [List.reverse_cons,pv_append,List.length_reverse]
 simp only [pv,List.getD_cons_zero,Int.mul_zero,Int.add_zero] at *
 have h2:(256:Int) ^ X.length * 1≤256 ^ X.length * x:=Int.mul_le_mul_of_nonneg_left (by omega) (Int.pow_nonneg (by decide))
 omega
theorem QQ_256:QQ≤(256:Int) ^ 48:=by decide +kernel
theorem beN_great {x:Int} {X:List Int} (b:byt (x :: X)) (h:x≠0) (hl:48≤X.length):QQ≤beN (x :: X):=by
 have h1:=beN_ge b h
 have h2:(256:Int) ^ 48≤256 ^ X.length:=by
  obtain ⟨k,hk⟩:∃ k,X.length=48 + k:=⟨X.length - 48,by omega⟩
  rw [hk,Int.pow_add]
  have h3:(1:Int)≤256 ^ k:=by
   clear hk
   induction k with
   | zero=>decide
   | succ k ih=>rw [Int.pow_succ];omega
  have h4:(256:Int) ^ 48 * 1≤256 ^ 48 * 256 ^ k:=Int.mul_le_mul_of_nonneg_left h3 (Int.pow_nonneg (by decide))
  omega
 have:=QQ_256
 omega
/-- a number of more than 48 bytes is not below N -/
theorem num_great {B n:List Int} (b:byt B) (h:numP B=.ok n) (hl:48 < n.length):QQ≤beN n:=by
 have hb:=(numC_good b h).1
 unfold numP at h
 by_cases g:B.length=0∨127 < B.getD 0 0∨(1 < B.length∧B.getD 0 0=0∧B.getD 1 0 < 128)
 ·rw [if_pos g] at h;cases h
 rw [if_neg g] at h
 by_cases z:B.getD 0 0=0
 ·simp only [if_pos z] at h
  split at h
  ·cases h
  ·cases h
   match B,g,z,hl,hb with
   | [],_,_,hl,_=>simp at hl
   | [_],_,_,hl,_=>simp at hl
   | _ :: y :: ys,g,z,hl,hb =>
    simp only [List.drop_succ_cons,List.drop_zero,List.length_cons,List.getD_cons_zero,List.getD_cons_succ] at *
    exact beN_great hb (by omega) (by omega)
 ·simp only [if_neg z] at h
  split at h
  ·cases h
  ·cases h
   match B,g,z,hl,hb with
   | [],_,_,hl,_=>simp at hl
   | y :: ys,g,z,hl,hb =>
    simp only [List.length_cons,List.getD_cons_zero] at *
    exact beN_great hb z (by omega)
theorem byt_pad (m:Nat) {X:List Int} (b:byt X):byt (List.replicate m 0++X):=by
 induction m with
 | zero=>exact b
 | succ m ih=>rw [List.replicate_succ,List.cons_append];exact byt_consP (by decide) ih
theorem sigC_none {c t:Int} {m:Bool} {bb:List Int} {ks:List Tl} (h:¬ ((c=0∧t=16∧m=true)∧ks.length=2)):sigP (.mk c t m bb ks)=none:=by
 match ks,h with
 | [],_=>rfl
 | [_],_=>rfl
 | [a,b],h=>rw [sigP,if_neg (fun h'=>h ⟨h',rfl⟩)]
 | _ :: _ :: _ :: _,_=>rfl
theorem sigC_some {bb:List Int} {a b:Tl} {x y:List Int} (hx:partP a=some x) (hy:partP b=some y):sigP (.mk 0 16 true bb [a,b])=some (x,y):=by
 rw [sigP,if_pos ⟨rfl,rfl,rfl⟩,hx,hy]
theorem sigC_no {bb:List Int} {ks:List Tl} {i:Nat} {k:Tl} (hk:ks[i]?=some k) (h:partP k=none):sigP (.mk 0 16 true bb ks)=none:=by
 match ks,i,hk with
 | [],_,hk=>simp at hk
 | [_],_,_=>rfl
 | [a,b],0,hk =>
  simp at hk
  subst hk
  rw [sigP,if_pos ⟨rfl,rfl,rfl⟩,h]
 | [a,b],1,hk =>
  simp at hk
  subst hk
  rw [sigP,if_pos ⟨rfl,rfl,rfl⟩,h]
  cases partP a<;>rfl
 | [a,b],i + 2,hk=>simp at hk
 | _ :: _ :: _ :: _,_,_=>rfl
theorem kidC_small {c t:Int} {m:Bool} {bb b0:List Int} {c0 t0:Int} {m0:Bool} {l0 ks:List Tl} {i:Nat} (hw:WfT (.mk c t m bb ks)) (hl:(bytesT (.mk c t m bb ks)).length≤1048576) (h2:ks.length=2) (hk:ks[i]?=some (.mk c0 t0 m0 b0 l0)):byt b0∧b0.length≤1048576:=by
 match ks,h2,i,hk with
 | [x,y],_,0,hk =>
  simp at hk
  subst hk
  simp only [WfT,WfL] at hw
  obtain ⟨_,_,_,⟨_,_,w0,_⟩,_,_⟩:=hw
  rw [bytesT_len] at hl
  simp only [bytesL,List.length_append,bytesT_len,List.append_nil] at hl
  exact ⟨w0,by omega⟩
 | [x,y],_,1,hk =>
  simp at hk
  subst hk
  simp only [WfT,WfL] at hw
  obtain ⟨_,_,_,_,⟨_,_,w0,_⟩,_⟩:=hw
  rw [bytesT_len] at hl
  simp only [bytesL,List.length_append,bytesT_len,List.append_nil] at hl
  exact ⟨w0,by omega⟩
 | [x,y],_,i + 2,hk=>simp at hk
theorem uLess {cs ds:List Value} {x y:Int} {w:World} (h:U6 cs x) (k:U6 ds y):Calls Tryz.prog 133 #[.agg cs.toArray,.agg ds.toArray] w fun e w'=>e=.returned (.int .u64 (if x < y then 1 else 0))∧Below w.heap.size w w':=by
 obtain ⟨z0,z1,z2,z3,z4,z5,rfl,hf,rfl⟩:=h
 obtain ⟨y0,y1,y2,y3,y4,y5,rfl,kf,rfl⟩:=k
 refine (less6 hf kf).mono ?_
 rintro e w' ⟨rfl,hb⟩
 exact ⟨rfl,hb⟩
theorem uBytes {cs:List Value} {x:Int} {w:World} (h:U6 cs x):Calls Tryz.prog 58 #[.agg cs.toArray] w fun e w'=>∃ (g:Nat) (X:List Int),e=.returned (.slice (some ⟨g,0,none⟩) 48 48)∧Blk w' g (u8s X)∧X.length=48∧byt X∧beN X=x∧Below w.heap.size w w':=by
 obtain ⟨z0,z1,z2,z3,z4,z5,rfl,hf,rfl⟩:=h
 refine (bytes_any [z0,z1,z2,z3,z4,z5] w rfl hf).mono ?_
 rintro e w' ⟨g,rfl,B,hb⟩
 exact ⟨g,_,rfl,B,bytesOf_len _,bytesOf_byt _,bytesOf_num _ rfl hf,hb⟩
theorem uN {w:World} (G:GlsO w):Calls Tryz.prog 134 #[] w fun e w'=>∃ es,e=.returned (.agg es.toArray)∧U6 es QQ∧Below w.heap.size w w':=by
 refine (on6 G).mono ?_
 rintro e w' ⟨rfl,hb⟩
 exact ⟨_,rfl,⟨_,_,_,_,_,_,rfl,fits6 (by decide),by decide +kernel⟩,hb⟩
theorem uODec {v:Value} {D:List Int} {w:World} (G:GlsO w) (hv:Bs w v D) (hD:byt D) (hl:D.length=48) (hs:isSc (beN D)):Calls Tryz.prog 142 #[v] w fun e w'=>∃ es,e=.returned (.tuple #[.agg es.toArray,.nilIface])∧U6 es (beN D)∧Below w.heap.size w w':=by
 refine (odecode_ok G hv hl hD (by have:=hs.1;omega) hs.2).mono ?_
 rintro e w' ⟨y0,y1,y2,y3,y4,y5,rfl,fy,hy,hb⟩
 exact ⟨_,rfl,⟨y0,y1,y2,y3,y4,y5,rfl,fy,hy⟩,hb⟩
theorem uODecNo {v:Value} {D:List Int} {w:World} (G:GlsO w) (hv:Bs w v D) (hD:byt D) (hl:D.length=48) (h0:0≤beN D) (hs:¬ isSc (beN D)):Calls Tryz.prog 142 #[v] w fun e w'=>e=.returned (.tuple #[.agg #[.int .u64 0,.int .u64 0,.int .u64 0,.int .u64 0,.int .u64 0,.int .u64 0],.iface 46 (.int .i64 3)])∧Below w.heap.size w w':=by
 by_cases z:beN D=0
 ·exact odecode_zero hv hl hD z
 ·exact odecode_range G hv hl hD (by unfold isSc at hs;omega)
theorem uSame {cs ds:List Value} {x y:Int} {w:World} (h:U6 cs x) (k:U6 ds y):Calls Tryz.prog 132 #[.agg cs.toArray,.agg ds.toArray] w fun e w'=>e=.returned (.int .u64 (if x=y then 1 else 0))∧Below w.heap.size w w':=by
 obtain ⟨z0,z1,z2,z3,z4,z5,rfl,hf,rfl⟩:=h
 obtain ⟨y0,y1,y2,y3,y4,y5,rfl,kf,rfl⟩:=k
 refine (same_is hf kf rfl rfl).mono ?_
 rintro e w' ⟨rfl,hb⟩
 exact ⟨rfl,hb⟩
/-- an error that is a Code itself -/
def codeV (c:Int):Value:=.iface 46 (.int .i64 c)
theorem c14_isA {c t tag:Int} {m mk:Bool} {b:List Int} {ks:List Tl} {cs:List Value} {w:World} (h:TlAt w (.mk c t m b ks) cs) :
  Calls Tryz.prog 110 #[.agg cs.toArray,.int .i64 tag,.bool mk] w fun e w'=>e=.returned (.bool (decide (c=0∧t=tag∧m=mk)))∧Below w.heap.size w w':=by
 rw [TlAt] at h
 obtain ⟨bv,ka,kc,rfl,hbv,-,-,-⟩:=h
 obtain ⟨ba,bc,rfl,-,-,-⟩:=hbv
 have B0:=Blk.new w [.int .i64 c,.int .i64 t,.bool m,.slice ba b.length bc,.slice ka ks.length kc] 53 w.heap.size rfl
 have bel:=bal w (.cells #[.int .i64 c,.int .i64 t,.bool m,.slice ba b.length bc,.slice ka ks.length kc] 53)
 go_enter Tryz.func110,Tryz.ntmps110
 go_upto_region 1 with fail
 generalize w.alloc (.cells #[.int .i64 c,.int .i64 t,.bool m,.slice ba b.length bc,.slice ka ks.length kc] 53)=W at *
 have e0:=B0.cell 0 _ rfl
 have e1:=B0.cell 1 _ rfl
 have e2:=B0.cell 2 _ rfl
 have lt0:=B0.lt
 by_cases c1:c=0
 rotate_left
 ·have H:Hid (decide (c=0∧t=tag∧m=mk)=false):=decide_eq_false (fun h=>c1 h.1)
  have d1:(c == 0)=false:=by rw [beq_eq_false_iff_ne];exact c1
  clear c1
  go_wp2_with fail
  go_ret
  exact ⟨by rw [H.out];rfl,bel⟩
 have d1:(c == 0)=true:=by rw [c1];rfl
 by_cases c2:t=tag
 rotate_left
 ·have H:Hid (decide (c=0∧t=tag∧m=mk)=false):=decide_eq_false (fun h=>c2 h.2.1)
  have d2:(t == tag)=false:=by rw [beq_eq_false_iff_ne];exact c2
  clear c1 c2
  go_wp2_with fail
  go_ret
  exact ⟨by rw [H.out];rfl,bel⟩
 have d2:(t == tag)=true:=by rw [c2];exact beq_self_eq_true _
 have HC1:Hid (c=0):=c1
 have HC2:Hid (t=tag):=c2
 clear c1 c2
 cases m<;>cases mk
 all_goals
  go_wp2_with fail
  go_ret
  exact ⟨by first|rfl|(simp only [HC1.out,HC2.out,decide_true,Bool.and_self];rfl),bel⟩
/-- what numberOf tells of an element -/
def NumR (w:World) (T:Tl) (e:Ending) (w':World):Prop:=(∃ n v',partP T=some n∧e=.returned (.tuple #[v',.nilIface])∧Bs w' v' n∧NewV w v'∧byt n∧n.length≤64∧(48 < n.length→QQ≤beN n)∧Below w.heap.size w w')∨(partP T=none∧e=.returned (.tuple #[.slice none 0 0,.iface 46 (.int .i64 7)])∧Below w.heap.size w w')
theorem ne_codeT (c:Int):∀ w:World,(binOp .neq 35 (.iface 46 (.int .i64 c)) .nilIface).run Tryz.prog w=.ok (.bool true) w:=fun _=>by kernel_rfl
theorem ne_nilT:∀ w:World,(binOp .neq 35 .nilIface .nilIface).run Tryz.prog w=.ok (.bool false) w:=fun _=>by kernel_rfl
theorem c14_numberOf {c t:Int} {m:Bool} {b:List Int} {ks:List Tl} {cs:List Value} {w:World} (h:TlAt w (.mk c t m b ks) cs) (bb:byt b) (hl:b.length≤1048576) :
  Calls Tryz.prog 111 #[.agg cs.toArray] w (NumR w (.mk c t m b ks)):=by
 have HT:Hid (TlAt w (.mk c t m b ks) cs):=h
 rw [TlAt] at h
 obtain ⟨bv,ka,kc,hcs,hbv,-,-,-⟩:=h
 have HBv:Hid (Bs w bv b):=hbv
 obtain ⟨ba,bc,rfl,-,-,-⟩:=hbv
 have HL5:Hid (cs.length=5):=HT.out.five
 have HC3:Hid (cs[3]?=some (.slice ba b.length bc)):=by show _=_;rw [hcs];rfl
 clear hcs
 have B0:=Blk.new w cs 53 w.heap.size rfl
 have bel:=bal w (.cells cs.toArray 53)
 go_enter Tryz.func111,Tryz.ntmps111
 go_upto_region 1 with fail
 generalize w.alloc (.cells cs.toArray 53)=W at *
 have lt0:=B0.lt
 go_wp2_with (first|(refine wpList_load_run (by rfl) (by rfl) (by rfl) (B0.load Tryz.underlying53 rfl size_tlv HL5.out) ?_)|fail)
 refine (c14_isA (HT.out.later bel)).mono ?_
 rintro e w1 ⟨rfl,hb⟩
 replace B0:=B0.later hb
 replace bel:=below_step bel hb
 clear hb lt0
 by_cases c1:c=0∧t=2∧m=false
 rotate_left
 ·have H:Hid (partP (.mk c t m b ks)=none):=partC_no c1
  rw [decide_eq_false c1]
  clear c1
  go_wp2_with fail
  refine bodyPost_ret (results_tmp2 rfl _ _ _) rfl ?_
  exact .inr ⟨H.out,rfl,bel⟩
 rw [decide_eq_true c1]
 obtain ⟨rfl,rfl,rfl⟩:=c1
 have lt0:=B0.lt
 have e3:=B0.cell 3 _ HC3.out
 go_wp2_with fail
 refine (con_Number (HBv.out.later bel) bb (by omega)).mono ?_
 rintro e w2 ⟨hok,hbad⟩
 cases hp:numP b with
 | ok nn =>
  obtain ⟨v1,rfl,bs1,hnw,hb⟩:=hok nn hp
  have HNw:Hid (NewV w v1):=hnw.up bel.size
  clear hnw
  have H:Hid (partP (.mk 0 2 false b ks)=some nn):=partC_ok hp
  have HGd:Hid _:=numC_good bb hp
  have HGr:Hid (48 < nn.length→QQ≤beN nn):=num_great bb hp
  have HBn:Hid (Bs w2 v1 nn):=bs1
  obtain ⟨na,nc,rfl,-,-,-⟩:=bs1
  replace bel:=below_step bel hb
  clear hok hbad hp hb e3 lt0 B0
  have q3:=ne_nilT
  go_wp2_with fail
  refine bodyPost_ret (results_tmp2 rfl _ _ _) rfl ?_
  exact .inl ⟨nn,_,H.out,rfl,HBn.out,HNw.out,HGd.out.1,HGd.out.2,HGr.out,bel⟩
 | error cc =>
  obtain ⟨na,nc,rfl,hb⟩:=hbad cc hp
  have H:Hid (partP (.mk 0 2 false b ks)=none):=partC_bad hp
  replace bel:=below_step bel hb
  clear hok hbad hp hb e3 lt0 B0
  have q3:=ne_codeT
  go_wp2_with fail
  refine bodyPost_ret (results_tmp2 rfl _ _ _) rfl ?_
  exact .inr ⟨H.out,rfl,bel⟩
/-- what belowN tells of bytes -/
def BelR (w:World) (n:List Int) (e:Ending) (w':World):Prop:=(¬ isSc (beN n)∧e=.returned (.tuple #[.agg #[.int .u64 0,.int .u64 0,.int .u64 0,.int .u64 0,.int .u64 0,.int .u64 0],.iface 46 (.int .i64 3)])∧Below w.heap.size w w')∨(∃ es,isSc (beN n)∧e=.returned (.tuple #[.agg es.toArray,.nilIface])∧U6 es (beN n)∧Below w.heap.size w w')
theorem info_C:(Tryz.prog.info? 5).map (fun i=>(i.zero,i.size,i.bytes))=some (some (.int .u8 0),1,1):=by kernel_rfl
theorem mk_C (n:Nat) (hn:n≤48):∀ w:World,(Instr.makeSlice 22 (.int .i64 (n:Int)) (.int .i64 (n:Int))).run Tryz.prog w=.ok (.slice (some ⟨w.heap.size,0,none⟩) n n) (w.alloc (.cells (u8s (List.replicate n 0)).toArray 5)):=fun w=>by
 have:=run_make_row' 22 5 (.int .u8 0) 1 Tryz.underlying22 info_C rfl .i64 .i64 n (by omega) (by omega) w
 rw [made_zero] at this
 exact this
theorem c14_belowN {v:Value} {n:List Int} {w:World} (G:GlsO w) (hv:Bs w v n) (b:byt n) (hl:n.length≤64) (hg:48 < n.length→QQ≤beN n) :
  Calls Tryz.prog 112 #[v] w (BelR w n):=by
 have HG:Hid (GlsO w):=G
 have HB:Hid (byt n):=b
 have HGr:Hid (48 < n.length→QQ≤beN n):=hg
 have HV:Hid (Bs w v n):=hv
 obtain ⟨ao,cap,rfl,h1,h2,h3⟩:=hv
 clear G b hg h1 h2 h3
 have R0:=Blk.new w [.int .u64 0,.int .u64 0,.int .u64 0,.int .u64 0,.int .u64 0,.int .u64 0] 29 w.heap.size rfl
 have bel:=bal w (.cells #[.int .u64 0,.int .u64 0,.int .u64 0,.int .u64 0,.int .u64 0,.int .u64 0] 29)
 have hz:=zero_u.out
 go_enter Tryz.func112,Tryz.ntmps112
 go_upto_region 1 with fail
 generalize w.alloc (.cells #[.int .u64 0,.int .u64 0,.int .u64 0,.int .u64 0,.int .u64 0,.int .u64 0] 29)=W at *
 clear hz
 by_cases c1:48 < n.length
 ·have H:Hid (¬ isSc (beN n)):=fun h=>by have:=HGr.out c1;have:=h.2;omega
  have g1:(48:Int) < (n.length:Int):=by omega
  obtain ⟨tR,hR⟩:=R0
  have HR1:Hid _:=hR
  clear hR c1
  have hz:=zero_u.out
  go_wp2_with (first|(refine wpList_store_row rfl 29 _ _ rfl w.heap.size #[.int .u64 0,.int .u64 0,.int .u64 0,.int .u64 0,.int .u64 0,.int .u64 0] rfl rfl tR _ HR1.out (by rw [size_u];rfl) rfl (by simp [Value.oneCell']) ?_)|fail)
  exact bodyPost_ret (results_row_tmp rfl _ _ w.heap.size tR #[.int .u64 0,.int .u64 0,.int .u64 0,.int .u64 0,.int .u64 0,.int .u64 0] (0,0) _ rfl (setRow_heap _ _ _ _ _ _ HR1.out) Tryz.underlying29 rfl (by rw [size_u];rfl)) rfl (.inl ⟨H.out,rfl,below_setRow bel (by omega) _⟩)
 have g1:¬ (48:Int) < (n.length:Int):=by omega
 obtain ⟨k,hk⟩:∃ k:Nat,k=48 - n.length:=⟨_,rfl⟩
 have hk48:k≤48:=by omega
 have HKn:Hid (k + n.length=48):=by show _=_;omega
 have g2:IntKind.i64.wrap (48 - (n.length:Int))=(k:Int):=by rw [IntKind.wrap_i64];omega
 have mk:=mk_C k hk48
 clear hk
 obtain ⟨CZ,hCZ⟩:∃ c,(u8s (List.replicate k 0)).toArray=c:=⟨_,rfl⟩
 rw [hCZ] at mk
 have HCZ:Hid ((u8s (List.replicate k 0)).toArray=CZ):=hCZ
 clear hCZ
 have HV1:Hid (Bs (W.alloc (.cells CZ 5)) (.slice ao n.length cap) n):=HV.out.later (bel.trans (((Below.refl _ _).alloc (Nat.le_refl _) _).mono bel.size))
 have own1:(W.alloc (.cells CZ 5)).ownsRow W.heap.size 5 1 (.slice (some ⟨W.heap.size,0,none⟩) k k) k (u8s (List.replicate k 0)):=by rw [← HCZ.out];exact own_lits W _ k W.heap.size (by simp) (Nat.le_refl _) (by unfold maxLen;omega)
 have bel1:=bal W (.cells CZ 5)
 have hs1:=bel1.size
 go_wp2_with (first|(at_builtin;refine wpList_append_bs (by rfl) _ _ (by rfl) W.heap.size _ k _ (by rfl) own1 _ n (by rfl) HV1.out (by omega) hs1 ?_;intro v8 w8 own8 hgrow hat)|fail)
 have bel8:=below_own (base:=W.heap.size) bel1 hgrow hs1 (fun g hg=>own_geD own1 hg) (Nat.le_refl _)
 have R1:=R0.below bel8 R0.lt
 have HL8:Hid ((List.replicate k 0++n).length=48):=by show _=_;rw [List.length_append,List.length_replicate];exact HKn.out
 have HB8:Hid (Bs w8 v8 (List.replicate k 0++n)):=by have own9:=own8;rw [show k + n.length=(List.replicate k 0++n).length by simp] at own9;exact Bs.of_own own9
 have HE8:Hid (beN (List.replicate k 0++n)=beN n):=beN_pad k n
 have HY8:Hid (byt (List.replicate k 0++n)):=byt_pad k HB.out
 have belw:Below w.heap.size w w8:=bel.trans (bel8.mono bel.size)
 obtain ⟨va,vc,hva⟩:∃ va vc,v8=.slice va (k + n.length) vc:=by obtain ⟨a,c,e,_⟩:=own_slice own8;exact ⟨a,c,e⟩
 subst hva
 clear hgrow hat own8 own1 bel1 hs1 bel8 R0 mk
 generalize List.replicate k 0++n=P at *
 by_cases c2:isSc (beN n)
 ·refine (uODec (HG.out.below belw) HB8.out HY8.out HL8.out (by rw [HE8.out];exact c2)).mono ?_
  rintro e w9 ⟨es,rfl,hu,hb⟩
  rw [HE8.out] at hu
  have HU:Hid (U6 es (beN n)):=hu
  have HC2:Hid (isSc (beN n)):=c2
  have HSe:Hid (es.toArray.size=6):=by show _=_;rw [List.size_toArray];exact hu.len
  have HOe:Hid (OneR es):=hu.ones
  replace R1:=R1.later hb
  replace belw:=below_step belw hb
  clear hb hu c2
  obtain ⟨tR,hR⟩:=R1
  have HR1:Hid _:=hR
  clear hR
  go_wp2_with (first|(refine wpList_store_row rfl 29 _ _ rfl w.heap.size es.toArray rfl rfl tR _ HR1.out (by rw [size_u,HSe.out]) (by rw [HSe.out];rfl) HOe.out ?_)|fail)
  exact bodyPost_ret (results_row_tmp rfl _ _ w.heap.size tR es.toArray (0,0) _ rfl (setRow_heap _ _ _ _ _ _ HR1.out) Tryz.underlying29 rfl (by rw [size_u,HSe.out])) rfl (.inr ⟨es,HC2.out,rfl,HU.out,below_setRow belw (by omega) _⟩)
 ·refine (uODecNo (HG.out.below belw) HB8.out HY8.out HL8.out (beN_nonneg HY8.out) (by rw [HE8.out];exact c2)).mono ?_
  rintro e w9 ⟨rfl,hb⟩
  have HC2:Hid (¬ isSc (beN n)):=c2
  replace R1:=R1.later hb
  replace belw:=below_step belw hb
  clear hb c2
  obtain ⟨tR,hR⟩:=R1
  have HR1:Hid _:=hR
  clear hR
  go_wp2_with (first|(refine wpList_store_row rfl 29 _ _ rfl w.heap.size #[.int .u64 0,.int .u64 0,.int .u64 0,.int .u64 0,.int .u64 0,.int .u64 0] rfl rfl tR _ HR1.out (by rw [size_u];rfl) rfl (by simp [Value.oneCell']) ?_)|fail)
  exact bodyPost_ret (results_row_tmp rfl _ _ w.heap.size tR #[.int .u64 0,.int .u64 0,.int .u64 0,.int .u64 0,.int .u64 0,.int .u64 0] (0,0) _ rfl (setRow_heap _ _ _ _ _ _ HR1.out) Tryz.underlying29 rfl (by rw [size_u];rfl)) rfl (.inl ⟨HC2.out,rfl,below_setRow belw (by omega) _⟩)
/-- what Decode tells -/
def DecR (w:World) (B:List Int) (e:Ending) (w':World):Prop:=(∀ c p,parseP B=.error (c,p)→∃ er:Value,e=.returned (.tuple #[.agg #[.int .u64 0,.int .u64 0,.int .u64 0,.int .u64 0,.int .u64 0,.int .u64 0,.int .u64 0,.int .u64 0,.int .u64 0,.int .u64 0,.int .u64 0,.int .u64 0],er])∧ErAt w' c p er∧Below w.heap.size w w')∧(∀ T,parseP B=.ok T→(sigP T=none→e=.returned (.tuple #[.agg #[.int .u64 0,.int .u64 0,.int .u64 0,.int .u64 0,.int .u64 0,.int .u64 0,.int .u64 0,.int .u64 0,.int .u64 0,.int .u64 0,.int .u64 0,.int .u64 0],codeV 7])∧Below w.heap.size w w')∧(∀ x y,sigP T=some (x,y)→(¬ (isSc (beN x)∧isSc (beN y))→e=.returned (.tuple #[.agg #[.int .u64 0,.int .u64 0,.int .u64 0,.int .u64 0,.int .u64 0,.int .u64 0,.int .u64 0,.int .u64 0,.int .u64 0,.int .u64 0,.int .u64 0,.int .u64 0],codeV 3])∧Below w.heap.size w w')∧(isSc (beN x)→isSc (beN y)→∃ rs ss,e=.returned (.tuple #[.agg (rs++ss).toArray,.nilIface])∧U6 rs (beN x)∧U6 ss (beN y)∧Below w.heap.size w w')))
theorem DecR.bad {w w':World} {B:List Int} {c p:Nat} {er:Value} (h:parseP B=.error (c,p)) (k:ErAt w' c p er) (bel:Below w.heap.size w w'):DecR w B (.returned (.tuple #[.agg #[.int .u64 0,.int .u64 0,.int .u64 0,.int .u64 0,.int .u64 0,.int .u64 0,.int .u64 0,.int .u64 0,.int .u64 0,.int .u64 0,.int .u64 0,.int .u64 0],er])) w' :=
 ⟨fun c2 p2 h2=>(by rw [h] at h2;cases h2;exact ⟨er,rfl,k,bel⟩),fun T h2=>(by rw [h] at h2;cases h2)⟩
theorem DecR.form {w w':World} {B:List Int} {T:Tl} (h:parseP B=.ok T) (k:sigP T=none) (bel:Below w.heap.size w w'):DecR w B (.returned (.tuple #[.agg #[.int .u64 0,.int .u64 0,.int .u64 0,.int .u64 0,.int .u64 0,.int .u64 0,.int .u64 0,.int .u64 0,.int .u64 0,.int .u64 0,.int .u64 0,.int .u64 0],.iface 46 (.int .i64 7)])) w' :=
 ⟨fun c2 p2 h2=>(by rw [h] at h2;cases h2),fun T2 h2=>(by rw [h] at h2;cases h2;exact ⟨fun _=>⟨rfl,bel⟩,fun x y h3=>(by rw [k] at h3;cases h3)⟩)⟩
theorem DecR.range {w w':World} {B:List Int} {T:Tl} {x y:List Int} (h:parseP B=.ok T) (k:sigP T=some (x,y)) (hn:¬ (isSc (beN x)∧isSc (beN y))) (bel:Below w.heap.size w w'):DecR w B (.returned (.tuple #[.agg #[.int .u64 0,.int .u64 0,.int .u64 0,.int .u64 0,.int .u64 0,.int .u64 0,.int .u64 0,.int .u64 0,.int .u64 0,.int .u64 0,.int .u64 0,.int .u64 0],.iface 46 (.int .i64 3)])) w' :=
 ⟨fun c2 p2 h2=>(by rw [h] at h2;cases h2),fun T2 h2=>(by rw [h] at h2;cases h2;exact ⟨fun h3=>(by rw [k] at h3;cases h3),fun x2 y2 h3=>(by rw [k] at h3;cases h3;exact ⟨fun _=>⟨rfl,bel⟩,fun a b=>absurd ⟨a,b⟩ hn⟩)⟩)⟩
theorem DecR.ok {w w':World} {B:List Int} {T:Tl} {x y:List Int} {rs ss us:List Value} (h:parseP B=.ok T) (k:sigP T=some (x,y)) (hr:U6 rs (beN x)) (hs:U6 ss (beN y)) (h1:isSc (beN x)) (h2:isSc (beN y)) (hu:rs++ss=us) (bel:Below w.heap.size w w'):DecR w B (.returned (.tuple #[.agg us.toArray,.nilIface])) w' :=
 ⟨fun c2 p2 h2=>(by rw [h] at h2;cases h2),fun T2 h3=>(by rw [h] at h3;cases h3;exact ⟨fun h4=>(by rw [k] at h4;cases h4),fun x2 y2 h4=>(by rw [k] at h4;cases h4;exact ⟨fun hn=>absurd ⟨h1,h2⟩ hn,fun _ _=>⟨rs,ss,by rw [hu],hr,hs,bel⟩⟩)⟩)⟩
theorem ErAt.ne {w:World} {c p:Nat} {er:Value} (h:ErAt w c p er):∀ w:World,(binOp .neq 35 er .nilIface).run Tryz.prog w=.ok (.bool true) w:=fun w=>by
 rcases h with ⟨_,rfl⟩|⟨_,g,rfl,_⟩
 ·kernel_rfl
 ·kernel_rfl
/-- what was read of the kids so far -/
def RdTo (w:World) (gt:Nat) (ks:List Tl) (i:Nat) (X:List Value):Prop:=(∀ j,j < 2→∃ a n c,X[j]?=some (.slice a n c))∧∀ j,j < i→∃ k n v,ks[j]?=some k∧partP k=some n∧X[j]?=some v∧Bs w v n∧(∀ a m c,v=.slice (some a) m c→0 < m→a.block≠gt)∧byt n∧n.length≤64∧(48 < n.length→QQ≤beN n)
theorem RdTo.later {w w':World} {gt i:Nat} {ks:List Tl} {X:List Value} (h:RdTo w gt ks i X) (hb:Below w.heap.size w w'):RdTo w' gt ks i X :=
 ⟨h.1,fun j hj=>by obtain ⟨k,n,v,h1,h2,h3,h4,h5⟩:=h.2 j hj;exact ⟨k,n,v,h1,h2,h3,h4.later hb,h5⟩⟩
theorem bs_cellC {w:World} {v u:Value} {n:List Int} {g k:Nat} (h:Bs w v n) (hg:∀ a m c,v=.slice (some a) m c→0 < m→a.block≠g):Bs (w.setCell ⟨g,k,none⟩ u) v n:=by
 obtain ⟨ao,cp,e,h1,h2,h3⟩:=h
 refine ⟨ao,cp,e,h1,h2,fun h0=>?_⟩
 obtain ⟨b,o,e2,hb,hc⟩:=h3 h0
 have hne:b≠g:=hg ⟨b,o,none⟩ _ _ (by rw [e,e2]) h0
 refine ⟨b,o,e2,by simpa using hb,fun j hj=>?_⟩
 rw [World.cell?_setCell_far _ _ _ _ (by exact fun h=>hne h.symm)]
 exact hc j hj
theorem RdTo.next {w:World} {gt i:Nat} {ks:List Tl} {X:List Value} {k:Tl} {n:List Int} {a:Option Addr} {m c:Nat} (h:RdTo w gt ks i X) (hX:X.length=2) (hi:i < 2) (hk:ks[i]?=some k) (hp:partP k=some n) (hv:Bs w (.slice a m c) n) (hg:∀ b m' c',Value.slice a m c=.slice (some b) m' c'→0 < m'→b.block≠gt) (hb:byt n) (hl:n.length≤64) (hq:48 < n.length→QQ≤beN n):RdTo (w.setCell ⟨gt,i,none⟩ (.slice a m c)) gt ks (i + 1) (X.set i (.slice a m c)):=by
 refine ⟨fun j hj=>?_,fun j hj=>?_⟩
 ·by_cases e:j=i
  ·subst e
   exact ⟨_,_,_,List.getElem?_set_self (by omega)⟩
  ·rw [List.getElem?_set_ne (fun h=>e h.symm)]
   exact h.1 j hj
 ·by_cases e:j=i
  ·subst e
   exact ⟨k,n,_,hk,hp,List.getElem?_set_self (by omega),bs_cellC hv hg,hg,hb,hl,hq⟩
  ·rw [List.getElem?_set_ne (fun h=>e h.symm)]
   obtain ⟨k',n',v,h1,h2,h3,h4,h5,h6⟩:=h.2 j (by omega)
   exact ⟨k',n',v,h1,h2,h3,bs_cellC h4 h5,h5,h6⟩
theorem two_kidsC {ks:List Tl} {a b:Tl} (h:ks.length=2) (ha:ks[0]?=some a) (hb:ks[1]?=some b):ks=[a,b]:=by
 match ks,h,ha,hb with
 | [x,y],_,ha,hb =>
  simp at ha hb
  rw [ha,hb]
theorem two_cells {X:List Value} {a b:Value} (h:X.length=2) (ha:X[0]?=some a) (hb:X[1]?=some b):X=[a,b]:=by
 match X,h,ha,hb with
 | [x,y],_,ha,hb =>
  simp at ha hb
  rw [ha,hb]
theorem zero_told:Hid (∀ w:World,(zeroValue 180).run Tryz.prog w=.ok (.agg #[.slice none 0 0,.slice none 0 0]) w):=fun w=>by kernel_rfl
theorem er_row {w:World} {c p g:Nat} {er:Value} {cs:Array Value} (h:ErAt w c p er) (hg:∀ k,er=.iface 99 (.pointer (some ⟨k,0,none⟩))→k≠g):ErAt (w.setRow g cs) c p er:=by
 rcases h with h|⟨h,k,rfl,B⟩
 ·exact .inl h
 ·exact .inr ⟨h,k,rfl,B.row (hg k rfl)⟩
theorem c14_Decode {v:Value} {B:List Int} {w:World} (G:GlsO w) (hv:Bs w v B) (b:byt B) :
  Calls Tryz.prog 78 #[v] w (DecR w B):=by
 have HG:Hid (GlsO w):=G
 have HB:Hid (byt B):=b
 have HV:Hid (Bs w v B):=hv
 obtain ⟨ao,cap,rfl,h1,h2,h3⟩:=hv
 clear G b h1 h2 h3
 have R0:=Blk.new w [.int .u64 0,.int .u64 0,.int .u64 0,.int .u64 0,.int .u64 0,.int .u64 0,.int .u64 0,.int .u64 0,.int .u64 0,.int .u64 0,.int .u64 0,.int .u64 0] 31 w.heap.size rfl
 have bel:=bal w (.cells #[.int .u64 0,.int .u64 0,.int .u64 0,.int .u64 0,.int .u64 0,.int .u64 0,.int .u64 0,.int .u64 0,.int .u64 0,.int .u64 0,.int .u64 0,.int .u64 0] 31)
 have hz:=zero_s.out
 go_enter Tryz.func78,Tryz.ntmps78
 go_upto_region 1 with fail
 generalize w.alloc (.cells #[.int .u64 0,.int .u64 0,.int .u64 0,.int .u64 0,.int .u64 0,.int .u64 0,.int .u64 0,.int .u64 0,.int .u64 0,.int .u64 0,.int .u64 0,.int .u64 0] 31)=W at *
 clear hz
 go_wp2_with fail
 refine (con_Parse (HV.out.later bel) HB.out).mono ?_
 rintro e w1 ⟨hok,hbad⟩
 cases hp:parseP B with
 | error q =>
  obtain ⟨c,p⟩:=q
  have R0w:=R0
  obtain ⟨cs,er,rfl,htl,her,hfr,hb⟩:=hbad c p hp
  have HP:Hid (parseP B=.error (c,p)):=hp
  clear hok hbad hp
  have HS5:Hid (cs.toArray.size=5):=by show _=_;rw [List.size_toArray];exact htl.five
  have HO5:Hid (OneC cs):=htl.ones
  have HL5:Hid (cs.length=5):=htl.five
  replace R0:=(R0.later hb).alloc (.cells cs.toArray 53)
  replace bel:=below_alloc (o:=.cells cs.toArray 53) (below_step bel hb)
  have HEr:Hid (ErAt (w1.alloc (.cells cs.toArray 53)) c p er):=her.later ((Below.refl _ _).alloc (Nat.le_refl _) _)
  have q3:=her.ne
  have HEl:Hid (∀ g,er=.iface 99 (.pointer (some ⟨g,0,none⟩))→g≠w.heap.size):=fun g hg=>by have:=hfr g hg;have:=R0w.lt;omega
  clear her htl hb hfr R0w
  have hz:=zero_tlv.out
  go_upto_region 2 with (first|(refine wpList_store_row rfl 53 _ _ rfl w1.heap.size cs.toArray rfl rfl 53 _ (heap_alloc_last _ _) (by rw [size_tlv,HS5.out]) (by rw [HS5.out];rfl) HO5.out ?_;rw [World.setRow_alloc_new])|fail)
  clear hz
  generalize w1.alloc (.cells cs.toArray 53)=V1 at *
  have lR:=R0.lt
  obtain ⟨ty,pv,hev⟩:∃ ty pv,er=.iface ty pv:=by rcases HEr.out with ⟨_,h⟩|⟨_,g,h,_⟩;exact ⟨_,_,h⟩;exact ⟨_,_,h⟩
  subst hev
  have HEz:Hid (ErAt (V1.setRow w.heap.size #[.int .u64 0,.int .u64 0,.int .u64 0,.int .u64 0,.int .u64 0,.int .u64 0,.int .u64 0,.int .u64 0,.int .u64 0,.int .u64 0,.int .u64 0,.int .u64 0]) c p (.iface ty pv)):=er_row HEr.out HEl.out
  obtain ⟨tR,hR⟩:=R0
  have HR1:Hid _:=hR
  clear hR
  have hz:=zero_s.out
  go_wp2_with (first|(refine wpList_store_row rfl 31 _ _ rfl (w.heap.size) #[.int .u64 0,.int .u64 0,.int .u64 0,.int .u64 0,.int .u64 0,.int .u64 0,.int .u64 0,.int .u64 0,.int .u64 0,.int .u64 0,.int .u64 0,.int .u64 0] rfl rfl tR _ HR1.out (by rw [size_s];rfl) rfl (by simp [Value.oneCell']) ?_)|fail)
  refine bodyPost_ret (results_row_tmp rfl _ _ (w.heap.size) tR #[.int .u64 0,.int .u64 0,.int .u64 0,.int .u64 0,.int .u64 0,.int .u64 0,.int .u64 0,.int .u64 0,.int .u64 0,.int .u64 0,.int .u64 0,.int .u64 0] (0,0) _ rfl (setRow_heap _ _ _ _ _ _ HR1.out) Tryz.underlying31 rfl (by rw [size_s];rfl)) rfl ?_
  exact DecR.bad HP.out HEz.out (below_setRow bel (by omega) _)
 | ok T =>
 obtain ⟨cs,rfl,hdep,hb⟩:=hok T hp
 have R0w:=R0
 have HP:Hid (parseP B=.ok T):=hp
 have HPo:Hid _:=parse_ok HB.out hp
 clear hok hbad hp
 obtain ⟨c,t,m,bb,ks⟩:=T
 have htl:=hdep.now
 have HS5:Hid (cs.toArray.size=5):=by show _=_;rw [List.size_toArray];exact htl.five
 have HO5:Hid (OneC cs):=htl.ones
 have HL5:Hid (cs.length=5):=htl.five
 have HT1:Hid (TlAt w1 (.mk c t m bb ks) cs):=htl
 have hcs:=htl
 rw [TlAt] at hcs
 obtain ⟨bv,ka,kc,hcs,-,-,-,hkids⟩:=hcs
 have HKd:Hid (0 < ks.length→∃ g o,ka=some ⟨g,o,none⟩∧KidsAt w1 ks g o):=hkids
 have HC4:Hid (cs[4]?=some (.slice ka ks.length kc)):=by show _=_;rw [hcs];rfl
 replace R0:=(R0.later hb).alloc (.cells cs.toArray 53)
 replace bel:=below_alloc (o:=.cells cs.toArray 53) (below_step bel hb)
 have KB:=Blk.new w1 cs 53 w1.heap.size rfl
 have st:=bal w1 (.cells cs.toArray 53)
 have HRw:Hid (w.heap.size < w1.heap.size):=by show _ < _;have:=(R0w.later hb).lt;exact this
 clear hdep htl hcs hkids hb R0w
 have hz:=zero_tlv.out
 go_upto_region 2 with (first|(refine wpList_store_row rfl 53 _ _ rfl w1.heap.size cs.toArray rfl rfl 53 _ (heap_alloc_last _ _) (by rw [size_tlv,HS5.out]) (by rw [HS5.out];rfl) HO5.out ?_;rw [World.setRow_alloc_new])|fail)
 clear hz
 obtain ⟨gk,hgk⟩:∃ g,g=w1.heap.size:=⟨_,rfl⟩
 have HGk:Hid (gk=w1.heap.size):=hgk
 rw [← hgk] at KB
 generalize w1.alloc (.cells cs.toArray 53)=V1 at *
 rw [← hgk]
 clear hgk
 have q3:=ne_nilT
 have lk:=KB.lt
 go_wp2_with (first|(refine wpList_load_run (by rfl) (by rfl) (by rfl) (KB.load Tryz.underlying53 rfl size_tlv HL5.out) ?_)|fail)
 refine (c14_isA (HT1.out.later st)).mono ?_
 rintro e w2 ⟨rfl,hb⟩
 replace R0:=R0.later hb
 replace KB:=KB.later hb
 replace bel:=below_step bel hb
 replace st:=below_stepD st hb
 clear hb
 clear lk q3
 have lk:=KB.lt
 have e4:=KB.cell 4 _ HC4.out
 by_cases c1:c=0∧t=16∧m=true
 rotate_left
 ·have HN:Hid (sigP (.mk c t m bb ks)=none):=sigC_none (fun h=>c1 h.1)
  rw [decide_eq_false c1]
  clear c1
  obtain ⟨tR,hR⟩:=R0
  have HR1:Hid _:=hR
  clear hR
  have hz:=zero_s.out
  go_wp2_with (first|(refine wpList_store_row rfl 31 _ _ rfl (w.heap.size) #[.int .u64 0,.int .u64 0,.int .u64 0,.int .u64 0,.int .u64 0,.int .u64 0,.int .u64 0,.int .u64 0,.int .u64 0,.int .u64 0,.int .u64 0,.int .u64 0] rfl rfl tR _ HR1.out (by rw [size_s];rfl) rfl (by simp [Value.oneCell']) ?_)|fail)
  refine bodyPost_ret (results_row_tmp rfl _ _ (w.heap.size) tR #[.int .u64 0,.int .u64 0,.int .u64 0,.int .u64 0,.int .u64 0,.int .u64 0,.int .u64 0,.int .u64 0,.int .u64 0,.int .u64 0,.int .u64 0,.int .u64 0] (0,0) _ rfl (setRow_heap _ _ _ _ _ _ HR1.out) Tryz.underlying31 rfl (by rw [size_s];rfl)) rfl ?_
  exact DecR.form HP.out HN.out (below_setRow bel (by omega) _)
 rw [decide_eq_true c1]
 obtain ⟨rfl,rfl,rfl⟩:=c1
 by_cases c2:ks.length=2
 rotate_left
 ·have HN:Hid (sigP (.mk 0 16 true bb ks)=none):=sigC_none (fun h=>c2 h.2)
  have g1:((ks.length:Int) == 2)=false:=by rw [beq_eq_false_iff_ne];omega
  have g2:((ks.length:Int) != 2)=true:=by rw [bne,g1];rfl
  clear c2
  obtain ⟨tR,hR⟩:=R0
  have HR1:Hid _:=hR
  clear hR
  have hz:=zero_s.out
  go_wp2_with (first|(refine wpList_store_row rfl 31 _ _ rfl (w.heap.size) #[.int .u64 0,.int .u64 0,.int .u64 0,.int .u64 0,.int .u64 0,.int .u64 0,.int .u64 0,.int .u64 0,.int .u64 0,.int .u64 0,.int .u64 0,.int .u64 0] rfl rfl tR _ HR1.out (by rw [size_s];rfl) rfl (by simp [Value.oneCell']) ?_)|fail)
  refine bodyPost_ret (results_row_tmp rfl _ _ (w.heap.size) tR #[.int .u64 0,.int .u64 0,.int .u64 0,.int .u64 0,.int .u64 0,.int .u64 0,.int .u64 0,.int .u64 0,.int .u64 0,.int .u64 0,.int .u64 0,.int .u64 0] (0,0) _ rfl (setRow_heap _ _ _ _ _ _ HR1.out) Tryz.underlying31 rfl (by rw [size_s];rfl)) rfl ?_
  exact DecR.form HP.out HN.out (below_setRow bel (by omega) _)
 have HK2:Hid (ks.length=2):=c2
 clear c2
 obtain ⟨kn,hkn⟩:∃ kn,ks.length=kn:=⟨_,rfl⟩
 have HKn:Hid (kn=2):=by show _=_;rw [← hkn];exact HK2.out
 rw [hkn] at e4
 have g1:((kn:Int) == 2)=true:=by rw [HKn.out];rfl
 have g2:((kn:Int) != 2)=false:=by rw [bne,g1];rfl
 have HC4n:Hid (cs[4]?=some (.slice ka kn kc)):=by show _=_;rw [← hkn];exact HC4.out
 clear hkn HC4
 obtain ⟨gkk,gko,hka,hks⟩:=HKd.out (by rw [HK2.out];omega)
 subst hka
 have HKs:Hid (KidsAt w1 ks gkk gko):=hks
 clear hks
 have hz:=zero_told.out
 have HSt2:Hid (w1.heap.size≤w2.heap.size):=st.size
 go_upto_region 7 with fail
 clear hz g1 g2
 have Bt:=Blk.new w2 [.slice none 0 0,.slice none 0 0] 180 w2.heap.size rfl
 replace R0:=R0.alloc (.cells #[.slice none 0 0,.slice none 0 0] 180)
 replace KB:=KB.alloc (.cells #[.slice none 0 0,.slice none 0 0] 180)
 replace bel:=below_alloc (o:=.cells #[.slice none 0 0,.slice none 0 0] 180) bel
 replace st:=below_alloc (o:=.cells #[.slice none 0 0,.slice none 0 0] 180) st
 obtain ⟨gt,hgt⟩:∃ g,g=w2.heap.size:=⟨_,rfl⟩
 have hgt1:w1.heap.size≤gt:=by rw [hgt];exact HSt2.out
 rw [← hgt] at Bt
 clear e4 lk
 generalize w2.alloc (.cells #[.slice none 0 0,.slice none 0 0] 180)=V2 at *
 rw [← hgt]
 clear hgt HSt2
 have lk:=KB.lt
 have e4:=KB.cell 4 _ HC4n.out
 have hTold:RdTo V2 gt ks 0 [.slice none 0 0,.slice none 0 0]:=⟨fun j hj=>by match j,hj with|0,_=>exact ⟨_,_,_,rfl⟩|1,_=>exact ⟨_,_,_,rfl⟩|j + 2,hj=>omega,fun j hj=>absurd hj (by omega)⟩
 have HTo:Hid _:=hTold
 clear hTold
 go_wp2_with fail
 clear e4 lk
 go_loopw [34] (fun iv wx=>∃ (i:Nat) (X:List Value),i≤2∧iv=.int .i64 (i:Int)∧X.length=2∧Hid (RdTo wx gt ks i X)∧Blk wx gt X∧Blk wx w.heap.size [.int .u64 0,.int .u64 0,.int .u64 0,.int .u64 0,.int .u64 0,.int .u64 0,.int .u64 0,.int .u64 0,.int .u64 0,.int .u64 0,.int .u64 0,.int .u64 0]∧Below w.heap.size w wx∧Below w1.heap.size w1 wx) (fun iv _=>2 - (intOf iv).toNat)
 case atStart=>exact ⟨0,_,by omega,rfl,rfl,HTo,Bt,R0,bel,st⟩
 case round =>
  clear R0 KB Bt bel st HTo
  obtain ⟨i,X,hi,rfl,hX,HTo,Bt,R0,bel,st⟩:=hrel
  by_cases hil:i < 2
  ·have g1:(i:Int) < (kn:Int):=by rw [HKn.out];omega
   have g2:(0:Int)≤(i:Int):=by omega
   have g3:(i:Int) < 2:=by omega
   have gi:IntKind.i64.wrap ((i:Int) + 1)=(i:Int) + 1:=by rw [IntKind.wrap_i64];omega
   obtain ⟨k,hkk⟩:=get_kid (show i < ks.length by rw [HK2.out];exact hil)
   obtain ⟨cs5,hcs,hkt⟩:=HKs.out.get hkk
   replace hcs:=hcs.later st
   replace hkt:=hkt.later st
   have hld:=tlv_load hcs hkt.five
   have hld2:=hld
   rw [Nat.mul_comm 5 i] at hld2
   have hz:=zero_tlv.out
   have HS6:Hid (cs5.toArray.size=5):=by show _=_;rw [List.size_toArray];exact hkt.five
   have HO6:Hid (OneC cs5):=hkt.ones
   have HL6:Hid (cs5.length=5):=hkt.five
   have KB:=Blk.new wr cs5 53 wr.heap.size rfl
   replace R0:=R0.alloc (.cells cs5.toArray 53)
   replace Bt:=Bt.alloc (.cells cs5.toArray 53)
   replace bel:=below_alloc (o:=.cells cs5.toArray 53) bel
   replace st:=below_alloc (o:=.cells cs5.toArray 53) st
   replace HTo:Hid (RdTo (wr.alloc (.cells cs5.toArray 53)) gt ks i X):=HTo.out.later ((Below.refl _ _).alloc (Nat.le_refl _) _)
   replace hkt:=hkt.later ((Below.refl _ _).alloc (Nat.le_refl _) (.cells cs5.toArray 53))
   go_upto_region 10 with (first|(refine wpList_load_run (by rfl) (by rfl) (by rfl) hld ?_)|(refine wpList_load_run (by rfl) (by rfl) (by rfl) hld2 ?_)|(refine wpList_store_row rfl 53 _ _ rfl wr.heap.size cs5.toArray rfl rfl 53 _ (heap_alloc_last _ _) (by rw [size_tlv,HS6.out]) (by rw [HS6.out];rfl) HO6.out ?_;rw [World.setRow_alloc_new])|fail)
   clear hz hld hld2 hcs
   obtain ⟨g9,hg9⟩:∃ g9,g9=wr.heap.size:=⟨_,rfl⟩
   rw [← hg9] at KB
   generalize wr.alloc (.cells cs5.toArray 53)=V5 at *
   rw [← hg9]
   clear hg9
   have lk:=KB.lt
   have HKK:Hid (ks[i]?=some k):=hkk
   clear hkk
   obtain ⟨kc0,kt0,km0,kb0,kl0⟩:=k
   obtain ⟨hB0,hL0⟩:=kidC_small HPo.out.2.2.2.1 (by rw [HPo.out.1];exact HPo.out.2.2.2.2) HK2.out HKK.out
   go_wp2_with (first|(refine wpList_load_run (by rfl) (by rfl) (by rfl) (KB.load Tryz.underlying53 rfl size_tlv HL6.out) ?_)|fail)
   refine (c14_numberOf hkt hB0 hL0).mono ?_
   rintro e w6 hN
   clear hkt hB0 hL0 lk
   rcases hN with ⟨nn,v1,hpn,rfl,hbn,hnw,hyn,hln,hgn,hb⟩|⟨hpn,rfl,hb⟩
   ·have HBn:Hid (Bs w6 v1 nn):=hbn
    have HTo6:Hid (RdTo w6 gt ks i X):=HTo.out.later hb
    have HNg:Hid (∀ b m' c',v1=.slice (some b) m' c'→0 < m'→b.block≠gt):=fun b m' c' e h0=>by have:=hnw b m' c' e h0;have:=Bt.lt;omega
    obtain ⟨na,nc,rfl,-,-,-⟩:=hbn
    have HTn:Hid (RdTo (w6.setCell ⟨gt,i,none⟩ (.slice na nn.length nc)) gt ks (i + 1) (X.set i (.slice na nn.length nc))):=HTo6.out.next hX hil HKK.out hpn HBn.out HNg.out hyn hln hgn
    obtain ⟨oa,on,oc,hox⟩:=HTo6.out.1 i hil
    replace Bt:=Bt.later hb
    replace R0:=R0.later hb
    replace bel:=below_step bel hb
    replace st:=below_stepD st hb
    have rd:=RdB.cell (k:=i) Bt (.slice na nn.length nc)
    have x2:=Bt.cell i _ hox
    have fz:=Bt.frozen i
    have lt:=Bt.lt
    have q3:=ne_nilT
    have HRn:Hid (w.heap.size≠gt):=by show _≠_;have:=HRw.out;omega
    clear hb hox hpn hyn hln hgn hnw HTo HTo6 HNg KB
    have R1:=rd.2.1 _ _ HRn.out R0
    have bel1:=rd.2.2.1 _ _ (by have:=HRw.out;omega) bel
    have st1:=rd.2.2.1 _ _ hgt1 st
    have Bt1:=rd.1
    have HLx:Hid ((X.set i (Value.slice na nn.length nc)).length=2):=by show _=_;rw [List.length_set];exact hX
    clear rd
    go_wp2_with fail
    go_roundw
    case rel=>exact ⟨i + 1,_,by omega,by go_num,HLx.out,HTn,Bt1,R1,bel1,st1⟩
    case measure=>simp [intOf];omega
   ·have HN:Hid (sigP (.mk 0 16 true bb ks)=none):=sigC_no HKK.out hpn
    obtain ⟨oa,on,oc,hox⟩:=HTo.out.1 i hil
    replace Bt:=Bt.later hb
    replace R0:=R0.later hb
    replace bel:=below_step bel hb
    have rd:=RdB.cell (k:=i) Bt (.slice none 0 0)
    have x2:=Bt.cell i _ hox
    have fz:=Bt.frozen i
    have lt:=Bt.lt
    have HRn:Hid (w.heap.size≠gt):=by show _≠_;have:=HRw.out;omega
    have R1:=rd.2.1 _ _ HRn.out R0
    have bel1:=rd.2.2.1 _ _ (by have:=HRw.out;omega) bel
    clear hb hox hpn HTo KB rd
    go_upto_region 11 with fail
    clear x2 fz lt R0 bel Bt st
    generalize World.setCell w6 _ _=V6 at *
    have q3:=ne_codeT
    obtain ⟨tR,hR⟩:=R1
    have HR1:Hid _:=hR
    clear hR
    have hz:=zero_s.out
    go_wp2_with (first|(refine wpList_store_row rfl 31 _ _ rfl (w.heap.size) #[.int .u64 0,.int .u64 0,.int .u64 0,.int .u64 0,.int .u64 0,.int .u64 0,.int .u64 0,.int .u64 0,.int .u64 0,.int .u64 0,.int .u64 0,.int .u64 0] rfl rfl tR _ HR1.out (by rw [size_s];rfl) rfl (by simp [Value.oneCell']) ?_)|fail)
    refine bodyPost_ret (results_row_tmp rfl _ _ (w.heap.size) tR #[.int .u64 0,.int .u64 0,.int .u64 0,.int .u64 0,.int .u64 0,.int .u64 0,.int .u64 0,.int .u64 0,.int .u64 0,.int .u64 0,.int .u64 0,.int .u64 0] (0,0) _ rfl (setRow_heap _ _ _ _ _ _ HR1.out) Tryz.underlying31 rfl (by rw [size_s];rfl)) rfl ?_
    exact DecR.form HP.out HN.out (below_setRow bel1 (by omega) _)
  ·obtain rfl:i=2:=by omega
   have g1:¬ ((2:Nat):Int) < (kn:Int):=by rw [HKn.out];omega
   obtain ⟨k0,n0,v0,h01,h02,h03,h04,-,h05,h06,h07⟩:=HTo.out.2 0 (by omega)
   obtain ⟨k1,n1,v1,h11,h12,h13,h14,-,h15,h16,h17⟩:=HTo.out.2 1 (by omega)
   have hks2:=two_kidsC HK2.out h01 h11
   have HSg:Hid (sigP (.mk 0 16 true bb ks)=some (n0,n1)):=by rw [hks2];exact sigC_some h02 h12
   have hx2:=two_cells hX h03 h13
   subst hx2
   have HB0:Hid (Bs wr v0 n0):=h04
   have HB1:Hid (Bs wr v1 n1):=h14
   have HG0:Hid _:=And.intro h05 (And.intro h06 h07)
   have HG1:Hid _:=And.intro h15 (And.intro h16 h17)
   obtain ⟨a0,c0,rfl,-,-,-⟩:=h04
   obtain ⟨a1,c1,rfl,-,-,-⟩:=h14
   clear h01 h02 h03 h05 h06 h07 h11 h12 h13 h15 h16 h17 hks2 hX HTo hil st
   have x0:=Bt.cell 0 _ rfl
   have lt:=Bt.lt
   go_wp2_with fail
   refine (c14_belowN (HG.out.below bel) HB0.out HG0.out.1 HG0.out.2.1 HG0.out.2.2).mono ?_
   rintro e w7 hL
   clear x0 lt
   rcases hL with ⟨hn,rfl,hb⟩|⟨es,hsc,rfl,hu,hb⟩
   ·have HN:Hid (¬ (isSc (beN n0)∧isSc (beN n1))):=fun h=>hn h.1
    clear hn
    replace R0:=R0.later hb
    replace bel:=below_step bel hb
    clear hb
    obtain ⟨zs,hzs⟩:∃ zs:List Value,[.int .u64 0,.int .u64 0,.int .u64 0,.int .u64 0,.int .u64 0,.int .u64 0]=zs:=⟨_,rfl⟩
    have HZs:Hid ([.int .u64 0,.int .u64 0,.int .u64 0,.int .u64 0,.int .u64 0,.int .u64 0]=zs):=hzs
    have hza:#[.int .u64 0,.int .u64 0,.int .u64 0,.int .u64 0,.int .u64 0,.int .u64 0]=zs.toArray:=by rw [← hzs]
    rw [hza]
    clear hza hzs
    have HLh:Hid (zs.length=6):=by rw [← HZs.out];rfl
    have HSh:Hid (zs.toArray.size=6):=by show _=_;rw [List.size_toArray];exact HLh.out
    have HOh:Hid (OneR zs):=by rw [← HZs.out];exact U6.zero.ones
    replace R0:=R0.alloc (.cells zs.toArray 29)
    replace bel:=below_alloc (o:=.cells zs.toArray 29) bel
    have Bh:=Blk.new w7 zs 29 w7.heap.size rfl
    have hz:=zero_u.out
    go_upto_region 15 with (first|(refine wpList_store_row rfl 29 _ _ rfl w7.heap.size zs.toArray rfl rfl 29 _ (heap_alloc_last _ _) (by rw [size_u,HSh.out]) (by rw [HSh.out];rfl) HOh.out ?_;rw [World.setRow_alloc_new])|fail)
    clear hz
    obtain ⟨gh,hgh⟩:∃ g,g=w7.heap.size:=⟨_,rfl⟩
    rw [← hgh] at Bh
    generalize w7.alloc (.cells zs.toArray 29)=Vh at *
    rw [← hgh]
    clear hgh
    have q3:=ne_codeT
    obtain ⟨tR,hR⟩:=R0
    have HR1:Hid _:=hR
    clear hR
    have hz:=zero_s.out
    go_wp2_with (first|(refine wpList_store_row rfl 31 _ _ rfl (w.heap.size) #[.int .u64 0,.int .u64 0,.int .u64 0,.int .u64 0,.int .u64 0,.int .u64 0,.int .u64 0,.int .u64 0,.int .u64 0,.int .u64 0,.int .u64 0,.int .u64 0] rfl rfl tR _ HR1.out (by rw [size_s];rfl) rfl (by simp [Value.oneCell']) ?_)|fail)
    refine bodyPost_ret (results_row_tmp rfl _ _ (w.heap.size) tR #[.int .u64 0,.int .u64 0,.int .u64 0,.int .u64 0,.int .u64 0,.int .u64 0,.int .u64 0,.int .u64 0,.int .u64 0,.int .u64 0,.int .u64 0,.int .u64 0] (0,0) _ rfl (setRow_heap _ _ _ _ _ _ HR1.out) Tryz.underlying31 rfl (by rw [size_s];rfl)) rfl ?_
    exact DecR.range HP.out HSg.out HN.out (below_setRow bel (by omega) _)
   have HU0:Hid (U6 es (beN n0)):=hu
   have HSc0:Hid (isSc (beN n0)):=hsc
   have HB1w:Hid (Bs w7 (.slice a1 n1.length c1) n1):=HB1.out.later hb
   replace R0:=R0.later hb
   replace Bt:=Bt.later hb
   replace bel:=below_step bel hb
   clear hb
   clear hu hsc HB1
   have HB1a:Hid (Bs (w7.alloc (.cells es.toArray 29)) (.slice a1 n1.length c1) n1):=HB1w.out.later ((Below.refl _ _).alloc (Nat.le_refl _) _)
   clear HB1w
   have HLr:Hid (es.length=6):=HU0.out.len
   have HSr:Hid (es.toArray.size=6):=by show _=_;rw [List.size_toArray];exact HLr.out
   have HOr:Hid (OneR es):=HU0.out.ones
   replace R0:=R0.alloc (.cells es.toArray 29)
   replace Bt:=Bt.alloc (.cells es.toArray 29)
   replace bel:=below_alloc (o:=.cells es.toArray 29) bel
   have Br:=Blk.new w7 es 29 w7.heap.size rfl
   have hz:=zero_u.out
   go_upto_region 15 with (first|(refine wpList_store_row rfl 29 _ _ rfl w7.heap.size es.toArray rfl rfl 29 _ (heap_alloc_last _ _) (by rw [size_u,HSr.out]) (by rw [HSr.out];rfl) HOr.out ?_;rw [World.setRow_alloc_new])|fail)
   clear hz
   obtain ⟨gr,hgr⟩:∃ g,g=w7.heap.size:=⟨_,rfl⟩
   rw [← hgr] at Br
   generalize w7.alloc (.cells es.toArray 29)=Vr at *
   rw [← hgr]
   clear hgr
   have q3:=ne_nilT
   have x1:=Bt.cell 1 _ rfl
   have lt:=Bt.lt
   go_wp2_with fail
   refine (c14_belowN (HG.out.below bel) HB1a.out HG1.out.1 HG1.out.2.1 HG1.out.2.2).mono ?_
   rintro e w8 hL
   clear x1 lt q3
   rcases hL with ⟨hn,rfl,hb⟩|⟨fs,hsc,rfl,hu,hb⟩
   ·have HN:Hid (¬ (isSc (beN n0)∧isSc (beN n1))):=fun h=>hn h.2
    clear hn
    replace R0:=R0.later hb
    replace bel:=below_step bel hb
    clear hb
    obtain ⟨zs,hzs⟩:∃ zs:List Value,[.int .u64 0,.int .u64 0,.int .u64 0,.int .u64 0,.int .u64 0,.int .u64 0]=zs:=⟨_,rfl⟩
    have HZs:Hid ([.int .u64 0,.int .u64 0,.int .u64 0,.int .u64 0,.int .u64 0,.int .u64 0]=zs):=hzs
    have hza:#[.int .u64 0,.int .u64 0,.int .u64 0,.int .u64 0,.int .u64 0,.int .u64 0]=zs.toArray:=by rw [← hzs]
    rw [hza]
    clear hza hzs
    have HLh:Hid (zs.length=6):=by rw [← HZs.out];rfl
    have HSh:Hid (zs.toArray.size=6):=by show _=_;rw [List.size_toArray];exact HLh.out
    have HOh:Hid (OneR zs):=by rw [← HZs.out];exact U6.zero.ones
    replace R0:=R0.alloc (.cells zs.toArray 29)
    replace bel:=below_alloc (o:=.cells zs.toArray 29) bel
    have Bh:=Blk.new w8 zs 29 w8.heap.size rfl
    have hz:=zero_u.out
    go_upto_region 18 with (first|(refine wpList_store_row rfl 29 _ _ rfl w8.heap.size zs.toArray rfl rfl 29 _ (heap_alloc_last _ _) (by rw [size_u,HSh.out]) (by rw [HSh.out];rfl) HOh.out ?_;rw [World.setRow_alloc_new])|fail)
    clear hz
    obtain ⟨gh,hgh⟩:∃ g,g=w8.heap.size:=⟨_,rfl⟩
    rw [← hgh] at Bh
    generalize w8.alloc (.cells zs.toArray 29)=Vh at *
    rw [← hgh]
    clear hgh
    have q3:=ne_codeT
    obtain ⟨tR,hR⟩:=R0
    have HR1:Hid _:=hR
    clear hR
    have hz:=zero_s.out
    go_wp2_with (first|(refine wpList_store_row rfl 31 _ _ rfl (w.heap.size) #[.int .u64 0,.int .u64 0,.int .u64 0,.int .u64 0,.int .u64 0,.int .u64 0,.int .u64 0,.int .u64 0,.int .u64 0,.int .u64 0,.int .u64 0,.int .u64 0] rfl rfl tR _ HR1.out (by rw [size_s];rfl) rfl (by simp [Value.oneCell']) ?_)|fail)
    refine bodyPost_ret (results_row_tmp rfl _ _ (w.heap.size) tR #[.int .u64 0,.int .u64 0,.int .u64 0,.int .u64 0,.int .u64 0,.int .u64 0,.int .u64 0,.int .u64 0,.int .u64 0,.int .u64 0,.int .u64 0,.int .u64 0] (0,0) _ rfl (setRow_heap _ _ _ _ _ _ HR1.out) Tryz.underlying31 rfl (by rw [size_s];rfl)) rfl ?_
    exact DecR.range HP.out HSg.out HN.out (below_setRow bel (by omega) _)
   have HU1:Hid (U6 fs (beN n1)):=hu
   have HSc1:Hid (isSc (beN n1)):=hsc
   replace R0:=R0.later hb
   replace Br:=Br.later hb
   replace bel:=below_step bel hb
   clear hb
   clear hu hsc Bt HB1a
   have HLs:Hid (fs.length=6):=HU1.out.len
   have HSs:Hid (fs.toArray.size=6):=by show _=_;rw [List.size_toArray];exact HLs.out
   have HOs:Hid (OneR fs):=HU1.out.ones
   replace R0:=R0.alloc (.cells fs.toArray 29)
   replace Br:=Br.alloc (.cells fs.toArray 29)
   replace bel:=below_alloc (o:=.cells fs.toArray 29) bel
   have BsB:=Blk.new w8 fs 29 w8.heap.size rfl
   have hz:=zero_u.out
   go_upto_region 18 with (first|(refine wpList_store_row rfl 29 _ _ rfl w8.heap.size fs.toArray rfl rfl 29 _ (heap_alloc_last _ _) (by rw [size_u,HSs.out]) (by rw [HSs.out];rfl) HOs.out ?_;rw [World.setRow_alloc_new])|fail)
   clear hz
   obtain ⟨gs,hgs⟩:∃ g,g=w8.heap.size:=⟨_,rfl⟩
   rw [← hgs] at BsB
   generalize w8.alloc (.cells fs.toArray 29)=Vs at *
   rw [← hgs]
   clear hgs
   have q3:=ne_nilT
   have l4:=Br.lt
   have l6:=BsB.lt
   have q7:=build_sig HU0.out HU1.out
   have hu2:∃ us,es++fs=us:=⟨_,rfl⟩
   obtain ⟨us2,hus⟩:=hu2
   have HUs:Hid (es++fs=us2):=hus
   have HSu:Hid (us2.toArray.size=12):=by show _=_;rw [List.size_toArray,← hus,List.length_append,HU0.out.len,HU1.out.len]
   have HOu:Hid (OneR us2):=by rw [← hus];exact HU0.out.ones.app HU1.out.ones
   rw [hus] at q7
   clear hus
   obtain ⟨tR,hR⟩:=R0
   have HR1:Hid _:=hR
   clear hR
   go_wp2_with (first|(refine wpList_build_run (by rfl) (by rfl) (by rfl) (v:=.agg us2.toArray) (q7 _) ?_)|(refine wpList_store_row rfl 31 _ _ rfl w.heap.size us2.toArray rfl rfl tR _ HR1.out (by rw [size_s,HSu.out]) (by rw [HSu.out];rfl) HOu.out ?_)|(refine wpList_load_run (by rfl) (by rfl) (by rfl) (Br.load Tryz.underlying29 rfl size_u HLr.out) ?_)|(refine wpList_load_run (by rfl) (by rfl) (by rfl) (BsB.load Tryz.underlying29 rfl size_u HLs.out) ?_)|fail)
   refine bodyPost_ret (results_row_tmp rfl _ _ w.heap.size tR us2.toArray (0,0) _ rfl (setRow_heap _ _ _ _ _ _ HR1.out) Tryz.underlying31 rfl (by rw [size_s,HSu.out])) rfl ?_
   exact DecR.ok HP.out HSg.out HU0.out HU1.out HSc0.out HSc1.out HUs.out (below_setRow bel (by omega) _)
theorem con_Decode {v:Value} {B:List Int} {w:World} (G:GlsO w) (hv:Bs w v B) (b:byt B) :
  Calls Tryz.prog 78 #[v] w fun e w'=>(∀ c p,parseP B=.error (c,p)→∃ er:Value,e=.returned (.tuple #[.agg #[.int .u64 0,.int .u64 0,.int .u64 0,.int .u64 0,.int .u64 0,.int .u64 0,.int .u64 0,.int .u64 0,.int .u64 0,.int .u64 0,.int .u64 0,.int .u64 0],er])∧ErAt w' c p er∧Below w.heap.size w w')∧(∀ T,parseP B=.ok T→(sigP T=none→e=.returned (.tuple #[.agg #[.int .u64 0,.int .u64 0,.int .u64 0,.int .u64 0,.int .u64 0,.int .u64 0,.int .u64 0,.int .u64 0,.int .u64 0,.int .u64 0,.int .u64 0,.int .u64 0],codeV 7])∧Below w.heap.size w w')∧(∀ x y,sigP T=some (x,y)→(¬ (isSc (beN x)∧isSc (beN y))→e=.returned (.tuple #[.agg #[.int .u64 0,.int .u64 0,.int .u64 0,.int .u64 0,.int .u64 0,.int .u64 0,.int .u64 0,.int .u64 0,.int .u64 0,.int .u64 0,.int .u64 0,.int .u64 0],codeV 3])∧Below w.heap.size w w')∧(isSc (beN x)→isSc (beN y)→∃ rs ss,e=.returned (.tuple #[.agg (rs++ss).toArray,.nilIface])∧U6 rs (beN x)∧U6 ss (beN y)∧Below w.heap.size w w'))):=(c14_Decode G hv b).mono (fun _ _ h=>h)
end Go.Proofs.YtohcdbifhnfcbaaGreatDoor
