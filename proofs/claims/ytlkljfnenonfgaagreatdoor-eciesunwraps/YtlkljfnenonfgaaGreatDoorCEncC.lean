/- Digits told as bytes. limb.Bytes: a number's 48 bytes. Bytes that grow: owned rows through calls; bytes are told by their number; bytes as text. curve.Encode: a point's bytes. -/
import Derived.Test.YtlkljfnenonfgaaGreatDoorAeNumG
import Derived.Test.YtlkljfnenonfgaaGreatDoorCDecC
import Derived.Test.YtlkljfnenonfgaaGreatDoorCCode
import Derived.Test.YtlkljfnenonfgaaGreatDoorRows
import Derived.Deep.OwnRows
import Derived.Laws.BytesArg
import Derived.Deep.AppendLies
import Derived.Deep.WholeRow
import Derived.Deep.RegionHeld3
import Derived.Deep.DeepCutAuto
import Derived.Deep.DeepFit
namespace Go.Proofs.YtlkljfnenonfgaaGreatDoor
open Go.RowKit
theorem mod_next (a:Int) (h0:0≤a) (k:Nat):a % 256 ^ k + 256 ^ k * (a / 256 ^ k % 256)=a % 256 ^ (k + 1):=by
 obtain ⟨n,rfl⟩:=Int.eq_ofNat_of_zero_le h0
 have e:=Nat.mod_mul (x:=n) (a:=256 ^ k) (b:=256)
 have h1:(256:Int) ^ k=((256 ^ k:Nat):Int):=(Int.natCast_pow 256 k).symm
 rw [Int.pow_succ,h1]
 generalize (256:Nat) ^ k=p at e
 have e2:((n % p + p * (n / p % 256):Nat):Int)=((n % (p * 256):Nat):Int):=by rw [e]
 exact e2
theorem digits_of (a:Int) (h0:0≤a) (Q:List Int) (hQ:∀ r,r < Q.length→Q.getD r 0=a / 256 ^ r % 256):pv 256 Q=a % 256 ^ Q.length:=by
 have key:∀ k,k≤Q.length→pv 256 (Q.take k)=a % 256 ^ k:=by
  intro k
  induction k with
  | zero=>intro _;simp [pv,Int.emod_one]
  | succ k ih =>
   intro hk
   rw [pv_take _ Q k (by omega),ih (by omega),hQ k (by omega),mod_next a h0 k]
 have:=key Q.length (Nat.le_refl _)
 rwa [List.take_of_length_le (Nat.le_refl _)] at this
theorem pv_take_any (b:Int) (D:List Int) (k:Nat):pv b (D.take (k + 1))=pv b (D.take k) + b ^ k * D.getD k 0:=by
 by_cases h:k < D.length
 ·exact pv_take b D k h
 ·rw [List.take_of_length_le (by omega),List.take_of_length_le (by omega),getD_none D k (by omega)];simp
theorem spread (c:Nat) (hc:0 < c) (A R:List Int) (hA:∀ j,0≤A.getD j 0∧A.getD j 0 < 256 ^ c) (hR:∀ t,t < R.length→R.getD t 0=A.getD (t / c) 0 / 256 ^ (t % c) % 256) :
  ∀ n,c * n≤R.length→pv 256 (R.take (c * n))=pv (256 ^ c) (A.take n):=by
 intro n
 induction n with
 | zero=>intro _;simp [pv]
 | succ n ih =>
  intro hn
  have hn':c * n + c≤R.length:=by rw [Nat.mul_succ] at hn;exact hn
  have e1:R.take (c * (n + 1))=R.take (c * n)++(R.take (c * n + c)).drop (c * n):=by
   rw [Nat.mul_succ]
   have:=List.take_append_drop (c * n) (R.take (c * n + c))
   rw [List.take_take,show min (c * n) (c * n + c)=c * n by omega] at this
   exact this.symm
  have hl:((R.take (c * n + c)).drop (c * n)).length=c:=by simp;omega
  have hQ:∀ r,r < ((R.take (c * n + c)).drop (c * n)).length→((R.take (c * n + c)).drop (c * n)).getD r 0=A.getD n 0 / 256 ^ r % 256:=by
   intro r hr
   rw [hl] at hr
   have e:((R.take (c * n + c)).drop (c * n)).getD r 0=R.getD (c * n + r) 0:=by
    simp only [List.getD_eq_getElem?_getD,List.getElem?_drop,List.getElem?_take,show c * n + r < c * n + c by omega,if_true]
   rw [e,hR _ (by omega),Nat.mul_add_div hc,Nat.div_eq_of_lt hr,Nat.mul_add_mod,Nat.mod_eq_of_lt hr,Nat.add_zero]
  have e2:=digits_of (A.getD n 0) (hA n).1 _ hQ
  have e3:(R.take (c * n)).length=c * n:=by simp;omega
  rw [e1,pv_append,ih (by omega),e2,hl,e3,Int.emod_eq_of_lt (hA n).1 (hA n).2,pv_take_any,Int.pow_mul]
/-- bytes are told by their number -/
theorem pv256_inj:∀ (A B:List Int),A.length=B.length→(∀ j,0≤A.getD j 0∧A.getD j 0 < 256)→(∀ j,0≤B.getD j 0∧B.getD j 0 < 256)→pv 256 A=pv 256 B→A=B
 | [],[],_,_,_,_=>rfl
 | [],b :: B,h,_,_,_=>by simp at h
 | a :: A,[],h,_,_,_=>by simp at h
 | a :: A,b :: B,h,hA,hB,hv=>by
  have ha:0≤a∧a < 256:=hA 0
  have hb:0≤b∧b < 256:=hB 0
  simp only [pv] at hv
  have h1:a=b:=by omega
  have h2:pv 256 A=pv 256 B:=by omega
  rw [h1,pv256_inj A B (by simpa using h) (fun j=>hA (j + 1)) (fun j=>hB (j + 1)) h2]
theorem beN_inj (A B:List Int) (hl:A.length=B.length) (hA:byt A) (hB:byt B) (h:beN A=beN B):A=B:=by
 have:=pv256_inj A.reverse B.reverse (by simpa using hl) (byt_rev hA) (byt_rev hB) h
 exact List.reverse_inj.1 this
theorem info_u8:(Tryz.prog.info? 5).map (fun i=>(i.zero,i.size,i.bytes))=some (some (.int .u8 0),1,1):=by kernel_rfl
theorem made_u8 (n:Nat):madeCells #[.int .u8 0] n=(u8s (List.replicate n 0)).toArray:=by
 apply Array.ext
 ·simp [madeCells]
 ·intro i h1 h2
  simp [madeCells,Nat.mod_one]
theorem Blk.set8 {w:World} {b:Nat} {S:List Int} (h:Blk w b (u8s S)) (k:Nat) (s:Int):Blk (w.setCell ⟨b,k,none⟩ (.int .u8 s)) b (u8s (S.set k s)):=by
 have:u8s (S.set k s)=(u8s S).set k (.int .u8 s):=by simp [u8s,List.map_set]
 rw [this];exact h.set k _
/-- the bytes of six limbs -/
def bytesOf (A:List Int):List Int:=(List.range 48).map fun i=>A.getD ((47 - i) / 8) 0 / 2 ^ ((47 - i) % 8 * 8) % 256
theorem bytesOf_len (A:List Int):(bytesOf A).length=48:=by simp [bytesOf]
theorem bytesOf_get (A:List Int) (i:Nat) (h:i < 48):(bytesOf A).getD i 0=A.getD ((47 - i) / 8) 0 / 2 ^ ((47 - i) % 8 * 8) % 256:=by
 rw [List.getD_eq_getElem?_getD,bytesOf,List.getElem?_map,List.getElem?_range h]
 rfl
theorem bytesOf_byt (A:List Int):byt (bytesOf A):=by
 apply byt_of
 intro j hj
 rw [bytesOf_len] at hj
 rw [bytesOf_get A j hj]
 omega
theorem two_pow (r:Nat):(2:Int) ^ (r * 8)=256 ^ r:=by
 rw [Nat.mul_comm,Int.pow_mul];rfl
theorem bytesOf_num (A:List Int) (lA:A.length=6) (fA:fits A):beN (bytesOf A)=v64 A:=by
 have hl:(bytesOf A).reverse.length=48:=by rw [List.length_reverse,bytesOf_len]
 have hR:∀ t,t < (bytesOf A).reverse.length→(bytesOf A).reverse.getD t 0=A.getD (t / 8) 0 / 256 ^ (t % 8) % 256:=by
  intro t ht
  rw [hl] at ht
  have e:=rev_get (bytesOf A) (47 - t) (by rw [bytesOf_len];omega)
  rw [bytesOf_len,show 48 - 1 - (47 - t)=t by omega] at e
  rw [e,bytesOf_get A _ (by omega),show 47 - (47 - t)=t by omega,two_pow]
 have e1:(256:Int) ^ 8=18446744073709551616:=by decide
 have h:=spread 8 (by decide) A (bytesOf A).reverse (fun j=>by rw [e1];exact fA j) hR 6 (by rw [hl];decide)
 rw [List.take_of_length_le (by rw [hl];decide),List.take_of_length_le (by omega),e1] at h
 exact h
set_option maxRecDepth 100000 in
set_option maxHeartbeats 1000000 in
theorem bytes_any (A:List Int) (w:World) (lA:A.length=6) (fA:fits A) :
  Calls Tryz.prog 31 #[.agg (us A).toArray] w fun e w'=>∃ g:Nat,e=.returned (.slice (some ⟨g,0,none⟩) 48 48)∧Blk w' g (u8s (bytesOf A))∧Below w.heap.size w w':=by
 have hmk:=run_make_row' 27 5 (.int .u8 0) 1 Tryz.underlying27 info_u8 rfl .i64 .i64 48 (by omega) (by omega)
 rw [made_u8] at hmk
 have b0:=(Blk.new w (us A) 24 w.heap.size rfl).alloc (.cells (u8s (List.replicate 48 0)).toArray 5)
 have b1:=Blk.new (w.alloc (.cells (us A).toArray 24)) (u8s (List.replicate 48 0)) 5 (w.heap.size + 1) (by simp)
 have bel:Below w.heap.size w ((w.alloc (.cells (us A).toArray 24)).alloc (.cells (u8s (List.replicate 48 0)).toArray 5)):=((Below.refl _ _).alloc (Nat.le_refl _) _).alloc (by simp) _
 generalize (u8s (List.replicate 48 0)).toArray=cs at hmk b0 b1 bel
 replace hmk:∀ w:World,(Instr.makeSlice 27 (.int .i64 48) (.int .i64 48)).run Tryz.prog w=.ok (.slice (some ⟨w.heap.size,0,none⟩) 48 48) (w.alloc (.cells cs 5)):=hmk
 have gX:Hid (∀ i,i < 48→(bytesOf A).getD i 0=A.getD ((47 - i) / 8) 0 / 2 ^ ((47 - i) % 8 * 8) % 256):=bytesOf_get A
 have lX:=bytesOf_len A
 obtain ⟨X,hX⟩:∃ X,bytesOf A=X:=⟨_,rfl⟩
 rw [hX] at gX lX ⊢
 clear hX
 go_enter Tryz.func31,Tryz.ntmps31
 go_wp2
 clear hmk
 generalize (w.alloc (.cells (us A).toArray 24)).alloc (.cells cs 5)=W at *
 go_loopw [7] (fun i wr=>∃ (k:Nat) (T:List Int),k≤48∧i=.int .i64 k∧T.length=48∧Hid (∀ j,j < k→T.getD j 0=X.getD j 0)∧Blk wr w.heap.size (us A)∧Blk wr (w.heap.size + 1) (u8s T)∧Below w.heap.size w wr)
  (fun i _=>48 - (intOf i).toNat)
 case atStart=>exact ⟨0,List.replicate 48 0,by omega,rfl,by simp,fun j hj=>absurd hj (by omega),b0,b1,bel⟩
 case round =>
  obtain ⟨k,T,hk,rfl,lT,hJ,hS,hT,hbel⟩:=hrel
  clear b0 b1 bel
  by_cases hlt:k < 48
  ·obtain ⟨a,ha⟩:∃ a,A.getD ((47 - k) / 8) 0=a:=⟨_,rfl⟩
   have ba:0≤a∧a < 18446744073709551616:=ha ▸ fA _
   have x1:=hS.cell ((47 - k) / 8) _ (us_get A _ (by omega))
   rw [ha] at x1
   have gk:=gX.out k hlt
   rw [ha] at gk
   have GK:Hid _:=gk
   have x2:=hT.cell k _ (u8s_get T k (by omega))
   have fz:=hT.frozen k
   obtain ⟨t,ht⟩:∃ t,T.getD k 0=t:=⟨_,rfl⟩
   rw [ht] at x2
   have a0:=ba.1
   have a1:=ba.2
   have g1:(k:Int) < 48:=by omega
   have g2:(0:Int)≤(k:Int):=by omega
   have g3:(0:Int)≤(47 - (k:Int)) / 8:=by omega
   have g4:(47 - (k:Int)) / 8 < 6:=by omega
   have g5:((47 - (k:Int)) / 8).toNat=(47 - k) / 8:=by omega
   clear ha ht gk ba
   go_wp2
   go_roundw
   case rel =>
    refine ⟨k + 1,T.set k (a / 2 ^ ((47 - k) % 8 * 8) % 256),by omega,by go_num,by simpa using lT,fun j hj=>?_,hS.other _ _ (by simp),hT.set8 _ _,hbel.setCell (by simp) _⟩
    by_cases hjk:k=j
    ·subst hjk
     rw [getD_set_same _ _ _ (by omega),GK.out]
    ·have e:(T.set k (a / 2 ^ ((47 - k) % 8 * 8) % 256)).getD j 0=T.getD j 0:=by simp [List.getD_eq_getElem?_getD,hjk]
     rw [e];exact hJ.out j (by omega)
   case measure=>simp [intOf];omega
  ·have h6:(48:Int)≤(k:Int):=by omega
   have hTX:T=X:=by
    apply List.ext_getElem (by omega)
    intro i h1 h2
    have:=hJ.out i (by omega)
    simpa [List.getD_eq_getElem?_getD,h1,h2] using this
   subst hTX
   clear hJ
   go_wp2
   go_ret
   exact ⟨_,rfl,hT,hbel⟩
theorem Bs.alloc {w:World} {v:Value} {bs:List Int} (h:Bs w v bs) (o:Obj):Bs (w.alloc o) v bs:=h.later ((Below.refl _ _).alloc (Nat.le_refl _) o)
theorem Bs.lt {w:World} {b o n cap:Nat} {bs:List Int} (h:Bs w (.slice (some ⟨b,o,none⟩) n cap) bs) (hn:0 < n):b < w.heap.size:=by
 obtain ⟨ao,c,e,-,-,h4⟩:=h
 simp only [Value.slice.injEq] at e
 obtain ⟨rfl,rfl,rfl⟩:=e
 obtain ⟨b',o',e',h5,-⟩:=h4 hn
 simp only [Option.some.injEq,Addr.mk.injEq] at e'
 rw [e'.1];exact h5
theorem add_flat (g j:Nat):(⟨g,0,none⟩:Addr).add j=⟨g,j,none⟩:=by unfold Addr.add;split<;>simp_all
/-- a row of bytes of the call's own -/
def Own (w:World) (base:Nat) (v:Value) (n:Nat) (xs:List Int):Prop:=w.ownsRow base 5 1 v n (u8s xs)
theorem Own.later {w w':World} {base:Nat} {v:Value} {n:Nat} {xs:List Int} (h:Own w base v n xs) (hb:Below w.heap.size w w'):Own w' base v n xs:=by
 refine ⟨h.1,?_⟩
 rcases h.2 with h0|⟨g,cap,cur,hv,hg,hh,h3⟩
 ·exact .inl h0
 ·refine .inr ⟨g,cap,cur,hv,hg,?_,h3⟩
  rw [hb.block g (Array.getElem?_eq_some_iff.1 hh).1];exact hh
theorem Own.alloc {w:World} {base:Nat} {v:Value} {n:Nat} {xs:List Int} (h:Own w base v n xs) (o:Obj):Own (w.alloc o) base v n xs:=h.later ((Below.refl _ _).alloc (Nat.le_refl _) o)
theorem Own.drew {w:World} {base:Nat} {v:Value} {n:Nat} {xs:List Int} (h:Own w base v n xs):Own w.drew base v n xs:=h
theorem Bs.grown {w w':World} {b o n cap g:Nat} {bs:List Int} (h:Bs w (.slice (some ⟨b,o,none⟩) n cap) bs) (hg:w.grownBy w' (some g)) (hne:b≠g):Bs w' (.slice (some ⟨b,o,none⟩) n cap) bs:=by
 obtain ⟨ao,c,e,h2,h3,h4⟩:=h
 refine ⟨ao,c,e,h2,h3,fun hp=>?_⟩
 obtain ⟨b',o',e',h5,h6⟩:=h4 hp
 simp only [Value.slice.injEq] at e
 have eb:b'=b:=by
  have:=e.1.trans e'
  simp only [Option.some.injEq,Addr.mk.injEq] at this
  exact this.1.symm
 subst eb
 exact ⟨b',o',e',Nat.lt_of_lt_of_le h5 hg.size,fun j hj=>hg.cell (h6 j hj) (by simpa using hne)⟩
theorem Blk.grown {w w':World} {b g:Nat} {cs:List Value} (h:Blk w b cs) (hg:w.grownBy w' (some g)) (hne:b≠g):Blk w' b cs:=by
 have lt:=h.lt
 obtain ⟨t,h⟩:=h
 exact ⟨t,by rw [hg.block b lt (by simpa using hne)];exact h⟩
theorem info_e8:(Tryz.prog.info? 5).map (fun i=>(i.zero,i.size,i.bytes))=some (some (.int .u8 0),1,1):=by kernel_rfl
theorem bytesL {x0 x1 x2 x3 x4 x5:Int} {w:World} (fX:fits [x0,x1,x2,x3,x4,x5]) :
  Calls Tryz.prog 31 #[.agg #[.int .u64 x0,.int .u64 x1,.int .u64 x2,.int .u64 x3,.int .u64 x4,.int .u64 x5]] w fun e w'=>∃ (g:Nat) (XB:List Int),e=.returned (.slice (some ⟨g,0,none⟩) 48 48)∧Blk w' g (u8s XB)∧XB.length=48∧byt XB∧beN XB=v64 [x0,x1,x2,x3,x4,x5]∧Below w.heap.size w w':=by
 refine (bytes_any [x0,x1,x2,x3,x4,x5] w rfl fX).mono ?_
 rintro e w' ⟨g,rfl,B,hb⟩
 exact ⟨g,_,rfl,B,bytesOf_len _,bytesOf_byt _,bytesOf_num _ rfl fX,hb⟩
set_option maxRecDepth 100000 in
set_option maxHeartbeats 4000000 in
theorem con_Enc {x0 x1 x2 x3 x4 x5 y0 y1 y2 y3 y4 y5:Int} {w:World} (G:GlsC w) (fX:fits [x0,x1,x2,x3,x4,x5]) (fY:fits [y0,y1,y2,y3,y4,y5]) (A:Aff (v64 [x0,x1,x2,x3,x4,x5]) (v64 [y0,y1,y2,y3,y4,y5])) :
  Calls Tryz.prog 11 #[.agg #[.int .u64 x0,.int .u64 x1,.int .u64 x2,.int .u64 x3,.int .u64 x4,.int .u64 x5,.int .u64 y0,.int .u64 y1,.int .u64 y2,.int .u64 y3,.int .u64 y4,.int .u64 y5,.bool false]] w fun e w'=>∃ (b o cap:Nat) (XB YB:List Int),e=.returned (.tuple #[.slice (some ⟨b,o,none⟩) 97 cap,.nilIface])∧Bs w' (.slice (some ⟨b,o,none⟩) 97 cap) (4 :: (XB++YB))∧XB.length=48∧YB.length=48∧byt XB∧byt YB∧beN XB=v64 [x0,x1,x2,x3,x4,x5]∧beN YB=v64 [y0,y1,y2,y3,y4,y5]∧Below w.heap.size w w':=by
 obtain ⟨i0,hi0,hz0,hz1,hz2⟩:=info_parts info_e8
 have HO:Hid (IsOn false (v64 [x0,x1,x2,x3,x4,x5]) (v64 [y0,y1,y2,y3,y4,y5])):=Or.inr ⟨rfl,A⟩
 clear A
 have B0:=Blk.new w [.int .u64 x0,.int .u64 x1,.int .u64 x2,.int .u64 x3,.int .u64 x4,.int .u64 x5,.int .u64 y0,.int .u64 y1,.int .u64 y2,.int .u64 y3,.int .u64 y4,.int .u64 y5,.bool false] 26 (w.heap.size) rfl
 have bel:Below w.heap.size w (w.alloc (.cells [.int .u64 x0,.int .u64 x1,.int .u64 x2,.int .u64 x3,.int .u64 x4,.int .u64 x5,.int .u64 y0,.int .u64 y1,.int .u64 y2,.int .u64 y3,.int .u64 y4,.int .u64 y5,.bool false].toArray 26)):=((Below.refl _ _).alloc (Nat.le_refl _) _)
 go_enter Tryz.func11,Tryz.ntmps11
 go_upto_region 1 with fail
 try simp only [us,List.map_cons,List.map_nil] at bel
 generalize (w.alloc (Obj.cells #[.int .u64 x0,.int .u64 x1,.int .u64 x2,.int .u64 x3,.int .u64 x4,.int .u64 x5,.int .u64 y0,.int .u64 y1,.int .u64 y2,.int .u64 y3,.int .u64 y4,.int .u64 y5,.bool false] 26))=W at *
 have Bp:=B0
 clear B0
 have ltp:=Bp.lt
 have cp0:=Bp.cell 0 _ rfl
 have cp1:=Bp.cell 1 _ rfl
 have cp2:=Bp.cell 2 _ rfl
 have cp3:=Bp.cell 3 _ rfl
 have cp4:=Bp.cell 4 _ rfl
 have cp5:=Bp.cell 5 _ rfl
 have cp6:=Bp.cell 6 _ rfl
 have cp7:=Bp.cell 7 _ rfl
 have cp8:=Bp.cell 8 _ rfl
 have cp9:=Bp.cell 9 _ rfl
 have cp10:=Bp.cell 10 _ rfl
 have cp11:=Bp.cell 11 _ rfl
 have cp12:=Bp.cell 12 _ rfl
 go_wp2_with fail
 refine (con_On (b:=true) (G.below bel) fX fY ⟨fun _=>HO.out,fun _=>rfl⟩).mono ?_
 rintro e w1 ⟨rfl,hb⟩
 clear ltp cp0 cp1 cp2 cp3 cp4 cp5 cp6 cp7 cp8 cp9 cp10 cp11 cp12
 replace Bp:=Bp.later hb
 replace bel:=below_step bel hb
 clear hb
 have ltq:w.heap.size < w1.heap.size:=Bp.lt
 obtain ⟨wm,hmk,OW0,gm⟩:=run_make_own (P:=Tryz.prog) w1 w.heap.size 27 5 i0 _ 1 Tryz.underlying27 hi0 hz0 hz1 .i64 .i64 97 (by rw [hz2];decide) (by unfold maxLen;omega) bel.size
 have OW:Own wm w.heap.size (.slice (some ⟨w1.heap.size,0,none⟩) 0 97) 0 []:=OW0
 have hmk2:(Instr.makeSlice 27 (.int .i64 0) (.int .i64 97)).run Tryz.prog w1=.ok (.slice (some ⟨w1.heap.size,0,none⟩) 0 97) wm:=hmk
 clear OW0 hmk
 have hbm:Below w1.heap.size w1 wm:=Below.grown (Below.refl _ _) gm (Nat.le_refl _) (fun j hj=>by simp at hj)
 have ltp:=Bp.lt
 have cp0:=Bp.cell 0 _ rfl
 have cp1:=Bp.cell 1 _ rfl
 have cp2:=Bp.cell 2 _ rfl
 have cp3:=Bp.cell 3 _ rfl
 have cp4:=Bp.cell 4 _ rfl
 have cp5:=Bp.cell 5 _ rfl
 have cp6:=Bp.cell 6 _ rfl
 have cp7:=Bp.cell 7 _ rfl
 have cp8:=Bp.cell 8 _ rfl
 have cp9:=Bp.cell 9 _ rfl
 have cp10:=Bp.cell 10 _ rfl
 have cp11:=Bp.cell 11 _ rfl
 have cp12:=Bp.cell 12 _ rfl
 go_upto_region 4 with fail
 clear ltp cp0 cp1 cp2 cp3 cp4 cp5 cp6 cp7 cp8 cp9 cp10 cp11 cp12
 replace Bp:=Bp.later hbm
 replace bel:=below_step bel hbm
 have ltm:w1.heap.size≤wm.heap.size:=hbm.size
 clear hbm gm hmk2
 have B4:=Blk.new wm [.int .u8 4] 5 wm.heap.size rfl
 replace Bp:=Bp.alloc (.cells [.int .u8 4].toArray 5)
 replace OW:=Own.alloc OW (.cells [.int .u8 4].toArray 5)
 replace bel:=below_alloc (o:=.cells [.int .u8 4].toArray 5) bel
 have hsz:=bel.size
 have own0:=OW
 go_upto_region 5 with (first|(at_builtin;refine wpList_append_lies _ (by rfl) _ _ _ (by rfl) w.heap.size 5 i0 _ 1 1 Tryz.underlying27 hi0 hz0 hz1 hz2 rfl (by omega) _ 0 _ (by rfl) own0 ⟨wm.heap.size,0,none⟩ 1 1 (u8s [4]) (by rfl) (by simp [u8s]) (fun j u hu=>by rw [add_flat _ j];exact B4.cell j u hu) (by intro u hu;simp [u8s] at hu;first|(subst hu;rfl)|(obtain ⟨z,-,rfl⟩:=hu;rfl)) (by omega) (by unfold maxLen;omega) (by omega) hsz _ rfl ?_;intro g4 cap4 w4 hown hgrow hat hlt)|fail)
 have hg4:w.heap.size < g4:=by
  rcases hat with h|h
  ·simp [Value.ownBlock] at h;omega
  ·rw [h];simp;omega
 replace Bp:=Bp.grown hgrow (Nat.ne_of_lt ltq)
 replace bel:=Below.grown bel hgrow bel.size (fun j hj=>by simp [Value.ownBlock] at hj;omega)
 clear OW own0
 have OW:Own w4 w.heap.size (.slice (some ⟨g4,0,none⟩) (0 + 1) cap4) (0 + 1) [4]:=hown
 clear hown hgrow hat B4 hsz hlt
 have ltp:=Bp.lt
 have cp0:=Bp.cell 0 _ rfl
 have cp1:=Bp.cell 1 _ rfl
 have cp2:=Bp.cell 2 _ rfl
 have cp3:=Bp.cell 3 _ rfl
 have cp4:=Bp.cell 4 _ rfl
 have cp5:=Bp.cell 5 _ rfl
 have cp6:=Bp.cell 6 _ rfl
 have cp7:=Bp.cell 7 _ rfl
 have cp8:=Bp.cell 8 _ rfl
 have cp9:=Bp.cell 9 _ rfl
 have cp10:=Bp.cell 10 _ rfl
 have cp11:=Bp.cell 11 _ rfl
 have cp12:=Bp.cell 12 _ rfl
 go_wp2_with fail
 refine (bytesL fX).mono ?_
 rintro e w5 ⟨gx,XB,rfl,BG,lX,yX,hX,hb⟩
 clear ltp cp0 cp1 cp2 cp3 cp4 cp5 cp6 cp7 cp8 cp9 cp10 cp11 cp12
 replace Bp:=Bp.later hb
 replace OW:=OW.later hb
 replace bel:=below_step bel hb
 clear hb
 have LX:Hid _:=lX
 have HX:Hid _:=hX
 clear lX hX
 have hsz:=bel.size
 have own0:=OW
 go_upto_region 6 with (first|(at_builtin;refine wpList_append_lies _ (by rfl) _ _ _ (by rfl) w.heap.size 5 i0 _ 1 1 Tryz.underlying27 hi0 hz0 hz1 hz2 rfl (by omega) _ 1 _ (by rfl) own0 ⟨gx,0,none⟩ 48 48 (u8s XB) (by rfl) (by simp [u8s,LX.out]) (fun j u hu=>by rw [add_flat _ j];exact BG.cell j u hu) (by intro u hu;simp [u8s] at hu;first|(subst hu;rfl)|(obtain ⟨z,-,rfl⟩:=hu;rfl)) (by omega) (by unfold maxLen;omega) (by omega) hsz _ rfl ?_;intro g6 cap6 w6 hown hgrow hat hlt)|fail)
 have hg6:w.heap.size < g6:=by
  rcases hat with h|h
  ·simp [Value.ownBlock] at h;omega
  ·have:=Bp.lt;omega
 replace Bp:=Bp.grown hgrow (Nat.ne_of_lt hg4)
 replace bel:=Below.grown bel hgrow bel.size (fun j hj=>by simp [Value.ownBlock] at hj;omega)
 clear OW own0
 have OW:Own w6 w.heap.size (.slice (some ⟨g6,0,none⟩) (1 + 48) cap6) (1 + 48) (4 :: XB):=hown
 clear hown hgrow hat BG hsz hlt
 have ltp:=Bp.lt
 have cp0:=Bp.cell 0 _ rfl
 have cp1:=Bp.cell 1 _ rfl
 have cp2:=Bp.cell 2 _ rfl
 have cp3:=Bp.cell 3 _ rfl
 have cp4:=Bp.cell 4 _ rfl
 have cp5:=Bp.cell 5 _ rfl
 have cp6:=Bp.cell 6 _ rfl
 have cp7:=Bp.cell 7 _ rfl
 have cp8:=Bp.cell 8 _ rfl
 have cp9:=Bp.cell 9 _ rfl
 have cp10:=Bp.cell 10 _ rfl
 have cp11:=Bp.cell 11 _ rfl
 have cp12:=Bp.cell 12 _ rfl
 go_wp2_with fail
 refine (bytesL fY).mono ?_
 rintro e w7 ⟨gy,YB,rfl,BG,lY,yY,hY,hb⟩
 clear ltp cp0 cp1 cp2 cp3 cp4 cp5 cp6 cp7 cp8 cp9 cp10 cp11 cp12
 replace Bp:=Bp.later hb
 replace OW:=OW.later hb
 replace bel:=below_step bel hb
 clear hb
 have LY:Hid _:=lY
 have HY:Hid _:=hY
 clear lY hY
 have hsz:=bel.size
 have own0:=OW
 go_wp2_with (first|(at_builtin;refine wpList_append_lies _ (by rfl) _ _ _ (by rfl) w.heap.size 5 i0 _ 1 1 Tryz.underlying27 hi0 hz0 hz1 hz2 rfl (by omega) _ 49 _ (by rfl) own0 ⟨gy,0,none⟩ 48 48 (u8s YB) (by rfl) (by simp [u8s,LY.out]) (fun j u hu=>by rw [add_flat _ j];exact BG.cell j u hu) (by intro u hu;simp [u8s] at hu;first|(subst hu;rfl)|(obtain ⟨z,-,rfl⟩:=hu;rfl)) (by omega) (by unfold maxLen;omega) (by omega) hsz _ rfl ?_;intro g8 cap8 w8 hown hgrow hat hlt)|fail)
 replace bel:=Below.grown bel hgrow bel.size (fun j hj=>by simp [Value.ownBlock] at hj;omega)
 have S2:Bs w8 (.slice (some ⟨g8,0,none⟩) (49 + 48) cap8) (4 :: (XB++YB)):=Bs.of_own (e:=5) (base:=w.heap.size) (n:=49 + 48) (by rw [show u8s (4 :: (XB++YB))=u8s (4 :: XB)++u8s YB by simp [u8s]];exact hown)
 clear OW own0 hown hgrow hat BG hsz hlt
 go_wp2_with fail
 exact bodyPost_ret (v:=.tuple #[.slice (some ⟨g8,0,none⟩) 97 cap8,.nilIface]) (by simp [results,Tryz.results11,go_sem]) rfl ⟨g8,0,cap8,XB,YB,rfl,S2,LX.out,LY.out,yX,yY,HX.out,HY.out,bel⟩
end Go.Proofs.YtlkljfnenonfgaaGreatDoor
