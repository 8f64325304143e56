/- order.Add: modulo the order. order.Rest: modulo the order. What the lower layers answer of rows of cells. (Rests and sums modulo the order.) ecies.inRange. HMAC's and HKDF's bytes. Plain facts. What a wrapped key is. What curve.Encode and Decode answer of rows of cells. What ecies.Wrap and Unwrap answer of the examples that can't be. -/
import Derived.Test.YtlkljfnenonfgaaGreatDoorEdG
import Derived.Test.YtlkljfnenonfgaaGreatDoorMMul
import Derived.Test.YtlkljfnenonfgaaGreatDoorLimb
import Derived.Test.YtlkljfnenonfgaaGreatDoorBase
import Derived.Test.YtlkljfnenonfgaaGreatDoorAeCodeX
import Derived.Test.YtlkljfnenonfgaaGreatDoorSSch0
import Derived.Test.YtlkljfnenonfgaaGreatDoorCCode
import Derived.Test.YtlkljfnenonfgaaGreatDoorCDecC
import Derived.Test.YtlkljfnenonfgaaGreatDoorGhNumG
import Derived.Test.YtlkljfnenonfgaaGreatDoorSCodeT
import Derived.Test.YtlkljfnenonfgaaGreatDoorCEncC
import Derived.Test.YtlkljfnenonfgaaGreatDoorCNum
import Derived.Test.YtlkljfnenonfgaaGreatDoorRows
import Derived.Deep.RegionHeld3
import Derived.Deep.DeepCutAuto
import Derived.Deep.DeepFit
import Derived.Deep.WholeRow
import Derived.Deep.OwnRows
import Derived.Deep.AppendLies
import Derived.Great.BuildSlice
import Derived.Laws.Rows
import Derived.BigQuiet
namespace Go.Proofs.YtlkljfnenonfgaaGreatDoor
open Go.RowKit
set_option maxRecDepth 100000 in
set_option maxHeartbeats 2000000 in
theorem oadd6 {x0 x1 x2 x3 x4 x5 y0 y1 y2 y3 y4 y5:Int} {w:World} (G:GlsO w) (fX:fits [x0,x1,x2,x3,x4,x5]) (fY:fits [y0,y1,y2,y3,y4,y5]) :
    Calls Tryz.prog 69 #[.agg #[.int .u64 x0,.int .u64 x1,.int .u64 x2,.int .u64 x3,.int .u64 x4,.int .u64 x5],.agg #[.int .u64 y0,.int .u64 y1,.int .u64 y2,.int .u64 y3,.int .u64 y4,.int .u64 y5]] w fun e w'=>∃ z0 z1 z2 z3 z4 z5:Int,e=.returned (.agg #[.int .u64 z0,.int .u64 z1,.int .u64 z2,.int .u64 z3,.int .u64 z4,.int .u64 z5])∧fits [z0,z1,z2,z3,z4,z5]∧v64 [z0,z1,z2,z3,z4,z5]=(v64 [x0,x1,x2,x3,x4,x5] + v64 [y0,y1,y2,y3,y4,y5]) % QQ∧Below w.heap.size w w':=by
  have B0:=((Blk.new w (us [x0,x1,x2,x3,x4,x5]) 24 (w.heap.size) rfl).alloc (.cells (us [y0,y1,y2,y3,y4,y5]).toArray 24)).alloc (.cells (us [0,0,0,0,0,0]).toArray 24)
  have B1:=(Blk.new (w.alloc (.cells (us [x0,x1,x2,x3,x4,x5]).toArray 24)) (us [y0,y1,y2,y3,y4,y5]) 24 (w.heap.size + 1) (by simp)).alloc (.cells (us [0,0,0,0,0,0]).toArray 24)
  have B2:=Blk.new ((w.alloc (.cells (us [x0,x1,x2,x3,x4,x5]).toArray 24)).alloc (.cells (us [y0,y1,y2,y3,y4,y5]).toArray 24)) (us [0,0,0,0,0,0]) 24 (w.heap.size + 1 + 1) (by simp)
  have bel:Below w.heap.size w (((w.alloc (.cells (us [x0,x1,x2,x3,x4,x5]).toArray 24)).alloc (.cells (us [y0,y1,y2,y3,y4,y5]).toArray 24)).alloc (.cells (us [0,0,0,0,0,0]).toArray 24)):=(((Below.refl _ _).alloc (Nat.le_refl _) _).alloc (by simp) _).alloc (by simp;omega) _
  have WR:Wr6 _ (w.heap.size + 1 + 1):=Wr6.of B2
  go_enter Tryz.func69,Tryz.ntmps69
  go_wp2_with fail
  simp only [us,List.map_cons,List.map_nil] at B0 B1 WR bel
  generalize ((w.alloc (Obj.cells #[.int .u64 x0,.int .u64 x1,.int .u64 x2,.int .u64 x3,.int .u64 x4,.int .u64 x5] 24)).alloc (Obj.cells #[.int .u64 y0,.int .u64 y1,.int .u64 y2,.int .u64 y3,.int .u64 y4,.int .u64 y5] 24)).alloc (Obj.cells #[.int .u64 0,.int .u64 0,.int .u64 0,.int .u64 0,.int .u64 0,.int .u64 0] 24)=W at *
  obtain ⟨S1,hS1,KL1,KA1,KD1,KS1,KP1,KN1,KB1,KM1,KW1⟩:=held_mk (w0:=w) (W:=W) [(w.heap.size,[x0,x1,x2,x3,x4,x5]),(w.heap.size + 1,[y0,y1,y2,y3,y4,y5])] [w.heap.size + 1 + 1] (by
    intro b X h
    simp only [List.mem_cons,List.not_mem_nil,or_false,Prod.mk.injEq] at h
    rcases h with ⟨rfl,rfl⟩|⟨rfl,rfl⟩
    · exact B0
    · exact B1) (by
    intro b h
    simp only [List.mem_cons,List.not_mem_nil,or_false] at h
    rcases h with rfl
    · exact WR) (by
    intro b X h
    simp only [List.mem_cons,List.not_mem_nil,or_false,Prod.mk.injEq] at h ⊢
    omega) bel
  obtain ⟨c1a0,c1a1,c1a2,c1a3,c1a4,c1a5,c1a6⟩:=rule6 (S:=Hd S1) (b:=w.heap.size) (x0:=x0) (x1:=x1) (x2:=x2) (x3:=x3) (x4:=x4) (x5:=x5) (fun wx h=>KM1.out wx _ _ h (by simp))
  obtain ⟨c1b0,c1b1,c1b2,c1b3,c1b4,c1b5,c1b6⟩:=rule6 (S:=Hd S1) (b:=w.heap.size + 1) (x0:=y0) (x1:=y1) (x2:=y2) (x3:=y3) (x4:=y4) (x5:=y5) (fun wx h=>KM1.out wx _ _ h (by simp))
  obtain ⟨⟨d1a0,d1a1,d1a2,d1a3,d1a4,d1a5⟩,⟨d1af0,d1af1,d1af2,d1af3,d1af4,d1af5⟩,d1alt⟩:=ruleW (S:=Hd S1) (b:=w.heap.size + 1 + 1) (fun wx h=>KW1.out wx _ h (by simp))
  have hN1:=bel.size
  clear B0 B1 B2 bel
  go_region_held3 (Hd S1)
    (first
      | with_reducible exact KP1.out _ _ _ _ _ _ _ _ (by assumption) (by first|(right;simp;done)|(left;omega)) (by omega)
      | with_reducible exact KL1.out _ _ (by assumption) hb
      | with_reducible exact KA1.out _ _ (by assumption)
      | with_reducible exact KS1.out _ _ _ (by omega) (by assumption)
      | with_reducible exact KD1.out _ hS1
      | with_reducible exact KD1.out _ (KA1.out _ _ hS1)
      | with_reducible assumption)
    (first
      | (go_at_call 90;go_fit (omod (G.below (KB1.out _ (by first|with_reducible assumption|with_reducible exact KA1.out _ _ (by assumption)|with_reducible exact KD1.out _ (by assumption)))));rintro e w' ⟨rfl,hb⟩)
      | (go_at_call 75;go_fit (addm6 fX fY isQ);rintro e w' ⟨z0,z1,z2,z3,z4,z5,rfl,fZ,hv,hb⟩;rw [QQ_v] at hv;have HV:Hid _:=hv;clear hv;obtain ⟨g0,g1,g2,g3,g4,g5,⟨h0,h1,h2,h3,h4,h5⟩,⟨f0,f1,f2,f3,f4,f5⟩⟩:=(KW1.out _ _ (KL1.out _ _ (by assumption) hb) (by simp):Wr6 w' (w.heap.size + 1 + 1)).cells))
  all_goals go_wp2
  all_goals exact bodyPost_ret (v:=.agg #[.int .u64 z0,.int .u64 z1,.int .u64 z2,.int .u64 z3,.int .u64 z4,.int .u64 z5]) (by simp [results,Tryz.results69,go_sem,h0,h1,h2,h3,h4,h5]) rfl ⟨z0,z1,z2,z3,z4,z5,rfl,fZ,HV.out,KB1.out _ (by assumption)⟩
set_option maxRecDepth 100000 in
set_option maxHeartbeats 2000000 in
theorem orest6 {x0 x1 x2 x3 x4 x5:Int} {w:World} (G:GlsO w) (fX:fits [x0,x1,x2,x3,x4,x5]) :
  Calls Tryz.prog 44 #[.agg #[.int .u64 x0,.int .u64 x1,.int .u64 x2,.int .u64 x3,.int .u64 x4,.int .u64 x5]] w fun e w'=>∃ z0 z1 z2 z3 z4 z5:Int,e=.returned (.agg #[.int .u64 z0,.int .u64 z1,.int .u64 z2,.int .u64 z3,.int .u64 z4,.int .u64 z5])∧fits [z0,z1,z2,z3,z4,z5]∧v64 [z0,z1,z2,z3,z4,z5]=v64 [x0,x1,x2,x3,x4,x5] % QQ∧Below w.heap.size w w':=by
 have B0:=(Blk.new w (us [x0,x1,x2,x3,x4,x5]) 24 (w.heap.size) rfl).alloc (.cells (us [0,0,0,0,0,0]).toArray 24)
 have B1:=Blk.new (w.alloc (.cells (us [x0,x1,x2,x3,x4,x5]).toArray 24)) (us [0,0,0,0,0,0]) 24 (w.heap.size + 1) (by simp)
 have bel:Below w.heap.size w ((w.alloc (.cells (us [x0,x1,x2,x3,x4,x5]).toArray 24)).alloc (.cells (us [0,0,0,0,0,0]).toArray 24)):=((Below.refl _ _).alloc (Nat.le_refl _) _).alloc (by simp) _
 have WR:Wr6 _ (w.heap.size + 1):=Wr6.of B1
 go_enter Tryz.func44,Tryz.ntmps44
 go_wp2_with fail
 simp only [us,List.map_cons,List.map_nil] at B0 WR bel
 generalize (w.alloc (Obj.cells #[.int .u64 x0,.int .u64 x1,.int .u64 x2,.int .u64 x3,.int .u64 x4,.int .u64 x5] 24)).alloc (Obj.cells #[.int .u64 0,.int .u64 0,.int .u64 0,.int .u64 0,.int .u64 0,.int .u64 0] 24)=W at *
 obtain ⟨S1,hS1,KL1,KA1,KD1,KS1,KP1,KN1,KB1,KM1,KW1⟩:=held_mk (w0:=w) (W:=W) [(w.heap.size,[x0,x1,x2,x3,x4,x5])] [w.heap.size + 1] (by
  intro b X h
  simp only [List.mem_cons,List.not_mem_nil,or_false,Prod.mk.injEq] at h
  rcases h with ⟨rfl,rfl⟩
  ·exact B0) (by
  intro b h
  simp only [List.mem_cons,List.not_mem_nil,or_false] at h
  rcases h with rfl
  ·exact WR) (by
  intro b X h
  simp only [List.mem_cons,List.not_mem_nil,or_false,Prod.mk.injEq] at h ⊢
  omega) bel
 obtain ⟨c1a0,c1a1,c1a2,c1a3,c1a4,c1a5,c1a6⟩:=rule6 (S:=Hd S1) (b:=w.heap.size) (x0:=x0) (x1:=x1) (x2:=x2) (x3:=x3) (x4:=x4) (x5:=x5) (fun wx h=>KM1.out wx _ _ h (by simp))
 obtain ⟨⟨d1a0,d1a1,d1a2,d1a3,d1a4,d1a5⟩,⟨d1af0,d1af1,d1af2,d1af3,d1af4,d1af5⟩,d1alt⟩:=ruleW (S:=Hd S1) (b:=w.heap.size + 1) (fun wx h=>KW1.out wx _ h (by simp))
 have hN1:=bel.size
 clear B0 B1 bel
 go_wp2_with fail
 refine (oadd6 (w:=W) (G.below (KB1.out _ hS1)) fX (fits_zero 6)).mono ?_
 rintro e w' ⟨z0,z1,z2,z3,z4,z5,rfl,fZ,hv,hb⟩
 rw [show v64 [0,0,0,0,0,0]=0 from rfl,Int.add_zero] at hv
 have HV:Hid _:=hv
 clear hv
 have hS2:=KL1.out _ _ hS1 hb
 obtain ⟨g0,g1,g2,g3,g4,g5,⟨h0,h1,h2,h3,h4,h5⟩,⟨f0,f1,f2,f3,f4,f5⟩⟩:=(KW1.out _ _ hS2 (by simp):Wr6 w' (w.heap.size + 1)).cells
 clear hb hS1
 go_wp2_with fail
 exact bodyPost_ret (v:=.agg #[.int .u64 z0,.int .u64 z1,.int .u64 z2,.int .u64 z3,.int .u64 z4,.int .u64 z5]) (by simp [results,Tryz.results44,go_sem,h0,h1,h2,h3,h4,h5]) rfl ⟨z0,z1,z2,z3,z4,z5,rfl,fZ,HV.out,below_put6 (KB1.out _ hS2) (by omega)⟩
theorem uRest {cs:List Value} {x:Int} {w:World} (G:GlsO w) (h:U6 cs x):Calls Tryz.prog 44 #[.agg cs.toArray] w fun e w'=>∃ es,e=.returned (.agg es.toArray)∧U6 es (x % QQ)∧Below w.heap.size w w':=by
 obtain ⟨z0,z1,z2,z3,z4,z5,rfl,hf,rfl⟩:=h
 refine (orest6 G hf).mono ?_
 rintro e w' ⟨y0,y1,y2,y3,y4,y5,rfl,fy,hy,hb⟩
 exact ⟨_,rfl,⟨y0,y1,y2,y3,y4,y5,rfl,fy,hy⟩,hb⟩
theorem U6.us {cs:List Value} {x:Int} (h:U6 cs x):∃ A,cs=us A∧A.length=6∧fits A∧v64 A=x:=by
 obtain ⟨z0,z1,z2,z3,z4,z5,rfl,hf,hx⟩:=h
 exact ⟨[z0,z1,z2,z3,z4,z5],rfl,rfl,hf,hx⟩
theorem or_step (n a:Int) (h0:0≤n) (h1:n < 18446744073709551616) (ha:0≤a∧a < 18446744073709551616) (A:List Int) (k:Nat) (hiff:n=0↔∀ j,j < k→A.getD j 0=0) (hA:A.getD k 0=a) :
  0≤bits .or .u64 n a∧bits .or .u64 n a < 18446744073709551616∧(bits .or .u64 n a=0↔∀ j,j < k + 1→A.getD j 0=0):=by
 have ho:=or_zero n a h0 h1 ha.1 ha.2
 refine ⟨ho.1,ho.2.1,?_⟩
 rw [ho.2.2,hiff]
 constructor
 ·rintro ⟨h,h'⟩ j hj
  by_cases hjk:j=k
  ·subst hjk;rw [hA,h']
  ·exact h j (by omega)
 ·intro h
  exact ⟨fun j hj=>h j (by omega),by rw [← hA];exact h k (by omega)⟩
theorem ext6 {A B:List Int} (lA:A.length=6) (lB:B.length=6):A=B↔∀ j,j < 6→A.getD j 0=B.getD j 0:=by
 constructor
 ·rintro rfl _ _;rfl
 ·intro h
  apply List.ext_getElem (by omega)
  intro i h1 h2
  have:=h i (by omega)
  simpa [List.getD_eq_getElem?_getD,h1,h2] using this
theorem range_end {A B:List Int} {x n m:Int} (lA:A.length=6) (lB:B.length=6) (fA:fits A) (fB:fits B) (hA:v64 A=x) (hB:v64 B=x % QQ) (h0:0≤x) (h1:n=0↔∀ j,j < 6→A.getD j 0=0) (h2:m=0↔∀ j,j < 6→A.getD j 0=B.getD j 0):(¬ n=0∧m=0)↔isSc x:=by
 have fz:fits [0,0,0,0,0,0]:=fits6 (by decide)
 have e1:n=0↔x=0:=by
  rw [h1]
  have e:(∀ j,j < 6→A.getD j 0=0)↔A=[0,0,0,0,0,0]:=by
   rw [ext6 lA rfl]
   constructor
   ·intro h j hj
    rw [h j hj]
    match j,hj with
    | 0,_=>rfl
    | 1,_=>rfl
    | 2,_=>rfl
    | 3,_=>rfl
    | 4,_=>rfl
    | 5,_=>rfl
   ·intro h j hj
    rw [h j hj]
    match j,hj with
    | 0,_=>rfl
    | 1,_=>rfl
    | 2,_=>rfl
    | 3,_=>rfl
    | 4,_=>rfl
    | 5,_=>rfl
  rw [e]
  constructor
  ·intro h
   rw [← hA,h]
   decide
  ·intro h
   exact v64_inj _ _ lA fA fz (by rw [hA,h];decide)
 have e2:m=0↔x=x % QQ:=by
  rw [h2,← ext6 lA lB]
  constructor
  ·intro h
   rw [← hB,← h,hA]
  ·intro h
   exact v64_inj _ _ (by rw [lA,lB]) fA fB (by rw [hA,hB];exact h)
 have hq:0 < QQ:=by decide
 have b:=Int.emod_lt_of_pos x hq
 unfold isSc
 rw [e1,e2]
 constructor
 ·rintro ⟨k1,k2⟩
  exact ⟨by omega,by rw [k2];exact b⟩
 ·rintro ⟨k1,k2⟩
  exact ⟨by omega,(Int.emod_eq_of_lt h0 k2).symm⟩
set_option linter.unusedSimpArgs false in
set_option maxRecDepth 100000 in
set_option maxHeartbeats 1000000 in
theorem c15_inRange {cs:List Value} {x:Int} {w:World} (G:GlsO w) (h:U6 cs x) :
  Calls Tryz.prog 20 #[.agg cs.toArray] w fun e w'=>e=.returned (.bool (decide (isSc x)))∧Below w.heap.size w w':=by
 have hx0:=h.bd.1
 obtain ⟨A,rfl,lA,fA,vA⟩:=h.us
 have HU:Hid (U6 (us A) x):=h
 have HLa:Hid ((us A).length=6):=h.len
 have HVA:Hid (v64 A=x):=vA
 have HFA:Hid (fits A):=fA
 have HX0:Hid (0≤x):=hx0
 clear h vA hx0
 have B0:=Blk.new w (us A) 24 w.heap.size rfl
 have bel:Below w.heap.size w (w.alloc (.cells (us A).toArray 24)):=(Below.refl _ _).alloc (Nat.le_refl _) _
 have HG:Hid (GlsO w):=G
 clear G
 go_enter Tryz.func20,Tryz.ntmps20
 go_upto_region 1 with fail
 generalize w.alloc (.cells (us A).toArray 24)=W at *
 have l0:=B0.lt
 go_wp2_with (first|(refine wpList_load_run (by rfl) (by rfl) (by rfl) (B0.load Tryz.underlying24 rfl size_u HLa.out) ?_)|fail)
 refine (uRest (HG.out.below bel) HU.out).mono ?_
 rintro e w1 ⟨es,rfl,hu,hb⟩
 obtain ⟨R,rfl,lR,fR,vR⟩:=hu.us
 have HVR:Hid (v64 R=x % QQ):=vR
 have HFR:Hid (fits R):=fR
 have HUR:Hid (U6 (us R) (x % QQ)):=hu
 clear vR hu l0
 replace B0:=B0.later hb
 replace bel:=below_step bel hb
 clear hb
 have HLr:Hid ((us R).length=6):=HUR.out.len
 have HSr:Hid ((us R).toArray.size=6):=by show _=_;rw [List.size_toArray];exact HLr.out
 have HOr:Hid (OneR (us R)):=HUR.out.ones
 replace B0:=B0.alloc (.cells (us R).toArray 24)
 replace bel:=below_alloc (o:=.cells (us R).toArray 24) bel
 have Br:=Blk.new w1 (us R) 24 w1.heap.size rfl
 have hz:=zero_u.out
 go_upto_region 2 with (first|(refine wpList_store_row rfl 24 _ _ rfl w1.heap.size (us R).toArray rfl rfl 24 _ (heap_alloc_last _ _) (by rw [size_u,HSr.out]) (by rw [HSr.out];rfl) HOr.out ?_;rw [World.setRow_alloc_new])|fail)
 clear hz
 obtain ⟨gr,hgr⟩:∃ g,g=w1.heap.size:=⟨_,rfl⟩
 rw [← hgr] at Br
 generalize w1.alloc (.cells (us R).toArray 24)=Vr at *
 rw [← hgr]
 clear hgr
 go_wp2_with fail
 go_loopw [4,5,9] (fun sv uv iv wr=>∃ (k:Nat) (n m:Int),k≤6∧iv=.int .i64 k∧sv=.int .u64 n∧uv=.int .u64 m∧(0≤n∧n < 18446744073709551616)∧(0≤m∧m < 18446744073709551616)∧Hid (n=0↔∀ j,j < k→A.getD j 0=0)∧Hid (m=0↔∀ j,j < k→A.getD j 0=R.getD j 0)∧Blk wr w.heap.size (us A)∧Blk wr gr (us R)∧Below w.heap.size w wr) (fun _ _ iv _=>6 - (intOf iv).toNat)
 case atStart=>exact ⟨0,0,0,by omega,rfl,rfl,rfl,by omega,by omega,by simp [Hid],by simp [Hid],B0,Br,bel⟩
 case round =>
  clear B0 Br bel
  obtain ⟨k,n,m,hk,rfl,rfl,rfl,hn,hm,hi1,hi2,hSA,hSB,hbel⟩:=hrel
  by_cases hlt:k < 6
  ·obtain ⟨x1,hA⟩:∃ a,A.getD k 0=a:=⟨_,rfl⟩
   obtain ⟨y1,hB⟩:∃ b,R.getD k 0=b:=⟨_,rfl⟩
   have ha:=hSA.cell k _ (us_get A k (by omega))
   have hb:=hSB.cell k _ (us_get R k (by omega))
   rw [hA] at ha
   rw [hB] at hb
   have hs1:Hid _:=or_step n x1 hn.1 hn.2 (hA ▸ HFA.out k) A k hi1.out hA
   have hs2:Hid _:=same_step m x1 y1 hm.1 hm.2 (hA ▸ HFA.out k) (hB ▸ HFR.out k) A R k hi2.out hA hB
   clear hi1 hi2 hA hB
   have h1:(k:Int) < 6:=by omega
   go_wp2
   go_quiet (fail)
   go_wp2
   go_roundw
   case rel=>exact ⟨k + 1,_,_,by omega,by go_num,rfl,rfl,⟨hs1.out.1,hs1.out.2.1⟩,⟨hs2.out.1,hs2.out.2.1⟩,hs1.out.2.2,hs2.out.2.2,hSA.drewN _,hSB.drewN _,below_dN hbel _⟩
   case measure=>simp [intOf];omega
  ·have h6:(6:Int)≤(k:Int):=by omega
   obtain rfl:k=6:=by omega
   have HE:Hid ((¬ n=0∧m=0)↔isSc x):=range_end lA lR HFA.out HFR.out HVA.out HVR.out HX0.out hi1.out hi2.out
   clear hi1 hi2 hSA hSB
   by_cases c1:n=0
   ·have HD:Hid (decide (isSc x)=false):=decide_eq_false (fun h=>(HE.out.2 h).1 c1)
    subst c1
    clear HE
    go_wp2
    go_ret
    exact ⟨by rw [HD.out];rfl,hbel⟩
   ·have g1:(n == 0)=false:=by rw [beq_eq_false_iff_ne];exact c1
    have g2:(n != 0)=true:=by rw [bne,g1];rfl
    by_cases c2:m=0
    ·have HD:Hid (decide (isSc x)=true):=decide_eq_true (HE.out.1 ⟨c1,c2⟩)
     subst c2
     clear HE c1
     go_wp2
     go_ret
     exact ⟨by rw [HD.out];rfl,hbel⟩
    ·have HD:Hid (decide (isSc x)=false):=decide_eq_false (fun h=>c2 (HE.out.2 h).2)
     have g3:(m == 0)=false:=by rw [beq_eq_false_iff_ne];exact c2
     clear HE c1
     go_wp2
     go_ret
     exact ⟨by rw [HD.out];rfl,hbel⟩
def xorN (c:Int) (k:List Int):List Int:=k.map fun x=>bits .xor .u8 x c
theorem xorN_len (c:Int) (k:List Int):(xorN c k).length=k.length:=List.length_map ..
theorem xor_byte {x c:Int} (x0:0≤x) (x1:x < 256) (c0:0≤c) (c1:c < 256):0≤bits .xor .u8 x c∧bits .xor .u8 x c < 256:=by
 obtain ⟨a,rfl⟩:=Int.eq_ofNat_of_zero_le x0
 obtain ⟨b,rfl⟩:=Int.eq_ofNat_of_zero_le c0
 rw [u8_xor_nat a b (by omega) (by omega)]
 have:=Nat.xor_lt_two_pow (x:=a) (y:=b) (n:=8) (by omega) (by omega)
 omega
theorem xorN_get (c:Int) (k:List Int) (j:Nat) (h:j < k.length):(xorN c k).getD j 0=bits .xor .u8 (k.getD j 0) c:=by
 simp [xorN,List.getD_eq_getElem?_getD,h]
theorem xorN_byt {c:Int} {k:List Int} (h:byt k) (c0:0≤c) (c1:c < 256):byt (xorN c k):=by
 apply byt_of
 intro j hj
 rw [xorN_len] at hj
 rw [xorN_get c k j hj]
 exact xor_byte (h j).1 (h j).2 c0 c1
theorem OutB.byt {H:List Int}:∀ {m:Nat} {O:List Int},OutB H m O→byt O
 | 0,O,h=>by rw [show O=[] from h];exact fun j=>⟨by simp,by simp⟩
 | m + 1,O,h=>by
  obtain ⟨O',Z,rfl,h1,_,h3,_⟩:=h
  exact byt_app h1.byt h3
theorem SumIs.byt {K H B O:List Int} (h:SumIs K H B O):byt O:=by
 obtain ⟨_,_,h⟩:=h
 exact h.byt
theorem SumIs.ln {K H B O:List Int} (h:SumIs K H B O):O.length=48:=by
 obtain ⟨_,_,h⟩:=h
 exact h.len
/-- a key, or its digest -/
def ShortIs (key D:List Int):Prop:=if key.length≤128 then D=key else SumIs KS HS key D
theorem ShortIs.one {key D E:List Int} (h:ShortIs key D) (k:ShortIs key E):D=E:=by
 unfold ShortIs at h k
 split at h
 ·rw [h];rename_i l;rw [if_pos l] at k;exact k.symm
 ·rename_i l;rw [if_neg l] at k;exact h.one k
theorem ShortIs.ln {key D:List Int} (h:ShortIs key D):D.length≤128:=by
 unfold ShortIs at h
 split at h
 ·rename_i l;rw [h];exact l
 ·rw [h.ln];decide
theorem ShortIs.byt {key D:List Int} (h:ShortIs key D) (b:byt key):byt D:=by
 unfold ShortIs at h
 split at h
 ·rw [h];exact b
 ·exact h.byt
/-- noughts behind, up to j bytes -/
def fillN (D:List Int) (j:Nat):List Int:=D++List.replicate (j - D.length) 0
theorem fillN_len {D:List Int} {j:Nat} (h:D.length≤j):(fillN D j).length=j:=by
 rw [fillN,List.length_append,List.length_replicate];omega
theorem fillN_byt {D:List Int} {j:Nat} (h:byt D):byt (fillN D j):=byt_app h (fun i=>by rw [getD_rep];exact ⟨by decide,by decide⟩)
/-- a digest by a key -/
def HmacIs (key b O:List Int):Prop:=∃ D I,ShortIs key D∧SumIs KS HS (xorN 54 (fillN D 128)++b) I∧SumIs KS HS (xorN 92 (fillN D 128)++I) O
theorem HmacIs.one {key b O Q:List Int} (h:HmacIs key b O) (k:HmacIs key b Q):O=Q:=by
 obtain ⟨D,I,h1,h2,h3⟩:=h
 obtain ⟨E,J,k1,k2,k3⟩:=k
 obtain rfl:=h1.one k1
 obtain rfl:=h2.one k2
 exact h3.one k3
theorem HmacIs.ln {key b O:List Int} (h:HmacIs key b O):O.length=48:=by
 obtain ⟨_,_,_,_,h⟩:=h
 exact h.ln
theorem HmacIs.byt {key b O:List Int} (h:HmacIs key b O):byt O:=by
 obtain ⟨_,_,_,_,h⟩:=h
 exact h.byt
/-- i digests, the last of them and all of them -/
def ExpIs (prk info:List Int):Nat→List Int→List Int→Prop
 | 0,last,out=>last=[]∧out=[]
 | i + 1,last,out=>∃ l o,ExpIs prk info i l o∧HmacIs prk (l++info++[((i:Int) + 1) % 256]) last∧out=o++last
theorem ExpIs.one {prk info:List Int}:∀ {i:Nat} {l o m p:List Int},ExpIs prk info i l o→ExpIs prk info i m p→l=m∧o=p
 | 0,_,_,_,_,h,k=>⟨by rw [h.1,k.1],by rw [h.2,k.2]⟩
 | i + 1,_,_,_,_,h,k=>by
  obtain ⟨l,o,h1,h2,rfl⟩:=h
  obtain ⟨m,p,k1,k2,rfl⟩:=k
  obtain ⟨rfl,rfl⟩:=h1.one k1
  obtain rfl:=h2.one k2
  exact ⟨rfl,rfl⟩
theorem ExpIs.ln {prk info:List Int}:∀ {i:Nat} {l o:List Int},ExpIs prk info i l o→o.length=48 * i∧l.length≤48
 | 0,_,_,h=>by rw [h.1,h.2];exact ⟨rfl,by decide⟩
 | i + 1,_,_,h=>by
  obtain ⟨l,o,h1,h2,rfl⟩:=h
  rw [List.length_append,h1.ln.1,h2.ln]
  omega
theorem ExpIs.byt {prk info:List Int}:∀ {i:Nat} {l o:List Int},ExpIs prk info i l o→byt l∧byt o
 | 0,_,_,h=>by rw [h.1,h.2];exact ⟨fun j=>⟨by simp,by simp⟩,fun j=>⟨by simp,by simp⟩⟩
 | i + 1,_,_,h=>by
  obtain ⟨l,o,h1,h2,rfl⟩:=h
  exact ⟨h2.byt,byt_app h1.byt.2 h2.byt⟩
theorem ExpIs.begins {prk info:List Int} {i:Nat} {l o:List Int} (h:ExpIs prk info i l o):∀ {d:Nat} {m p:List Int},ExpIs prk info (i + d) m p→p.take (48 * i)=o
 | 0,_,_,k=>by
  obtain ⟨rfl,rfl⟩:=h.one k
  rw [List.take_of_length_le (by rw [h.ln.1];exact Nat.le_refl _)]
 | d + 1,_,_,k=>by
  obtain ⟨l',o',k1,k2,rfl⟩:=k
  have e:=h.begins k1
  rw [List.take_append_of_le_length (by rw [k1.ln.1];exact Nat.mul_le_mul_left _ (Nat.le_add_right i d))]
  exact e
/-- n bytes made of a key -/
def MadeIs (prk info:List Int) (n:Nat) (X:List Int):Prop:=∃ i l o,ExpIs prk info i l o∧n≤48 * i∧X=o.take n
theorem MadeIs.ln {prk info:List Int} {n:Nat} {X:List Int} (h:MadeIs prk info n X):X.length=n:=by
 obtain ⟨i,l,o,h1,h2,rfl⟩:=h
 rw [List.length_take,h1.ln.1]
 omega
theorem MadeIs.byt {prk info:List Int} {n:Nat} {X:List Int} (h:MadeIs prk info n X):byt X:=by
 obtain ⟨i,l,o,h1,h2,rfl⟩:=h
 intro j
 rw [List.getD_eq_getElem?_getD,List.getElem?_take]
 split
 ·rw [← List.getD_eq_getElem?_getD];exact h1.byt.2 j
 ·exact ⟨by decide,by decide⟩
theorem MadeIs.begins {prk info:List Int} {n m:Nat} {X Y:List Int} (h:MadeIs prk info n X) (k:MadeIs prk info m Y) (hm:m≤n):X.take m=Y:=by
 obtain ⟨i,l,o,h1,h2,rfl⟩:=h
 obtain ⟨i',l',o',k1,k2,rfl⟩:=k
 rw [List.take_take,Nat.min_eq_left hm]
 by_cases e:i≤i'
 ·obtain ⟨d,rfl⟩:=Nat.exists_eq_add_of_le e
  rw [← h1.begins k1,List.take_take,Nat.min_eq_left (by omega)]
 ·obtain ⟨d,rfl⟩:=Nat.exists_eq_add_of_le (show i'≤i by omega)
  rw [← k1.begins h1,List.take_take,Nat.min_eq_left (by omega)]
theorem MadeIs.one {prk info:List Int} {n:Nat} {X Y:List Int} (h:MadeIs prk info n X) (k:MadeIs prk info n Y):X=Y:=by
 rw [← h.begins k (Nat.le_refl _),List.take_of_length_le (by rw [h.ln];exact Nat.le_refl _)]
/-- the tables of curve, order and sha lie where they lay -/
def GlsX (w:World):Prop:=GlsC w∧GlsO w∧GlsS w
theorem GlsX.below {w w':World} (G:GlsX w) (hb:Below w.heap.size w w'):GlsX w':=⟨G.1.below hb,G.2.1.below hb,G.2.2.below hb⟩
/-- an error that is a Code itself -/
def codeX (c:Int):Value:=.iface 33 (.int .i64 c)
/-- 48 bytes of a number -/
def B48 (X:List Int) (r:Int):Prop:=X.length=48∧byt X∧beN X=r
theorem B48.one {X Y:List Int} {r:Int} (h:B48 X r) (k:B48 Y r):X=Y:=beN_inj X Y (by rw [h.1,k.1]) h.2.1 k.2.1 (by rw [h.2.2,k.2.2])
def wrapB:List Int:=[119,114,97,112]
/-- the sealing of a point's bytes and another point's X -/
def KeyIs (p:List Int) (x:Int) (O:List Int):Prop:=∃ xb prk,B48 xb x∧HmacIs p xb prk∧MadeIs prk wrapB 44 O
theorem KeyIs.one {p O Q:List Int} {x:Int} (h:KeyIs p x O) (k:KeyIs p x Q):O=Q:=by
 obtain ⟨a,b,h1,h2,h3⟩:=h
 obtain ⟨c,d,k1,k2,k3⟩:=k
 obtain rfl:=h1.one k1
 obtain rfl:=h2.one k2
 exact h3.one k3
theorem KeyIs.ln {p O:List Int} {x:Int} (h:KeyIs p x O):O.length=44:=by
 obtain ⟨_,_,_,_,h⟩:=h
 exact h.ln
theorem KeyIs.byt {p O:List Int} {x:Int} (h:KeyIs p x O):byt O:=by
 obtain ⟨_,_,_,_,h⟩:=h
 exact h.byt
theorem key32 {O:List Int} (h:O.length=44):(O.take 32).length=32∧(O.drop 32).length=12:=by
 rw [List.length_take,List.length_drop]
 omega
/-- a point's bytes -/
def EncIs (P:Pt) (p:List Int):Prop:=∃ X Y XB YB,P=some (X,Y)∧B48 XB X∧B48 YB Y∧p=4 :: (XB++YB)
theorem EncIs.one {P:Pt} {p q:List Int} (h:EncIs P p) (k:EncIs P q):p=q:=by
 obtain ⟨X,Y,A,B,rfl,h1,h2,rfl⟩:=h
 obtain ⟨X',Y',C,D,e,k1,k2,rfl⟩:=k
 simp only [Option.some.injEq,Prod.mk.injEq] at e
 obtain ⟨rfl,rfl⟩:=e
 rw [h1.one k1,h2.one k2]
theorem EncIs.ln {P:Pt} {p:List Int} (h:EncIs P p):p.length=97:=by
 obtain ⟨X,Y,A,B,rfl,h1,h2,rfl⟩:=h
 rw [List.length_cons,List.length_append,h1.1,h2.1]
theorem byt_x1 {x:Int} {B:List Int} (h0:0≤x) (h1:x < 256) (h:byt B):byt (x :: B):=fun j=>by
 cases j with
 | zero=>exact ⟨h0,h1⟩
 | succ j=>simpa using h j
theorem byt_x2 {A B:List Int} (hA:byt A) (hB:byt B):byt (A++B):=fun j=>by
 by_cases h:j < A.length
 ·have:=hA j
  rwa [List.getD_eq_getElem?_getD,List.getElem?_append_left h,← List.getD_eq_getElem?_getD]
 ·have:=hB (j - A.length)
  rwa [List.getD_eq_getElem?_getD,List.getElem?_append_right (by omega),← List.getD_eq_getElem?_getD]
theorem EncIs.byt {P:Pt} {p:List Int} (h:EncIs P p):byt p:=by
 obtain ⟨X,Y,A,B,rfl,h1,h2,rfl⟩:=h
 exact byt_x1 (by decide) (by decide) (byt_x2 h1.2.1 h2.2.1)
theorem EncIs.pts {X Y:Int} {p:List Int} (h:EncIs (some (X,Y)) p):beN (ptX p)=X∧beN (ptY p)=Y∧p.getD 0 0=4:=by
 obtain ⟨X',Y',A,B,e,h1,h2,rfl⟩:=h
 simp only [Option.some.injEq,Prod.mk.injEq] at e
 obtain ⟨rfl,rfl⟩:=e
 refine ⟨?_,?_,rfl⟩
 ·rw [ptX,List.drop_succ_cons,List.drop_zero,List.take_append_of_le_length (by rw [h1.1];omega),List.take_of_length_le (by rw [h1.1];omega)]
  exact h1.2.2
 ·rw [ptY,List.drop_succ_cons,List.drop_append_of_le_length (by rw [h1.1];omega),List.drop_of_length_le (by rw [h1.1];omega),List.nil_append]
  exact h2.2.2
theorem EncIs.dec {X Y:Int} {p:List Int} (h:EncIs (some (X,Y)) p) (hA:Aff X Y):DecOk p:=by
 obtain ⟨e1,e2,e3⟩:=h.pts
 refine ⟨h.ln,e3,?_,?_,?_⟩
 ·rw [e1];exact hA.lx.2
 ·rw [e2];exact hA.ly.2
 ·rw [e1,e2];exact .inr ⟨rfl,hA⟩
/-- a key, wrapped -/
def WrapIs (X Y k:Int) (key b:List Int):Prop:=∃ p O,EncIs (cmul k.toNat GG) p∧KeyIs p (xOf (cmul k.toNat (some (X,Y)))) O∧b=p++sealN (O.take 32) (O.drop 32) p key
theorem WrapIs.one {X Y k:Int} {key b c:List Int} (h:WrapIs X Y k key b) (l:WrapIs X Y k key c):b=c:=by
 obtain ⟨p,O,h1,h2,rfl⟩:=h
 obtain ⟨q,Q,k1,k2,rfl⟩:=l
 obtain rfl:=h1.one k1
 obtain rfl:=h2.one k2
 rfl
/-- nothing but an error's number is answered -/
def NoneX (w:World) (c:Int) (e:Ending) (w':World):Prop:=∃ (ao:Option Addr) (cap:Nat),e=.returned (.tuple #[.slice ao 0 cap,.iface 33 (.int .i64 c)])∧Below w.heap.size w w'
/-- what Wrap tells -/
def WrapR (w:World) (X Y:Int) (n:Bool) (k:Int) (key:List Int) (e:Ending) (w':World):Prop :=
 (¬ key.length=32→NoneX w 1 e w')∧(key.length=32→(¬ isSc k→NoneX w 3 e w')∧(isSc k→(¬ (n=false∧Aff X Y)→NoneX w 4 e w')∧(n=false→Aff X Y→∃ v' b,e=.returned (.tuple #[v',.nilIface])∧WrapIs X Y k key b∧FreshB w w' v' b∧Below w.heap.size w w')))
/-- what is opened of what was wrapped, with the key O -/
def OpenR (w:World) (O B:List Int) (e:Ending) (w':World):Prop :=
 ((B.drop 97).drop 32=tagN (O.take 32) (O.drop 32) (B.take 97) ((B.drop 97).take 32)→∃ v',e=.returned (.tuple #[v',.nilIface])∧Bs w' v' (hidN (O.take 32) (O.drop 32) ((B.drop 97).take 32))∧Below w.heap.size w w') ∧
 (¬ (B.drop 97).drop 32=tagN (O.take 32) (O.drop 32) (B.take 97) ((B.drop 97).take 32)→NoneX w 5 e w')
/-- the other point's X -/
noncomputable def othX (d:Int) (p:List Int):Int:=xOf (cmul d.toNat (some (beN (ptX p),beN (ptY p))))
/-- what Unwrap tells -/
def UnwR (w:World) (d:Int) (B:List Int) (e:Ending) (w':World):Prop :=
 (¬ isSc d→NoneX w 3 e w')∧(isSc d→(¬ B.length=145→NoneX w 1 e w')∧(B.length=145→(∀ c,DecBad (B.take 97) c→NoneX w c e w')∧(DecOk (B.take 97)→∃ O,KeyIs (B.take 97) (othX d (B.take 97)) O∧OpenR w O B e w')))
theorem uEnc {cs:List Value} {X Y:Int} {w:World} (G:GlsC w) (h:P13 cs (some (X,Y))) (hA:Aff X Y):Calls Tryz.prog 11 #[.agg cs.toArray] w fun e w'=>∃ v p,e=.returned (.tuple #[v,.nilIface])∧Bs w' v p∧EncIs (some (X,Y)) p∧Below w.heap.size w w':=by
 obtain ⟨xs,ys,rfl,⟨s0,s1,s2,s3,s4,s5,rfl,hf,rfl⟩,⟨t0,t1,t2,t3,t4,t5,rfl,kf,rfl⟩⟩:=h.rawS
 refine (con_Enc G hf kf hA).mono ?_
 rintro e w' ⟨b,o,cap,XB,YB,rfl,hb,l1,l2,b1,b2,e1,e2,hbel⟩
 exact ⟨_,_,rfl,hb,⟨_,_,XB,YB,rfl,⟨l1,b1,e1⟩,⟨l2,b2,e2⟩,rfl⟩,hbel⟩
theorem uDec {v:Value} {bs:List Int} {w:World} (G:GlsC w) (h:Bs w v bs) (hB:byt bs) (hd:DecOk bs):Calls Tryz.prog 16 #[v] w fun e w'=>∃ es,e=.returned (.tuple #[.agg es.toArray,.nilIface])∧P13R es (beN (ptX bs)) (beN (ptY bs)) false∧Below w.heap.size w w':=by
 refine (con_Dec G h hB hd).mono ?_
 rintro e w' ⟨s0,s1,s2,s3,s4,s5,t0,t1,t2,t3,t4,t5,rfl,f1,f2,h1,h2,hb⟩
 rw [← h1,← h2]
 exact ⟨_,rfl,⟨_,_,rfl,.mk f1,.mk f2⟩,hb⟩
theorem ne_codeX (c:Int):∀ w:World,(binOp .neq 30 (.iface 33 (.int .i64 c)) .nilIface).run Tryz.prog w=.ok (.bool true) w:=fun _=>by kernel_rfl
theorem ne_nilX:∀ w:World,(binOp .neq 30 .nilIface .nilIface).run Tryz.prog w=.ok (.bool false) w:=fun _=>by kernel_rfl
theorem eq_nilX:∀ w:World,(binOp .eql 30 .nilIface .nilIface).run Tryz.prog w=.ok (.bool true) w:=fun _=>by kernel_rfl
theorem iface_eqX (c:Int):∀ w:World,(binOp .eql 30 (.iface 33 (.int .i64 c)) (.iface 33 (.int .i64 c))).run Tryz.prog w=.ok (.bool true) w:=fun w=>by
 have:(binOp .eql 30 (.iface 33 (.int .i64 c)) (.iface 33 (.int .i64 c))).run Tryz.prog w=.ok (.bool (decide (c=c))) w:=by kernel_rfl
 rw [this];simp
theorem bs_constX (w:World) (X:List Int) (n:Nat) (hn:X.length=n) (hm:n≤maxLen) (fr:Nat × Nat):Bs (w.alloc (.cells (u8s X).toArray 5 fr)) (.slice (some ⟨w.heap.size,0,none⟩) n n) X:=by
 refine ⟨_,n,by rw [hn],hm,by omega,fun _=>⟨w.heap.size,0,rfl,by simp,fun j hj=>?_⟩⟩
 have h:(w.alloc (.cells (u8s X).toArray 5 fr)).heap[w.heap.size]?=some (.cells (u8s X).toArray 5 fr):=by
  show (w.heap.push _)[w.heap.size]?=_
  simp
 have e:=u8s_get X j hj
 rw [Nat.zero_add]
 simp only [World.cell?,h,Option.isSome_none,Bool.false_eq_true,if_false]
 simpa using e
theorem bs_drN {w:World} {v:Value} {L:List Int} (h:Bs w v L) (n:Nat):Bs (w.drewN n) v L:=h
set_option linter.unusedSimpArgs false in
set_option maxRecDepth 100000 in
set_option maxHeartbeats 1000000 in
theorem con_Wrap0 {v:Value} {key:List Int} {w:World} (G:GlsX w) (hv:Bs w v key) (hl:key.length=32) :
  Calls Tryz.prog 7 #[.agg #[.int .u64 0,.int .u64 0,.int .u64 0,.int .u64 0,.int .u64 0,.int .u64 0,.int .u64 0,.int .u64 0,.int .u64 0,.int .u64 0,.int .u64 0,.int .u64 0,.bool true],.agg #[.int .u64 1,.int .u64 0,.int .u64 0,.int .u64 0,.int .u64 0,.int .u64 0],v] w (NoneX w 4):=by
 obtain ⟨qs,hqs⟩:∃ qs:List Value,[.int .u64 0,.int .u64 0,.int .u64 0,.int .u64 0,.int .u64 0,.int .u64 0,.int .u64 0,.int .u64 0,.int .u64 0,.int .u64 0,.int .u64 0,.int .u64 0,.bool true]=qs:=⟨_,rfl⟩
 have HQ:Hid (P13R qs 0 0 true):=by rw [← hqs];exact ⟨[.int .u64 0,.int .u64 0,.int .u64 0,.int .u64 0,.int .u64 0,.int .u64 0],[.int .u64 0,.int .u64 0,.int .u64 0,.int .u64 0,.int .u64 0,.int .u64 0],rfl,U6.zero,U6.zero⟩
 have hqa:#[.int .u64 0,.int .u64 0,.int .u64 0,.int .u64 0,.int .u64 0,.int .u64 0,.int .u64 0,.int .u64 0,.int .u64 0,.int .u64 0,.int .u64 0,.int .u64 0,.bool true]=qs.toArray:=by rw [← hqs]
 obtain ⟨ks,hks⟩:∃ ks:List Value,[.int .u64 1,.int .u64 0,.int .u64 0,.int .u64 0,.int .u64 0,.int .u64 0]=ks:=⟨_,rfl⟩
 have HK:Hid (U6 ks 1):=by rw [← hks];exact U6.one
 have hka:#[.int .u64 1,.int .u64 0,.int .u64 0,.int .u64 0,.int .u64 0,.int .u64 0]=ks.toArray:=by rw [← hks]
 rw [hqa,hka]
 clear hqa hqs hka hks
 have HG:Hid (GlsX w):=G
 obtain ⟨n,hn⟩:∃ n,n=true:=⟨_,rfl⟩
 rw [← hn] at HQ
 have c1:=hl
 clear G hl
 have HLq:Hid (qs.length=13):=HQ.out.len
 have HLk:Hid (ks.length=6):=HK.out.len
 have HV:Hid (Bs w v key):=hv
 obtain ⟨ao,cap,rfl,h1,h2,h3⟩:=hv
 clear h1 h2 h3
 have HNn:Hid (qs[12]?=some (.bool n)):=by
  obtain ⟨xs,ys,e,u1,u2⟩:=HQ.out
  show _=_
  rw [e,List.getElem?_append_right (by simp [u1.len,u2.len])]
  simp [u1.len,u2.len]
 have Q0:=(Blk.new w qs 26 w.heap.size rfl).alloc (.cells ks.toArray 24)
 have K0:=Blk.new (w.alloc (.cells qs.toArray 26)) ks 24 (w.heap.size + 1) (by simp)
 have bel:Below w.heap.size w ((w.alloc (.cells qs.toArray 26)).alloc (.cells ks.toArray 24)):=((Below.refl _ _).alloc (Nat.le_refl _) _).alloc (by simp) _
 go_enter Tryz.func7,Tryz.ntmps7
 go_upto_region 1 with fail
 generalize (w.alloc (.cells qs.toArray 26)).alloc (.cells ks.toArray 24)=W at *
 subst hn
 have HL:Hid (key.length=32):=c1
 obtain ⟨kn,hkn⟩:∃ kn,key.length=kn:=⟨_,rfl⟩
 have HKn:Hid (kn=32):=by show _=_;rw [← hkn];exact c1
 have g1:((kn:Int) == 32)=true:=by rw [HKn.out];rfl
 have g2:((kn:Int) != 32)=false:=by rw [bne,g1];rfl
 rw [hkn] at HV ⊢
 clear c1 hkn
 have l0:=Q0.lt
 have l1:=K0.lt
 go_wp2_with (first|(refine wpList_load_run (by rfl) (by rfl) (by rfl) (K0.load Tryz.underlying24 rfl size_u HLk.out) ?_)|fail)
 refine (c15_inRange (HG.out.below bel).2.1 HK.out).mono ?_
 rintro e w1 ⟨rfl,hb⟩
 replace Q0:=Q0.later hb
 replace K0:=K0.later hb
 replace bel:=below_step bel hb
 clear hb
 rw [decide_eq_true (show isSc 1 from ⟨by decide,by decide⟩)]
 clear l0 l1
 have l0:=Q0.lt
 have cn:=Q0.cell 12 _ HNn.out
 go_wp2_with fail
 refine bodyPost_ret (results_tmp2 rfl _ _ _) rfl ?_
 exact ⟨_,_,rfl,bel⟩
set_option linter.unusedSimpArgs false in
set_option maxRecDepth 100000 in
set_option maxHeartbeats 1000000 in
theorem con_Unwrap0 {w:World} (G:GlsX w) :
  Calls Tryz.prog 15 #[.agg #[.int .u64 1,.int .u64 0,.int .u64 0,.int .u64 0,.int .u64 0,.int .u64 0],.slice none 0 0] w (NoneX w 1):=by
 obtain ⟨ds,hks⟩:∃ ks:List Value,[.int .u64 1,.int .u64 0,.int .u64 0,.int .u64 0,.int .u64 0,.int .u64 0]=ks:=⟨_,rfl⟩
 have HK:Hid (U6 ds 1):=by rw [← hks];exact U6.one
 have hka:#[.int .u64 1,.int .u64 0,.int .u64 0,.int .u64 0,.int .u64 0,.int .u64 0]=ds.toArray:=by rw [← hks]
 rw [hka]
 clear hka hks
 have HG:Hid (GlsX w):=G
 have HLk:Hid (ds.length=6):=HK.out.len
 clear G
 have K0:=Blk.new w ds 24 w.heap.size rfl
 have bel:Below w.heap.size w (w.alloc (.cells ds.toArray 24)):=(Below.refl _ _).alloc (Nat.le_refl _) _
 go_enter Tryz.func15,Tryz.ntmps15
 go_upto_region 1 with fail
 generalize w.alloc (.cells ds.toArray 24)=W at *
 have l1:=K0.lt
 go_wp2_with (first|(refine wpList_load_run (by rfl) (by rfl) (by rfl) (K0.load Tryz.underlying24 rfl size_u HLk.out) ?_)|fail)
 refine (c15_inRange (HG.out.below bel).2.1 HK.out).mono ?_
 rintro e w1 ⟨rfl,hb⟩
 replace K0:=K0.later hb
 replace bel:=below_step bel hb
 clear hb
 rw [decide_eq_true (show isSc 1 from ⟨by decide,by decide⟩)]
 clear l1 K0
 go_wp2_with fail
 refine bodyPost_ret (results_tmp2 rfl _ _ _) rfl ?_
 exact ⟨_,_,rfl,bel⟩
end Go.Proofs.YtlkljfnenonfgaaGreatDoor
