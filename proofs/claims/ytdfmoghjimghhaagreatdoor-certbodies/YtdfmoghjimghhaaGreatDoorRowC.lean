import Derived.Test.YtdfmoghjimghhaaGreatDoorCtBase
import Derived.Test.YtdfmoghjimghhaaGreatDoorLBytes
import Derived.Test.YtdfmoghjimghhaaGreatDoorCtSize
import Derived.Test.YtdfmoghjimghhaaGreatDoorNlSG
import Derived.Test.YtdfmoghjimghhaaGreatDoorCRef
import Derived.Test.YtdfmoghjimghhaaGreatDoorRows
import Derived.ProofKit
import Derived.OpenShut
import Derived.ShutString
import Derived.Deep.MidRow
import Derived.ChangeArms
import Derived.ChangeOld
namespace Go.Proofs.YtdfmoghjimghhaaGreatDoor
open Go.ChangeShapes Go.WideShapes Go.ChangeAt Go.RowKit
theorem Zpf {n:Int}:(Lit.int .u64 n).wf=true↔0≤n∧n<18446744073709551616:=by
 have h1:IntKind.u64.min=0:=rfl;have h2:IntKind.u64.max=18446744073709551615:=rfl;simp[Lit.wf,h1,h2];omega
theorem wrd_of (A:List Int) (h:∀ j,j<A.length→0≤A.getD j 0∧A.getD j 0<18446744073709551616):wrd A:=by
 intro j
 by_cases hj:j<A.length
 ·exact h j hj
 ·rw[List.getD_eq_getElem?_getD,List.getElem?_eq_none (by omega)];decide
theorem Zlp {w:World} {x:Addr} {len cap:Nat} {zs:List Int} (hl:len≤cap) (hm:cap≤maxLen) (hz:zs.length=cap) (hc:∀ i,i<zs.length→w.cell? (x.add i)=some (.int .u64 (zs.getD i 0))) (hw:∀ n∈zs,(Lit.int .u64 n).wf=true) :
  Us w (.slice (some x) len cap) (zs.take len)∧wrd (zs.take len):=by
 have ht:(zs.take len).length=len:=by simp;omega
 have hg:∀ j,j<len→(zs.take len).getD j 0=zs.getD j 0:=fun j hj=>by simp[List.getD_eq_getElem?_getD,hj]
 constructor
 ·refine ⟨_,cap,by rw[ht],hm,by omega,fun hp=>?_⟩
  rw[ht] at hp;obtain ⟨b,o,spot⟩:=x;have h0:=hc 0 (by omega);have hs:spot=none:=by simpa [Addr.add] using World.cell?_spot h0
  subst hs;have hb:=World.block_lt_of_cell? w _ h0;refine ⟨b,o,rfl,by simpa [Addr.add] using hb,fun j hj=>?_⟩;rw[ht] at hj;rw[hg j hj];have hj2:=hc j (by omega);rw[Addr.add_mid] at hj2;exact hj2
 ·apply wrd_of
  intro j hj;rw[ht] at hj;rw[hg j hj];have:zs.getD j 0∈zs:=by
   rw[List.getD_eq_getElem?_getD,List.getElem?_eq_getElem (by omega)];exact List.getElem_mem _
  exact Zpf.1 (hw _ this)
theorem Zpe {n:Int}:(Lit.int .u8 n).wf=true↔0≤n∧n<256:=by
 have h1:IntKind.u8.min=0:=rfl;have h2:IntKind.u8.max=255:=rfl;simp[Lit.wf,h1,h2];omega
theorem Zlo {w:World} {x:Addr} {len cap:Nat} {zs:List Int} (hl:len≤cap) (hm:cap≤maxLen) (hz:zs.length=cap) (hc:∀ i,i<zs.length→w.cell? (x.add i)=some (.int .u8 (zs.getD i 0))) (hw:∀ n∈zs,(Lit.int .u8 n).wf=true) :
  Bs w (.slice (some x) len cap) (zs.take len)∧byt (zs.take len):=by
 have ht:(zs.take len).length=len:=by simp;omega
 have hg:∀ j,j<len→(zs.take len).getD j 0=zs.getD j 0:=fun j hj=>by simp[List.getD_eq_getElem?_getD,hj]
 constructor
 ·refine ⟨_,cap,by rw[ht],hm,by omega,fun hp=>?_⟩
  rw[ht] at hp;obtain ⟨b,o,spot⟩:=x;have h0:=hc 0 (by omega);have hs:spot=none:=by simpa [Addr.add] using World.cell?_spot h0
  subst hs;have hb:=World.block_lt_of_cell? w _ h0;refine ⟨b,o,rfl,by simpa [Addr.add] using hb,fun j hj=>?_⟩;rw[ht] at hj;rw[hg j hj];have hj2:=hc j (by omega);rw[Addr.add_mid] at hj2;exact hj2
 ·apply Zgu
  intro j hj;rw[ht] at hj;rw[hg j hj];have:zs.getD j 0∈zs:=by
   rw[List.getD_eq_getElem?_getD,List.getElem?_eq_getElem (by omega)];exact List.getElem_mem _
  exact Zpe.1 (hw _ this)
variable {H:Type} {enc:TypeId × Value→H} {P:Program} {w:World} {base:Nat} {spare:Nat→Bool} {held:Bool}
theorem ZeT:Tryz.prog.cellsOf 3=1:=by kernel_rfl
theorem Zft:Tryz.prog.cellsOf 22=1:=by kernel_rfl
theorem Zfp {H:Type} {enc:TypeId × Value→H} {w:World} {fuel:Nat} {v:Value} {x:DataW H × List MemPlace} (h:DataW.trod enc Tryz.prog w 0 (fun _=>true) true fuel 22 [v]=some x):∃ bs,Bs w v bs∧byt bs:=by
 rcases open_ints Tryz.underlying22 Tryz.underlying5 (by kernel_rfl) h with ⟨hcs,_⟩|⟨a,l,c,zs,hcs,_,hl,hm,hz,_,hcell,hwz⟩
 ·simp at hcs
  subst hcs;exact ⟨[],⟨none,0,rfl,Nat.zero_le _,Nat.le_refl _,fun h=>absurd h (by simp)⟩,fun j=>by simp⟩
 ·simp at hcs
  subst hcs;have:=Zlo hl hm (by simpa using hz) hcell hwz;exact ⟨_,this.1,this.2⟩
theorem ZgR {α:Type} {R:Nat→α→Prop}:∀ n,(∀ i,i<n→∃ a,R i a)→∃ L:List α,L.length=n∧∀ (i:Nat) (a:α),L[i]?=some a→R i a
 | 0,_=>⟨[],rfl,fun i a h=>by simp at h⟩
 | n+1,h=>by
  obtain⟨L,h1,h2⟩:=ZgR n (fun i hi=>h i (by omega));obtain ⟨a,ha⟩:=h n (by omega);refine ⟨L++[a],by rw[List.length_append,h1];rfl,fun i b hb=>?_⟩
  by_cases hi:i<L.length
  ·rw[List.getElem?_append_left hi] at hb
   exact h2 i b hb
  ·have hl:=(List.getElem?_eq_some_iff.1 hb).1
   rw[List.length_append] at hl;obtain rfl:i=n:=by simp at hl;omega
   rw[List.getElem?_append_right (by omega),h1,Nat.sub_self] at hb;simp at hb;rw[← hb];exact ha
theorem Zi6 {w:World} {a:Addr} {cs:List Value} (h:w.cells? 0 a 1=some cs):∃ u,cs=[u]∧w.cell? (a.add 0)=some u:=by
 unfold World.cells? at h;rw[if_pos (Nat.zero_le _)] at h;have e:List.range 1=[0]:=rfl;rw[e] at h;simp only[List.mapM_cons,List.mapM_nil,Option.bind_eq_bind,Option.pure_def,Option.bind_eq_some_iff,Option.some.injEq] at h;obtain ⟨v0,h0,t0,rfl,rfl⟩:=h;exact ⟨v0,rfl,h0⟩
theorem ZdH {α:Type} {P:World→Value→α→Prop} {Q:α→Prop} {H:Type} {enc:TypeId × Value→H} {w:World} {fuel:Nat} {ts te:TypeId} {v:Value} {x:DataW H × List MemPlace} (hu:Tryz.prog.underlying ts=some (.slice te)) (hc:Tryz.prog.cellsOf te=1) (each:∀ (fuel:Nat) (u:Value) (y:DataW H × List MemPlace),DataW.trod enc Tryz.prog w 0 (fun _=>true) true fuel te [u]=some y→∃ a,P w u a∧Q a)
  (h:DataW.trod enc Tryz.prog w 0 (fun _=>true) true fuel ts [v]=some x):∃ L:List α,ZiS P w v L∧∀ a∈L,Q a:=by
 rcases DataW.trod_slice hu h with ⟨e4,ex⟩|⟨ad,len,cap,elems,rest,n',hn',e4,ex,_,hlc,hcm,hel,hea,_,_⟩
 ·simp only[List.cons.injEq,and_true] at e4
  subst e4;exact ⟨[],ZiS.nil0 w,fun a h=>by simp at h⟩
 ·simp only[List.cons.injEq,and_true] at e4
  subst e4;have one:∀ i,i<len→∃ a,(∃ u,w.cell? (ad.add i)=some u∧P w u a)∧Q a:=fun i hi=>by
   have hi2:=hea i hi;rw[hc,List.getElem?_eq_getElem (by omega)] at hi2;obtain ⟨cs,hc1,hc2⟩:=Option.bind_eq_some_iff.1 hi2;obtain ⟨u,rfl,k⟩:=Zi6 hc1;obtain ⟨a,t1,t2⟩:=each _ u _ hc2;rw[Addr.add_add] at k;exact ⟨a,⟨u,by simpa using k,t1⟩,t2⟩
  obtain⟨L,k1,k2⟩:=ZgR len one;refine ⟨L,⟨some ad,cap,by rw[k1],by omega,hcm,fun h0=>?_⟩,fun a ha=>?_⟩
  ·obtain ⟨g,o,spot⟩:=ad
   obtain⟨k,hk⟩:∃ k,L[0]?=some k:=⟨_,List.getElem?_eq_getElem h0⟩;obtain ⟨u0,c0,-⟩:=(k2 0 k hk).1;have hs:spot=none:=by simpa [Addr.add] using World.cell?_spot c0
   subst hs;have hb:=World.block_lt_of_cell? w _ c0;refine ⟨g,o,rfl,by simpa [Addr.add] using hb,fun i a hp=>?_⟩;obtain ⟨u,k3,k4⟩:=(k2 i a hp).1;rw[ZeK] at k3;exact ⟨u,k3,k4⟩
  ·obtain ⟨i,hi⟩:=List.mem_iff_getElem?.1 ha
   exact(k2 i a hi).2
theorem ZjE {H:Type} {enc:TypeId × Value→H} {w:World} {fuel:Nat} {v:Value} {x:DataW H × List MemPlace} (h:DataW.trod enc Tryz.prog w 0 (fun _=>true) true fuel 72 [v]=some x):∃ L,Us w v L∧wrd L:=by
 rcases open_ints Tryz.underlying72 Tryz.underlying25 (by kernel_rfl) h with ⟨hcs,_⟩|⟨a,l,c,zs,hcs,_,hl,hm,hz,_,hcell,hwz⟩
 ·simp at hcs
  subst hcs;exact ⟨[],Zpb w,fun j=>by simp⟩
 ·simp at hcs
  subst hcs;have:=Zlp hl hm (by simpa using hz) hcell hwz;exact ⟨_,this.1,this.2⟩
theorem Zn8 {H:Type} {enc:TypeId × Value→H} {w:World} {fuel:Nat} {cs:List Value} {x:DataW H × List MemPlace} (h:DataW.trod enc Tryz.prog w 0 (fun _=>true) true fuel 27 cs=some x):∃ z,U6 cs z:=by
 obtain⟨A,lA,eA,-,-,fA⟩:=Zf6 (n:=6) Tryz.underlying27 Zbb Tryz.underlying25 Zce (cs:=cs.toArray) (d:=x.1) (p:=x.2) ⟨fuel,by simpa [Value.cells] using h⟩;obtain ⟨x0,x1,x2,x3,x4,x5,rfl⟩:=six lA;have e:cs=us [x0,x1,x2,x3,x4,x5]:=by simpa using congrArg Array.toList eA
 exact⟨_,by rw[e];exact ⟨x0,x1,x2,x3,x4,x5,rfl,fA,rfl⟩⟩
theorem Zo2 {cs:List Value} (h:cs.length=38):∃ a k b z:List Value,cs=a++(k++(b++z))∧a.length=5∧k.length=13∧b.length=8∧z.length=12:=by
 refine⟨cs.take 5,(cs.drop 5).take 13,((cs.drop 5).drop 13).take 8,((cs.drop 5).drop 13).drop 8,?_,?_,?_,?_,?_⟩
 ·rw[List.take_append_drop,List.take_append_drop,List.take_append_drop]
 all_goals simp[h]
theorem fiveC {l:List Value} (h:l.length=5):∃ v0 v1 v2 v3 v4,l=[v0,v1,v2,v3,v4]:=by
 match l,h with
 | [v0,v1,v2,v3,v4],_=>exact ⟨v0,v1,v2,v3,v4,rfl⟩
theorem eightC {l:List Value} (h:l.length=8):∃ v0 v1 v2 v3 v4 v5 v6 v7,l=[v0,v1,v2,v3,v4,v5,v6,v7]:=by
 match l,h with
 | [v0,v1,v2,v3,v4,v5,v6,v7],_=>exact ⟨v0,v1,v2,v3,v4,v5,v6,v7,rfl⟩
theorem ZlO {l:List Value} (h:l.length=12):∃ v0 v1 v2 v3 v4 v5 v6 v7 v8 v9 v10 v11,l=[v0,v1,v2,v3,v4,v5,v6,v7,v8,v9,v10,v11]:=by
 match l,h with
 | [v0,v1,v2,v3,v4,v5,v6,v7,v8,v9,v10,v11],_=>exact ⟨v0,v1,v2,v3,v4,v5,v6,v7,v8,v9,v10,v11,rfl⟩
theorem Zhu:Tryz.prog.cellsOf 35=38:=by kernel_rfl
theorem Zfv:Tryz.prog.cellsOf 33=12:=by kernel_rfl
theorem ZdR:Tryz.prog.cellsOf 24=1:=by kernel_rfl
theorem Zj7:Tryz.prog.cellsOf 72=1:=by kernel_rfl
theorem Zj5:Tryz.prog.cellsOf 30=1:=by kernel_rfl
theorem ZgC:Tryz.prog.cellsOf 31=1:=by kernel_rfl
theorem ZgB:Tryz.prog.cellsOf 2=1:=by kernel_rfl
set_option maxRecDepth 10000 in
theorem ZkZ {H:Type} {enc:TypeId × Value→H} {w:World} {fuel:Nat} {cs:List Value} {x:DataW H × List MemPlace} (h:DataW.trod enc Tryz.prog w 0 (fun _=>true) true fuel 33 cs=some x):∃ rs zs r s,cs=rs++zs∧U6 rs r∧U6 zs s:=by
 obtain⟨xs,n,rfl,_,hl,hlen,hf⟩:=DataW.trod_struct Tryz.underlying33 h;rw[Zfv] at hl;obtain ⟨z0,z1,z2,z3,z4,z5,z6,z7,z8,z9,z10,z11,rfl⟩:=ZlO hl;have some2:∀ i,i<2→∃ y,xs[i]?=some y:=fun i hi=>⟨_,List.getElem?_eq_getElem (by rw[hlen];exact hi)⟩;obtain ⟨y0,s0⟩:=some2 0 (by decide);obtain ⟨y1,s1⟩:=some2 1 (by decide);have f0:DataW.trod enc Tryz.prog w 0 (fun _=>true) true n 27 (([z0,z1,z2,z3,z4,z5,z6,z7,z8,z9,z10,z11].drop 0).take (Tryz.prog.cellsOf 27))=some y0:=(hf 0 _ rfl).trans s0;rw[Zbb] at f0;replace f0:DataW.trod enc Tryz.prog w 0 (fun _=>true) true n 27 [z0,z1,z2,z3,z4,z5]=some y0:=f0;have f1:DataW.trod enc Tryz.prog w 0 (fun _=>true) true n 27 (([z0,z1,z2,z3,z4,z5,z6,z7,z8,z9,z10,z11].drop 6).take (Tryz.prog.cellsOf 27))=some y1:=(hf 1 _ rfl).trans s1;rw[Zbb] at f1;replace f1:DataW.trod enc Tryz.prog w 0 (fun _=>true) true n 27 [z6,z7,z8,z9,z10,z11]=some y1:=f1;obtain ⟨r,hr⟩:=Zn8 f0;obtain ⟨s,hs⟩:=Zn8 f1;exact ⟨_,_,r,s,rfl,hr,hs⟩
set_option maxRecDepth 20000 in
set_option maxHeartbeats 1000000 in
theorem ZkX {H:Type} {enc:TypeId × Value→H} {w:World} {fuel:Nat} {cs:List Value} {x:DataW H × List MemPlace} (h:DataW.trod enc Tryz.prog w 0 (fun _=>true) true fuel 35 cs=some x):∃ c:Ct,Zds w c cs∧WfC c:=by
 obtain⟨xs,n,rfl,_,hl,hlen,hf⟩:=DataW.trod_struct Tryz.underlying35 h;rw[Zhu] at hl;obtain ⟨a,k,b,z,rfl,la,lk,lb,lz⟩:=Zo2 hl;obtain ⟨a0,a1,a2,a3,a4,rfl⟩:=fiveC la;obtain ⟨k0,k1,k2,k3,k4,k5,k6,k7,k8,k9,k10,k11,k12,rfl⟩:=Zha lk;obtain ⟨b0,b1,b2,b3,b4,b5,b6,b7,rfl⟩:=eightC lb;obtain ⟨z0,z1,z2,z3,z4,z5,z6,z7,z8,z9,z10,z11,rfl⟩:=ZlO lz;have some15:∀ i,i<15→∃ y,xs[i]?=some y:=fun i hi=>⟨_,List.getElem?_eq_getElem (by rw[hlen];exact hi)⟩;obtain ⟨y0,s0⟩:=some15 0 (by decide);have f0:DataW.trod enc Tryz.prog w 0 (fun _=>true) true n 22 ((([a0,a1,a2,a3,a4]++([k0,k1,k2,k3,k4,k5,k6,k7,k8,k9,k10,k11,k12]++([b0,b1,b2,b3,b4,b5,b6,b7]++[z0,z1,z2,z3,z4,z5,z6,z7,z8,z9,z10,z11]))).drop 0).take (Tryz.prog.cellsOf 22))=some y0:=(hf 0 _ rfl).trans s0;rw[Zft] at f0;replace f0:DataW.trod enc Tryz.prog w 0 (fun _=>true) true n 22 [a0]=some y0:=f0;obtain ⟨y1,s1⟩:=some15 1 (by decide);have f1:DataW.trod enc Tryz.prog w 0 (fun _=>true) true n 24 ((([a0,a1,a2,a3,a4]++([k0,k1,k2,k3,k4,k5,k6,k7,k8,k9,k10,k11,k12]++([b0,b1,b2,b3,b4,b5,b6,b7]++[z0,z1,z2,z3,z4,z5,z6,z7,z8,z9,z10,z11]))).drop 1).take (Tryz.prog.cellsOf 24))=some y1:=(hf 1 _ rfl).trans s1;rw[ZdR] at f1;replace f1:DataW.trod enc Tryz.prog w 0 (fun _=>true) true n 24 [a1]=some y1:=f1;obtain ⟨y2,s2⟩:=some15 2 (by decide);have f2:DataW.trod enc Tryz.prog w 0 (fun _=>true) true n 24 ((([a0,a1,a2,a3,a4]++([k0,k1,k2,k3,k4,k5,k6,k7,k8,k9,k10,k11,k12]++([b0,b1,b2,b3,b4,b5,b6,b7]++[z0,z1,z2,z3,z4,z5,z6,z7,z8,z9,z10,z11]))).drop 2).take (Tryz.prog.cellsOf 24))=some y2:=(hf 2 _ rfl).trans s2;rw[ZdR] at f2;replace f2:DataW.trod enc Tryz.prog w 0 (fun _=>true) true n 24 [a2]=some y2:=f2;obtain ⟨y3,s3⟩:=some15 3 (by decide);have f3:DataW.trod enc Tryz.prog w 0 (fun _=>true) true n 2 ((([a0,a1,a2,a3,a4]++([k0,k1,k2,k3,k4,k5,k6,k7,k8,k9,k10,k11,k12]++([b0,b1,b2,b3,b4,b5,b6,b7]++[z0,z1,z2,z3,z4,z5,z6,z7,z8,z9,z10,z11]))).drop 3).take (Tryz.prog.cellsOf 2))=some y3:=(hf 3 _ rfl).trans s3;rw[ZgB] at f3;replace f3:DataW.trod enc Tryz.prog w 0 (fun _=>true) true n 2 [a3]=some y3:=f3;obtain ⟨y4,s4⟩:=some15 4 (by decide);have f4:DataW.trod enc Tryz.prog w 0 (fun _=>true) true n 2 ((([a0,a1,a2,a3,a4]++([k0,k1,k2,k3,k4,k5,k6,k7,k8,k9,k10,k11,k12]++([b0,b1,b2,b3,b4,b5,b6,b7]++[z0,z1,z2,z3,z4,z5,z6,z7,z8,z9,z10,z11]))).drop 4).take (Tryz.prog.cellsOf 2))=some y4:=(hf 4 _ rfl).trans s4;rw[ZgB] at f4;replace f4:DataW.trod enc Tryz.prog w 0 (fun _=>true) true n 2 [a4]=some y4:=f4;obtain ⟨y5,s5⟩:=some15 5 (by decide);have f5:DataW.trod enc Tryz.prog w 0 (fun _=>true) true n 29 ((([a0,a1,a2,a3,a4]++([k0,k1,k2,k3,k4,k5,k6,k7,k8,k9,k10,k11,k12]++([b0,b1,b2,b3,b4,b5,b6,b7]++[z0,z1,z2,z3,z4,z5,z6,z7,z8,z9,z10,z11]))).drop 5).take (Tryz.prog.cellsOf 29))=some y5:=(hf 5 _ rfl).trans s5;rw[Zh8] at f5;replace f5:DataW.trod enc Tryz.prog w 0 (fun _=>true) true n 29 [k0,k1,k2,k3,k4,k5,k6,k7,k8,k9,k10,k11,k12]=some y5:=f5;obtain ⟨y6,s6⟩:=some15 6 (by decide);have f6:DataW.trod enc Tryz.prog w 0 (fun _=>true) true n 4 ((([a0,a1,a2,a3,a4]++([k0,k1,k2,k3,k4,k5,k6,k7,k8,k9,k10,k11,k12]++([b0,b1,b2,b3,b4,b5,b6,b7]++[z0,z1,z2,z3,z4,z5,z6,z7,z8,z9,z10,z11]))).drop 18).take (Tryz.prog.cellsOf 4))=some y6:=(hf 6 _ rfl).trans s6;rw[Zd9] at f6;replace f6:DataW.trod enc Tryz.prog w 0 (fun _=>true) true n 4 [b0]=some y6:=f6;obtain ⟨y7,s7⟩:=some15 7 (by decide);have f7:DataW.trod enc Tryz.prog w 0 (fun _=>true) true n 3 ((([a0,a1,a2,a3,a4]++([k0,k1,k2,k3,k4,k5,k6,k7,k8,k9,k10,k11,k12]++([b0,b1,b2,b3,b4,b5,b6,b7]++[z0,z1,z2,z3,z4,z5,z6,z7,z8,z9,z10,z11]))).drop 19).take (Tryz.prog.cellsOf 3))=some y7:=(hf 7 _ rfl).trans s7;rw[ZeT] at f7;replace f7:DataW.trod enc Tryz.prog w 0 (fun _=>true) true n 3 [b1]=some y7:=f7;obtain ⟨y8,s8⟩:=some15 8 (by decide);have f8:DataW.trod enc Tryz.prog w 0 (fun _=>true) true n 3 ((([a0,a1,a2,a3,a4]++([k0,k1,k2,k3,k4,k5,k6,k7,k8,k9,k10,k11,k12]++([b0,b1,b2,b3,b4,b5,b6,b7]++[z0,z1,z2,z3,z4,z5,z6,z7,z8,z9,z10,z11]))).drop 20).take (Tryz.prog.cellsOf 3))=some y8:=(hf 8 _ rfl).trans s8;rw[ZeT] at f8;replace f8:DataW.trod enc Tryz.prog w 0 (fun _=>true) true n 3 [b2]=some y8:=f8;obtain ⟨y9,s9⟩:=some15 9 (by decide);have f9:DataW.trod enc Tryz.prog w 0 (fun _=>true) true n 30 ((([a0,a1,a2,a3,a4]++([k0,k1,k2,k3,k4,k5,k6,k7,k8,k9,k10,k11,k12]++([b0,b1,b2,b3,b4,b5,b6,b7]++[z0,z1,z2,z3,z4,z5,z6,z7,z8,z9,z10,z11]))).drop 21).take (Tryz.prog.cellsOf 30))=some y9:=(hf 9 _ rfl).trans s9;rw[Zj5] at f9;replace f9:DataW.trod enc Tryz.prog w 0 (fun _=>true) true n 30 [b3]=some y9:=f9;obtain ⟨y10,s10⟩:=some15 10 (by decide);have f10:DataW.trod enc Tryz.prog w 0 (fun _=>true) true n 31 ((([a0,a1,a2,a3,a4]++([k0,k1,k2,k3,k4,k5,k6,k7,k8,k9,k10,k11,k12]++([b0,b1,b2,b3,b4,b5,b6,b7]++[z0,z1,z2,z3,z4,z5,z6,z7,z8,z9,z10,z11]))).drop 22).take (Tryz.prog.cellsOf 31))=some y10:=(hf 10 _ rfl).trans s10;rw[ZgC] at f10;replace f10:DataW.trod enc Tryz.prog w 0 (fun _=>true) true n 31 [b4]=some y10:=f10;obtain ⟨y11,s11⟩:=some15 11 (by decide);have f11:DataW.trod enc Tryz.prog w 0 (fun _=>true) true n 31 ((([a0,a1,a2,a3,a4]++([k0,k1,k2,k3,k4,k5,k6,k7,k8,k9,k10,k11,k12]++([b0,b1,b2,b3,b4,b5,b6,b7]++[z0,z1,z2,z3,z4,z5,z6,z7,z8,z9,z10,z11]))).drop 23).take (Tryz.prog.cellsOf 31))=some y11:=(hf 11 _ rfl).trans s11;rw[ZgC] at f11;replace f11:DataW.trod enc Tryz.prog w 0 (fun _=>true) true n 31 [b5]=some y11:=f11;obtain ⟨y12,s12⟩:=some15 12 (by decide);have f12:DataW.trod enc Tryz.prog w 0 (fun _=>true) true n 4 ((([a0,a1,a2,a3,a4]++([k0,k1,k2,k3,k4,k5,k6,k7,k8,k9,k10,k11,k12]++([b0,b1,b2,b3,b4,b5,b6,b7]++[z0,z1,z2,z3,z4,z5,z6,z7,z8,z9,z10,z11]))).drop 24).take (Tryz.prog.cellsOf 4))=some y12:=(hf 12 _ rfl).trans s12;rw[Zd9] at f12;replace f12:DataW.trod enc Tryz.prog w 0 (fun _=>true) true n 4 [b6]=some y12:=f12;obtain ⟨y13,s13⟩:=some15 13 (by decide);have f13:DataW.trod enc Tryz.prog w 0 (fun _=>true) true n 22 ((([a0,a1,a2,a3,a4]++([k0,k1,k2,k3,k4,k5,k6,k7,k8,k9,k10,k11,k12]++([b0,b1,b2,b3,b4,b5,b6,b7]++[z0,z1,z2,z3,z4,z5,z6,z7,z8,z9,z10,z11]))).drop 25).take (Tryz.prog.cellsOf 22))=some y13:=(hf 13 _ rfl).trans s13;rw[Zft] at f13;replace f13:DataW.trod enc Tryz.prog w 0 (fun _=>true) true n 22 [b7]=some y13:=f13;obtain ⟨y14,s14⟩:=some15 14 (by decide);have f14:DataW.trod enc Tryz.prog w 0 (fun _=>true) true n 33 ((([a0,a1,a2,a3,a4]++([k0,k1,k2,k3,k4,k5,k6,k7,k8,k9,k10,k11,k12]++([b0,b1,b2,b3,b4,b5,b6,b7]++[z0,z1,z2,z3,z4,z5,z6,z7,z8,z9,z10,z11]))).drop 26).take (Tryz.prog.cellsOf 33))=some y14:=(hf 14 _ rfl).trans s14;rw[Zfv] at f14;replace f14:DataW.trod enc Tryz.prog w 0 (fun _=>true) true n 33 [z0,z1,z2,z3,z4,z5,z6,z7,z8,z9,z10,z11]=some y14:=f14;obtain ⟨S,hS,wS⟩:=Zfp f0;obtain ⟨I,hI,wI⟩:=ZdX f1;obtain ⟨J,hJ,wJ⟩:=ZdX f2;obtain ⟨n3,e3,_,w3⟩:=DataW.trod_int Tryz.underlying2 f3;obtain ⟨n4,e4,_,w4⟩:=DataW.trod_int Tryz.underlying2 f4;obtain ⟨p0,p1,p2,p3,p4,p5,q0,q1,q2,q3,q4,q5,nn,e5,-,-,fX,fY⟩:=ZoJ (cs:=#[k0,k1,k2,k3,k4,k5,k6,k7,k8,k9,k10,k11,k12]) (d:=y5.1) (p:=y5.2) ⟨n,by simpa [Value.cells] using f5⟩;obtain ⟨n6,e6,_⟩:=DataW.trod_bool Tryz.underlying4 f6;obtain ⟨n7,e7,_,w7⟩:=DataW.trod_int Tryz.underlying3 f7;obtain ⟨n8,e8,_,w8⟩:=DataW.trod_int Tryz.underlying3 f8;obtain ⟨U,hU,wU⟩:=ZdH (P:=Us) (Q:=wrd) Tryz.underlying30 Zj7 (fun _ _ _ h=>ZjE h) f9;obtain ⟨P,hP,wP⟩:=ZdH (P:=Zb3) (Q:=WfN) Tryz.underlying31 ZdR (fun _ _ _ h=>ZdX h) f10;obtain ⟨E,hE,wE⟩:=ZdH (P:=Zb3) (Q:=WfN) Tryz.underlying31 ZdR (fun _ _ _ h=>ZdX h) f11;obtain ⟨n12,e12,_⟩:=DataW.trod_bool Tryz.underlying4 f12;obtain ⟨D,hD,wD⟩:=Zfp f13;obtain ⟨rs,zs,r,t,e14,hr,ht⟩:=ZkZ f14;simp only[List.cons.injEq,and_true] at e3 e4 e6 e7 e8 e12;subst e3 e4 e6 e7 e8 e12;simp only[Array.mk.injEq,List.cons.injEq,and_true] at e5;obtain ⟨rfl,rfl,rfl,rfl,rfl,rfl,rfl,rfl,rfl,rfl,rfl,rfl,rfl⟩:=e5;refine ⟨⟨S,I,J,n3,n4,v64 [p0,p1,p2,p3,p4,p5],v64 [q0,q1,q2,q3,q4,q5],nn,n6,n7,n8,U,P,E,n12,D,r,t⟩,⟨a0,a1,a2,[.int .u64 p0,.int .u64 p1,.int .u64 p2,.int .u64 p3,.int .u64 p4,.int .u64 p5],[.int .u64 q0,.int .u64 q1,.int .u64 q2,.int .u64 q3,.int .u64 q4,.int .u64 q5],b3,b4,b5,b7,rs,zs,?_,hS,hI,hJ,U6.mk fX,U6.mk fY,hU,hP,hE,hD,hr,ht⟩,wS,wI,wJ,Zfd.1 w3,Zfd.1 w4,Zfd.1 w7,Zfd.1 w8,wU,wP,wE,wD⟩;show _=Zkf _ _ _ _ _ _ _ _ _ _ _ _ _ _ _ _ _ _;unfold Zkf;rw[← e14]
 rfl
end Go.Proofs.YtdfmoghjimghhaaGreatDoor
