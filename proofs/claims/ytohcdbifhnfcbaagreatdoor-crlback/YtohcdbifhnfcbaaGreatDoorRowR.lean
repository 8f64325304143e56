/- Bytes that are handed in: from the row's reading to the walk's words. An array of bytes by value, opened as it is read. Elements that are handed in: from the row's reading to the walk's words. Lists of revoked ones that are handed in: from the row's reading to the walk's words. -/
import Derived.Test.YtohcdbifhnfcbaaGreatDoorDrTG
import Derived.Test.YtohcdbifhnfcbaaGreatDoorDrDG
import Derived.Test.YtohcdbifhnfcbaaGreatDoorKrSpec
import Derived.Test.YtohcdbifhnfcbaaGreatDoorClWr
import Derived.Test.YtohcdbifhnfcbaaGreatDoorLimb
import Derived.Test.YtohcdbifhnfcbaaGreatDoorRows
import Derived.ProofKit
import Derived.OpenShut
import Derived.ShutString
import Derived.Deep.MidRow
import Derived.ChangeArms
import Derived.ChangeOld
namespace Go.Proofs.YtohcdbifhnfcbaaGreatDoor
open Go.ChangeShapes Go.WideShapes Go.ChangeAt Go.RowKit
theorem wf_byte {n:Int}:(Lit.int .u8 n).wf=true↔0≤n∧n < 256:=by
 have h1:IntKind.u8.min=0:=rfl
 have h2:IntKind.u8.max=255:=rfl
 simp [Lit.wf,h1,h2]
 omega
theorem row_bytes {w:World} {x:Addr} {len cap:Nat} {zs:List Int} (hl:len≤cap) (hm:cap≤maxLen) (hz:zs.length=cap) (hc:∀ i,i < zs.length→w.cell? (x.add i)=some (.int .u8 (zs.getD i 0))) (hw:∀ n∈zs,(Lit.int .u8 n).wf=true) :
  Bs w (.slice (some x) len cap) (zs.take len)∧byt (zs.take len):=by
 have ht:(zs.take len).length=len:=by simp;omega
 have hg:∀ j,j < len→(zs.take len).getD j 0=zs.getD j 0:=fun j hj=>by simp [List.getD_eq_getElem?_getD,hj]
 constructor
 ·refine ⟨_,cap,by rw [ht],hm,by omega,fun hp=>?_⟩
  rw [ht] at hp
  obtain ⟨b,o,spot⟩:=x
  have h0:=hc 0 (by omega)
  have hs:spot=none:=by simpa [Addr.add] using World.cell?_spot h0
  subst hs
  have hb:=World.block_lt_of_cell? w _ h0
  refine ⟨b,o,rfl,by simpa [Addr.add] using hb,fun j hj=>?_⟩
  rw [ht] at hj
  rw [hg j hj]
  have hj2:=hc j (by omega)
  rw [Addr.add_mid] at hj2
  exact hj2
 ·apply byt_of
  intro j hj
  rw [ht] at hj
  rw [hg j hj]
  have:zs.getD j 0∈zs:=by
   rw [List.getD_eq_getElem?_getD,List.getElem?_eq_getElem (by omega)]
   exact List.getElem_mem _
  exact wf_byte.1 (hw _ this)
variable {H:Type} {enc:TypeId × Value→H} {P:Program} {w:World} {base:Nat} {spare:Nat→Bool} {held:Bool}
theorem bytes_open {H:Type} {enc:TypeId × Value→H} {w:World} {fuel:Nat} {v:Value} {x:DataW H × List MemPlace} (h:DataW.trod enc Tryz.prog w 0 (fun _=>true) true fuel 22 [v]=some x):∃ bs,Bs w v bs∧byt bs:=by
 rcases open_ints Tryz.underlying22 Tryz.underlying5 (by kernel_rfl) h with ⟨hcs,_⟩|⟨a,l,c,zs,hcs,_,hl,hm,hz,_,hcell,hwz⟩
 ·simp at hcs
  subst hcs
  exact ⟨[],⟨none,0,rfl,Nat.zero_le _,Nat.le_refl _,fun h=>absurd h (by simp)⟩,fun j=>by simp⟩
 ·simp at hcs
  subst hcs
  have:=row_bytes hl hm (by simpa using hz) hcell hwz
  exact ⟨_,this.1,this.2⟩
theorem list_open8 {α:Type} {R:Nat→α→Prop}:∀ n,(∀ i,i < n→∃ a,R i a)→∃ L:List α,L.length=n∧∀ (i:Nat) (a:α),L[i]?=some a→R i a
 | 0,_=>⟨[],rfl,fun i a h=>by simp at h⟩
 | n + 1,h=>by
  obtain ⟨L,h1,h2⟩:=list_open8 n (fun i hi=>h i (by omega))
  obtain ⟨a,ha⟩:=h n (by omega)
  refine ⟨L++[a],by rw [List.length_append,h1];rfl,fun i b hb=>?_⟩
  by_cases hi:i < L.length
  ·rw [List.getElem?_append_left hi] at hb
   exact h2 i b hb
  ·have hl:=(List.getElem?_eq_some_iff.1 hb).1
   rw [List.length_append] at hl
   obtain rfl:i=n:=by simp at hl;omega
   rw [List.getElem?_append_right (by omega),h1,Nat.sub_self] at hb
   simp at hb
   rw [← hb];exact ha
theorem cells_crR:Tryz.prog.cellsOf 33=17:=by kernel_rfl
theorem cells_gnR:Tryz.prog.cellsOf 64=2:=by kernel_rfl
theorem cells_gsR:Tryz.prog.cellsOf 26=1:=by kernel_rfl
theorem cells_bsR:Tryz.prog.cellsOf 22=1:=by kernel_rfl
theorem cells_sgR:Tryz.prog.cellsOf 31=12:=by kernel_rfl
theorem cells_nmR:Tryz.prog.cellsOf 25=1:=by kernel_rfl
theorem cells_i6R:Tryz.prog.cellsOf 2=1:=by kernel_rfl
theorem cells_u6R:Tryz.prog.cellsOf 29=6:=by kernel_rfl
theorem cells_u1R:Tryz.prog.cellsOf 27=1:=by kernel_rfl
set_option maxRecDepth 10000 in
theorem open_gn {H:Type} {enc:TypeId × Value→H} {w:World} {fuel:Nat} {cs:List Value} {x:DataW H × List MemPlace} (h:DataW.trod enc Tryz.prog w 0 (fun _=>true) true fuel 64 cs=some x):∃ (u:Value) (g:Gn),cs=[u,.int .i64 g.2]∧Bs w u g.1∧byt g.1∧(-9223372036854775808≤g.2∧g.2 < 9223372036854775808):=by
 obtain ⟨xs,n,rfl,_,hl,hlen,hf⟩:=DataW.trod_struct Tryz.underlying64 h
 rw [cells_gnR] at hl
 match cs,hl with
 | [a,b],_ =>
 have some2:∀ i,i < 2→∃ y,xs[i]?=some y:=fun i hi=>⟨_,List.getElem?_eq_getElem (by rw [hlen];exact hi)⟩
 obtain ⟨y0,s0⟩:=some2 0 (by decide)
 obtain ⟨y1,s1⟩:=some2 1 (by decide)
 have f0:DataW.trod enc Tryz.prog w 0 (fun _=>true) true n 22 (([a,b].drop 0).take (Tryz.prog.cellsOf 22))=some y0:=(hf 0 _ rfl).trans s0
 rw [cells_bsR] at f0
 replace f0:DataW.trod enc Tryz.prog w 0 (fun _=>true) true n 22 [a]=some y0:=f0
 have f1:DataW.trod enc Tryz.prog w 0 (fun _=>true) true n 2 (([a,b].drop 1).take (Tryz.prog.cellsOf 2))=some y1:=(hf 1 _ rfl).trans s1
 rw [cells_i6R] at f1
 replace f1:DataW.trod enc Tryz.prog w 0 (fun _=>true) true n 2 [b]=some y1:=f1
 obtain ⟨S,hS,wS⟩:=bytes_open f0
 obtain ⟨n1,e1,_,w1⟩:=DataW.trod_int Tryz.underlying2 f1
 simp only [List.cons.injEq,and_true] at e1
 subst e1
 exact ⟨a,(S,n1),rfl,hS,wS,wf_intN.1 w1⟩
theorem gone_open {H:Type} {enc:TypeId × Value→H} {w:World} {fuel:Nat} {v:Value} {x:DataW H × List MemPlace} (h:DataW.trod enc Tryz.prog w 0 (fun _=>true) true fuel 26 [v]=some x):∃ L:List Gn,GnAt w v L∧WfG L:=by
 rcases DataW.trod_slice Tryz.underlying26 h with ⟨e4,ex⟩|⟨ad,len,cap,elems,rest,n',hn',e4,ex,_,hlc,hcm,hel,hea,_,_⟩
 ·simp only [List.cons.injEq,and_true] at e4
  subst e4
  exact ⟨[],GnAt.nil0 w,fun g hg=>by simp at hg⟩
 ·simp only [List.cons.injEq,and_true] at e4
  subst e4
  have each:∀ i,i < len→∃ g:Gn,(∃ u,w.cell? (ad.add (i * 2))=some u∧Bs w u g.1∧w.cell? (ad.add (i * 2 + 1))=some (.int .i64 g.2))∧byt g.1∧(-9223372036854775808≤g.2∧g.2 < 9223372036854775808):=fun i hi=>by
   have hi2:=hea i hi
   rw [cells_gnR,List.getElem?_eq_getElem (by omega)] at hi2
   obtain ⟨cs,hc1,hc2⟩:=Option.bind_eq_some_iff.1 hi2
   obtain ⟨u,g,rfl,t1,t2,t3⟩:=open_gn hc2
   have k:=(cells_two hc1).2
   have k0:=k 0 _ rfl
   have k1:=k 1 _ rfl
   rw [Addr.add_add] at k0 k1
   exact ⟨g,⟨u,k0,t1,k1⟩,t2,t3⟩
  obtain ⟨L,k1,k2⟩:=list_open8 len each
  refine ⟨L,⟨some ad,cap,by rw [k1],by omega,hcm,fun h0=>?_⟩,fun g hg=>?_⟩
  ·obtain ⟨b,o,spot⟩:=ad
   obtain ⟨g,hg⟩:∃ g,L[0]?=some g:=⟨_,List.getElem?_eq_getElem h0⟩
   obtain ⟨⟨u,c0,-,-⟩,-⟩:=k2 0 g hg
   have hs:spot=none:=by simpa [Addr.add] using World.cell?_spot c0
   subst hs
   have hb:=World.block_lt_of_cell? w _ c0
   refine ⟨b,o,rfl,by simpa [Addr.add] using hb,fun i p hp=>?_⟩
   obtain ⟨⟨u,e1,e2,e3⟩,-⟩:=k2 i p hp
   rw [add_noneN] at e1 e3
   exact ⟨u,e1,e2,e3⟩
  ·obtain ⟨i,hi⟩:=List.mem_iff_getElem?.1 hg
   exact (k2 i g hi).2
theorem uR_open {H:Type} {enc:TypeId × Value→H} {w:World} {fuel:Nat} {cs:List Value} {x:DataW H × List MemPlace} (h:DataW.trod enc Tryz.prog w 0 (fun _=>true) true fuel 29 cs=some x):∃ z,U6 cs z:=by
 obtain ⟨A,lA,eA,-,-,fA⟩:=open_arr (n:=6) Tryz.underlying29 cells_u6R Tryz.underlying27 cells_u1R (cs:=cs.toArray) (d:=x.1) (p:=x.2) ⟨fuel,by simpa [Value.cells] using h⟩
 obtain ⟨x0,x1,x2,x3,x4,x5,rfl⟩:=six lA
 have e:cs=us [x0,x1,x2,x3,x4,x5]:=by simpa using congrArg Array.toList eA
 exact ⟨_,by rw [e];exact ⟨x0,x1,x2,x3,x4,x5,rfl,fA,rfl⟩⟩
theorem split17 {cs:List Value} (h:cs.length=17):∃ (a0 a1 a2 a3 a4 z0 z1 z2 z3 z4 z5 y0 y1 y2 y3 y4 y5:Value),cs=[a0,a1,a2,a3,a4,z0,z1,z2,z3,z4,z5,y0,y1,y2,y3,y4,y5]:=by
 match cs,h with
 | [a0,a1,a2,a3,a4,z0,z1,z2,z3,z4,z5,y0,y1,y2,y3,y4,y5],_=>exact ⟨a0,a1,a2,a3,a4,z0,z1,z2,z3,z4,z5,y0,y1,y2,y3,y4,y5,rfl⟩
set_option maxRecDepth 10000 in
theorem open_sgR {H:Type} {enc:TypeId × Value→H} {w:World} {fuel:Nat} {z0 z1 z2 z3 z4 z5 z6 z7 z8 z9 z10 z11:Value} {x:DataW H × List MemPlace} (h:DataW.trod enc Tryz.prog w 0 (fun _=>true) true fuel 31 [z0,z1,z2,z3,z4,z5,z6,z7,z8,z9,z10,z11]=some x):∃ r s,U6 [z0,z1,z2,z3,z4,z5] r∧U6 [z6,z7,z8,z9,z10,z11] s:=by
 obtain ⟨xs,n,rfl,_,hl,hlen,hf⟩:=DataW.trod_struct Tryz.underlying31 h
 have some2:∀ i,i < 2→∃ y,xs[i]?=some y:=fun i hi=>⟨_,List.getElem?_eq_getElem (by rw [hlen];exact hi)⟩
 obtain ⟨y0,s0⟩:=some2 0 (by decide)
 obtain ⟨y1,s1⟩:=some2 1 (by decide)
 have f0:DataW.trod enc Tryz.prog w 0 (fun _=>true) true n 29 (([z0,z1,z2,z3,z4,z5,z6,z7,z8,z9,z10,z11].drop 0).take (Tryz.prog.cellsOf 29))=some y0:=(hf 0 _ rfl).trans s0
 rw [cells_u6R] at f0
 replace f0:DataW.trod enc Tryz.prog w 0 (fun _=>true) true n 29 [z0,z1,z2,z3,z4,z5]=some y0:=f0
 have f1:DataW.trod enc Tryz.prog w 0 (fun _=>true) true n 29 (([z0,z1,z2,z3,z4,z5,z6,z7,z8,z9,z10,z11].drop 6).take (Tryz.prog.cellsOf 29))=some y1:=(hf 1 _ rfl).trans s1
 rw [cells_u6R] at f1
 replace f1:DataW.trod enc Tryz.prog w 0 (fun _=>true) true n 29 [z6,z7,z8,z9,z10,z11]=some y1:=f1
 obtain ⟨r,hr⟩:=uR_open f0
 obtain ⟨s,hs⟩:=uR_open f1
 exact ⟨r,s,hr,hs⟩
set_option maxRecDepth 20000 in
set_option maxHeartbeats 1000000 in
/-- what reads as a list of revoked ones is one -/
theorem open_crl {H:Type} {enc:TypeId × Value→H} {w:World} {fuel:Nat} {cs:List Value} {x:DataW H × List MemPlace} (h:DataW.trod enc Tryz.prog w 0 (fun _=>true) true fuel 33 cs=some x):∃ c:Cr,CrAt w c cs∧WfCr c:=by
 obtain ⟨xs,n,rfl,_,hl,hlen,hf⟩:=DataW.trod_struct Tryz.underlying33 h
 rw [cells_crR] at hl
 obtain ⟨a0,a1,a2,a3,a4,z0,z1,z2,z3,z4,z5,y0,y1,y2,y3,y4,y5,rfl⟩:=split17 hl
 have some6:∀ i,i < 6→∃ y,xs[i]?=some y:=fun i hi=>⟨_,List.getElem?_eq_getElem (by rw [hlen];exact hi)⟩
 obtain ⟨q0,s0⟩:=some6 0 (by decide)
 have f0:DataW.trod enc Tryz.prog w 0 (fun _=>true) true n 25 (([a0,a1,a2,a3,a4,z0,z1,z2,z3,z4,z5,y0,y1,y2,y3,y4,y5].drop 0).take (Tryz.prog.cellsOf 25))=some q0:=(hf 0 _ rfl).trans s0
 rw [cells_nmR] at f0
 replace f0:DataW.trod enc Tryz.prog w 0 (fun _=>true) true n 25 [a0]=some q0:=f0
 obtain ⟨q1,s1⟩:=some6 1 (by decide)
 have f1:DataW.trod enc Tryz.prog w 0 (fun _=>true) true n 2 (([a0,a1,a2,a3,a4,z0,z1,z2,z3,z4,z5,y0,y1,y2,y3,y4,y5].drop 1).take (Tryz.prog.cellsOf 2))=some q1:=(hf 1 _ rfl).trans s1
 rw [cells_i6R] at f1
 replace f1:DataW.trod enc Tryz.prog w 0 (fun _=>true) true n 2 [a1]=some q1:=f1
 obtain ⟨q2,s2⟩:=some6 2 (by decide)
 have f2:DataW.trod enc Tryz.prog w 0 (fun _=>true) true n 2 (([a0,a1,a2,a3,a4,z0,z1,z2,z3,z4,z5,y0,y1,y2,y3,y4,y5].drop 2).take (Tryz.prog.cellsOf 2))=some q2:=(hf 2 _ rfl).trans s2
 rw [cells_i6R] at f2
 replace f2:DataW.trod enc Tryz.prog w 0 (fun _=>true) true n 2 [a2]=some q2:=f2
 obtain ⟨q3,s3⟩:=some6 3 (by decide)
 have f3:DataW.trod enc Tryz.prog w 0 (fun _=>true) true n 26 (([a0,a1,a2,a3,a4,z0,z1,z2,z3,z4,z5,y0,y1,y2,y3,y4,y5].drop 3).take (Tryz.prog.cellsOf 26))=some q3:=(hf 3 _ rfl).trans s3
 rw [cells_gsR] at f3
 replace f3:DataW.trod enc Tryz.prog w 0 (fun _=>true) true n 26 [a3]=some q3:=f3
 obtain ⟨q4,s4⟩:=some6 4 (by decide)
 have f4:DataW.trod enc Tryz.prog w 0 (fun _=>true) true n 22 (([a0,a1,a2,a3,a4,z0,z1,z2,z3,z4,z5,y0,y1,y2,y3,y4,y5].drop 4).take (Tryz.prog.cellsOf 22))=some q4:=(hf 4 _ rfl).trans s4
 rw [cells_bsR] at f4
 replace f4:DataW.trod enc Tryz.prog w 0 (fun _=>true) true n 22 [a4]=some q4:=f4
 obtain ⟨q5,s5⟩:=some6 5 (by decide)
 have f5:DataW.trod enc Tryz.prog w 0 (fun _=>true) true n 31 (([a0,a1,a2,a3,a4,z0,z1,z2,z3,z4,z5,y0,y1,y2,y3,y4,y5].drop 5).take (Tryz.prog.cellsOf 31))=some q5:=(hf 5 _ rfl).trans s5
 rw [cells_sgR] at f5
 replace f5:DataW.trod enc Tryz.prog w 0 (fun _=>true) true n 31 [z0,z1,z2,z3,z4,z5,y0,y1,y2,y3,y4,y5]=some q5:=f5
 obtain ⟨I,hI,wI⟩:=open_name f0
 obtain ⟨n1,e1,_,w1⟩:=DataW.trod_int Tryz.underlying2 f1
 obtain ⟨n2,e2,_,w2⟩:=DataW.trod_int Tryz.underlying2 f2
 obtain ⟨L,hL,wL⟩:=gone_open f3
 obtain ⟨D,hD,wD⟩:=bytes_open f4
 obtain ⟨r,s,hr,hs⟩:=open_sgR f5
 simp only [List.cons.injEq,and_true] at e1 e2
 subst e1 e2
 exact ⟨⟨I,n1,n2,L,D,r,s⟩,⟨a0,a3,a4,_,_,rfl,hI,hL,hD,hr,hs⟩,wI,wf_intN.1 w1,wf_intN.1 w2,wL,wD⟩
end Go.Proofs.YtohcdbifhnfcbaaGreatDoor
