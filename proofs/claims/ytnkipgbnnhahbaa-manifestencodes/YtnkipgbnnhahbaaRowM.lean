/- Bytes that are handed in: from the row's reading to the walk's words. Elements that are handed in: from the row's reading to the walk's words. Manifests that are handed in: from the row's reading to the walk's words. -/
import Derived.Test.YtnkipgbnnhahbaaApBs
import Derived.Test.YtnkipgbnnhahbaaDrDep
import Derived.Test.YtnkipgbnnhahbaaMfSpec
import Derived.Test.YtnkipgbnnhahbaaRows
import Derived.ProofKit
import Derived.OpenShut
import Derived.ShutString
import Derived.Deep.MidRow
import Derived.ChangeArms
import Derived.ChangeOld
namespace Go.Proofs.Ytnkipgbnnhahbaa
open Go.ChangeShapes Go.WideShapes Go.ChangeAt Go.RowKit
theorem wf_byte {n:Int}:(Lit.int .u8 n).wf=true↔0≤n∧n < 256:=by
 have h1:IntKind.u8.min=0:=rfl
 have h2:IntKind.u8.max=255:=rfl
 simp [Lit.wf,h1,h2]
 omega
theorem row_bytes {w:World} {x:Addr} {len cap:Nat} {zs:List Int} (hl:len≤cap) (hm:cap≤maxLen) (hz:zs.length=cap) (hc:∀ i,i < zs.length→w.cell? (x.add i)=some (.int .u8 (zs.getD i 0))) (hw:∀ n∈zs,(Lit.int .u8 n).wf=true) :
  Bs w (.slice (some x) len cap) (zs.take len)∧byt (zs.take len):=by
 have ht:(zs.take len).length=len:=by simp;omega
 have hg:∀ j,j < len→(zs.take len).getD j 0=zs.getD j 0:=fun j hj=>by simp [List.getD_eq_getElem?_getD,hj]
 constructor
 ·refine ⟨_,cap,by rw [ht],hm,by omega,fun hp=>?_⟩
  rw [ht] at hp
  obtain ⟨b,o,spot⟩:=x
  have h0:=hc 0 (by omega)
  have hs:spot=none:=by simpa [Addr.add] using World.cell?_spot h0
  subst hs
  have hb:=World.block_lt_of_cell? w _ h0
  refine ⟨b,o,rfl,by simpa [Addr.add] using hb,fun j hj=>?_⟩
  rw [ht] at hj
  rw [hg j hj]
  have hj2:=hc j (by omega)
  rw [Addr.add_mid] at hj2
  exact hj2
 ·apply byt_of
  intro j hj
  rw [ht] at hj
  rw [hg j hj]
  have:zs.getD j 0∈zs:=by
   rw [List.getD_eq_getElem?_getD,List.getElem?_eq_getElem (by omega)]
   exact List.getElem_mem _
  exact wf_byte.1 (hw _ this)
theorem bytes_open {H:Type} {enc:TypeId × Value→H} {w:World} {fuel:Nat} {v:Value} {x:DataW H × List MemPlace} (h:DataW.trod enc Try.prog w 0 (fun _=>true) true fuel 22 [v]=some x):∃ bs,Bs w v bs∧byt bs:=by
 rcases open_ints Try.underlying22 Try.underlying5 (by kernel_rfl) h with ⟨hcs,_⟩|⟨a,l,c,zs,hcs,_,hl,hm,hz,_,hcell,hwz⟩
 ·simp at hcs
  subst hcs
  exact ⟨[],⟨none,0,rfl,Nat.zero_le _,Nat.le_refl _,fun h=>absurd h (by simp)⟩,fun j=>by simp⟩
 ·simp at hcs
  subst hcs
  have:=row_bytes hl hm (by simpa using hz) hcell hwz
  exact ⟨_,this.1,this.2⟩
theorem cells_mfM:Try.prog.cellsOf 24=7:=by kernel_rfl
theorem cells_bsM:Try.prog.cellsOf 22=1:=by kernel_rfl
theorem cells_i6M:Try.prog.cellsOf 3=1:=by kernel_rfl
theorem wf_intM {n:Int} (h:(Lit.int .i64 n).wf=true):i64B n:=by
 have h1:IntKind.i64.min=-9223372036854775808:=rfl
 have h2:IntKind.i64.max=9223372036854775807:=rfl
 simp [Lit.wf,h1,h2] at h
 exact ⟨by omega,by omega⟩
set_option maxRecDepth 20000 in
set_option maxHeartbeats 1000000 in
theorem open_mf {H:Type} {enc:TypeId × Value→H} {w:World} {fuel:Nat} {cs:List Value} {x:DataW H × List MemPlace} (h:DataW.trod enc Try.prog w 0 (fun _=>true) true fuel 24 cs=some x):∃ m:Mf,MfAt w m cs∧WfM m:=by
 obtain ⟨xs,n,rfl,_,hl,hlen,hf⟩:=DataW.trod_struct Try.underlying24 h
 rw [cells_mfM] at hl
 obtain ⟨a0,a1,a2,a3,a4,a5,a6,rfl⟩:∃ a0 a1 a2 a3 a4 a5 a6,cs=[a0,a1,a2,a3,a4,a5,a6]:=by
  match cs,hl with
  | [a0,a1,a2,a3,a4,a5,a6],_=>exact ⟨a0,a1,a2,a3,a4,a5,a6,rfl⟩
 have some7:∀ i,i < 7→∃ y,xs[i]?=some y:=fun i hi=>⟨_,List.getElem?_eq_getElem (by rw [hlen];exact hi)⟩
 obtain ⟨q0,s0⟩:=some7 0 (by decide)
 have f0:DataW.trod enc Try.prog w 0 (fun _=>true) true n 3 (([a0,a1,a2,a3,a4,a5,a6].drop 0).take (Try.prog.cellsOf 3))=some q0:=(hf 0 _ rfl).trans s0
 rw [cells_i6M] at f0
 replace f0:DataW.trod enc Try.prog w 0 (fun _=>true) true n 3 [a0]=some q0:=f0
 obtain ⟨q1,s1⟩:=some7 1 (by decide)
 have f1:DataW.trod enc Try.prog w 0 (fun _=>true) true n 3 (([a0,a1,a2,a3,a4,a5,a6].drop 1).take (Try.prog.cellsOf 3))=some q1:=(hf 1 _ rfl).trans s1
 rw [cells_i6M] at f1
 replace f1:DataW.trod enc Try.prog w 0 (fun _=>true) true n 3 [a1]=some q1:=f1
 obtain ⟨q2,s2⟩:=some7 2 (by decide)
 have f2:DataW.trod enc Try.prog w 0 (fun _=>true) true n 3 (([a0,a1,a2,a3,a4,a5,a6].drop 2).take (Try.prog.cellsOf 3))=some q2:=(hf 2 _ rfl).trans s2
 rw [cells_i6M] at f2
 replace f2:DataW.trod enc Try.prog w 0 (fun _=>true) true n 3 [a2]=some q2:=f2
 obtain ⟨q3,s3⟩:=some7 3 (by decide)
 have f3:DataW.trod enc Try.prog w 0 (fun _=>true) true n 3 (([a0,a1,a2,a3,a4,a5,a6].drop 3).take (Try.prog.cellsOf 3))=some q3:=(hf 3 _ rfl).trans s3
 rw [cells_i6M] at f3
 replace f3:DataW.trod enc Try.prog w 0 (fun _=>true) true n 3 [a3]=some q3:=f3
 obtain ⟨q4,s4⟩:=some7 4 (by decide)
 have f4:DataW.trod enc Try.prog w 0 (fun _=>true) true n 22 (([a0,a1,a2,a3,a4,a5,a6].drop 4).take (Try.prog.cellsOf 22))=some q4:=(hf 4 _ rfl).trans s4
 rw [cells_bsM] at f4
 replace f4:DataW.trod enc Try.prog w 0 (fun _=>true) true n 22 [a4]=some q4:=f4
 obtain ⟨q5,s5⟩:=some7 5 (by decide)
 have f5:DataW.trod enc Try.prog w 0 (fun _=>true) true n 22 (([a0,a1,a2,a3,a4,a5,a6].drop 5).take (Try.prog.cellsOf 22))=some q5:=(hf 5 _ rfl).trans s5
 rw [cells_bsM] at f5
 replace f5:DataW.trod enc Try.prog w 0 (fun _=>true) true n 22 [a5]=some q5:=f5
 obtain ⟨q6,s6⟩:=some7 6 (by decide)
 have f6:DataW.trod enc Try.prog w 0 (fun _=>true) true n 22 (([a0,a1,a2,a3,a4,a5,a6].drop 6).take (Try.prog.cellsOf 22))=some q6:=(hf 6 _ rfl).trans s6
 rw [cells_bsM] at f6
 replace f6:DataW.trod enc Try.prog w 0 (fun _=>true) true n 22 [a6]=some q6:=f6
 obtain ⟨n0,e0,_,w0⟩:=DataW.trod_int Try.underlying3 f0
 obtain ⟨n1,e1,_,w1⟩:=DataW.trod_int Try.underlying3 f1
 obtain ⟨n2,e2,_,w2⟩:=DataW.trod_int Try.underlying3 f2
 obtain ⟨n3,e3,_,w3⟩:=DataW.trod_int Try.underlying3 f3
 obtain ⟨S4,h4,b4⟩:=bytes_open f4
 obtain ⟨S5,h5,b5⟩:=bytes_open f5
 obtain ⟨S6,h6,b6⟩:=bytes_open f6
 simp only [List.cons.injEq,and_true] at e0 e1 e2 e3
 subst e0 e1 e2 e3
 exact ⟨⟨n0,n1,n2,n3,S4,S5,S6⟩,⟨a4,a5,a6,rfl,h4,h5,h6⟩,⟨wf_intM w0,wf_intM w1,wf_intM w2,wf_intM w3⟩,b4,b5,b6⟩
end Go.Proofs.Ytnkipgbnnhahbaa
