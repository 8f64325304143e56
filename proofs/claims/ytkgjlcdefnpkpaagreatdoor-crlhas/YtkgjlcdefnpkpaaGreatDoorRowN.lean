/- Names that are handed in: from the row's reading to the walk's words. -/
import Derived.Test.YtkgjlcdefnpkpaaGreatDoorCtBase
import Derived.ChangeArms
import Derived.ChangeOld
namespace Go.Proofs.YtkgjlcdefnpkpaaGreatDoor
open Go.ChangeShapes Go.WideShapes Go.ChangeAt Go.RowKit
theorem cells_part:Tryz.prog.cellsOf 99=2:=by kernel_rfl
theorem cells_intN:Tryz.prog.cellsOf 3=1:=by kernel_rfl
theorem cells_strN:Tryz.prog.cellsOf 9=1:=by kernel_rfl
theorem wf_intN {n:Int}:(Lit.int .i64 n).wf=true↔-9223372036854775808≤n∧n < 9223372036854775808:=by
 have h1:IntKind.i64.min=-9223372036854775808:=rfl
 have h2:IntKind.i64.max=9223372036854775807:=rfl
 simp [Lit.wf,h1,h2]
 omega
theorem cells_two {w:World} {a:Addr} {cs:List Value} (h:w.cells? 0 a 2=some cs):cs.length=2∧∀ j v,cs[j]?=some v→w.cell? (a.add j)=some v:=by
 unfold World.cells? at h
 rw [if_pos (Nat.zero_le _)] at h
 have e:List.range 2=[0,1]:=rfl
 rw [e] at h
 simp only [List.mapM_cons,List.mapM_nil,Option.bind_eq_bind,Option.pure_def,Option.bind_eq_some_iff,Option.some.injEq] at h
 obtain ⟨v0,h0,t0,⟨v1,h1,t1,rfl,rfl⟩,rfl⟩:=h
 refine ⟨rfl,fun j v hj=>?_⟩
 match j,hj with
 | 0,hj=>rw [h0];simpa using hj
 | 1,hj=>rw [h1];simpa using hj
theorem add_noneN (b o j:Nat):(⟨b,o,none⟩:Addr).add j=⟨b,o + j,none⟩:=by unfold Addr.add;split<;>simp_all
theorem str_nums (s:ByteArray):strOfNums (s.data.toList.map fun b=>(b.toNat:Int))=s:=by
 have e:∀ l:List UInt8,l.map ((fun n:Int=>UInt8.ofNat n.toNat) ∘ fun b:UInt8=>((b.toNat:Nat):Int))=l:=fun l=>by
  induction l with
  | nil=>rfl
  | cons a l ih=>rw [List.map_cons,ih];simp
 apply ByteArray.ext
 simp [strOfNums,e]
theorem nums_byt (l:List UInt8):byt (l.map fun b=>(b.toNat:Int)):=fun j=>by
 by_cases h:j < l.length
 ·have hl:=l[j].toNat_lt
  rw [List.getD_eq_getElem?_getD,List.getElem?_map,List.getElem?_eq_getElem h]
  simp only [Option.map_some,Option.getD_some]
  omega
 ·rw [List.getD_eq_getElem?_getD,List.getElem?_eq_none (by simpa using h)]
  decide
set_option maxRecDepth 10000 in
theorem open_part {H:Type} {enc:TypeId × Value→H} {w:World} {fuel:Nat} {cs:List Value} {x:DataW H × List MemPlace} (h:DataW.trod enc Tryz.prog w 0 (fun _=>true) true fuel 99 cs=some x):∃ p:Pn,cs=[.int .i64 p.1,.string (strOfNums p.2)]∧(-9223372036854775808≤p.1∧p.1 < 9223372036854775808)∧byt p.2∧p.2.length≤maxLen:=by
 obtain ⟨xs,n,rfl,_,hl,hlen,hf⟩:=DataW.trod_struct Tryz.underlying99 h
 rw [cells_part] at hl
 match cs,hl with
 | [a,b],_ =>
 have some2:∀ i,i < 2→∃ y,xs[i]?=some y:=fun i hi=>⟨_,List.getElem?_eq_getElem (by rw [hlen];exact hi)⟩
 obtain ⟨y0,s0⟩:=some2 0 (by decide)
 obtain ⟨y1,s1⟩:=some2 1 (by decide)
 have f0:DataW.trod enc Tryz.prog w 0 (fun _=>true) true n 3 (([a,b].drop 0).take (Tryz.prog.cellsOf 3))=some y0:=(hf 0 _ rfl).trans s0
 rw [cells_intN] at f0
 replace f0:DataW.trod enc Tryz.prog w 0 (fun _=>true) true n 3 [a]=some y0:=f0
 have f1:DataW.trod enc Tryz.prog w 0 (fun _=>true) true n 9 (([a,b].drop 1).take (Tryz.prog.cellsOf 9))=some y1:=(hf 1 _ rfl).trans s1
 rw [cells_strN] at f1
 replace f1:DataW.trod enc Tryz.prog w 0 (fun _=>true) true n 9 [b]=some y1:=f1
 obtain ⟨n0,e0,_,w0⟩:=DataW.trod_int Tryz.underlying3 f0
 obtain ⟨s,e1,_,hsz⟩:=DataW.trod_string Tryz.underlying9 f1
 simp only [List.cons.injEq,and_true] at e0 e1
 subst e0 e1
 exact ⟨(n0,s.data.toList.map fun b=>(b.toNat:Int)),by rw [str_nums],wf_intN.1 w0,nums_byt _,by rw [List.length_map];exact hsz⟩
theorem parts_open {w:World} {x:Addr}:∀ (n:Nat),(∀ i,i < n→∃ p:Pn,(w.cell? (x.add (i * 2))=some (.int .i64 p.1)∧w.cell? (x.add (i * 2 + 1))=some (.string (strOfNums p.2)))∧(-9223372036854775808≤p.1∧p.1 < 9223372036854775808)∧byt p.2∧p.2.length≤maxLen)→∃ ps:List Pn,ps.length=n∧WfN ps∧∀ i p,ps[i]?=some p→w.cell? (x.add (i * 2))=some (.int .i64 p.1)∧w.cell? (x.add (i * 2 + 1))=some (.string (strOfNums p.2))
 | 0,_=>⟨[],rfl,fun i p h=>by simp at h,fun i k h=>by simp at h⟩
 | n + 1,h=>by
  obtain ⟨ps,h1,h2,h3⟩:=parts_open n (fun i hi=>h i (by omega))
  obtain ⟨p,c1,c2,c3⟩:=h n (by omega)
  have key:∀ i q,(ps++[p])[i]?=some q→(ps[i]?=some q)∨(i=n∧q=p):=fun i q hq=>by
   by_cases hi:i < ps.length
   ·rw [List.getElem?_append_left hi] at hq
    exact .inl hq
   ·have hl:=(List.getElem?_eq_some_iff.1 hq).1
    rw [List.length_append] at hl
    have ei:i=n:=by simp at hl;omega
    subst ei
    rw [List.getElem?_append_right (by omega),h1,Nat.sub_self] at hq
    simp at hq
    exact .inr ⟨rfl,hq.symm⟩
  refine ⟨ps++[p],by rw [List.length_append,h1];rfl,fun i q hq=>?_,fun i q hq=>?_⟩
  ·rcases key i q hq with h|⟨rfl,rfl⟩
   ·exact h2 i q h
   ·exact ⟨c2,c3⟩
  ·rcases key i q hq with h|⟨rfl,rfl⟩
   ·exact h3 i q h
   ·exact c1
/-- what reads as a name is one -/
theorem open_nameL {H:Type} {enc:TypeId × Value→H} {w:World} {fuel:Nat} {v:Value} {x:DataW H × List MemPlace} (h:DataW.trod enc Tryz.prog w 0 (fun _=>true) true fuel 23 [v]=some x):∃ n,NmAt w v n∧WfN n∧((x.1=.nil∧n.length=0)∨∃ e r,x.1=.slice e r∧n.length=e.length):=by
 rcases DataW.trod_slice Tryz.underlying23 h with ⟨e4,ex⟩|⟨ad,len,cap,elems,rest,n',hn',e4,ex,_,hlc,hcm,hel,hea,_,_⟩
 ·simp only [List.cons.injEq,and_true] at e4
  subst e4
  exact ⟨[],NmAt.nil0 w,fun i p h=>(by simp at h),.inl ⟨by rw [ex],rfl⟩⟩
 ·simp only [List.cons.injEq,and_true] at e4
  subst e4
  have each:∀ i,i < len→∃ p:Pn,(w.cell? (ad.add (i * 2))=some (.int .i64 p.1)∧w.cell? (ad.add (i * 2 + 1))=some (.string (strOfNums p.2)))∧(-9223372036854775808≤p.1∧p.1 < 9223372036854775808)∧byt p.2∧p.2.length≤maxLen:=fun i hi=>by
   have hi2:=hea i hi
   rw [cells_part,List.getElem?_eq_getElem (by omega)] at hi2
   obtain ⟨cs,hc1,hc2⟩:=Option.bind_eq_some_iff.1 hi2
   obtain ⟨p,rfl,t1,t2⟩:=open_part hc2
   have k:=(cells_two hc1).2
   have k0:=k 0 _ rfl
   have k1:=k 1 _ rfl
   rw [Addr.add_add] at k0 k1
   exact ⟨p,⟨k0,k1⟩,t1,t2⟩
  obtain ⟨ps,k1,k2,k3⟩:=parts_open len each
  refine ⟨ps,⟨some ad,cap,by rw [k1],by omega,hcm,fun h0=>?_⟩,k2,.inr ⟨elems.map (·.1),rest.map (·.1),by rw [ex],by rw [k1,List.length_map,hel]⟩⟩
  obtain ⟨g,o,spot⟩:=ad
  obtain ⟨k,hk⟩:∃ k,ps[0]?=some k:=⟨_,List.getElem?_eq_getElem h0⟩
  have c0:=(k3 0 k hk).1
  have hs:spot=none:=by simpa [Addr.add] using World.cell?_spot c0
  subst hs
  have hb:=World.block_lt_of_cell? w _ c0
  refine ⟨g,o,rfl,by simpa [Addr.add] using hb,fun i p hp=>?_⟩
  have:=k3 i p hp
  rw [add_noneN,add_noneN] at this
  exact this
theorem open_name {H:Type} {enc:TypeId × Value→H} {w:World} {fuel:Nat} {v:Value} {x:DataW H × List MemPlace} (h:DataW.trod enc Tryz.prog w 0 (fun _=>true) true fuel 23 [v]=some x):∃ n,NmAt w v n∧WfN n:=by
 obtain ⟨n,h1,h2,_⟩:=open_nameL h
 exact ⟨n,h1,h2⟩
end Go.Proofs.YtkgjlcdefnpkpaaGreatDoor
