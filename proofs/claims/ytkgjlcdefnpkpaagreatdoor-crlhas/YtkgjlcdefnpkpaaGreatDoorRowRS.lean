/- Lists of revoked ones that are handed in, with the form's own reach. -/
import Derived.Test.YtkgjlcdefnpkpaaGreatDoorRowR
import Derived.ChangeArms
import Derived.ChangeOld
namespace Go.Proofs.YtkgjlcdefnpkpaaGreatDoor
open Go.ChangeShapes Go.WideShapes Go.ChangeAt Go.RowKit
theorem bytes_gn:Tryz.prog.bytesOf 54=32:=by kernel_rfl
/-- the types of a list's parts -/
def crTypes:List TypeId:=[23,2,2,24,25,30]
set_option maxRecDepth 20000 in
theorem open_crlS {H:Type} {enc:TypeId × Value→H} {w:World} {fuel:Nat} {cs:List Value} {x:DataW H × List MemPlace} (h:DataW.trod enc Tryz.prog w 0 (fun _=>true) true fuel 32 cs=some x) (hs:∀ n∈x.1.weights Tryz.prog 32,n≤reachBytes):∃ c:Cr,CrAt w c cs∧WfCr c∧c.gone.length * 32≤140737488351232:=by
 obtain ⟨c,hc,wc⟩:=open_crl h
 refine ⟨c,hc,wc,?_⟩
 obtain ⟨iv,gv,bv,rs,zs,hcs,-,hg,-,-,-⟩:=hc
 obtain ⟨xs,n,rfl,hx0,hl,hlen,hf⟩:=DataW.trod_struct Tryz.underlying32 h
 obtain ⟨q3,s3⟩:∃ y,xs[3]?=some y:=⟨_,List.getElem?_eq_getElem (by rw [hlen];decide)⟩
 have hs2:∀ n∈q3.1.weights Tryz.prog 24,n≤reachBytes:=fun n hn=>hs n (by
  rw [hx0]
  simp only [DataW.weights,Tryz.underlying32]
  exact DataW.weights_mem_each (j:=3) (t:=24) (d:=q3.1) (show crTypes[3]?=_ from rfl) (by rw [List.getElem?_map,s3];rfl) n hn)
 have f3:DataW.trod enc Tryz.prog w 0 (fun _=>true) true n 24 ((cs.drop 3).take (Tryz.prog.cellsOf 24))=some q3:=(hf 3 _ rfl).trans s3
 rw [cells_gsR,hcs] at f3
 replace f3:DataW.trod enc Tryz.prog w 0 (fun _=>true) true n 24 [gv]=some q3:=f3
 obtain ⟨ao,kc,hgv,-,-,-⟩:=hg
 rcases DataW.trod_slice Tryz.underlying24 f3 with ⟨e4,_⟩|⟨ad,len,cap,elems,rest,n',hn',e4,hx4,_,hlc,hcm,hel,hea,_,_⟩
 ·simp only [List.cons.injEq,and_true] at e4
  rw [hgv] at e4
  simp only [Value.slice.injEq] at e4
  omega
 ·simp only [List.cons.injEq,and_true] at e4
  rw [hgv] at e4
  simp only [Value.slice.injEq] at e4
  have s:=hs2 (((elems.map (·.1)).length + (rest.map (·.1)).length) * Tryz.prog.bytesOf 54) (by rw [hx4];simp [DataW.weights,Tryz.underlying24])
  rw [bytes_gn,List.length_map,List.length_map] at s
  simp only [reachBytes] at s
  omega
end Go.Proofs.YtkgjlcdefnpkpaaGreatDoor
