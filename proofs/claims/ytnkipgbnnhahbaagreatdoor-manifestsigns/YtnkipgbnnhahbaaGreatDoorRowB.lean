/- Bytes that are handed in: from the row's reading to the walk's words. -/
import Derived.Test.YtnkipgbnnhahbaaGreatDoorApBs
import Derived.Test.YtnkipgbnnhahbaaGreatDoorRows
import Derived.ProofKit
import Derived.OpenShut
import Derived.ShutString
import Derived.Deep.MidRow
namespace Go.Proofs.YtnkipgbnnhahbaaGreatDoor
open Go.ChangeShapes Go.WideShapes Go.ChangeAt Go.RowKit
theorem wf_byte {n:Int}:(Lit.int .u8 n).wf=true↔0≤n∧n < 256:=by
 have h1:IntKind.u8.min=0:=rfl
 have h2:IntKind.u8.max=255:=rfl
 simp [Lit.wf,h1,h2]
 omega
theorem row_bytes {w:World} {x:Addr} {len cap:Nat} {zs:List Int} (hl:len≤cap) (hm:cap≤maxLen) (hz:zs.length=cap) (hc:∀ i,i < zs.length→w.cell? (x.add i)=some (.int .u8 (zs.getD i 0))) (hw:∀ n∈zs,(Lit.int .u8 n).wf=true) :
  Bs w (.slice (some x) len cap) (zs.take len)∧byt (zs.take len):=by
 have ht:(zs.take len).length=len:=by simp;omega
 have hg:∀ j,j < len→(zs.take len).getD j 0=zs.getD j 0:=fun j hj=>by simp [List.getD_eq_getElem?_getD,hj]
 constructor
 ·refine ⟨_,cap,by rw [ht],hm,by omega,fun hp=>?_⟩
  rw [ht] at hp
  obtain ⟨b,o,spot⟩:=x
  have h0:=hc 0 (by omega)
  have hs:spot=none:=by simpa [Addr.add] using World.cell?_spot h0
  subst hs
  have hb:=World.block_lt_of_cell? w _ h0
  refine ⟨b,o,rfl,by simpa [Addr.add] using hb,fun j hj=>?_⟩
  rw [ht] at hj
  rw [hg j hj]
  have hj2:=hc j (by omega)
  rw [Addr.add_mid] at hj2
  exact hj2
 ·apply byt_of
  intro j hj
  rw [ht] at hj
  rw [hg j hj]
  have:zs.getD j 0∈zs:=by
   rw [List.getD_eq_getElem?_getD,List.getElem?_eq_getElem (by omega)]
   exact List.getElem_mem _
  exact wf_byte.1 (hw _ this)
end Go.Proofs.YtnkipgbnnhahbaaGreatDoor
