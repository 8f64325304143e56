/- Manifests in memory. -/
import Derived.Test.YtnkipgbnnhahbaaCtPl
import Derived.Test.YtnkipgbnnhahbaaNmSpec
import Derived.Test.YtnkipgbnnhahbaaNmBase
import Derived.Test.YtnkipgbnnhahbaaRows
import Derived.ChangeArms
import Derived.ChangeOld
import Derived.Lib.ConvBytes
import Derived.Laws.AppendOwn
import Derived.Deep.WholeRow
import Derived.Deep.RegionHeld3
import Derived.Deep.DeepCutAuto
import Derived.Deep.DeepFit
namespace Go.Proofs.Ytnkipgbnnhahbaa
open Go.RowKit
structure Mf where
  ver : Int
  cls : Int
  ld : Int
  ln : Int
  nonce : List Int
  wrapped : List Int
  digest : List Int
/-- as it lies: seven cells -/
def MfAt (w : World) (m : Mf) (cs : List Value) : Prop := ∃ nv wv dv, cs = [.int .i64 m.ver, .int .i64 m.cls, .int .i64 m.ld, .int .i64 m.ln, nv, wv, dv] ∧ Bs w nv m.nonce ∧ Bs w wv m.wrapped ∧ Bs w dv m.digest
theorem MfAt.later {w w' : World} {m : Mf} {cs : List Value} (h : MfAt w m cs) (hb : Below w.heap.size w w') : MfAt w' m cs := by
  obtain ⟨nv, wv, dv, e, h1, h2, h3⟩ := h
  exact ⟨nv, wv, dv, e, h1.later hb, h2.later hb, h3.later hb⟩
theorem MfAt.len {w : World} {m : Mf} {cs : List Value} (h : MfAt w m cs) : cs.length = 7 := by
  obtain ⟨nv, wv, dv, rfl, -, -, -⟩ := h
  rfl
def i64B (x : Int) : Prop := -9223372036854775808 ≤ x ∧ x ≤ 9223372036854775807
/-- numbers that are ints, bytes that are bytes -/
def WfM (m : Mf) : Prop := (i64B m.ver ∧ i64B m.cls ∧ i64B m.ld ∧ i64B m.ln) ∧ byt m.nonce ∧ byt m.wrapped ∧ byt m.digest
def lensM (m : Mf) : Prop := m.nonce.length = 12 ∧ m.wrapped.length = 145 ∧ m.digest.length = 48
theorem MfAt.open {w : World} {m : Mf} {cs : List Value} (h : MfAt w m cs) : ∃ na nc wa wc da dc, (cs[0]? = some (.int .i64 m.ver) ∧ cs[1]? = some (.int .i64 m.cls) ∧ cs[2]? = some (.int .i64 m.ld) ∧ cs[3]? = some (.int .i64 m.ln)) ∧ (cs[4]? = some (.slice na m.nonce.length nc) ∧ cs[5]? = some (.slice wa m.wrapped.length wc) ∧ cs[6]? = some (.slice da m.digest.length dc)) ∧ Bs w (.slice na m.nonce.length nc) m.nonce ∧ Bs w (.slice wa m.wrapped.length wc) m.wrapped ∧ Bs w (.slice da m.digest.length dc) m.digest := by
  obtain ⟨nv, wv, dv, rfl, h1, h2, h3⟩ := h
  have k1 := h1
  have k2 := h2
  have k3 := h3
  obtain ⟨na, nc, rfl, -⟩ := h1
  obtain ⟨wa, wc, rfl, -⟩ := h2
  obtain ⟨da, dc, rfl, -⟩ := h3
  exact ⟨na, nc, wa, wc, da, dc, ⟨rfl, rfl, rfl, rfl⟩, ⟨rfl, rfl, rfl⟩, k1, k2, k3⟩
end Go.Proofs.Ytnkipgbnnhahbaa
