/- What limb.Less answers of rows of cells. What limb.From answers, as a row of cells. What limb.Bytes answers of a row of cells. What order.N answers, as a row of cells. What order.Decode answers, as a row of cells. What limb.Same answers of rows of cells. What order.Digest answers. -/
import Derived.Test.YtjpnbbhpgchbpaaGreatDoorRows
import Derived.Test.YtjpnbbhpgchbpaaGreatDoorEdG
import Derived.Test.YtjpnbbhpgchbpaaGreatDoorLimb
import Derived.Deep.WholeRow
import Derived.Deep.RegionHeld3
import Derived.Test.YtjpnbbhpgchbpaaGreatDoorFrom
import Derived.Test.YtjpnbbhpgchbpaaGreatDoorLBytes
import Derived.Test.YtjpnbbhpgchbpaaGreatDoorOBase
import Derived.Test.YtjpnbbhpgchbpaaGreatDoorODecode
import Derived.Test.YtjpnbbhpgchbpaaGreatDoorODigest
import Derived.Deep.DeepCutAuto
import Derived.Deep.DeepFit
namespace Go.Proofs.YtjpnbbhpgchbpaaGreatDoor
open Go.RowKit

theorem uLess {cs ds : List Value} {x y : Int} {w : World} (h : U6 cs x) (k : U6 ds y) : Calls Tryz.prog 73 #[.agg cs.toArray, .agg ds.toArray] w fun e w' => e = .returned (.int .u64 (if x < y then 1 else 0)) ∧ Below w.heap.size w w' := by
  obtain ⟨z0, z1, z2, z3, z4, z5, rfl, hf, rfl⟩ := h
  obtain ⟨y0, y1, y2, y3, y4, y5, rfl, kf, rfl⟩ := k
  refine (less6 hf kf).mono ?_
  rintro e w' ⟨rfl, hb⟩
  exact ⟨rfl, hb⟩
end Go.Proofs.YtjpnbbhpgchbpaaGreatDoor

namespace Go.Proofs.YtjpnbbhpgchbpaaGreatDoor
open Go.RowKit

theorem uFrom {v : Value} {D : List Int} {w : World} (hv : Bs w v D) (hD : byt D) (hl : D.length = 48) : Calls Tryz.prog 38 #[v] w fun e w' => ∃ es, e = .returned (.tuple #[.agg es.toArray, .nilIface]) ∧ U6 es (beN D) ∧ Below w.heap.size w w' := by
  refine (from6 hv hl hD).mono ?_
  rintro e w' ⟨y0, y1, y2, y3, y4, y5, rfl, fy, hy, hb⟩
  exact ⟨_, rfl, ⟨y0, y1, y2, y3, y4, y5, rfl, fy, hy⟩, hb⟩
end Go.Proofs.YtjpnbbhpgchbpaaGreatDoor

namespace Go.Proofs.YtjpnbbhpgchbpaaGreatDoor
open Go.RowKit

theorem uBytes {cs : List Value} {x : Int} {w : World} (h : U6 cs x) : Calls Tryz.prog 57 #[.agg cs.toArray] w fun e w' => ∃ (g : Nat) (X : List Int), e = .returned (.slice (some ⟨g, 0, none⟩) 48 48) ∧ Blk w' g (u8s X) ∧ X.length = 48 ∧ byt X ∧ beN X = x ∧ Below w.heap.size w w' := by
  obtain ⟨z0, z1, z2, z3, z4, z5, rfl, hf, rfl⟩ := h
  refine (bytes_any [z0, z1, z2, z3, z4, z5] w rfl hf).mono ?_
  rintro e w' ⟨g, rfl, B, hb⟩
  exact ⟨g, _, rfl, B, bytesOf_len _, bytesOf_byt _, bytesOf_num _ rfl hf, hb⟩
end Go.Proofs.YtjpnbbhpgchbpaaGreatDoor

namespace Go.Proofs.YtjpnbbhpgchbpaaGreatDoor
open Go.RowKit

theorem uN {w : World} (G : GlsO w) : Calls Tryz.prog 74 #[] w fun e w' => ∃ es, e = .returned (.agg es.toArray) ∧ U6 es QQ ∧ Below w.heap.size w w' := by
  refine (on6 G).mono ?_
  rintro e w' ⟨rfl, hb⟩
  exact ⟨_, rfl, ⟨_, _, _, _, _, _, rfl, fits6 (by decide), by decide +kernel⟩, hb⟩
end Go.Proofs.YtjpnbbhpgchbpaaGreatDoor

namespace Go.Proofs.YtjpnbbhpgchbpaaGreatDoor
open Go.RowKit

theorem uODec {v : Value} {D : List Int} {w : World} (G : GlsO w) (hv : Bs w v D) (hD : byt D) (hl : D.length = 48) (hs : isSc (beN D)) : Calls Tryz.prog 100 #[v] w fun e w' => ∃ es, e = .returned (.tuple #[.agg es.toArray, .nilIface]) ∧ U6 es (beN D) ∧ Below w.heap.size w w' := by
  refine (odecode_ok G hv hl hD (by have := hs.1; omega) hs.2).mono ?_
  rintro e w' ⟨y0, y1, y2, y3, y4, y5, rfl, fy, hy, hb⟩
  exact ⟨_, rfl, ⟨y0, y1, y2, y3, y4, y5, rfl, fy, hy⟩, hb⟩
theorem uODecNo {v : Value} {D : List Int} {w : World} (G : GlsO w) (hv : Bs w v D) (hD : byt D) (hl : D.length = 48) (h0 : 0 ≤ beN D) (hs : ¬ isSc (beN D)) : Calls Tryz.prog 100 #[v] w fun e w' => e = .returned (.tuple #[.agg #[.int .u64 0, .int .u64 0, .int .u64 0, .int .u64 0, .int .u64 0, .int .u64 0], .iface 34 (.int .i64 3)]) ∧ Below w.heap.size w w' := by
  by_cases z : beN D = 0
  · exact odecode_zero hv hl hD z
  · exact odecode_range G hv hl hD (by unfold isSc at hs; omega)
end Go.Proofs.YtjpnbbhpgchbpaaGreatDoor

namespace Go.Proofs.YtjpnbbhpgchbpaaGreatDoor
open Go.RowKit

theorem uSame {cs ds : List Value} {x y : Int} {w : World} (h : U6 cs x) (k : U6 ds y) : Calls Tryz.prog 72 #[.agg cs.toArray, .agg ds.toArray] w fun e w' => e = .returned (.int .u64 (if x = y then 1 else 0)) ∧ Below w.heap.size w w' := by
  obtain ⟨z0, z1, z2, z3, z4, z5, rfl, hf, rfl⟩ := h
  obtain ⟨y0, y1, y2, y3, y4, y5, rfl, kf, rfl⟩ := k
  refine (same_is hf kf rfl rfl).mono ?_
  rintro e w' ⟨rfl, hb⟩
  exact ⟨rfl, hb⟩
end Go.Proofs.YtjpnbbhpgchbpaaGreatDoor

namespace Go.Proofs.YtjpnbbhpgchbpaaGreatDoor
open Go.RowKit
theorem uDigest {v : Value} {D : List Int} {w : World} (G : GlsO w) (hv : Bs w v D) (hD : byt D) (hl : D.length = 48) : Calls Tryz.prog 10 #[v] w fun e w' => ∃ es, e = .returned (.tuple #[.agg es.toArray, .nilIface]) ∧ U6 es (beN D % QQ) ∧ Below w.heap.size w w' := by
  refine (digest_ok G hv hl hD).mono ?_
  rintro e w' ⟨y0, y1, y2, y3, y4, y5, rfl, fy, hy, hb⟩
  exact ⟨_, rfl, ⟨y0, y1, y2, y3, y4, y5, rfl, fy, hy⟩, hb⟩
end Go.Proofs.YtjpnbbhpgchbpaaGreatDoor
