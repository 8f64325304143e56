/- Certificates as they lie. -/
import Derived.Test.YtnkipgbnnhahbaaNoTwo
import Derived.Test.YtnkipgbnnhahbaaNmBase
import Derived.Test.YtnkipgbnnhahbaaU6Pl
import Derived.Test.YtnkipgbnnhahbaaApUs
import Derived.Test.YtnkipgbnnhahbaaPmOidN
import Derived.Test.YtnkipgbnnhahbaaRows
namespace Go.Proofs.Ytnkipgbnnhahbaa
open Go.RowKit
/-- a slice of slices: each of its values is what P says -/
def SlAt {α : Type} (P : World → Value → α → Prop) (w : World) (v : Value) (L : List α) : Prop := ∃ ao cap, v = .slice ao L.length cap ∧ L.length ≤ cap ∧ cap ≤ maxLen ∧ (0 < L.length → ∃ b o, ao = some ⟨b, o, none⟩ ∧ b < w.heap.size ∧ ∀ i x, L[i]? = some x → ∃ u, w.cell? ⟨b, o + i, none⟩ = some u ∧ P w u x)
theorem SlAt.later {α : Type} {P : World → Value → α → Prop} (hP : ∀ {w w' : World} {u : Value} {x : α}, P w u x → Below w.heap.size w w' → P w' u x) {w w' : World} {v : Value} {L : List α} (h : SlAt P w v L) (hb : Below w.heap.size w w') : SlAt P w' v L := by
  obtain ⟨ao, cap, e, h1, h2, h3⟩ := h
  refine ⟨ao, cap, e, h1, h2, fun h0 => ?_⟩
  obtain ⟨b, o, e2, hl, hc⟩ := h3 h0
  refine ⟨b, o, e2, Nat.lt_of_lt_of_le hl hb.size, fun i x hx => ?_⟩
  obtain ⟨u, k1, k2⟩ := hc i x hx
  exact ⟨u, (hb.cell (p := ⟨b, o + i, none⟩) hl).trans k1, hP k2 hb⟩
theorem SlAt.nil0 {α : Type} {P : World → Value → α → Prop} (w : World) : SlAt P w (.slice none 0 0) [] := ⟨none, 0, rfl, Nat.zero_le _, Nat.zero_le _, fun h => absurd h (Nat.lt_irrefl 0)⟩
/-- lists of identifiers, of names -/
def OdsAt (w : World) (v : Value) (L : List (List Int)) : Prop := SlAt Us w v L
def NmsAt (w : World) (v : Value) (L : List (List Pn)) : Prop := SlAt NmAt w v L
theorem OdsAt.later {w w' : World} {v : Value} {L : List (List Int)} (h : OdsAt w v L) (hb : Below w.heap.size w w') : OdsAt w' v L := SlAt.later (P := Us) (fun h hb => Us.later h hb) h hb
theorem NmsAt.later {w w' : World} {v : Value} {L : List (List Pn)} (h : NmsAt w v L) (hb : Below w.heap.size w w') : NmsAt w' v L := SlAt.later (P := NmAt) (fun h hb => NmAt.later h hb) h hb
/-- a certificate -/
structure Ct where
  serial : List Int
  issuer : List Pn
  subject : List Pn
  frm : Int
  til : Int
  kx : Int
  ky : Int
  kn : Bool
  ca : Bool
  path : Int
  usage : Int
  uses : List (List Int)
  permit : List (List Pn)
  exclude : List (List Pn)
  odd : Bool
  body : List Int
  sr : Int
  ss : Int
/-- its 38 cells -/
def ctRow (sv iv jv : Value) (frm til : Int) (xs ys : List Value) (kn ca : Bool) (path usage : Int) (uv pv ev : Value) (odd : Bool) (bv : Value) (rs zs : List Value) : List Value :=
  [sv, iv, jv, .int .i64 frm, .int .i64 til] ++ (xs ++ ys ++ [.bool kn]) ++ [.bool ca, .int .i64 path, .int .i64 usage, uv, pv, ev, .bool odd, bv] ++ (rs ++ zs)
/-- a certificate as it lies -/
def CtAt (w : World) (c : Ct) (cs : List Value) : Prop := ∃ sv iv jv xs ys uv pv ev bv rs zs, cs = ctRow sv iv jv c.frm c.til xs ys c.kn c.ca c.path c.usage uv pv ev c.odd bv rs zs ∧ Bs w sv c.serial ∧ NmAt w iv c.issuer ∧ NmAt w jv c.subject ∧ U6 xs c.kx ∧ U6 ys c.ky ∧ OdsAt w uv c.uses ∧ NmsAt w pv c.permit ∧ NmsAt w ev c.exclude ∧ Bs w bv c.body ∧ U6 rs c.sr ∧ U6 zs c.ss
theorem CtAt.later {w w' : World} {c : Ct} {cs : List Value} (h : CtAt w c cs) (hb : Below w.heap.size w w') : CtAt w' c cs := by
  obtain ⟨sv, iv, jv, xs, ys, uv, pv, ev, bv, rs, zs, e, h1, h2, h3, h4, h5, h6, h7, h8, h9, h10, h11⟩ := h
  exact ⟨sv, iv, jv, xs, ys, uv, pv, ev, bv, rs, zs, e, h1.later hb, h2.later hb, h3.later hb, h4, h5, h6.later hb, h7.later hb, h8.later hb, h9.later hb, h10, h11⟩
theorem CtAt.len {w : World} {c : Ct} {cs : List Value} (h : CtAt w c cs) : cs.length = 38 := by
  obtain ⟨sv, iv, jv, xs, ys, uv, pv, ev, bv, rs, zs, rfl, -, -, -, h4, h5, -, -, -, -, h10, h11⟩ := h
  simp [ctRow, h4.len, h5.len, h10.len, h11.len]
/-- numbers that are ints, bytes that are bytes, words that are words -/
def WfC (c : Ct) : Prop := byt c.serial ∧ WfN c.issuer ∧ WfN c.subject ∧ (-9223372036854775808 ≤ c.frm ∧ c.frm < 9223372036854775808) ∧ (-9223372036854775808 ≤ c.til ∧ c.til < 9223372036854775808) ∧ (-9223372036854775808 ≤ c.path ∧ c.path < 9223372036854775808) ∧ (-9223372036854775808 ≤ c.usage ∧ c.usage < 9223372036854775808) ∧ (∀ l ∈ c.uses, wrd l) ∧ (∀ n ∈ c.permit, WfN n) ∧ (∀ n ∈ c.exclude, WfN n) ∧ byt c.body
end Go.Proofs.Ytnkipgbnnhahbaa
