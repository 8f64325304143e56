/- Bytes that grow: owned rows through calls; bytes are told by their number; bytes as text. -/
import Derived.Test.YtpgidlnpcjbfhaaDoorRows
import Derived.Test.YtpgidlnpcjbfhaaDoorCFaultN
import Derived.Test.YtpgidlnpcjbfhaaDoorSpread
import Derived.Laws.BytesArg
import Derived.Deep.AppendLies
namespace Go.Proofs.YtpgidlnpcjbfhaaDoor
open Go.RowKit

theorem be_inj {A B : List Int} (hl : A.length = B.length) (hA : byt A) (hB : byt B) (h : beN A = beN B) : A = B := by
  have := pv256_inj A.reverse B.reverse (by simpa using hl) (byt_rev hA) (byt_rev hB) h
  simpa using congrArg List.reverse this

theorem Bs.alloc {w : World} {v : Value} {bs : List Int} (h : Bs w v bs) (o : Obj) : Bs (w.alloc o) v bs := h.later ((Below.refl _ _).alloc (Nat.le_refl _) o)

theorem Bs.lt {w : World} {b o n cap : Nat} {bs : List Int} (h : Bs w (.slice (some ⟨b, o, none⟩) n cap) bs) (hn : 0 < n) : b < w.heap.size := by
  obtain ⟨ao, c, e, -, -, h4⟩ := h
  simp only [Value.slice.injEq] at e
  obtain ⟨rfl, rfl, rfl⟩ := e
  obtain ⟨b', o', e', h5, -⟩ := h4 hn
  simp only [Option.some.injEq, Addr.mk.injEq] at e'
  rw [e'.1]; exact h5

theorem add_flat (g j : Nat) : (⟨g, 0, none⟩ : Addr).add j = ⟨g, j, none⟩ := by unfold Addr.add; split <;> simp_all

/-- a row of bytes of the call's own -/
def Own (w : World) (base : Nat) (v : Value) (n : Nat) (xs : List Int) : Prop := w.ownsRow base 5 1 v n (u8s xs)

theorem Own.later {w w' : World} {base : Nat} {v : Value} {n : Nat} {xs : List Int} (h : Own w base v n xs) (hb : Below w.heap.size w w') : Own w' base v n xs := by
  refine ⟨h.1, ?_⟩
  rcases h.2 with h0 | ⟨g, cap, cur, hv, hg, hh, h3⟩
  · exact .inl h0
  · refine .inr ⟨g, cap, cur, hv, hg, ?_, h3⟩
    rw [hb.block g (Array.getElem?_eq_some_iff.1 hh).1]; exact hh
theorem Own.alloc {w : World} {base : Nat} {v : Value} {n : Nat} {xs : List Int} (h : Own w base v n xs) (o : Obj) : Own (w.alloc o) base v n xs := h.later ((Below.refl _ _).alloc (Nat.le_refl _) o)
theorem Own.drew {w : World} {base : Nat} {v : Value} {n : Nat} {xs : List Int} (h : Own w base v n xs) : Own w.drew base v n xs := h

theorem Bs.grown {w w' : World} {b o n cap g : Nat} {bs : List Int} (h : Bs w (.slice (some ⟨b, o, none⟩) n cap) bs) (hg : w.grownBy w' (some g)) (hne : b ≠ g) : Bs w' (.slice (some ⟨b, o, none⟩) n cap) bs := by
  obtain ⟨ao, c, e, h2, h3, h4⟩ := h
  refine ⟨ao, c, e, h2, h3, fun hp => ?_⟩
  obtain ⟨b', o', e', h5, h6⟩ := h4 hp
  simp only [Value.slice.injEq] at e
  have eb : b' = b := by
    have := e.1.trans e'
    simp only [Option.some.injEq, Addr.mk.injEq] at this
    exact this.1.symm
  subst eb
  exact ⟨b', o', e', Nat.lt_of_lt_of_le h5 hg.size, fun j hj => hg.cell (h6 j hj) (by simpa using hne)⟩

theorem Blk.grown {w w' : World} {b g : Nat} {cs : List Value} (h : Blk w b cs) (hg : w.grownBy w' (some g)) (hne : b ≠ g) : Blk w' b cs := by
  have lt := h.lt
  obtain ⟨t, h⟩ := h
  exact ⟨t, by rw [hg.block b lt (by simpa using hne)]; exact h⟩

theorem conv_bs {w : World} {b o n cap : Nat} {bs : List Int} (h : Bs w (.slice (some ⟨b, o, none⟩) n cap) bs) (hn : 0 < n) : (convert 48 9 (.slice (some ⟨b, o, none⟩) n cap)).run Tryd.prog w = .ok (.string (strOfNums bs)) w := by
  obtain ⟨ao, c, e, -, -, h4⟩ := h
  simp only [Value.slice.injEq] at e
  obtain ⟨rfl, rfl, rfl⟩ := e
  obtain ⟨b', o', e', -, h6⟩ := h4 hn
  simp only [Option.some.injEq, Addr.mk.injEq] at e'
  obtain ⟨rfl, rfl, -⟩ := e'
  exact run_convert_bytes_arg w 48 5 Tryd.underlying48 Tryd.underlying5 b o bs.length _ bs rfl h6 9 Tryd.underlying9
end Go.Proofs.YtpgidlnpcjbfhaaDoor
