/- Elements as trees, and as they lie. -/
import Derived.Test.YtnkipgbnnhahbaaDoorBase
import Derived.Test.YtnkipgbnnhahbaaDoorByt
namespace Go.Proofs.YtnkipgbnnhahbaaDoor
open Go.RowKit
/-- an element -/
inductive Tl where
 | mk (c t:Int) (m:Bool) (b:List Int) (ks:List Tl)
mutual
/-- how many elements it has in it, with itself -/
def szT:Tl→Nat
 | .mk _ _ _ _ ks=>1 + szL ks
def szL:List Tl→Nat
 | []=>0
 | k :: ks=>szT k + szL ks
end
/-- cells that lie somewhere -/
def CsAt (w:World) (g o:Nat) (cs:List Value):Prop:=g < w.heap.size∧∀ j v,cs[j]?=some v→w.cell? ⟨g,o + j,none⟩=some v
theorem CsAt.later {w w':World} {g o:Nat} {cs:List Value} (h:CsAt w g o cs) (hb:Below w.heap.size w w'):CsAt w' g o cs :=
 ⟨Nat.lt_of_lt_of_le h.1 hb.size,fun j v hj=>(hb.cell (p:=⟨g,o + j,none⟩) h.1).trans (h.2 j v hj)⟩
mutual
/-- an element as five cells tell it -/
def TlAt (w:World):Tl→List Value→Prop
 | .mk c t m b ks,cs=>∃ bv ao cap,cs=[.int .i64 c,.int .i64 t,.bool m,bv,.slice ao ks.length cap]∧Bs w bv b∧ks.length≤cap∧cap≤maxLen∧(0 < ks.length→∃ g o,ao=some ⟨g,o,none⟩∧KidsAt w ks g o)
def KidsAt (w:World):List Tl→Nat→Nat→Prop
 | [],_,_=>True
 | k :: ks,g,o=>(∃ cs,CsAt w g o cs∧TlAt w k cs)∧KidsAt w ks g (o + 5)
end
theorem TlAt.five {w:World}:∀ {t:Tl} {cs:List Value},TlAt w t cs→cs.length=5
 | .mk ..,_,h=>by
  rw [TlAt] at h
  obtain ⟨_,_,_,rfl,_⟩:=h
  rfl
mutual
theorem TlAt.later {w w':World} (hb:Below w.heap.size w w'):∀ {t:Tl} {cs:List Value},TlAt w t cs→TlAt w' t cs
 | .mk c t m b ks,cs,h=>by
  rw [TlAt] at h ⊢
  obtain ⟨bv,ao,cap,h1,h2,h3,h4,h5⟩:=h
  refine ⟨bv,ao,cap,h1,h2.later hb,h3,h4,fun h0=>?_⟩
  obtain ⟨g,o,e,hk⟩:=h5 h0
  exact ⟨g,o,e,KidsAt.later hb hk⟩
theorem KidsAt.later {w w':World} (hb:Below w.heap.size w w'):∀ {ks:List Tl} {g o:Nat},KidsAt w ks g o→KidsAt w' ks g o
 | [],_,_,_=>by rw [KidsAt];trivial
 | k :: ks,g,o,h=>by
  rw [KidsAt] at h ⊢
  obtain ⟨⟨cs,h1,h2⟩,h3⟩:=h
  exact ⟨⟨cs,h1.later hb,TlAt.later hb h2⟩,KidsAt.later hb h3⟩
end
theorem KidsAt.get {w:World}:∀ {ks:List Tl} {g o i:Nat} {k:Tl},KidsAt w ks g o→ks[i]?=some k→∃ cs,CsAt w g (o + 5 * i) cs∧TlAt w k cs
 | [],_,_,i,_,_,h=>by simp at h
 | x :: xs,g,o,0,k,h,e=>by
  rw [KidsAt] at h
  simp at e
  subst e
  exact h.1
 | x :: xs,g,o,i + 1,k,h,e=>by
  rw [KidsAt] at h
  rw [List.getElem?_cons_succ] at e
  have:=KidsAt.get h.2 e
  rw [show o + 5 * (i + 1)=o + 5 + 5 * i by omega]
  exact this
mutual
/-- numbers that are ints, bytes that are bytes -/
def WfT:Tl→Prop
 | .mk c t _ b ks=>(-9223372036854775808≤c∧c < 9223372036854775808)∧(-9223372036854775808≤t∧t < 9223372036854775808)∧byt b∧WfL ks
def WfL:List Tl→Prop
 | []=>True
 | k :: ks=>WfT k∧WfL ks
end
theorem WfL.get:∀ {ks:List Tl} {i:Nat} {k:Tl},WfL ks→ks[i]?=some k→WfT k
 | [],i,k,_,h=>by simp at h
 | x :: xs,0,k,h,e=>by
  rw [WfL] at h
  simp at e
  subst e
  exact h.1
 | x :: xs,i + 1,k,h,e=>by
  rw [WfL] at h
  rw [List.getElem?_cons_succ] at e
  exact WfL.get h.2 e
/-- may one element be, what is in it aside? -/
def fine1 (c t:Int) (m:Bool) (b:List Int) (ks:List Tl):Bool:=decide (0≤c) && decide (c≤3) && decide (0≤t) && decide (t≤30) && !(m && decide (0 < b.length)) && !(!m && decide (0 < ks.length))
mutual
def fineT:Tl→Bool
 | .mk c t m b ks=>fine1 c t m b ks && fineL ks
def fineL:List Tl→Bool
 | []=>true
 | k :: ks=>fineT k && fineL ks
end
mutual
def depT:Tl→Nat
 | .mk _ _ _ _ ks=>depL ks + 1
def depL:List Tl→Nat
 | []=>0
 | k :: ks=>max (depT k) (depL ks)
end
end Go.Proofs.YtnkipgbnnhahbaaDoor
