/- Bytes in rows of one's own. A slice that lies in a block of its own. Elements that are made: what they lean on. Rows of elements that grow one by one. -/
import Derived.Test.YtnkipgbnnhahbaaDoorTakeRow
import Derived.Test.YtnkipgbnnhahbaaDoorApBs
import Derived.Test.YtnkipgbnnhahbaaDoorCPt
import Derived.Test.YtnkipgbnnhahbaaDoorByt
import Derived.Test.YtnkipgbnnhahbaaDoorCtBase
import Derived.Test.YtnkipgbnnhahbaaDoorDrDep
import Derived.Test.YtnkipgbnnhahbaaDoorRows
import Derived.Deep.OwnRows
import Derived.Deep.AppendLies
import Derived.Deep.WholeRow
import Derived.Deep.RegionHeld3
import Derived.Deep.DeepCutAuto
import Derived.Deep.DeepFit
import Derived.Great.BuildSlice
import Derived.Laws.Rows
import Derived.BigQuiet
namespace Go.Proofs.YtnkipgbnnhahbaaDoor
open Go.RowKit
theorem own_geD {w:World} {base:Nat} {e:TypeId} {v:Value} {n:Nat} {xs:List Value} {j:Nat} (h:w.ownsRow base e 1 v n xs) (hj:v.ownBlock=some j):base≤j:=by
 rcases h.2 with ⟨h1,_⟩|⟨g,c,cur,h1,h2,_⟩
 ·rw [h1] at hj;simp [Value.ownBlock] at hj
 ·rw [h1] at hj;simp [Value.ownBlock] at hj;omega
/-- a new block of bytes as a row of one's own -/
theorem own_lits (w:World) (X:List Int) (n base:Nat) (hn:X.length=n) (hb:base≤w.heap.size) (hm:n≤maxLen):(w.alloc (.cells (u8s X).toArray 5)).ownsRow base 5 1 (.slice (some ⟨w.heap.size,0,none⟩) n n) n (u8s X):=by
 subst hn
 refine ⟨by simp,.inr ⟨w.heap.size,X.length,(u8s X).toArray,rfl,hb,?_,Nat.le_refl _,hm,?_⟩⟩
 ·show (w.heap.push _)[w.heap.size]?=_;simp
 ·simp
  exact List.take_of_length_le (by simp [u8s])
/-- what v holds lies in no block of w -/
def NewV (w:World) (v:Value):Prop:=∀ (a:Addr) (n c:Nat),v=.slice (some a) n c→0 < n→w.heap.size≤a.block
theorem NewV.of_own {w w':World} {e:TypeId} {size:Nat} {v:Value} {n:Nat} {xs:List Value} (h:w'.ownsRow w.heap.size e size v n xs):NewV w v:=fun a m c e _=>by
 rcases h.2 with ⟨h1,_⟩|⟨g,cap,cur,h1,h2,_⟩
 ·rw [h1] at e
  cases e
 ·rw [h1] at e
  simp only [Value.slice.injEq,Option.some.injEq] at e
  rw [← e.1]
  exact h2
theorem bs_agrC {S:Nat→Prop} {w w':World} {v:Value} {n:List Int} (h:Bs w v n) (hv:∀ a m c,v=.slice (some a) m c→0 < m→S a.block) (ha:Agr S w w'):Bs w' v n:=by
 obtain ⟨ao,cp,e,h1,h2,h3⟩:=h
 refine ⟨ao,cp,e,h1,h2,fun h0=>?_⟩
 obtain ⟨b,o,e2,hb,hc⟩:=h3 h0
 have hs:S b:=hv ⟨b,o,none⟩ _ _ (by rw [e,e2]) h0
 refine ⟨b,o,e2,Nat.lt_of_lt_of_le hb ha.1,fun j hj=>?_⟩
 rw [← hc j hj]
 have:=ha.2 b hs hb
 unfold World.cell?
 simp only [this]
/-- a row of one's own that holds these elements, none of which leans on the row -/
def RwT (w:World) (base:Nat) (kv:Value) (Ts:List Tl):Prop:=∃ xs,w.ownsRow base 32 5 kv Ts.length xs∧∀ i t,Ts[i]?=some t→Dep (fun b=>base≤b∧kv.ownBlock≠some b) w t ((xs.drop (5 * i)).take 5)
theorem RwT.later {w w':World} {base:Nat} {kv:Value} {Ts:List Tl} (h:RwT w base kv Ts) (hb:Below w.heap.size w w'):RwT w' base kv Ts:=by
 obtain ⟨xs,h1,h2⟩:=h
 exact ⟨xs,own_agr (S:=fun _=>True) h1 (Agr.below hb) (fun _ _=>trivial),fun i t ht=>(h2 i t ht).next (Agr.below hb) (fun _ h _=>h)⟩
theorem RwT.lt {w:World} {base:Nat} {kv:Value} {Ts:List Tl} (h:RwT w base kv Ts):∀ b,kv.ownBlock=some b→b < w.heap.size:=fun b hb=>by
 obtain ⟨xs,h1,_⟩:=h
 exact (own_geK h1 hb).2
end Go.Proofs.YtnkipgbnnhahbaaDoor
