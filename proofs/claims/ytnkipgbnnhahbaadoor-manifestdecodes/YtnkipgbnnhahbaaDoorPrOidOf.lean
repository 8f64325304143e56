/- Rows of bytes of one's own, and bytes behind a cut. The program's own small helpers of layer 13: noughts ahead are left out, bytes are copied; a byte behind a number. (Plain part.) Identifiers, read and told as the program does it. Plain facts. The program's slices.Reverse and numberBytes of layer 13. The program's isOid and OidOf of layer 13. -/
import Derived.Test.YtnkipgbnnhahbaaDoorPmNum
import Derived.Test.YtnkipgbnnhahbaaDoorApBs
import Derived.Test.YtnkipgbnnhahbaaDoorNmBase
import Derived.Test.YtnkipgbnnhahbaaDoorRwT
import Derived.Test.YtnkipgbnnhahbaaDoorCtBase
import Derived.Test.YtnkipgbnnhahbaaDoorCPt
import Derived.Test.YtnkipgbnnhahbaaDoorRows
import Derived.Deep.OwnRows
import Derived.Deep.AppendLies
import Derived.Deep.WholeRow
import Derived.Deep.RegionHeld3
import Derived.Deep.DeepCutAuto
import Derived.Deep.DeepFit
import Derived.Great.BuildSlice
import Derived.Laws.BitsAllLaws
namespace Go.Proofs.YtnkipgbnnhahbaaDoor
open Go.RowKit
theorem own_nilM (w:World):(w.alloc (.cells #[] 5)).ownsRow w.heap.size 5 1 (.slice (some ⟨w.heap.size,0,none⟩) 0 0) 0 (u8s []):=own_made w [] 5 0 w.heap.size rfl (Nat.le_refl _) (by decide)
theorem own_geM {w:World} {base:Nat} {e:TypeId} {v:Value} {n:Nat} {xs:List Value} {j:Nat} (h:w.ownsRow base e 1 v n xs) (hj:v.ownBlock=some j):base≤j:=by
 rcases h.2 with ⟨h1,_⟩|⟨g,c,cur,h1,h2,_⟩
 ·rw [h1] at hj;simp [Value.ownBlock] at hj
 ·rw [h1] at hj;simp [Value.ownBlock] at hj;omega
/-- bytes behind a cut, wherever an empty one lies -/
theorem bs_cutM {w:World} {g o n cap r m k:Nat} {ad:Option Addr} {B:List Int} (h:Bs w (.slice (some ⟨g,o,none⟩) n cap) B) (hn:B.length=n) (hr:r≤n) (hm:m=n - r) (ha:0 < m→ad=some ⟨g,o + r,none⟩) (hk:k=cap - r):Bs w (.slice ad m k) (B.drop r):=by
 obtain ⟨a,c,e,h1,h2,h3⟩:=h
 obtain ⟨rfl,_,rfl⟩:some ⟨g,o,none⟩=a∧n=B.length∧cap=c:=by simpa using e
 have el:(B.drop r).length=m:=by rw [List.length_drop,hn,hm]
 refine ⟨ad,k,by rw [el],by rw [hk];exact Nat.le_trans (Nat.sub_le _ _) h1,by rw [el,hm,hk];exact Nat.sub_le_sub_right (by rw [← hn];exact h2) r,fun h0=>?_⟩
 rw [el] at h0 ⊢
 obtain ⟨b',o',e',k1,k2⟩:=h3 (by rw [hn];exact Nat.lt_of_lt_of_le h0 (by rw [hm];exact Nat.sub_le _ _))
 simp only [Option.some.injEq,Addr.mk.injEq] at e'
 obtain ⟨rfl,rfl,-⟩:=e'
 refine ⟨g,o + r,ha h0,k1,fun j hj=>?_⟩
 rw [Nat.add_assoc,k2 (r + j) (by omega),List.getD_eq_getElem?_getD,List.getD_eq_getElem?_getD,List.getElem?_drop]
/-- a slice's length -/
def lenV:Value→Nat
 | .slice _ n _=>n
 | _=>0
theorem newV_own {w w':World} {e:TypeId} {v:Value} {n:Nat} {xs:List Value} (h:w'.ownsRow w.heap.size e 1 v n xs):NewV w v:=fun a m c hv _=>own_geM (j:=a.block) h (by rw [hv];rfl)
/-- bytes that are answered in a block of their own, or an error's code -/
def RetB (w:World) (r:Except Nat (List Int)) (e:Ending) (w':World):Prop:=(∀ n,r=.ok n→∃ v':Value,e=.returned (.tuple #[v',.nilIface])∧Bs w' v' n∧NewV w v'∧Below w.heap.size w w')∧(∀ c,r=.error c→∃ (ao:Option Addr) (cap:Nat),e=.returned (.tuple #[.slice ao 0 cap,.iface 39 (.int .i64 (c:Int))])∧Below w.heap.size w w')
theorem RetB.ok {w w':World} {r:Except Nat (List Int)} {n:List Int} {v:Value} (h:r=.ok n) (hb:Bs w' v n) (hn:NewV w v) (bel:Below w.heap.size w w'):RetB w r (.returned (.tuple #[v,.nilIface])) w' :=
 ⟨fun m hm=>(by rw [h] at hm;cases hm;exact ⟨v,rfl,hb,hn,bel⟩),fun c hc=>(by rw [h] at hc;cases hc)⟩
theorem RetB.bad {w w':World} {r:Except Nat (List Int)} {c:Nat} {ao:Option Addr} {cap:Nat} (h:r=.error c) (bel:Below w.heap.size w w'):RetB w r (.returned (.tuple #[.slice ao 0 cap,.iface 39 (.int .i64 (c:Int))])) w' :=
 ⟨fun m hm=>(by rw [h] at hm;cases hm),fun c2 hc=>(by rw [h] at hc;cases hc;exact ⟨ao,cap,rfl,bel⟩)⟩
theorem getD_left {L m:List Int} {j:Nat} (hj:j < L.length):(L++m).getD j 0=L.getD j 0:=by
 simp [List.getD_eq_getElem?_getD,List.getElem?_append_left hj]
/-- values that may be told -/
def GoodL (L:List Int):Prop:=¬ 4294967375 < L.getD 0 0∧∀ j,j < L.length→0 < j→¬ 4294967295 < L.getD j 0
theorem GoodL.one {x:Int} (h:¬ 4294967375 < x):GoodL [x]:=⟨h,fun j h1 h2=>absurd h1 (by show ¬ j < 1;omega)⟩
theorem getD_last {L:List Int} {n:Int}:(L++[n]).getD L.length 0=n:=by simp [List.getD_eq_getElem?_getD]
theorem GoodL.add {L:List Int} {n:Int} (h:GoodL L) (h0:0 < L.length) (hn:¬ 4294967295 < n):GoodL (L++[n]):=by
 refine ⟨by rw [getD_left h0];exact h.1,fun j h1 h2=>?_⟩
 by_cases k:j < L.length
 ·rw [getD_left k];exact h.2 j k h2
 ·rw [List.length_append] at h1
  replace h1:j < L.length + 1:=h1
  rw [show j=L.length by omega,getD_last]
  exact hn
/-- a block known whole, with its type -/
def BlT (w:World) (g:Nat) (cs:List Value) (t:TypeId):Prop:=w.heap[g]?=some (.cells cs.toArray t)
theorem BlT.set {w:World} {g:Nat} {cs:List Value} {t:TypeId} (h:BlT w g cs t) (k:Nat) (v:Value):BlT (w.setCell ⟨g,k,none⟩ v) g (cs.set k v) t:=by
 unfold BlT at *
 simp [World.setCell,Array.getElem?_modify,h]
theorem BlT.drew {w:World} {g:Nat} {cs:List Value} {t:TypeId} (h:BlT w g cs t):BlT w.drew g cs t:=h
/-- whether words are an identifier -/
def RetI (w:World) (L:List Int) (e:Ending) (w':World):Prop:=((oidOf L=.ok (b7s (valsO L))∧2≤L.length∧L.length≤16∧L.getD 0 0≤2∧∀ j,j < L.length→L.getD j 0≤4294967295)∧e=.returned (.bool true)∧w'=w)∨(oidOf L=.error 1∧e=.returned (.bool false)∧w'=w)
theorem RetI.no {w:World} {L:List Int} (h:oidOf L=.error 1):RetI w L (.returned (.bool false)) w:=.inr ⟨h,rfl,rfl⟩
theorem RetI.yes {w:World} {L:List Int} (h:¬ (L.length < 2∨16 < L.length∨2 < L.getD 0 0∨(L.getD 0 0 < 2∧39 < L.getD 1 0))) (h2:∀ j,j < L.length→L.getD j 0≤4294967295):RetI w L (.returned (.bool true)) w:=by
 refine .inl ⟨⟨?_,by omega,by omega,by omega,h2⟩,rfl,rfl⟩
 unfold oidOf
 rw [if_neg h,if_neg (by rintro ⟨j,hj,k⟩;have:=h2 j hj;omega)]
end Go.Proofs.YtnkipgbnnhahbaaDoor
