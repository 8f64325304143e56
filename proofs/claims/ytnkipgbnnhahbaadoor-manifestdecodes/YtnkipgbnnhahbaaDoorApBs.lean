/- Primes, in plain numbers: Fermat's little theorem, Euclid's lemma, and Pocklington's test, with a reckoning of powers that the kernel carries out. append of any bytes, also of none, to a row of one's own; rows apart. -/
import Derived.Test.YtnkipgbnnhahbaaDoorBase
import Derived.Test.YtnkipgbnnhahbaaDoorByt
import Derived.Test.YtnkipgbnnhahbaaDoorRows
import Derived.Lib.SlFresh
import Derived.Deep.AppendLies
import Derived.Deep.OwnRows
namespace Go.Proofs.YtnkipgbnnhahbaaDoor
open Go.RowKit
def hv:Nat→Nat→Nat
 | 0,e=>e
 | f + 1,e=>hv f (e / 2)
theorem info_bA:(Tryd.prog.info? 5).map (fun i=>(i.zero,i.size,i.bytes))=some (some (.int .u8 0),1,1):=by kernel_rfl
theorem run_append_empty {w:World} {base ao:Option Addr} {n cap c:Nat} {ty:TypeId} (h:n≤cap) :
  (Builtin.append_ #[22,22] ty #[.slice base n cap,.slice ao 0 c]).run Tryd.prog w=.ok (.slice base n cap) w:=by
 have hu:∀ w:World,(underlying 22).run Tryd.prog w=.ok (.slice 5) w:=run_underlying Tryd.underlying22
 have hs:∀ w:World,(Go.sizeOf 5).run Tryd.prog w=.ok 1 w:=fun w=>by kernel_rfl
 have hl:∀ (a:Addr) (w:World),(loadCells a 0).run Tryd.prog w=.ok #[] w:=fun _ _=>rfl
 cases base<;>cases ao<;>simp [hl,Builtin.append_,hu,hs,h,Builtin.firstCells,Builtin.lenOf,Result.andThen,storeCells]
/-- a row of one's own is a slice -/
theorem own_slice {w:World} {base:Nat} {e:TypeId} {v:Value} {n:Nat} {xs:List Value} (h:w.ownsRow base e 1 v n xs):∃ ao cap,v=.slice ao n cap∧n≤cap∧cap≤maxLen:=by
 rcases h.2 with ⟨h1,h2⟩|⟨g,cap,cur,h1,h2,h3,h4,h5,h6,h7⟩
 ·subst h2;exact ⟨none,0,h1,Nat.le_refl _,Nat.zero_le _⟩
 ·exact ⟨_,cap,h1,h4,h5⟩
theorem grown_same (w:World) (row:Option Nat):w.grownBy w row:=⟨rfl,rfl,rfl,Nat.le_refl _,fun _ _ _=>rfl⟩
/-- bytes behind a row of one's own, be they none -/
theorem wpList_append_bs {ops:Array Oper} {rest:List Oper} {o:Oper} {a:Act} {w:World} {Q:Exit→Act→World→Prop} (hgd:o.guard=none) (s x:Operand)
  (ho:o.op=.call { callee:=.builtin .append,args:=#[s,x],argTypes:=#[22,22] })
  (base:Nat) (v:Value) (n:Nat) (xs:List Int) (hs:a.eval s=v) (hown:w.ownsRow base 5 1 v n (u8s xs))
  (u:Value) (B:List Int) (hx:a.eval x=u) (hB:Bs w u B) (h47:n + B.length≤140737488355328) (hbase:base≤w.heap.size)
  (h:∀ v' w',w'.ownsRow base 5 1 v' (n + B.length) (u8s (xs++B))→w.grownBy w' v.ownBlock→(v'.ownBlock=v.ownBlock∨v'.ownBlock=some w.heap.size)→wpList Tryd.prog ops Q rest (a.put o.dst v') w') :
  wpList Tryd.prog ops Q (o :: rest) a w:=by
 obtain ⟨ao,cap,rfl,c1,c2,c3⟩:=hB
 by_cases h0:B.length=0
 ·obtain rfl:B=[]:=List.eq_nil_of_length_eq_zero h0
  obtain ⟨bo,cp,rfl,k1,k2⟩:=own_slice hown
  refine Lib.wpList_append_run_sl w hgd s x 22 ho _ _ hs hx (run_append_empty k1) ?_
  exact h _ w (by simpa using hown) (grown_same _ _) (.inl rfl)
 ·obtain ⟨b,of,rfl,hb0,hc0⟩:=c3 (by omega)
  obtain ⟨i0,hi0,hz0,hz1,hz2⟩:=info_parts info_bA
  refine wpList_append_lies _ hgd s x _ ho base 5 i0 _ 1 1 Tryd.underlying22 hi0 hz0 hz1 hz2 rfl (by omega) v n (u8s xs) hs hown ⟨b,of,none⟩ B.length cap (u8s B) hx (by simp [u8s]) ?_ (by simp [u8s,Value.oneCell']) (by omega) (by unfold maxLen;omega) (by omega) hbase w.heap.size rfl ?_
  ·intro j z hz
   have hj:j < B.length:=by
    have:=(List.getElem?_eq_some_iff.1 hz).1
    simpa [u8s] using this
   have e:(⟨b,of,none⟩:Addr).add j=⟨b,of + j,none⟩:=by unfold Addr.add;split<;>simp_all
   rw [u8s_get B j hj] at hz
   rw [e,← hz]
   exact hc0 j hj
  ·intro g cap1 w' hown1 hgrow hat hlt
   refine h _ w' (by simpa [u8s] using hown1) hgrow ?_
   rcases hat with e|e
   ·exact .inl (by rw [e];rfl)
   ·exact .inr (by rw [← e];rfl)
theorem own_under {w:World} {base:Nat} {e:TypeId} {v:Value} {n:Nat} {xs:List Value} (h:w.ownsRow base e 1 v n xs) {g:Nat} (hg:v.ownBlock=some g):g < w.heap.size:=by
 rcases h.2 with ⟨h1,h2⟩|⟨g',cap,cur,h1,h2,h3,h4⟩
 ·rw [h1] at hg;simp [Value.ownBlock] at hg
 ·rw [h1] at hg
  simp only [Value.ownBlock,Option.some.injEq] at hg
  subst hg
  exact (Array.getElem?_eq_some_iff.1 h3).1
/-- two rows apart -/
def Apart (v u:Value):Prop:=∀ g,v.ownBlock=some g→u.ownBlock=some g→False
theorem Apart.new {w:World} {base:Nat} {e:TypeId} {v u v':Value} {n:Nat} {xs:List Value} (h:Apart v u) (ho:w.ownsRow base e 1 u n xs) (hv:v'.ownBlock=v.ownBlock∨v'.ownBlock=some w.heap.size):Apart v' u:=by
 intro g a b
 rcases hv with k|k
 ·exact h g (by rw [← k];exact a) b
 ·rw [k] at a
  have:=own_under ho b
  simp only [Option.some.injEq] at a
  omega
theorem below_own {w w':World} {base:Nat} {row:Option Nat} {B:Nat} {a:World} (hb:Below B a w) (hg:w.grownBy w' row) (hs:B≤w.heap.size) (hr:∀ g,row=some g→base≤g) (h:B≤base):Below B a w':=Below.grown hb hg hs (fun j hj=>Nat.le_trans h (hr j hj))
end Go.Proofs.YtnkipgbnnhahbaaDoor
