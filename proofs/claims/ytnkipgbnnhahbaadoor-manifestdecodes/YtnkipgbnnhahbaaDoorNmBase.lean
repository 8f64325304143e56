/- Bytes as text. A row loaded as one step of a drawn region. Names as they lie. -/
import Derived.Test.YtnkipgbnnhahbaaDoorByt
import Derived.Test.YtnkipgbnnhahbaaDoorTakeRow
import Derived.Test.YtnkipgbnnhahbaaDoorRows
import Derived.Laws.BytesArg
import Derived.Deep.OwnRows
import Derived.Deep.WholeRow
import Derived.Deep.RegionHeld3
import Derived.Deep.DeepCutAuto
import Derived.Deep.DeepFit
import Derived.Laws.StructEq
namespace Go.Proofs.YtnkipgbnnhahbaaDoor
open Go.RowKit
theorem conv_s {w:World} {b o n cap:Nat} {bs:List Int} (h:Bs w (.slice (some ⟨b,o,none⟩) n cap) bs) (hn:0 < n):(convert 22 9 (.slice (some ⟨b,o,none⟩) n cap)).run Tryd.prog w=.ok (.string (strOfNums bs)) w:=by
 obtain ⟨ao,c,e,-,-,h4⟩:=h
 simp only [Value.slice.injEq] at e
 obtain ⟨rfl,rfl,rfl⟩:=e
 obtain ⟨b',o',e',-,h6⟩:=h4 hn
 simp only [Option.some.injEq,Addr.mk.injEq] at e'
 obtain ⟨rfl,rfl,-⟩:=e'
 exact run_convert_bytes_arg w 22 5 Tryd.underlying22 Tryd.underlying5 b o bs.length _ bs rfl h6 9 Tryd.underlying9
theorem Bs.form {w:World} {v:Value} {bs:List Int} (h:Bs w v bs) (h0:0 < bs.length):∃ b o cap,v=.slice (some ⟨b,o,none⟩) bs.length cap∧bs.length≤cap∧cap≤maxLen:=by
 obtain ⟨ao,cap,e,h1,h2,h3⟩:=h
 obtain ⟨b,o,rfl,_⟩:=h3 h0
 exact ⟨b,o,cap,e,h2,h1⟩
theorem conv_any {w:World} {v:Value} {bs:List Int} (h:Bs w v bs):(convert 22 9 v).run Tryd.prog w=.ok (.string (strOfNums bs)) w:=by
 by_cases h0:0 < bs.length
 ·obtain ⟨b,o,cap,rfl,_,_⟩:=h.form h0
  exact conv_s h h0
 ·obtain rfl:bs=[]:=List.eq_nil_of_length_eq_zero (by omega)
  obtain ⟨ao,cap,rfl,_,_,_⟩:=h
  cases ao<;>kernel_rfl
theorem results_row_tmp {P:Program} {fn:Func} {p u:Tmp} {ty:TypeId} (h:fn.results=#[.cell p ty,.tmp u]) (tmps:Array Value) (w:World) (g:Nat) (t:TypeId) (cs:Array Value) (fr:Nat × Nat) (d:TypeDesc)
  (hp:tmps.getD p undef=.pointer (some ⟨g,0,none⟩)) (hg:w.heap[g]?=some (.cells cs t fr))
  (hu:P.underlying ty=some d) (hd:(match d with|.struct _|.array _ _=>true|_=>false)=true) (hi:(P.info? ty).map (·.size)=some cs.size) :
  (results fn tmps).run P w=.ok (.tuple #[.agg cs,tmps.getD u undef]) w:=by
 have hp':tmps[p]?.getD undef=.pointer (some ⟨g,0,none⟩):=by simpa using hp
 simp [results,h,hp',asAddr,run_loadVar_row w g t ty cs fr d hg hu hd hi]
/-- a part: its kind, its text's bytes -/
abbrev Pn:=Int × List Int
/-- a name as it lies -/
def NmAt (w:World) (v:Value) (n:List Pn):Prop:=∃ ao cap,v=.slice ao n.length cap∧n.length≤cap∧cap≤maxLen∧(0 < n.length→∃ b o,ao=some ⟨b,o,none⟩∧b < w.heap.size∧∀ i p,n[i]?=some p→w.cell? ⟨b,o + i * 2,none⟩=some (.int .i64 p.1)∧w.cell? ⟨b,o + i * 2 + 1,none⟩=some (.string (strOfNums p.2)))
theorem NmAt.later {w w':World} {v:Value} {n:List Pn} (h:NmAt w v n) (hb:Below w.heap.size w w'):NmAt w' v n:=by
 obtain ⟨ao,cap,e,h1,h2,h3⟩:=h
 refine ⟨ao,cap,e,h1,h2,fun h0=>?_⟩
 obtain ⟨b,o,e2,hl,hc⟩:=h3 h0
 exact ⟨b,o,e2,Nat.lt_of_lt_of_le hl hb.size,fun i p hp=>⟨(hb.cell (p:=⟨b,o + i * 2,none⟩) hl).trans (hc i p hp).1,(hb.cell (p:=⟨b,o + i * 2 + 1,none⟩) hl).trans (hc i p hp).2⟩⟩
end Go.Proofs.YtnkipgbnnhahbaaDoor
