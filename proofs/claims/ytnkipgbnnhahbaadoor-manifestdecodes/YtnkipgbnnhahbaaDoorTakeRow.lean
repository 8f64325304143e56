/- Whole rows out of known blocks, in drawn regions and in straight code. -/
import Derived.Test.YtnkipgbnnhahbaaDoorApBs
import Derived.Test.YtnkipgbnnhahbaaDoorBase
import Derived.Test.YtnkipgbnnhahbaaDoorByt
import Derived.Laws.Rows
import Derived.Laws.Tables
import Derived.Tactics
namespace Go.Proofs.YtnkipgbnnhahbaaDoor
open Go.RowKit
theorem exec_load {P:Program} {o:Oper} {a:Act} {w:World} {ty:TypeId} {x:Operand} {ad:Addr} {v:Value} (ho:o.op=.load ty x) (hx:a.eval x=.pointer (some ad)) (h:(loadVar ty ad).run P w=.ok v w):(execOp a.eval o).run P w=.ok (.value v) w:=by
 unfold execOp
 simp only [ho,hx,Instr.loadAt,Instr.sureAddr,Sem.run_bind,Sem.run_pure,Result.andThen_ok,h]
/-- a whole array out of a block that is known -/
theorem Blk.load {P:Program} {w:World} {g n:Nat} {F:List Value} {ty:TypeId} {d:TypeDesc} (B:Blk w g F) (hu:P.underlying ty=some d) (hd:(match d with|.struct _|.array _ _=>true|_=>false)=true) (hs:(P.info? ty).map (·.size)=some n) (hn:F.length=n):(loadVar ty ⟨g,0,none⟩).run P w=.ok (.agg F.toArray) w:=by
 obtain ⟨t,ht⟩:=B
 exact run_loadVar_row w g t ty F.toArray (0,0) d ht hu hd (by rw [hs,List.size_toArray,hn])
theorem Blk.setRow {w:World} {g:Nat} {X Y:List Value} (h:Blk w g X):Blk (w.setRow g Y.toArray) g Y:=by
 obtain ⟨t,h⟩:=h
 exact ⟨t,setRow_heap w g _ _ t _ h⟩
/-- a load, guarded or not, whose answer is known -/
theorem wpList_load_run {P:Program} {ops:Array Oper} {rest:List Oper} {o:Oper} {a:Act} {w:World} {Q:Exit→Act→World→Prop} {ty:TypeId} {x:Operand} {ad:Addr} {v:Value} (hw:Region.wanted o (yielded ops a.tmps)=true) (ho:o.op=.load ty x) (hx:a.eval x=.pointer (some ad)) (h:(loadVar ty ad).run P w=.ok v w)
  (k:wpList P ops Q rest (a.put o.dst v) w):wpList P ops Q (o :: rest) a w:=by
 refine wpList_step fun K hK=>?_
 simp only [hw,if_true]
 unfold Oper.wp execOp
 simp only [ho,hx,Instr.loadAt,Instr.sureAddr,Sem.run_bind,Sem.run_pure,Result.andThen_ok,h]
 exact hK _ _ k
/-- a whole array out of cells that are known one by one -/
theorem load_cells {P:Program} {w:World} {g o n:Nat} {F:List Value} {ty:TypeId} {d:TypeDesc} (hc:∀ j v,F[j]?=some v→w.cell? ⟨g,o + j,none⟩=some v) (hn:F.length=n) (hu:P.underlying ty=some d) (hd:(match d with|.struct _|.array _ _=>true|_=>false)=true) (hs:(P.info? ty).map (·.size)=some n):(loadVar ty ⟨g,o,none⟩).run P w=.ok (.agg F.toArray) w:=by
 have hl:(loadCells ⟨g,o,none⟩ F.length).run P w=.ok F.toArray w :=
  run_loadCells_list (P:=P) w ⟨g,o,none⟩ F (fun j v hv=>by
   have hadd:(⟨g,o,none⟩:Addr).add j=⟨g,o + j,none⟩:=by unfold Addr.add;split<;>simp_all
   rw [hadd]
   exact hc j v hv)
 cases hq:P.info? ty with
 | none=>simp [hq] at hs
 | some i =>
  have hz:i.size=F.length:=by simp [hq] at hs;omega
  have hagg:(isAgg ty).run P w=.ok true w:=by
   unfold isAgg
   rw [Sem.run_bind,run_underlying hu w]
   cases d<;>simp_all
  simp [loadVar,Sem.run_bind,hagg,sizeOf,typeInfo,hq,hz,hl]
/-- bytes of a block that is known whole -/
theorem Blk.bs {w:World} {g q:Nat} {P:List Int} (B:Blk w g (u8s P)) (l:P.length=q) (h:q≤maxLen):Bs w (.slice (some ⟨g,0,none⟩) q q) P :=
 ⟨some ⟨g,0,none⟩,q,by rw [l],h,by omega,fun _=>⟨g,0,rfl,B.lt,fun j hj=>by rw [Nat.zero_add];exact B.cell j _ (u8s_get P j hj)⟩⟩
end Go.Proofs.YtnkipgbnnhahbaaDoor
