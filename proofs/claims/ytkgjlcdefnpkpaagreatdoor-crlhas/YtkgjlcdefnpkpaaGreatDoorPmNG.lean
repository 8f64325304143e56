/- Whole rows out of known blocks, in drawn regions and in straight code. A row loaded as one step of a drawn region. Numbers, bits, texts out of bytes: what is read, or what is amiss. Plain facts. Rows of bytes of one's own, and bytes behind a cut. A slice that lies in a block of its own. -/
import Derived.Test.YtkgjlcdefnpkpaaGreatDoorBase
import Derived.Test.YtkgjlcdefnpkpaaGreatDoorApBs
import Derived.Laws.Rows
import Derived.Laws.Tables
import Derived.Tactics
import Derived.Test.YtkgjlcdefnpkpaaGreatDoorRows
import Derived.Deep.WholeRow
import Derived.Deep.RegionHeld3
import Derived.Deep.DeepCutAuto
import Derived.Deep.DeepFit
import Derived.Deep.OwnRows
import Derived.Deep.AppendLies
namespace Go.Proofs.YtkgjlcdefnpkpaaGreatDoor
open Go.RowKit
theorem exec_load {P:Program} {o:Oper} {a:Act} {w:World} {ty:TypeId} {x:Operand} {ad:Addr} {v:Value} (ho:o.op=.load ty x) (hx:a.eval x=.pointer (some ad)) (h:(loadVar ty ad).run P w=.ok v w):(execOp a.eval o).run P w=.ok (.value v) w:=by
 unfold execOp
 simp only [ho,hx,Instr.loadAt,Instr.sureAddr,Sem.run_bind,Sem.run_pure,Result.andThen_ok,h]
/-- a whole array out of a block that is known -/
theorem Blk.load {P:Program} {w:World} {g n:Nat} {F:List Value} {ty:TypeId} {d:TypeDesc} (B:Blk w g F) (hu:P.underlying ty=some d) (hd:(match d with|.struct _|.array _ _=>true|_=>false)=true) (hs:(P.info? ty).map (·.size)=some n) (hn:F.length=n):(loadVar ty ⟨g,0,none⟩).run P w=.ok (.agg F.toArray) w:=by
 obtain ⟨t,ht⟩:=B
 exact run_loadVar_row w g t ty F.toArray (0,0) d ht hu hd (by rw [hs,List.size_toArray,hn])
theorem Blk.setRow {w:World} {g:Nat} {X Y:List Value} (h:Blk w g X):Blk (w.setRow g Y.toArray) g Y:=by
 obtain ⟨t,h⟩:=h
 exact ⟨t,setRow_heap w g _ _ t _ h⟩
/-- a load, guarded or not, whose answer is known -/
theorem wpList_load_run {P:Program} {ops:Array Oper} {rest:List Oper} {o:Oper} {a:Act} {w:World} {Q:Exit→Act→World→Prop} {ty:TypeId} {x:Operand} {ad:Addr} {v:Value} (hw:Region.wanted o (yielded ops a.tmps)=true) (ho:o.op=.load ty x) (hx:a.eval x=.pointer (some ad)) (h:(loadVar ty ad).run P w=.ok v w)
  (k:wpList P ops Q rest (a.put o.dst v) w):wpList P ops Q (o :: rest) a w:=by
 refine wpList_step fun K hK=>?_
 simp only [hw,if_true]
 unfold Oper.wp execOp
 simp only [ho,hx,Instr.loadAt,Instr.sureAddr,Sem.run_bind,Sem.run_pure,Result.andThen_ok,h]
 exact hK _ _ k
/-- a whole array out of cells that are known one by one -/
theorem load_cells {P:Program} {w:World} {g o n:Nat} {F:List Value} {ty:TypeId} {d:TypeDesc} (hc:∀ j v,F[j]?=some v→w.cell? ⟨g,o + j,none⟩=some v) (hn:F.length=n) (hu:P.underlying ty=some d) (hd:(match d with|.struct _|.array _ _=>true|_=>false)=true) (hs:(P.info? ty).map (·.size)=some n):(loadVar ty ⟨g,o,none⟩).run P w=.ok (.agg F.toArray) w:=by
 have hl:(loadCells ⟨g,o,none⟩ F.length).run P w=.ok F.toArray w :=
  run_loadCells_list (P:=P) w ⟨g,o,none⟩ F (fun j v hv=>by
   have hadd:(⟨g,o,none⟩:Addr).add j=⟨g,o + j,none⟩:=by unfold Addr.add;split<;>simp_all
   rw [hadd]
   exact hc j v hv)
 cases hq:P.info? ty with
 | none=>simp [hq] at hs
 | some i =>
  have hz:i.size=F.length:=by simp [hq] at hs;omega
  have hagg:(isAgg ty).run P w=.ok true w:=by
   unfold isAgg
   rw [Sem.run_bind,run_underlying hu w]
   cases d<;>simp_all
  simp [loadVar,Sem.run_bind,hagg,sizeOf,typeInfo,hq,hz,hl]
/-- bytes of a block that is known whole -/
theorem Blk.bs {w:World} {g q:Nat} {P:List Int} (B:Blk w g (u8s P)) (l:P.length=q) (h:q≤maxLen):Bs w (.slice (some ⟨g,0,none⟩) q q) P :=
 ⟨some ⟨g,0,none⟩,q,by rw [l],h,by omega,fun _=>⟨g,0,rfl,B.lt,fun j hj=>by rw [Nat.zero_add];exact B.cell j _ (u8s_get P j hj)⟩⟩
theorem results_row_tmp {P:Program} {fn:Func} {p u:Tmp} {ty:TypeId} (h:fn.results=#[.cell p ty,.tmp u]) (tmps:Array Value) (w:World) (g:Nat) (t:TypeId) (cs:Array Value) (fr:Nat × Nat) (d:TypeDesc)
  (hp:tmps.getD p undef=.pointer (some ⟨g,0,none⟩)) (hg:w.heap[g]?=some (.cells cs t fr))
  (hu:P.underlying ty=some d) (hd:(match d with|.struct _|.array _ _=>true|_=>false)=true) (hi:(P.info? ty).map (·.size)=some cs.size) :
  (results fn tmps).run P w=.ok (.tuple #[.agg cs,tmps.getD u undef]) w:=by
 have hp':tmps[p]?.getD undef=.pointer (some ⟨g,0,none⟩):=by simpa using hp
 simp [results,h,hp',asAddr,run_loadVar_row w g t ty cs fr d hg hu hd hi]
/-- bytes without the noughts ahead -/
def lessZ:List Int→List Int
 | []=>[]
 | x :: xs=>if x=0 then lessZ xs else x :: xs
/-- how many noughts are ahead -/
def leadZ:List Int→Nat
 | []=>0
 | x :: xs=>if x=0 then leadZ xs + 1 else 0
theorem leadZ_le:∀ N:List Int,leadZ N≤N.length
 | []=>Nat.le_refl _
 | x :: xs=>by
  rw [leadZ,List.length_cons]
  split
  ·have:=leadZ_le xs;omega
  ·omega
theorem lessZ_drop:∀ N:List Int,lessZ N=N.drop (leadZ N)
 | []=>rfl
 | x :: xs=>by
  rw [lessZ,leadZ]
  split
  ·rw [List.drop_succ_cons];exact lessZ_drop xs
  ·rfl
theorem leadZ_get:∀ (N:List Int) (i:Nat),i < leadZ N→N.getD i 0=0
 | [],i,h=>by simp [leadZ] at h
 | x :: xs,i,h=>by
  rw [leadZ] at h
  split at h
  ·rename_i hx
   cases i with
   | zero=>exact hx
   | succ i=>rw [List.getD_cons_succ];exact leadZ_get xs i (by omega)
  ·omega
theorem leadZ_next:∀ (N:List Int),leadZ N < N.length→¬ N.getD (leadZ N) 0=0
 | [],h=>by simp at h
 | x :: xs,h=>by
  rw [leadZ] at h ⊢
  by_cases hx:x=0
  ·rw [if_pos hx] at h ⊢
   rw [List.getD_cons_succ]
   exact leadZ_next xs (by simpa using h)
  ·rw [if_neg hx,List.getD_cons_zero]
   exact hx
theorem byt_dropM {B:List Int} (h:byt B) (r:Nat):byt (B.drop r):=fun j=>by
 rw [List.getD_eq_getElem?_getD,List.getElem?_drop,← List.getD_eq_getElem?_getD]
 exact h _
/-- a number out of its body -/
def numP (B:List Int):Except Nat (List Int) :=
 if B.length=0∨127 < B.getD 0 0∨(1 < B.length∧B.getD 0 0=0∧B.getD 1 0 < 128) then .error 7
 else if 64 < (if B.getD 0 0=0 then B.drop 1 else B).length then .error 2
 else .ok (if B.getD 0 0=0 then B.drop 1 else B)
/-- a number's body -/
def numOf (N:List Int):Except Nat (List Int) :=
 if 64 < (lessZ N).length then .error 2
 else if (lessZ N).length=0∨127 < (lessZ N).getD 0 0 then .ok ((0:Int) :: lessZ N)
 else .ok (lessZ N)
/-- a text -/
def textP (B:List Int):Except Nat (List Int) :=
 if 64 < B.length then .error 2 else if B.length=0 then .error 7 else if ∃ j,j < B.length∧(B.getD j 0 < 32∨126 < B.getD j 0) then .error 7 else .ok B
theorem own_nilM (w:World):(w.alloc (.cells #[] 5)).ownsRow w.heap.size 5 1 (.slice (some ⟨w.heap.size,0,none⟩) 0 0) 0 (u8s []):=own_made w [] 5 0 w.heap.size rfl (Nat.le_refl _) (by decide)
theorem own_geM {w:World} {base:Nat} {e:TypeId} {v:Value} {n:Nat} {xs:List Value} {j:Nat} (h:w.ownsRow base e 1 v n xs) (hj:v.ownBlock=some j):base≤j:=by
 rcases h.2 with ⟨h1,_⟩|⟨g,c,cur,h1,h2,_⟩
 ·rw [h1] at hj;simp [Value.ownBlock] at hj
 ·rw [h1] at hj;simp [Value.ownBlock] at hj;omega
/-- bytes behind a cut, wherever an empty one lies -/
theorem bs_cutM {w:World} {g o n cap r m k:Nat} {ad:Option Addr} {B:List Int} (h:Bs w (.slice (some ⟨g,o,none⟩) n cap) B) (hn:B.length=n) (hr:r≤n) (hm:m=n - r) (ha:0 < m→ad=some ⟨g,o + r,none⟩) (hk:k=cap - r):Bs w (.slice ad m k) (B.drop r):=by
 obtain ⟨a,c,e,h1,h2,h3⟩:=h
 obtain ⟨rfl,_,rfl⟩:some ⟨g,o,none⟩=a∧n=B.length∧cap=c:=by simpa using e
 have el:(B.drop r).length=m:=by rw [List.length_drop,hn,hm]
 refine ⟨ad,k,by rw [el],by rw [hk];exact Nat.le_trans (Nat.sub_le _ _) h1,by rw [el,hm,hk];exact Nat.sub_le_sub_right (by rw [← hn];exact h2) r,fun h0=>?_⟩
 rw [el] at h0 ⊢
 obtain ⟨b',o',e',k1,k2⟩:=h3 (by rw [hn];exact Nat.lt_of_lt_of_le h0 (by rw [hm];exact Nat.sub_le _ _))
 simp only [Option.some.injEq,Addr.mk.injEq] at e'
 obtain ⟨rfl,rfl,-⟩:=e'
 refine ⟨g,o + r,ha h0,k1,fun j hj=>?_⟩
 rw [Nat.add_assoc,k2 (r + j) (by omega),List.getD_eq_getElem?_getD,List.getD_eq_getElem?_getD,List.getElem?_drop]
/-- what v holds lies in no block of w -/
def NewV (w:World) (v:Value):Prop:=∀ (a:Addr) (n c:Nat),v=.slice (some a) n c→0 < n→w.heap.size≤a.block
theorem NewV.of_own {w w':World} {e:TypeId} {size:Nat} {v:Value} {n:Nat} {xs:List Value} (h:w'.ownsRow w.heap.size e size v n xs):NewV w v:=fun a m c e _=>by
 rcases h.2 with ⟨h1,_⟩|⟨g,cap,cur,h1,h2,_⟩
 ·rw [h1] at e
  cases e
 ·rw [h1] at e
  simp only [Value.slice.injEq,Option.some.injEq] at e
  rw [← e.1]
  exact h2
theorem NewV.upN {w w':World} {v:Value} (h:NewV w' v) (hs:w.heap.size≤w'.heap.size):NewV w v:=fun a n c e h0=>Nat.le_trans hs (h a n c e h0)
end Go.Proofs.YtkgjlcdefnpkpaaGreatDoor
