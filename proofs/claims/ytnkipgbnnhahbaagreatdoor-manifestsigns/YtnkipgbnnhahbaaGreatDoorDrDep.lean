/- Whole rows out of known blocks, in drawn regions and in straight code. Bytes as text. A row loaded as one step of a drawn region. Names as they lie. Elements out of cells; plain facts. Elements, and the blocks that they lean on. -/
import Derived.Test.YtnkipgbnnhahbaaGreatDoorApBs
import Derived.Test.YtnkipgbnnhahbaaGreatDoorNum
import Derived.Test.YtnkipgbnnhahbaaGreatDoorDrPar
import Derived.Test.YtnkipgbnnhahbaaGreatDoorHeld3
import Derived.Laws.Rows
import Derived.Laws.Tables
import Derived.Tactics
import Derived.Test.YtnkipgbnnhahbaaGreatDoorRows
import Derived.Laws.BytesArg
import Derived.Deep.OwnRows
import Derived.Deep.WholeRow
import Derived.Deep.RegionHeld3
import Derived.Deep.DeepCutAuto
import Derived.Deep.DeepFit
import Derived.Laws.StructEq
import Derived.Deep.AppendLies
import Derived.Great.BuildSlice
import Derived.Laws.CopyOwn
namespace Go.Proofs.YtnkipgbnnhahbaaGreatDoor
open Go.RowKit
theorem exec_load {P:Program} {o:Oper} {a:Act} {w:World} {ty:TypeId} {x:Operand} {ad:Addr} {v:Value} (ho:o.op=.load ty x) (hx:a.eval x=.pointer (some ad)) (h:(loadVar ty ad).run P w=.ok v w):(execOp a.eval o).run P w=.ok (.value v) w:=by
 unfold execOp
 simp only [ho,hx,Instr.loadAt,Instr.sureAddr,Sem.run_bind,Sem.run_pure,Result.andThen_ok,h]
/-- a whole array out of a block that is known -/
theorem Blk.load {P:Program} {w:World} {g n:Nat} {F:List Value} {ty:TypeId} {d:TypeDesc} (B:Blk w g F) (hu:P.underlying ty=some d) (hd:(match d with|.struct _|.array _ _=>true|_=>false)=true) (hs:(P.info? ty).map (·.size)=some n) (hn:F.length=n):(loadVar ty ⟨g,0,none⟩).run P w=.ok (.agg F.toArray) w:=by
 obtain ⟨t,ht⟩:=B
 exact run_loadVar_row w g t ty F.toArray (0,0) d ht hu hd (by rw [hs,List.size_toArray,hn])
theorem Blk.setRow {w:World} {g:Nat} {X Y:List Value} (h:Blk w g X):Blk (w.setRow g Y.toArray) g Y:=by
 obtain ⟨t,h⟩:=h
 exact ⟨t,setRow_heap w g _ _ t _ h⟩
/-- a load, guarded or not, whose answer is known -/
theorem wpList_load_run {P:Program} {ops:Array Oper} {rest:List Oper} {o:Oper} {a:Act} {w:World} {Q:Exit→Act→World→Prop} {ty:TypeId} {x:Operand} {ad:Addr} {v:Value} (hw:Region.wanted o (yielded ops a.tmps)=true) (ho:o.op=.load ty x) (hx:a.eval x=.pointer (some ad)) (h:(loadVar ty ad).run P w=.ok v w)
  (k:wpList P ops Q rest (a.put o.dst v) w):wpList P ops Q (o :: rest) a w:=by
 refine wpList_step fun K hK=>?_
 simp only [hw,if_true]
 unfold Oper.wp execOp
 simp only [ho,hx,Instr.loadAt,Instr.sureAddr,Sem.run_bind,Sem.run_pure,Result.andThen_ok,h]
 exact hK _ _ k
/-- a whole array out of cells that are known one by one -/
theorem load_cells {P:Program} {w:World} {g o n:Nat} {F:List Value} {ty:TypeId} {d:TypeDesc} (hc:∀ j v,F[j]?=some v→w.cell? ⟨g,o + j,none⟩=some v) (hn:F.length=n) (hu:P.underlying ty=some d) (hd:(match d with|.struct _|.array _ _=>true|_=>false)=true) (hs:(P.info? ty).map (·.size)=some n):(loadVar ty ⟨g,o,none⟩).run P w=.ok (.agg F.toArray) w:=by
 have hl:(loadCells ⟨g,o,none⟩ F.length).run P w=.ok F.toArray w :=
  run_loadCells_list (P:=P) w ⟨g,o,none⟩ F (fun j v hv=>by
   have hadd:(⟨g,o,none⟩:Addr).add j=⟨g,o + j,none⟩:=by unfold Addr.add;split<;>simp_all
   rw [hadd]
   exact hc j v hv)
 cases hq:P.info? ty with
 | none=>simp [hq] at hs
 | some i =>
  have hz:i.size=F.length:=by simp [hq] at hs;omega
  have hagg:(isAgg ty).run P w=.ok true w:=by
   unfold isAgg
   rw [Sem.run_bind,run_underlying hu w]
   cases d<;>simp_all
  simp [loadVar,Sem.run_bind,hagg,sizeOf,typeInfo,hq,hz,hl]
/-- bytes of a block that is known whole -/
theorem Blk.bs {w:World} {g q:Nat} {P:List Int} (B:Blk w g (u8s P)) (l:P.length=q) (h:q≤maxLen):Bs w (.slice (some ⟨g,0,none⟩) q q) P :=
 ⟨some ⟨g,0,none⟩,q,by rw [l],h,by omega,fun _=>⟨g,0,rfl,B.lt,fun j hj=>by rw [Nat.zero_add];exact B.cell j _ (u8s_get P j hj)⟩⟩
theorem made_zero (n:Nat):madeCells #[.int .u8 0] n=(u8s (List.replicate n 0)).toArray:=by
 apply Array.ext
 ·simp [madeCells]
 ·intro i h1 h2
  simp [madeCells,Nat.mod_one]
theorem conv_s {w:World} {b o n cap:Nat} {bs:List Int} (h:Bs w (.slice (some ⟨b,o,none⟩) n cap) bs) (hn:0 < n):(convert 22 9 (.slice (some ⟨b,o,none⟩) n cap)).run Tryz.prog w=.ok (.string (strOfNums bs)) w:=by
 obtain ⟨ao,c,e,-,-,h4⟩:=h
 simp only [Value.slice.injEq] at e
 obtain ⟨rfl,rfl,rfl⟩:=e
 obtain ⟨b',o',e',-,h6⟩:=h4 hn
 simp only [Option.some.injEq,Addr.mk.injEq] at e'
 obtain ⟨rfl,rfl,-⟩:=e'
 exact run_convert_bytes_arg w 22 5 Tryz.underlying22 Tryz.underlying5 b o bs.length _ bs rfl h6 9 Tryz.underlying9
theorem Bs.form {w:World} {v:Value} {bs:List Int} (h:Bs w v bs) (h0:0 < bs.length):∃ b o cap,v=.slice (some ⟨b,o,none⟩) bs.length cap∧bs.length≤cap∧cap≤maxLen:=by
 obtain ⟨ao,cap,e,h1,h2,h3⟩:=h
 obtain ⟨b,o,rfl,_⟩:=h3 h0
 exact ⟨b,o,cap,e,h2,h1⟩
theorem conv_any {w:World} {v:Value} {bs:List Int} (h:Bs w v bs):(convert 22 9 v).run Tryz.prog w=.ok (.string (strOfNums bs)) w:=by
 by_cases h0:0 < bs.length
 ·obtain ⟨b,o,cap,rfl,_,_⟩:=h.form h0
  exact conv_s h h0
 ·obtain rfl:bs=[]:=List.eq_nil_of_length_eq_zero (by omega)
  obtain ⟨ao,cap,rfl,_,_,_⟩:=h
  cases ao<;>kernel_rfl
theorem results_row_tmp {P:Program} {fn:Func} {p u:Tmp} {ty:TypeId} (h:fn.results=#[.cell p ty,.tmp u]) (tmps:Array Value) (w:World) (g:Nat) (t:TypeId) (cs:Array Value) (fr:Nat × Nat) (d:TypeDesc)
  (hp:tmps.getD p undef=.pointer (some ⟨g,0,none⟩)) (hg:w.heap[g]?=some (.cells cs t fr))
  (hu:P.underlying ty=some d) (hd:(match d with|.struct _|.array _ _=>true|_=>false)=true) (hi:(P.info? ty).map (·.size)=some cs.size) :
  (results fn tmps).run P w=.ok (.tuple #[.agg cs,tmps.getD u undef]) w:=by
 have hp':tmps[p]?.getD undef=.pointer (some ⟨g,0,none⟩):=by simpa using hp
 simp [results,h,hp',asAddr,run_loadVar_row w g t ty cs fr d hg hu hd hi]
/-- a part: its kind, its text's bytes -/
abbrev Pn:=Int × List Int
/-- a name as it lies -/
def NmAt (w:World) (v:Value) (n:List Pn):Prop:=∃ ao cap,v=.slice ao n.length cap∧n.length≤cap∧cap≤maxLen∧(0 < n.length→∃ b o,ao=some ⟨b,o,none⟩∧b < w.heap.size∧∀ i p,n[i]?=some p→w.cell? ⟨b,o + i * 2,none⟩=some (.int .i64 p.1)∧w.cell? ⟨b,o + i * 2 + 1,none⟩=some (.string (strOfNums p.2)))
theorem NmAt.later {w w':World} {v:Value} {n:List Pn} (h:NmAt w v n) (hb:Below w.heap.size w w'):NmAt w' v n:=by
 obtain ⟨ao,cap,e,h1,h2,h3⟩:=h
 refine ⟨ao,cap,e,h1,h2,fun h0=>?_⟩
 obtain ⟨b,o,e2,hl,hc⟩:=h3 h0
 exact ⟨b,o,e2,Nat.lt_of_lt_of_le hl hb.size,fun i p hp=>⟨(hb.cell (p:=⟨b,o + i * 2,none⟩) hl).trans (hc i p hp).1,(hb.cell (p:=⟨b,o + i * 2 + 1,none⟩) hl).trans (hc i p hp).2⟩⟩
theorem size_tlv:(Tryz.prog.info? 41).map (·.size)=some 5:=by kernel_rfl
/-- an element out of the cells where it lies -/
theorem tlv_load {w:World} {g o:Nat} {cs:List Value} (h:CsAt w g o cs) (l:cs.length=5):(loadVar 41 ⟨g,o,none⟩).run Tryz.prog w=.ok (.agg cs.toArray) w :=
 load_cells (n:=5) (fun j v hv=>h.2 j v hv) l Tryz.underlying41 rfl size_tlv
theorem get_kid {ks:List Tl} {i:Nat} (h:i < ks.length):∃ k,ks[i]?=some k:=⟨ks[i],List.getElem?_eq_getElem h⟩
theorem fine1_bad {c t:Int} {m:Bool} {b:List Int} {ks:List Tl} (h:c < 0∨3 < c∨t < 0∨30 < t∨(m=true∧0 < b.length)∨(m=false∧0 < ks.length)):fine1 c t m b ks=false:=by
 unfold fine1
 rcases h with h|h|h|h|⟨h1,h2⟩|⟨h1,h2⟩
 ·rw [decide_eq_false (show ¬ 0≤c by omega)];simp
 ·rw [decide_eq_false (show ¬ c≤3 by omega)];simp
 ·rw [decide_eq_false (show ¬ 0≤t by omega)];simp
 ·rw [decide_eq_false (show ¬ t≤30 by omega)];simp
 ·rw [h1,decide_eq_true h2];simp
 ·rw [h1,decide_eq_true h2];simp
theorem fine1_good {c t:Int} {m:Bool} {b:List Int} {ks:List Tl} (h1:0≤c∧c≤3) (h2:0≤t∧t≤30) (h3:m=true→b.length=0) (h4:m=false→ks.length=0):fine1 c t m b ks=true:=by
 unfold fine1
 rw [decide_eq_true h1.1,decide_eq_true h1.2,decide_eq_true h2.1,decide_eq_true h2.2]
 cases m with
 | true=>rw [decide_eq_false (show ¬ 0 < b.length by have:=h3 rfl;omega)];rfl
 | false=>rw [decide_eq_false (show ¬ 0 < ks.length by have:=h4 rfl;omega)];rfl
mutual
theorem depT_sz:∀ T:Tl,depT T≤szT T
 | .mk _ _ _ _ ks=>by
  have:=depL_szL ks
  rw [depT,szT]
  omega
theorem depL_szL:∀ ks:List Tl,depL ks≤szL ks
 | []=>by rw [depL];omega
 | k :: ks=>by
  have:=depT_sz k
  have:=depL_szL ks
  rw [depL,szL]
  omega
end
theorem below_stepD {a w w':World} (h:Below a.heap.size a w) (hb:Below w.heap.size w w'):Below a.heap.size a w':=h.trans (hb.mono h.size)
/-- block g has become X; nothing else that was is other than it was -/
def RdB (w w':World) (g:Nat) (X:List Value):Prop:=Blk w' g X∧(∀ c Y,c≠g→Blk w c Y→Blk w' c Y)∧(∀ B a,B≤g→Below B a w→Below B a w')∧w.heap.size≤w'.heap.size
theorem RdB.before {w w1 w2:World} {g:Nat} {X:List Value} (hg:g < w.heap.size) (hb:Below w.heap.size w w1) (h:RdB w1 w2 g X):RdB w w2 g X :=
 ⟨h.1,fun c Y hc hY=>h.2.1 c Y hc (hY.later hb),fun B a hB hl=>h.2.2.1 B a hB (hl.trans (hb.mono (by omega))),Nat.le_trans hb.size h.2.2.2⟩
theorem RdB.row {w w2:World} {g c:Nat} {X:List Value} {cs:Array Value} (hg:g < w.heap.size) (hc:w.heap.size≤c) (h:RdB w w2 g X):RdB w (w2.setRow c cs) g X :=
 ⟨h.1.row (by omega),fun d Y hd hY=>(h.2.1 d Y hd hY).row (by have:=hY.lt;omega),fun B a hB hl=>below_setRow (h.2.2.1 B a hB hl) (by omega) _,by have:=h.2.2.2;simpa [World.setRow] using this⟩
theorem RdB.self {w w2:World} {g:Nat} {X Y:List Value} (h:RdB w w2 g X) {w3:World} (k:RdB w2 w3 g Y):RdB w w3 g Y :=
 ⟨k.1,fun c Z hc hZ=>k.2.1 c Z hc (h.2.1 c Z hc hZ),fun B a hB hl=>k.2.2.1 B a hB (h.2.2.1 B a hB hl),Nat.le_trans h.2.2.2 k.2.2.2⟩
theorem RdB.cell {w:World} {g k:Nat} {X:List Value} (B:Blk w g X) (v:Value):RdB w (w.setCell ⟨g,k,none⟩ v) g (X.set k v) :=
 ⟨B.set k v,fun c Y hc hY=>hY.other _ _ hc,fun B' a hB hl=>hl.setCell hB _,by simp⟩
theorem RdB.more {w w':World} {g:Nat} {X:List Value} (h:RdB w w' g X) (o:Obj):RdB w (w'.alloc o) g X :=
 ⟨h.1.alloc o,fun c Y hc hY=>(h.2.1 c Y hc hY).alloc o,fun B a hB hl=>(h.2.2.1 B a hB hl).alloc (Nat.le_trans hB (Nat.le_of_lt h.1.lt)) o,by have:=h.2.2.2;simp;omega⟩
/-- two worlds agree where S says -/
def Agr (S:Nat→Prop) (w w':World):Prop:=w.heap.size≤w'.heap.size∧∀ b,S b→b < w.heap.size→w'.heap[b]?=w.heap[b]?
theorem Agr.refl (S:Nat→Prop) (w:World):Agr S w w:=⟨Nat.le_refl _,fun _ _ _=>rfl⟩
theorem Agr.trans {S:Nat→Prop} {w w' w'':World} (h:Agr S w w') (k:Agr S w' w''):Agr S w w'' :=
 ⟨Nat.le_trans h.1 k.1,fun b hb hl=>(k.2 b hb (Nat.lt_of_lt_of_le hl h.1)).trans (h.2 b hb hl)⟩
theorem Agr.below {S:Nat→Prop} {w w':World} (h:Below w.heap.size w w'):Agr S w w':=⟨h.size,fun b _ hl=>h.block b hl⟩
theorem Agr.row {S:Nat→Prop} {w w':World} {c:Nat} {cs:Array Value} (h:Agr S w w') (hc:¬ S c):Agr S w (w'.setRow c cs) :=
 ⟨by have:=h.1;simpa [World.setRow] using this,fun b hb hl=>(setRow_other w' c b cs (fun e=>hc (e ▸ hb))).trans (h.2 b hb hl)⟩
theorem Agr.cell {S:Nat→Prop} {w w':World} {c k:Nat} {v:Value} (h:Agr S w w') (hc:¬ S c):Agr S w (w'.setCell ⟨c,k,none⟩ v) :=
 ⟨by have:=h.1;simpa using this,fun b hb hl=>(heap_setCell_other w' ⟨c,k,none⟩ b v (fun e=>hc (by have e2:b=c:=e;exact e2 ▸ hb))).trans (h.2 b hb hl)⟩
/-- an element that leans on the blocks of S alone -/
def Dep (S:Nat→Prop) (w:World) (T:Tl) (cs:List Value):Prop:=∀ w',Agr S w w'→TlAt w' T cs
theorem Dep.now {S:Nat→Prop} {w:World} {T:Tl} {cs:List Value} (h:Dep S w T cs):TlAt w T cs:=h w (Agr.refl S w)
theorem Dep.next {S S':Nat→Prop} {w w':World} {T:Tl} {cs:List Value} (h:Dep S w T cs) (ha:Agr S w w') (hs:∀ b,S b→b < w.heap.size→S' b):Dep S' w' T cs:=fun w'' h2 =>
 h w'' ⟨Nat.le_trans ha.1 h2.1,fun b hb hl=>(h2.2 b (hs b hb hl) (Nat.lt_of_lt_of_le hl ha.1)).trans (ha.2 b hb hl)⟩
theorem Blk.agr {S:Nat→Prop} {w w':World} {g:Nat} {X:List Value} (B:Blk w g X) (h:Agr S w w') (hg:S g):Blk w' g X:=by
 obtain ⟨t,ht⟩:=B
 exact ⟨t,(h.2 g hg (Array.getElem?_eq_some_iff.1 ht).1).trans ht⟩
theorem kids_at {w:World} {g:Nat}:∀ {ks:List Tl} {o:Nat},(∀ i k,ks[i]?=some k→∃ cs,CsAt w g (o + 5 * i) cs∧TlAt w k cs)→KidsAt w ks g o
 | [],_,_=>by rw [KidsAt];trivial
 | k :: ks,o,h=>by
  rw [KidsAt]
  refine ⟨by simpa using h 0 k rfl,kids_at (fun i x hx=>?_)⟩
  have:=h (i + 1) x (by rw [List.getElem?_cons_succ];exact hx)
  rw [show o + 5 * (i + 1)=o + 5 + 5 * i by omega] at this
  exact this
/-- bytes that are owned lean on their row alone -/
theorem own_agr {S:Nat→Prop} {w w':World} {base size:Nat} {e:TypeId} {v:Value} {n:Nat} {xs:List Value} (h:w.ownsRow base e size v n xs) (ha:Agr S w w') (hs:∀ g,v.ownBlock=some g→S g):w'.ownsRow base e size v n xs:=by
 obtain ⟨hl,h⟩:=h
 rcases h with h|⟨g,cap,cur,h1,h2,h3,h4⟩
 ·exact ⟨hl,.inl h⟩
 ·exact ⟨hl,.inr ⟨g,cap,cur,h1,h2,(ha.2 g (hs g (by rw [h1];rfl)) (Array.getElem?_eq_some_iff.1 h3).1).trans h3,h4⟩⟩
/-- elements in a row that is owned -/
theorem kids_own {S:Nat→Prop} {w:World} {base:Nat} {e:TypeId} {v:Value} {ks:List Tl} {xs:List Value} (h:w.ownsRow base e 5 v ks.length xs) (hk:∀ i k,ks[i]?=some k→Dep S w k ((xs.drop (5 * i)).take 5)) (c t:Int) (m:Bool) {S':Nat→Prop} (hS:∀ b,S b→S' b) (hv:∀ g,v.ownBlock=some g→S' g):Dep S' w (.mk c t m [] ks) [.int .i64 c,.int .i64 t,.bool m,.slice none 0 0,v]:=fun w' ha=>by
 have ha2:Agr S w w':=⟨ha.1,fun b hb hl=>ha.2 b (hS b hb) hl⟩
 have h2:=own_agr h ha hv
 rw [TlAt]
 obtain ⟨hl,h2⟩:=h2
 rcases h2 with ⟨e1,e2⟩|⟨g,cap,cur,h1,h2,h3,h4,h5,h6,h7⟩
 ·refine ⟨.slice none 0 0,none,0,by rw [e1,e2],⟨none,0,rfl,by decide,by decide,fun h0=>by simp at h0⟩,by omega,by decide,fun h0=>by omega⟩
 ·refine ⟨.slice none 0 0,some ⟨g,0,none⟩,cap,by rw [h1],⟨none,0,rfl,by decide,by decide,fun h0=>by simp at h0⟩,h4,h5,fun _=>⟨g,0,rfl,?_⟩⟩
  have B:Blk w' g cur.toList:=⟨e,by simpa using h3⟩
  refine kids_at (fun i k hi=>⟨_,⟨B.lt,fun j u hu=>?_⟩,hk i k hi w' ha2⟩)
  have hj:j < 5:=by
   have:=(List.getElem?_eq_some_iff.1 hu).1
   rw [List.length_take] at this
   omega
  have hi2:=(List.getElem?_eq_some_iff.1 hi).1
  rw [List.getElem?_take,if_pos hj,List.getElem?_drop,← h7,List.getElem?_take,if_pos (by omega)] at hu
  have:=B.cell (5 * i + j) u hu
  rw [Nat.zero_add]
  exact this
theorem leaf_own {S:Nat→Prop} {w:World} {base:Nat} {e:TypeId} {v:Value} {b:List Int} {n:Nat} (h:w.ownsRow base e 1 v n (u8s b)) (hn:b.length=n) (hv:∀ g,v.ownBlock=some g→S g) (c t:Int) (m:Bool):Dep S w (.mk c t m b []) [.int .i64 c,.int .i64 t,.bool m,v,.slice none 0 0]:=fun w' ha=>by
 subst hn
 have h2:=Bs.of_own (own_agr h ha hv)
 rw [TlAt]
 exact ⟨v,none,0,rfl,h2,by simp,by decide,fun h0=>by simp at h0⟩
/-- each of them is one cell -/
def OneC (cs:List Value):Prop:=cs.toArray.all (·.oneCell')=true
theorem TlAt.ones {w:World}:∀ {T:Tl} {cs:List Value},TlAt w T cs→OneC cs
 | .mk ..,cs,h=>by
  rw [TlAt] at h
  obtain ⟨bv,ao,cap,rfl,hb,_⟩:=h
  obtain ⟨bo,bc,rfl,_⟩:=hb
  simp [OneC,Value.oneCell']
theorem lenP_bad {B:List Int} {a en c p:Nat} (h:lenP B a en=.error (c,p)):c=6∨c=7:=by
 unfold lenP at h
 split at h
 ·cases h;exact .inl rfl
 ·split at h
  ·cases h
  ·split at h
   ·cases h;exact .inr rfl
   ·split at h
    ·cases h;exact .inl rfl
    ·split at h
     ·cases h;exact .inr rfl
     ·cases h
theorem kidsP_bad {f:Nat→Nat→Except (Nat × Nat) (Tl × Nat)} {stop c p:Nat} (hf:∀ x c p,f x stop=.error (c,p)→c=6∨c=7∨c=9):∀ {k x:Nat} {acc:List Tl},kidsP f stop k x acc=.error (c,p)→c=6∨c=7∨c=9
 | 0,x,acc,h=>by rw [kidsP] at h;cases h
 | k + 1,x,acc,h=>by
  rw [kidsP] at h
  split at h
  ·cases hq:f x stop with
   | error e=>rw [hq] at h;obtain ⟨c',p'⟩:=e;cases h;exact hf x _ _ hq
   | ok q=>rw [hq] at h;obtain ⟨t,y⟩:=q;exact kidsP_bad hf h
  ·cases h
theorem elemP_bad {B:List Int}:∀ {d a en c p:Nat},elemP B d a en=.error (c,p)→c=6∨c=7∨c=9
 | 0,a,en,c,p,h=>by rw [elemP] at h;cases h;exact .inr (.inr rfl)
 | d + 1,a,en,c,p,h=>by
  rw [elemP] at h
  split at h
  ·cases h;exact .inl rfl
  ·split at h
   ·cases h;exact .inr (.inl rfl)
   ·cases hl:lenP B (a + 1) en with
    | error e =>
     rw [hl] at h
     obtain ⟨c',p'⟩:=e
     cases h
     rcases lenP_bad hl with h|h
     ·exact .inl h
     ·exact .inr (.inl h)
    | ok q =>
     obtain ⟨n,f⟩:=q
     rw [hl] at h
     simp only at h
     split at h
     ·cases h;exact .inl rfl
     ·split at h
      ·cases hk:kidsP (elemP B d) (f + n) n f [] with
       | error e =>
        rw [hk] at h
        obtain ⟨c',p'⟩:=e
        cases h
        exact kidsP_bad (fun x c p hx=>elemP_bad hx) hk
       | ok q=>rw [hk] at h;obtain ⟨ks,z⟩:=q;cases h
      ·cases h
theorem Blk.grown {w w':World} {row:Option Nat} {g:Nat} {X:List Value} (B:Blk w g X) (hg:w.grownBy w' row) (hr:∀ k,row=some k→k≠g):Blk w' g X:=by
 obtain ⟨t,ht⟩:=B
 exact ⟨t,(hg.block g (Array.getElem?_eq_some_iff.1 ht).1 (fun e=>hr g e.symm rfl)).trans ht⟩
theorem Agr.grown {S:Nat→Prop} {w w':World} {row:Option Nat} (hg:w.grownBy w' row) (hs:∀ b,S b→row≠some b):Agr S w w':=⟨hg.size,fun b hb hl=>hg.block b hl (fun e=>hs b hb e.symm)⟩
theorem own_geK {w:World} {base size:Nat} {e:TypeId} {v:Value} {n:Nat} {xs:List Value} {j:Nat} (h:w.ownsRow base e size v n xs) (hj:v.ownBlock=some j):base≤j∧j < w.heap.size:=by
 rcases h.2 with ⟨h1,_⟩|⟨g,c,cur,h1,h2,h3,_⟩
 ·rw [h1] at hj;simp [Value.ownBlock] at hj
 ·rw [h1] at hj
  simp only [Value.ownBlock,Option.some.injEq] at hj
  subst hj
  exact ⟨h2,(Array.getElem?_eq_some_iff.1 h3).1⟩
/-- one more element behind those in a row that is owned; then a cell elsewhere is written -/
theorem kids_step {wr w1 w3 wz:World} {base gt gg cap1 j:Nat} {e:TypeId} {kv u:Value} {acc:List Tl} {xs cs:List Value} {T:Tl} (own:wr.ownsRow base e 5 kv acc.length xs)
    (HD:∀ i t,acc[i]?=some t→Dep (fun b=>base≤b∧kv.ownBlock≠some b) wr t ((xs.drop (5 * i)).take 5)) (hb:Below wr.heap.size wr w1) (hdep:Dep (fun b=>wr.heap.size≤b) w1 T cs) (l5:cs.length=5)
    (hb3:Below w1.heap.size w1 w3) (hgrow:w3.grownBy wz kv.ownBlock) (hat:kv.ownBlock=some gg∨gg=w3.heap.size) (hgt:gt < base) (hs:base≤wr.heap.size)
    (hownz:wz.ownsRow base e 5 (.slice (some ⟨gg,0,none⟩) (acc.length + 1) cap1) (acc.length + 1) (xs++cs)) :
    (wz.setCell ⟨gt,j,none⟩ u).ownsRow base e 5 (.slice (some ⟨gg,0,none⟩) (acc.length + 1) cap1) (acc++[T]).length (xs++cs) ∧
      ∀ i t,(acc++[T])[i]?=some t→Dep (fun b=>base≤b∧(Value.slice (some ⟨gg,0,none⟩) (acc.length + 1) cap1).ownBlock≠some b) (wz.setCell ⟨gt,j,none⟩ u) t (((xs++cs).drop (5 * i)).take 5):=by
  have s1:=hb.size
  have s3:=hb3.size
  have hxs:=own.1
  refine ⟨?_,fun i t hi=>?_⟩
  · rw [List.length_append]
    exact own_agr (S:=fun b=>base≤b) hownz (Agr.cell (Agr.refl _ _) (by show ¬ base≤gt;omega)) (fun g hg=>(own_geK hownz hg).1)
  · by_cases hil:i < acc.length
    · rw [List.getElem?_append_left hil] at hi
      rw [List.drop_append_of_le_length (by omega),List.take_append_of_le_length (by rw [List.length_drop];omega)]
      refine (HD i t hi).next (Agr.cell (((Agr.below hb).trans (Agr.below hb3)).trans (Agr.grown hgrow (fun b hb=>hb.2))) (by show ¬ (base≤gt∧_);omega)) (fun b hb hl=>⟨hb.1,fun e=>?_⟩)
      simp only [Value.ownBlock,Option.some.injEq] at e
      subst e
      rcases hat with h|h
      · exact hb.2 h
      · omega
    · have hlt:=(List.getElem?_eq_some_iff.1 hi).1
      rw [List.length_append] at hlt
      have ei:i=acc.length:=by simp at hlt;omega
      subst ei
      rw [List.getElem?_append_right (Nat.le_refl _),Nat.sub_self] at hi
      simp only [List.getElem?_cons_zero,Option.some.injEq] at hi
      subst hi
      rw [show 5 * acc.length=xs.length by omega,List.drop_left,List.take_of_length_le (by omega)]
      refine hdep.next (Agr.cell ((Agr.below hb3).trans (Agr.grown hgrow (fun b hb e=>?_))) (by show ¬ wr.heap.size≤gt;omega)) (fun b hb hl=>⟨by omega,fun e=>?_⟩)
      · have:=own_geK own e
        omega
      · simp only [Value.ownBlock,Option.some.injEq] at e
        subst e
        rcases hat with h|h
        · have:=own_geK own h
          omega
        · omega
theorem zero_tlv:Hid (∀ w:World,(zeroValue 41).run Tryz.prog w=.ok (.agg #[.int .i64 0,.int .i64 0,.bool false,.slice none 0 0,.slice none 0 0]) w):=fun w=>by kernel_rfl
theorem info_tlv:(Tryz.prog.info? 41).map (fun i=>(i.zero,i.size,i.bytes))=some (some (.agg #[.int .i64 0,.int .i64 0,.bool false,.slice none 0 0,.slice none 0 0]),5,72):=by kernel_rfl
theorem info_partsD {i:Option TypeInfo} {z:Value} {n m:Nat} (h:i.map (fun i=>(i.zero,i.size,i.bytes))=some (some z,n,m)):∃ j,i=some j∧j.zero=some z∧j.size=n∧j.bytes=m:=by
 obtain ⟨j,hj,e⟩:=Option.map_eq_some_iff.1 h
 simp only [Prod.mk.injEq] at e
 exact ⟨j,hj,e.1,e.2.1,e.2.2⟩
theorem five {cs:List Value} (h:cs.length=5):∃ a b c d e,cs=[a,b,c,d,e]:=by
 match cs,h with
 | [a,b,c,d,e],_=>exact ⟨a,b,c,d,e,rfl⟩
theorem fill_5 {cs:List Value} (h:cs.length=5):Instr.fill (fun i=>some (i * 5,5)) ((Array.range (1 * 5)).map ((Value.agg #[.int .i64 0,.int .i64 0,.bool false,.slice none 0 0,.slice none 0 0]).cells[· % (Value.agg #[.int .i64 0,.int .i64 0,.bool false,.slice none 0 0,.slice none 0 0]).cells.size]!)) [(0,.agg cs.toArray)]=some cs.toArray:=by
 obtain ⟨a,b,c,d,e,rfl⟩:=five h
 kernel_rfl
end Go.Proofs.YtnkipgbnnhahbaaGreatDoor
