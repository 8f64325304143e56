/- Whole rows out of known blocks, in drawn regions and in straight code. Bytes as text. A row loaded as one step of a drawn region. Names as they lie. Words of 64 bits in slices; append of any of them, also of none, to a row of one's own. Numbers of six limbs as rows of cells. Identifiers out of bytes, and their bytes. Plain facts. Identifiers' bytes, and back. Plain facts. No place of the curve has y = 0: the curve's cubic has no root by the prime. Plain facts on numbers. Certificates as they lie. -/
import Derived.Test.YtnkipgbnnhahbaaPrime
import Derived.Test.YtnkipgbnnhahbaaNum
import Derived.Test.YtnkipgbnnhahbaaApBs
import Derived.Test.YtnkipgbnnhahbaaCPt
import Derived.Test.YtnkipgbnnhahbaaPmNum
import Derived.Laws.Rows
import Derived.Laws.Tables
import Derived.Tactics
import Derived.Test.YtnkipgbnnhahbaaRows
import Derived.Laws.BytesArg
import Derived.Deep.OwnRows
import Derived.Deep.WholeRow
import Derived.Deep.RegionHeld3
import Derived.Deep.DeepCutAuto
import Derived.Deep.DeepFit
import Derived.Laws.StructEq
import Derived.ChangeKeysEq
namespace Go.Proofs.Ytnkipgbnnhahbaa
open Go.RowKit
theorem exec_load {P:Program} {o:Oper} {a:Act} {w:World} {ty:TypeId} {x:Operand} {ad:Addr} {v:Value} (ho:o.op=.load ty x) (hx:a.eval x=.pointer (some ad)) (h:(loadVar ty ad).run P w=.ok v w):(execOp a.eval o).run P w=.ok (.value v) w:=by
 unfold execOp
 simp only [ho,hx,Instr.loadAt,Instr.sureAddr,Sem.run_bind,Sem.run_pure,Result.andThen_ok,h]
/-- a whole array out of a block that is known -/
theorem Blk.load {P:Program} {w:World} {g n:Nat} {F:List Value} {ty:TypeId} {d:TypeDesc} (B:Blk w g F) (hu:P.underlying ty=some d) (hd:(match d with|.struct _|.array _ _=>true|_=>false)=true) (hs:(P.info? ty).map (·.size)=some n) (hn:F.length=n):(loadVar ty ⟨g,0,none⟩).run P w=.ok (.agg F.toArray) w:=by
 obtain ⟨t,ht⟩:=B
 exact run_loadVar_row w g t ty F.toArray (0,0) d ht hu hd (by rw [hs,List.size_toArray,hn])
theorem Blk.setRow {w:World} {g:Nat} {X Y:List Value} (h:Blk w g X):Blk (w.setRow g Y.toArray) g Y:=by
 obtain ⟨t,h⟩:=h
 exact ⟨t,setRow_heap w g _ _ t _ h⟩
/-- a load, guarded or not, whose answer is known -/
theorem wpList_load_run {P:Program} {ops:Array Oper} {rest:List Oper} {o:Oper} {a:Act} {w:World} {Q:Exit→Act→World→Prop} {ty:TypeId} {x:Operand} {ad:Addr} {v:Value} (hw:Region.wanted o (yielded ops a.tmps)=true) (ho:o.op=.load ty x) (hx:a.eval x=.pointer (some ad)) (h:(loadVar ty ad).run P w=.ok v w)
  (k:wpList P ops Q rest (a.put o.dst v) w):wpList P ops Q (o :: rest) a w:=by
 refine wpList_step fun K hK=>?_
 simp only [hw,if_true]
 unfold Oper.wp execOp
 simp only [ho,hx,Instr.loadAt,Instr.sureAddr,Sem.run_bind,Sem.run_pure,Result.andThen_ok,h]
 exact hK _ _ k
/-- a whole array out of cells that are known one by one -/
theorem load_cells {P:Program} {w:World} {g o n:Nat} {F:List Value} {ty:TypeId} {d:TypeDesc} (hc:∀ j v,F[j]?=some v→w.cell? ⟨g,o + j,none⟩=some v) (hn:F.length=n) (hu:P.underlying ty=some d) (hd:(match d with|.struct _|.array _ _=>true|_=>false)=true) (hs:(P.info? ty).map (·.size)=some n):(loadVar ty ⟨g,o,none⟩).run P w=.ok (.agg F.toArray) w:=by
 have hl:(loadCells ⟨g,o,none⟩ F.length).run P w=.ok F.toArray w :=
  run_loadCells_list (P:=P) w ⟨g,o,none⟩ F (fun j v hv=>by
   have hadd:(⟨g,o,none⟩:Addr).add j=⟨g,o + j,none⟩:=by unfold Addr.add;split<;>simp_all
   rw [hadd]
   exact hc j v hv)
 cases hq:P.info? ty with
 | none=>simp [hq] at hs
 | some i =>
  have hz:i.size=F.length:=by simp [hq] at hs;omega
  have hagg:(isAgg ty).run P w=.ok true w:=by
   unfold isAgg
   rw [Sem.run_bind,run_underlying hu w]
   cases d<;>simp_all
  simp [loadVar,Sem.run_bind,hagg,sizeOf,typeInfo,hq,hz,hl]
/-- bytes of a block that is known whole -/
theorem Blk.bs {w:World} {g q:Nat} {P:List Int} (B:Blk w g (u8s P)) (l:P.length=q) (h:q≤maxLen):Bs w (.slice (some ⟨g,0,none⟩) q q) P :=
 ⟨some ⟨g,0,none⟩,q,by rw [l],h,by omega,fun _=>⟨g,0,rfl,B.lt,fun j hj=>by rw [Nat.zero_add];exact B.cell j _ (u8s_get P j hj)⟩⟩
theorem conv_s {w:World} {b o n cap:Nat} {bs:List Int} (h:Bs w (.slice (some ⟨b,o,none⟩) n cap) bs) (hn:0 < n):(convert 22 9 (.slice (some ⟨b,o,none⟩) n cap)).run Try.prog w=.ok (.string (strOfNums bs)) w:=by
 obtain ⟨ao,c,e,-,-,h4⟩:=h
 simp only [Value.slice.injEq] at e
 obtain ⟨rfl,rfl,rfl⟩:=e
 obtain ⟨b',o',e',-,h6⟩:=h4 hn
 simp only [Option.some.injEq,Addr.mk.injEq] at e'
 obtain ⟨rfl,rfl,-⟩:=e'
 exact run_convert_bytes_arg w 22 5 Try.underlying22 Try.underlying5 b o bs.length _ bs rfl h6 9 Try.underlying9
theorem Bs.form {w:World} {v:Value} {bs:List Int} (h:Bs w v bs) (h0:0 < bs.length):∃ b o cap,v=.slice (some ⟨b,o,none⟩) bs.length cap∧bs.length≤cap∧cap≤maxLen:=by
 obtain ⟨ao,cap,e,h1,h2,h3⟩:=h
 obtain ⟨b,o,rfl,_⟩:=h3 h0
 exact ⟨b,o,cap,e,h2,h1⟩
theorem conv_any {w:World} {v:Value} {bs:List Int} (h:Bs w v bs):(convert 22 9 v).run Try.prog w=.ok (.string (strOfNums bs)) w:=by
 by_cases h0:0 < bs.length
 ·obtain ⟨b,o,cap,rfl,_,_⟩:=h.form h0
  exact conv_s h h0
 ·obtain rfl:bs=[]:=List.eq_nil_of_length_eq_zero (by omega)
  obtain ⟨ao,cap,rfl,_,_,_⟩:=h
  cases ao<;>kernel_rfl
theorem results_row_tmp {P:Program} {fn:Func} {p u:Tmp} {ty:TypeId} (h:fn.results=#[.cell p ty,.tmp u]) (tmps:Array Value) (w:World) (g:Nat) (t:TypeId) (cs:Array Value) (fr:Nat × Nat) (d:TypeDesc)
  (hp:tmps.getD p undef=.pointer (some ⟨g,0,none⟩)) (hg:w.heap[g]?=some (.cells cs t fr))
  (hu:P.underlying ty=some d) (hd:(match d with|.struct _|.array _ _=>true|_=>false)=true) (hi:(P.info? ty).map (·.size)=some cs.size) :
  (results fn tmps).run P w=.ok (.tuple #[.agg cs,tmps.getD u undef]) w:=by
 have hp':tmps[p]?.getD undef=.pointer (some ⟨g,0,none⟩):=by simpa using hp
 simp [results,h,hp',asAddr,run_loadVar_row w g t ty cs fr d hg hu hd hi]
/-- a part: its kind, its text's bytes -/
abbrev Pn:=Int × List Int
/-- a name as it lies -/
def NmAt (w:World) (v:Value) (n:List Pn):Prop:=∃ ao cap,v=.slice ao n.length cap∧n.length≤cap∧cap≤maxLen∧(0 < n.length→∃ b o,ao=some ⟨b,o,none⟩∧b < w.heap.size∧∀ i p,n[i]?=some p→w.cell? ⟨b,o + i * 2,none⟩=some (.int .i64 p.1)∧w.cell? ⟨b,o + i * 2 + 1,none⟩=some (.string (strOfNums p.2)))
theorem NmAt.later {w w':World} {v:Value} {n:List Pn} (h:NmAt w v n) (hb:Below w.heap.size w w'):NmAt w' v n:=by
 obtain ⟨ao,cap,e,h1,h2,h3⟩:=h
 refine ⟨ao,cap,e,h1,h2,fun h0=>?_⟩
 obtain ⟨b,o,e2,hl,hc⟩:=h3 h0
 exact ⟨b,o,e2,Nat.lt_of_lt_of_le hl hb.size,fun i p hp=>⟨(hb.cell (p:=⟨b,o + i * 2,none⟩) hl).trans (hc i p hp).1,(hb.cell (p:=⟨b,o + i * 2 + 1,none⟩) hl).trans (hc i p hp).2⟩⟩
theorem NmAt.nil0 (w:World):NmAt w (.slice none 0 0) []:=⟨_,_,rfl,Nat.le_refl _,by decide,fun h=>absurd h (by decide)⟩
/-- the slice value v, in the world w, holds the words L -/
def Us (w:World) (v:Value) (L:List Int):Prop :=
 ∃ ao cap,v=.slice ao L.length cap∧cap≤maxLen∧L.length≤cap∧(0 < L.length→∃ b o,ao=some ⟨b,o,none⟩∧b < w.heap.size∧∀ j,j < L.length→w.cell? ⟨b,o + j,none⟩=some (.int .u64 (L.getD j 0)))
theorem Us.later {w w':World} {v:Value} {L:List Int} (h:Us w v L) (hb:Below w.heap.size w w'):Us w' v L:=by
 obtain ⟨ao,cap,h1,h2,h3,h4⟩:=h
 refine ⟨ao,cap,h1,h2,h3,fun hp=>?_⟩
 obtain ⟨b,o,e1,e2,e3⟩:=h4 hp
 exact ⟨b,o,e1,Nat.lt_of_lt_of_le e2 hb.size,fun j hj=>(hb.cell e2).trans (e3 j hj)⟩
theorem Us.of_own {w:World} {base:Nat} {e:TypeId} {v:Value} {n:Nat} {D:List Int} (h:w.ownsRow base e 1 v n (us D)):Us w v D:=by
 obtain ⟨hl,h⟩:=h
 have hn:D.length=n:=by simpa using hl
 rcases h with ⟨h1,h2⟩|⟨g,cap,cur,h1,h2,h3,h4,h5,h6,h7⟩
 ·exact ⟨none,0,by rw [h1,hn,h2],Nat.zero_le _,by omega,fun h=>by omega⟩
 ·refine ⟨_,cap,by rw [hn];exact h1,h5,by omega,fun _=>⟨g,0,rfl,(Array.getElem?_eq_some_iff.1 h3).1,fun j hj=>?_⟩⟩
  have e1:(cur.toList.take (n * 1))[j]?=some (.int .u64 (D.getD j 0)):=by rw [h7];exact us_get D j hj
  rw [List.getElem?_take,if_pos (by omega)] at e1
  rw [Nat.zero_add]
  simp only [World.cell?,h3,Option.isSome_none,Bool.false_eq_true,if_false]
  simpa using e1
/-- each of them is one cell -/
def OneR (cs:List Value):Prop:=cs.toArray.all (·.oneCell')=true
/-- a number of six limbs, as a row of cells -/
def U6 (cs:List Value) (x:Int):Prop:=∃ z0 z1 z2 z3 z4 z5:Int,cs=[.int .u64 z0,.int .u64 z1,.int .u64 z2,.int .u64 z3,.int .u64 z4,.int .u64 z5]∧fits [z0,z1,z2,z3,z4,z5]∧v64 [z0,z1,z2,z3,z4,z5]=x
theorem U6.mk {z0 z1 z2 z3 z4 z5:Int} (h:fits [z0,z1,z2,z3,z4,z5]):U6 [.int .u64 z0,.int .u64 z1,.int .u64 z2,.int .u64 z3,.int .u64 z4,.int .u64 z5] (v64 [z0,z1,z2,z3,z4,z5]):=⟨z0,z1,z2,z3,z4,z5,rfl,h,rfl⟩
theorem U6.len {cs:List Value} {x:Int} (h:U6 cs x):cs.length=6:=by
 obtain ⟨z0,z1,z2,z3,z4,z5,rfl,_⟩:=h
 rfl
theorem U6.ones {cs:List Value} {x:Int} (h:U6 cs x):OneR cs:=by
 obtain ⟨z0,z1,z2,z3,z4,z5,rfl,_⟩:=h
 simp [OneR,Value.oneCell']
theorem U6.zero:U6 [.int .u64 0,.int .u64 0,.int .u64 0,.int .u64 0,.int .u64 0,.int .u64 0] 0:=⟨0,0,0,0,0,0,rfl,fits6 (by decide),by decide⟩
theorem U6.one:U6 [.int .u64 1,.int .u64 0,.int .u64 0,.int .u64 0,.int .u64 0,.int .u64 0] 1:=⟨1,0,0,0,0,0,rfl,fits6 (by decide),by decide⟩
/-- a value's bytes above the last -/
def b7F:Nat→Nat→List Int→List Int
 | 0,_,l=>l
 | f + 1,v,l=>if v=0 then l else b7F f (v / 128) (((128 + v % 128:Nat):Int) :: l)
def b7 (v:Nat):List Int:=b7F 9 (v / 128) [((v % 128:Nat):Int)]
/-- many values' bytes -/
def b7s:List Nat→List Int
 | []=>[]
 | v :: vs=>b7 v++b7s vs
/-- the values that an identifier is told by -/
def valsO (L:List Int):List Nat:=(L.getD 1 0 + 40 * L.getD 0 0).toNat :: (L.drop 2).map Int.toNat
def oidOf (L:List Int):Except Nat (List Int) :=
 if L.length < 2∨16 < L.length∨2 < L.getD 0 0∨(L.getD 0 0 < 2∧39 < L.getD 1 0) then .error 1
 else if ∃ j,j < L.length∧4294967295 < L.getD j 0 then .error 1
 else .ok (b7s (valsO L))
/-- c0 + c1 x + c2 x^2 -/
abbrev Tri:=Int × Int × Int
def ev (r:Int) (a:Tri):Int:=a.1 + a.2.1 * r + a.2.2 * (r * r)
/-- a slice of slices: each of its values is what P says -/
def SlAt {α:Type} (P:World→Value→α→Prop) (w:World) (v:Value) (L:List α):Prop:=∃ ao cap,v=.slice ao L.length cap∧L.length≤cap∧cap≤maxLen∧(0 < L.length→∃ b o,ao=some ⟨b,o,none⟩∧b < w.heap.size∧∀ i x,L[i]?=some x→∃ u,w.cell? ⟨b,o + i,none⟩=some u∧P w u x)
theorem SlAt.later {α:Type} {P:World→Value→α→Prop} (hP:∀ {w w':World} {u:Value} {x:α},P w u x→Below w.heap.size w w'→P w' u x) {w w':World} {v:Value} {L:List α} (h:SlAt P w v L) (hb:Below w.heap.size w w'):SlAt P w' v L:=by
 obtain ⟨ao,cap,e,h1,h2,h3⟩:=h
 refine ⟨ao,cap,e,h1,h2,fun h0=>?_⟩
 obtain ⟨b,o,e2,hl,hc⟩:=h3 h0
 refine ⟨b,o,e2,Nat.lt_of_lt_of_le hl hb.size,fun i x hx=>?_⟩
 obtain ⟨u,k1,k2⟩:=hc i x hx
 exact ⟨u,(hb.cell (p:=⟨b,o + i,none⟩) hl).trans k1,hP k2 hb⟩
theorem SlAt.nil0 {α:Type} {P:World→Value→α→Prop} (w:World):SlAt P w (.slice none 0 0) []:=⟨none,0,rfl,Nat.zero_le _,Nat.zero_le _,fun h=>absurd h (Nat.lt_irrefl 0)⟩
/-- lists of identifiers, of names -/
def OdsAt (w:World) (v:Value) (L:List (List Int)):Prop:=SlAt Us w v L
def NmsAt (w:World) (v:Value) (L:List (List Pn)):Prop:=SlAt NmAt w v L
theorem OdsAt.later {w w':World} {v:Value} {L:List (List Int)} (h:OdsAt w v L) (hb:Below w.heap.size w w'):OdsAt w' v L:=SlAt.later (P:=Us) (fun h hb=>Us.later h hb) h hb
theorem NmsAt.later {w w':World} {v:Value} {L:List (List Pn)} (h:NmsAt w v L) (hb:Below w.heap.size w w'):NmsAt w' v L:=SlAt.later (P:=NmAt) (fun h hb=>NmAt.later h hb) h hb
/-- a certificate -/
structure Ct where
 serial:List Int
 issuer:List Pn
 subject:List Pn
 frm:Int
 til:Int
 kx:Int
 ky:Int
 kn:Bool
 ca:Bool
 path:Int
 usage:Int
 uses:List (List Int)
 permit:List (List Pn)
 exclude:List (List Pn)
 odd:Bool
 body:List Int
 sr:Int
 ss:Int
/-- its 38 cells -/
def ctRow (sv iv jv:Value) (frm til:Int) (xs ys:List Value) (kn ca:Bool) (path usage:Int) (uv pv ev:Value) (odd:Bool) (bv:Value) (rs zs:List Value):List Value :=
 [sv,iv,jv,.int .i64 frm,.int .i64 til]++(xs++ys++[.bool kn])++[.bool ca,.int .i64 path,.int .i64 usage,uv,pv,ev,.bool odd,bv]++(rs++zs)
/-- a certificate as it lies -/
def CtAt (w:World) (c:Ct) (cs:List Value):Prop:=∃ sv iv jv xs ys uv pv ev bv rs zs,cs=ctRow sv iv jv c.frm c.til xs ys c.kn c.ca c.path c.usage uv pv ev c.odd bv rs zs∧Bs w sv c.serial∧NmAt w iv c.issuer∧NmAt w jv c.subject∧U6 xs c.kx∧U6 ys c.ky∧OdsAt w uv c.uses∧NmsAt w pv c.permit∧NmsAt w ev c.exclude∧Bs w bv c.body∧U6 rs c.sr∧U6 zs c.ss
theorem CtAt.later {w w':World} {c:Ct} {cs:List Value} (h:CtAt w c cs) (hb:Below w.heap.size w w'):CtAt w' c cs:=by
 obtain ⟨sv,iv,jv,xs,ys,uv,pv,ev,bv,rs,zs,e,h1,h2,h3,h4,h5,h6,h7,h8,h9,h10,h11⟩:=h
 exact ⟨sv,iv,jv,xs,ys,uv,pv,ev,bv,rs,zs,e,h1.later hb,h2.later hb,h3.later hb,h4,h5,h6.later hb,h7.later hb,h8.later hb,h9.later hb,h10,h11⟩
theorem CtAt.len {w:World} {c:Ct} {cs:List Value} (h:CtAt w c cs):cs.length=38:=by
 obtain ⟨sv,iv,jv,xs,ys,uv,pv,ev,bv,rs,zs,rfl,-,-,-,h4,h5,-,-,-,-,h10,h11⟩:=h
 simp [ctRow,h4.len,h5.len,h10.len,h11.len]
end Go.Proofs.Ytnkipgbnnhahbaa
