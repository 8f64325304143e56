/- append of any bytes, also of none, to a row of one's own; rows apart. Ints in slices; append of any of them, also of none, to a row of one's own. Numbers by a modulus: what is taken off, what is left, Montgomery's steps; plain facts on numbers alone. Montgomery's reduction: the steps, in numbers alone. Newton's steps, R's square, powers by bits; in numbers alone. Primes, in plain numbers: Fermat's little theorem, Euclid's lemma, and Pocklington's test, with a reckoning of powers that the kernel carries out. That the number 39402006196394479212279040100143613805079739270465446667948293404245721771496870329047266088258938001861606973112319 is prime. That the number 39402006196394479212279040100143613805079739270465446667946905279627659399113263569398956308152294913554433653942643 is prime. What makes 1 of a number, by Fermat, modulo a prime. The field's prime: plain facts on numbers. The points of the curve are a group: sums go either way round and in any order. Plain facts on numbers. No place of the curve has y = 0: the curve's cubic has no root by the prime. Plain facts on numbers. Multiples of points: plain facts on numbers. The order times the base point is the one at infinity: plain facts on numbers. Multiples by bits, and modulo the order: plain facts. '==' on six limbs. The reference's numbers as slices: their lengths; stores beside them. What stays through a walk: known blocks of whatever cells; any other block may be written. The law's num, and the reference's To6 where the answer is known. Elements, and the blocks that they lean on. Errors of Parse as they lie. -/
import Derived.Test.YtohcdbifhnfcbaaGreatDoorDrTG
import Derived.Test.YtohcdbifhnfcbaaGreatDoorLimb
import Derived.Test.YtohcdbifhnfcbaaGreatDoorRows
import Derived.Lib.SlFresh
import Derived.Deep.AppendLies
import Derived.Deep.OwnRows
import Derived.Deep.RegionHeld3
import Derived.Deep.QuietTactic
import Derived.BigQuiet
import Derived.Great.BuildSlice
import Derived.Laws.CopyOwn
import Derived.Deep.WholeRow
import Derived.Deep.DeepCutAuto
import Derived.Deep.DeepFit
namespace Go.Proofs.YtohcdbifhnfcbaaGreatDoor
open Go.RowKit
theorem info_bA:(Tryz.prog.info? 5).map (fun i=>(i.zero,i.size,i.bytes))=some (some (.int .u8 0),1,1):=by kernel_rfl
theorem run_append_empty {w:World} {base ao:Option Addr} {n cap c:Nat} {ty:TypeId} (h:n≤cap) :
  (Builtin.append_ #[22,22] ty #[.slice base n cap,.slice ao 0 c]).run Tryz.prog w=.ok (.slice base n cap) w:=by
 have hu:∀ w:World,(underlying 22).run Tryz.prog w=.ok (.slice 5) w:=run_underlying Tryz.underlying22
 have hs:∀ w:World,(Go.sizeOf 5).run Tryz.prog w=.ok 1 w:=fun w=>by kernel_rfl
 have hl:∀ (a:Addr) (w:World),(loadCells a 0).run Tryz.prog w=.ok #[] w:=fun _ _=>rfl
 cases base<;>cases ao<;>simp [hl,Builtin.append_,hu,hs,h,Builtin.firstCells,Builtin.lenOf,Result.andThen,storeCells]
/-- a row of one's own is a slice -/
theorem own_slice {w:World} {base:Nat} {e:TypeId} {v:Value} {n:Nat} {xs:List Value} (h:w.ownsRow base e 1 v n xs):∃ ao cap,v=.slice ao n cap∧n≤cap∧cap≤maxLen:=by
 rcases h.2 with ⟨h1,h2⟩|⟨g,cap,cur,h1,h2,h3,h4,h5,h6,h7⟩
 ·subst h2;exact ⟨none,0,h1,Nat.le_refl _,Nat.zero_le _⟩
 ·exact ⟨_,cap,h1,h4,h5⟩
theorem grown_same (w:World) (row:Option Nat):w.grownBy w row:=⟨rfl,rfl,rfl,Nat.le_refl _,fun _ _ _=>rfl⟩
/-- bytes behind a row of one's own, be they none -/
theorem wpList_append_bs {ops:Array Oper} {rest:List Oper} {o:Oper} {a:Act} {w:World} {Q:Exit→Act→World→Prop} (hgd:o.guard=none) (s x:Operand)
  (ho:o.op=.call { callee:=.builtin .append,args:=#[s,x],argTypes:=#[22,22] })
  (base:Nat) (v:Value) (n:Nat) (xs:List Int) (hs:a.eval s=v) (hown:w.ownsRow base 5 1 v n (u8s xs))
  (u:Value) (B:List Int) (hx:a.eval x=u) (hB:Bs w u B) (h47:n + B.length≤140737488355328) (hbase:base≤w.heap.size)
  (h:∀ v' w',w'.ownsRow base 5 1 v' (n + B.length) (u8s (xs++B))→w.grownBy w' v.ownBlock→(v'.ownBlock=v.ownBlock∨v'.ownBlock=some w.heap.size)→wpList Tryz.prog ops Q rest (a.put o.dst v') w') :
  wpList Tryz.prog ops Q (o :: rest) a w:=by
 obtain ⟨ao,cap,rfl,c1,c2,c3⟩:=hB
 by_cases h0:B.length=0
 ·obtain rfl:B=[]:=List.eq_nil_of_length_eq_zero h0
  obtain ⟨bo,cp,rfl,k1,k2⟩:=own_slice hown
  refine Lib.wpList_append_run_sl w hgd s x 22 ho _ _ hs hx (run_append_empty k1) ?_
  exact h _ w (by simpa using hown) (grown_same _ _) (.inl rfl)
 ·obtain ⟨b,of,rfl,hb0,hc0⟩:=c3 (by omega)
  obtain ⟨i0,hi0,hz0,hz1,hz2⟩:=info_parts info_bA
  refine wpList_append_lies _ hgd s x _ ho base 5 i0 _ 1 1 Tryz.underlying22 hi0 hz0 hz1 hz2 rfl (by omega) v n (u8s xs) hs hown ⟨b,of,none⟩ B.length cap (u8s B) hx (by simp [u8s]) ?_ (by simp [u8s,Value.oneCell']) (by omega) (by unfold maxLen;omega) (by omega) hbase w.heap.size rfl ?_
  ·intro j z hz
   have hj:j < B.length:=by
    have:=(List.getElem?_eq_some_iff.1 hz).1
    simpa [u8s] using this
   have e:(⟨b,of,none⟩:Addr).add j=⟨b,of + j,none⟩:=by unfold Addr.add;split<;>simp_all
   rw [u8s_get B j hj] at hz
   rw [e,← hz]
   exact hc0 j hj
  ·intro g cap1 w' hown1 hgrow hat hlt
   refine h _ w' (by simpa [u8s] using hown1) hgrow ?_
   rcases hat with e|e
   ·exact .inl (by rw [e];rfl)
   ·exact .inr (by rw [← e];rfl)
theorem bs_one (w:World) (y:Int):Bs (w.alloc (.cells #[.int .u8 y] 5)) (.slice (some ⟨w.heap.size,0,none⟩) 1 1) [y]:=by
 have B:=Blk.new w [.int .u8 y] 5 w.heap.size rfl
 exact ⟨_,1,rfl,by decide,Nat.le_refl _,fun _=>⟨w.heap.size,0,rfl,B.lt,fun j hj=>by
  have e:j=0:=by simp at hj;exact hj
  subst e
  exact B.cell 0 _ rfl⟩⟩
theorem below_own {w w':World} {base:Nat} {row:Option Nat} {B:Nat} {a:World} (hb:Below B a w) (hg:w.grownBy w' row) (hs:B≤w.heap.size) (hr:∀ g,row=some g→base≤g) (h:B≤base):Below B a w':=Below.grown hb hg hs (fun j hj=>Nat.le_trans h (hr j hj))
abbrev i64s (A:List Int):List Value:=A.map (Value.int .i64)
theorem i64s_get (A:List Int) (j:Nat) (h:j < A.length):(i64s A)[j]?=some (.int .i64 (A.getD j 0)):=by
 simp [i64s,h]
/-- the slice value v, in the world w, holds the ints L -/
def Is (w:World) (v:Value) (L:List Int):Prop :=
 ∃ ao cap,v=.slice ao L.length cap∧cap≤maxLen∧L.length≤cap∧(0 < L.length→∃ b o,ao=some ⟨b,o,none⟩∧b < w.heap.size∧∀ j,j < L.length→w.cell? ⟨b,o + j,none⟩=some (.int .i64 (L.getD j 0)))
theorem Is.later {w w':World} {v:Value} {L:List Int} (h:Is w v L) (hb:Below w.heap.size w w'):Is w' v L:=by
 obtain ⟨ao,cap,h1,h2,h3,h4⟩:=h
 refine ⟨ao,cap,h1,h2,h3,fun hp=>?_⟩
 obtain ⟨b,o,e1,e2,e3⟩:=h4 hp
 exact ⟨b,o,e1,Nat.lt_of_lt_of_le e2 hb.size,fun j hj=>(hb.cell e2).trans (e3 j hj)⟩
theorem Is.of_own {w:World} {base:Nat} {e:TypeId} {v:Value} {n:Nat} {D:List Int} (h:w.ownsRow base e 1 v n (i64s D)):Is w v D:=by
 obtain ⟨hl,h⟩:=h
 have hn:D.length=n:=by simpa using hl
 rcases h with ⟨h1,h2⟩|⟨g,cap,cur,h1,h2,h3,h4,h5,h6,h7⟩
 ·exact ⟨none,0,by rw [h1,hn,h2],Nat.zero_le _,by omega,fun h=>by omega⟩
 ·refine ⟨_,cap,by rw [hn];exact h1,h5,by omega,fun _=>⟨g,0,rfl,(Array.getElem?_eq_some_iff.1 h3).1,fun j hj=>?_⟩⟩
  have e1:(cur.toList.take (n * 1))[j]?=some (.int .i64 (D.getD j 0)):=by rw [h7];exact i64s_get D j hj
  rw [List.getElem?_take,if_pos (by omega)] at e1
  rw [Nat.zero_add]
  simp only [World.cell?,h3,Option.isSome_none,Bool.false_eq_true,if_false]
  simpa using e1
theorem is_blk {w:World} {g q:Nat} {P:List Int} (B:Blk w g (i64s P)) (l:P.length=q) (h:q≤maxLen):Is w (.slice (some ⟨g,0,none⟩) q q) P :=
 ⟨some ⟨g,0,none⟩,q,by rw [l],h,by omega,fun _=>⟨g,0,rfl,B.lt,fun j hj=>by rw [Nat.zero_add];exact B.cell j _ (i64s_get P j hj)⟩⟩
theorem is_cut {w:World} {g o n cap r m k:Nat} {ad:Option Addr} {B:List Int} (h:Is w (.slice (some ⟨g,o,none⟩) n cap) B) (hn:B.length=n) (hr:r≤n) (hm:m=n - r) (ha:0 < m→ad=some ⟨g,o + r,none⟩) (hk:k=cap - r):Is w (.slice ad m k) (B.drop r):=by
 obtain ⟨a,c,e,h1,h2,h3⟩:=h
 obtain ⟨rfl,_,rfl⟩:some ⟨g,o,none⟩=a∧n=B.length∧cap=c:=by simpa using e
 have el:(B.drop r).length=m:=by rw [List.length_drop,hn,hm]
 refine ⟨ad,k,by rw [el],by rw [hk];exact Nat.le_trans (Nat.sub_le _ _) h1,by rw [el,hm,hk];exact Nat.sub_le_sub_right (by rw [← hn];exact h2) r,fun h0=>?_⟩
 rw [el] at h0 ⊢
 obtain ⟨b',o',e',k1,k2⟩:=h3 (by rw [hn];exact Nat.lt_of_lt_of_le h0 (by rw [hm];exact Nat.sub_le _ _))
 simp only [Option.some.injEq,Addr.mk.injEq] at e'
 obtain ⟨rfl,rfl,-⟩:=e'
 refine ⟨g,o + r,ha h0,k1,fun j hj=>?_⟩
 rw [Nat.add_assoc,k2 (r + j) (by omega),List.getD_eq_getElem?_getD,List.getD_eq_getElem?_getD,List.getElem?_drop]
theorem info_iA:(Tryz.prog.info? 3).map (fun i=>(i.zero,i.size,i.bytes))=some (some (.int .i64 0),1,8):=by kernel_rfl
theorem run_append_emptyI {w:World} {base ao:Option Addr} {n cap c:Nat} {ty:TypeId} (h:n≤cap) :
  (Builtin.append_ #[213,213] ty #[.slice base n cap,.slice ao 0 c]).run Tryz.prog w=.ok (.slice base n cap) w:=by
 have hu:∀ w:World,(underlying 213).run Tryz.prog w=.ok (.slice 3) w:=run_underlying Tryz.underlying213
 have hs:∀ w:World,(Go.sizeOf 3).run Tryz.prog w=.ok 1 w:=fun w=>by kernel_rfl
 have hl:∀ (a:Addr) (w:World),(loadCells a 0).run Tryz.prog w=.ok #[] w:=fun _ _=>rfl
 cases base<;>cases ao<;>simp [hl,Builtin.append_,hu,hs,h,Builtin.firstCells,Builtin.lenOf,Result.andThen,storeCells]
/-- ints behind a row of one's own, be they none -/
theorem wpList_append_is {ops:Array Oper} {rest:List Oper} {o:Oper} {a:Act} {w:World} {Q:Exit→Act→World→Prop} (hgd:o.guard=none) (s x:Operand)
  (ho:o.op=.call { callee:=.builtin .append,args:=#[s,x],argTypes:=#[213,213] })
  (base:Nat) (v:Value) (n:Nat) (xs:List Int) (hs:a.eval s=v) (hown:w.ownsRow base 3 1 v n (i64s xs))
  (u:Value) (B:List Int) (hx:a.eval x=u) (hB:Is w u B) (h47:n + B.length≤17592186044416) (hbase:base≤w.heap.size)
  (h:∀ v' w',w'.ownsRow base 3 1 v' (n + B.length) (i64s (xs++B))→w.grownBy w' v.ownBlock→(v'.ownBlock=v.ownBlock∨v'.ownBlock=some w.heap.size)→wpList Tryz.prog ops Q rest (a.put o.dst v') w') :
  wpList Tryz.prog ops Q (o :: rest) a w:=by
 obtain ⟨ao,cap,rfl,c1,c2,c3⟩:=hB
 by_cases h0:B.length=0
 ·obtain rfl:B=[]:=List.eq_nil_of_length_eq_zero h0
  obtain ⟨bo,cp,rfl,k1,k2⟩:=own_slice hown
  refine Lib.wpList_append_run_sl w hgd s x 213 ho _ _ hs hx (run_append_emptyI k1) ?_
  exact h _ w (by simpa using hown) (grown_same _ _) (.inl rfl)
 ·obtain ⟨b,of,rfl,hb0,hc0⟩:=c3 (by omega)
  obtain ⟨i0,hi0,hz0,hz1,hz2⟩:=info_parts info_iA
  refine wpList_append_lies _ hgd s x _ ho base 3 i0 _ 1 8 Tryz.underlying213 hi0 hz0 hz1 hz2 rfl (by omega) v n (i64s xs) hs hown ⟨b,of,none⟩ B.length cap (i64s B) hx (by simp [i64s]) ?_ (by simp [i64s,Value.oneCell']) (by omega) (by unfold maxLen;omega) (by omega) hbase w.heap.size rfl ?_
  ·intro j z hz
   have hj:j < B.length:=by
    have:=(List.getElem?_eq_some_iff.1 hz).1
    simpa [i64s] using this
   have e:(⟨b,of,none⟩:Addr).add j=⟨b,of + j,none⟩:=by unfold Addr.add;split<;>simp_all
   rw [i64s_get B j hj] at hz
   rw [e,← hz]
   exact hc0 j hj
  ·intro g cap1 w' hown1 hgrow hat hlt
   refine h _ w' (by simpa [i64s] using hown1) hgrow ?_
   rcases hat with e|e
   ·exact .inl (by rw [e];rfl)
   ·exact .inr (by rw [← e];rfl)
theorem v6_bound (A:List Int) (l:A.length=6) (h:fits A):0≤v64 A∧v64 A < 18446744073709551616 ^ 6:=by
 have:=v64_bound A h
 rw [l] at this;exact this
def hv:Nat→Nat→Nat
 | 0,e=>e
 | f + 1,e=>hv f (e / 2)
/-- the curve's number -/
def BB:Int:=27580193559959705877849011840389048093056905856361568521428707301988689241309860865136260764883745107765439761230575
/-- c0 + c1 x + c2 x^2 -/
abbrev Tri:=Int × Int × Int
def ev (r:Int) (a:Tri):Int:=a.1 + a.2.1 * r + a.2.2 * (r * r)
theorem run_eql_usd {P:Program} (w:World) (d:Nat) {t e:TypeId} {n:Nat} {i:TypeInfo} (hp:P.underlying t=some (.array n e)) (hi:P.info? e=some i) (he:P.plainKey e=true) (hu:P.underlying e=some (.int .u64)) (hc:P.cellsOf e=1) (A B:List Int) (lA:A.length=n) (lB:B.length=n) :
  (Op.equalIn (d + 2) t (.agg (us A).toArray) (.agg (us B).toArray)).run P w=.ok (decide (A=B)) w:=by
 rw [run_equalIn_array w (d + 1) _ _ hp hi,List.range_eq_range',run_eqItems_us w d he hu hc A B n lA lB n 0 (by omega)]
 simp
theorem info_u64:(Tryz.prog.info? 27).map (fun i=>(i.zero,i.size,i.bytes))=some (some (.int .u64 0),1,8):=by kernel_rfl
theorem eql_six9 (x0 x1 x2 x3 x4 x5 y0 y1 y2 y3 y4 y5:Int):∀ w:World,(Op.equalIn 9999 29 (.agg #[.int .u64 x0,.int .u64 x1,.int .u64 x2,.int .u64 x3,.int .u64 x4,.int .u64 x5]) (.agg #[.int .u64 y0,.int .u64 y1,.int .u64 y2,.int .u64 y3,.int .u64 y4,.int .u64 y5])).run Tryz.prog w=.ok (decide ([x0,x1,x2,x3,x4,x5]=[y0,y1,y2,y3,y4,y5])) w:=fun w=>by
 cases hi:Tryz.prog.info? 27 with
 | none=>have:=info_u64;rw [hi] at this;simp at this
 | some i=>exact run_eql_usd (P:=Tryz.prog) w 9997 (t:=29) (e:=27) (n:=6) Tryz.underlying29 hi (by kernel_rfl) Tryz.underlying27 (by kernel_rfl) [x0,x1,x2,x3,x4,x5] [y0,y1,y2,y3,y4,y5] rfl rfl
theorem held3 {w0 W:World} (bs:List (Nat × List Value)) (hB:∀ b X,(b,X)∈bs→Blk W b X) (bel:Below w0.heap.size w0 W) :
  ∃ S:World→Prop,Hd S W∧Hid (∀ w1 w2,Hd S w1→Below w1.heap.size w1 w2→Hd S w2)∧Hid (∀ w1 o,Hd S w1→Hd S (w1.alloc o))∧Hid (∀ w1,Hd S w1→Hd S w1.drew)∧Hid (∀ (w1:World) (o o':Obj),W.heap.size≤w1.heap.size→Hd S (w1.alloc o)→Hd S (w1.alloc o')) ∧
   Hid (∀ w1 b j y,Hd S w1→(W.heap.size≤b∨∀ c X,(c,X)∈bs→c≠b)→w0.heap.size≤b→Hd S (w1.setCell ⟨b,j,none⟩ y)) ∧
   Hid (∀ w1,Hd S w1→W.heap.size≤w1.heap.size)∧Hid (∀ w1,Hd S w1→Below w0.heap.size w0 w1)∧Hid (∀ w1 b X,Hd S w1→(b,X)∈bs→Blk w1 b X) ∧
   Hid (∀ w1 b cs,Hd S w1→(W.heap.size≤b∨∀ c X,(c,X)∈bs→c≠b)→w0.heap.size≤b→Hd S (w1.setRow b cs)):=by
 refine ⟨fun wx=>(∀ b X,(b,X)∈bs→Blk wx b X)∧W.heap.size≤wx.heap.size∧Below w0.heap.size w0 wx,⟨hB,Nat.le_refl _,bel⟩,?_,?_,?_,?_,?_,?_,?_,?_,?_⟩
 ·rintro w1 w2 ⟨h1,h3,h4⟩ hb
  exact ⟨fun b X h=>(h1 b X h).later hb,Nat.le_trans h3 hb.size,below_step h4 hb⟩
 ·rintro w1 o ⟨h1,h3,h4⟩
  exact ⟨fun b X h=>(h1 b X h).alloc o,by simp;omega,below_alloc h4⟩
 ·rintro w1 ⟨h1,h3,h4⟩
  exact ⟨h1,h3,h4.drew⟩
 ·rintro w1 o o' hn ⟨h1,h3,h4⟩
  exact ⟨fun b X h=>(h1 b X h).swap (Nat.lt_of_lt_of_le (hB b X h).lt hn),by simp;omega,below_swap h4 (Nat.le_trans bel.size hn)⟩
 ·rintro w1 b j y ⟨h1,h3,h4⟩ hn hl
  refine ⟨fun c X h=>(h1 c X h).other _ _ ?_,by simpa using h3,h4.setCell hl _⟩
  rcases hn with hn|hn
  ·have:=(hB c X h).lt
   exact Nat.ne_of_lt (Nat.lt_of_lt_of_le this hn)
  ·exact hn c X h
 ·rintro w1 ⟨_,h3,_⟩
  exact h3
 ·rintro w1 ⟨_,_,h4⟩
  exact h4
 ·rintro w1 b X ⟨h1,_,_⟩ h
  exact h1 b X h
 ·rintro w1 b cs ⟨h1,h3,h4⟩ hn hl
  refine ⟨fun c X h=>(h1 c X h).row ?_,by simpa [World.setRow] using h3,below_setRow h4 hl _⟩
  rcases hn with hn|hn
  ·have:=(hB c X h).lt
   exact Nat.ne_of_lt (Nat.lt_of_lt_of_le this hn)
  ·exact hn c X h
/-- block g has become X; nothing else that was is other than it was -/
def RdB (w w':World) (g:Nat) (X:List Value):Prop:=Blk w' g X∧(∀ c Y,c≠g→Blk w c Y→Blk w' c Y)∧(∀ B a,B≤g→Below B a w→Below B a w')∧w.heap.size≤w'.heap.size
theorem RdB.cell {w:World} {g k:Nat} {X:List Value} (B:Blk w g X) (v:Value):RdB w (w.setCell ⟨g,k,none⟩ v) g (X.set k v) :=
 ⟨B.set k v,fun c Y hc hY=>hY.other _ _ hc,fun B' a hB hl=>hl.setCell hB _,by simp⟩
/-- two worlds agree where S says -/
def Agr (S:Nat→Prop) (w w':World):Prop:=w.heap.size≤w'.heap.size∧∀ b,S b→b < w.heap.size→w'.heap[b]?=w.heap[b]?
theorem Agr.refl (S:Nat→Prop) (w:World):Agr S w w:=⟨Nat.le_refl _,fun _ _ _=>rfl⟩
theorem Agr.trans {S:Nat→Prop} {w w' w'':World} (h:Agr S w w') (k:Agr S w' w''):Agr S w w'' :=
 ⟨Nat.le_trans h.1 k.1,fun b hb hl=>(k.2 b hb (Nat.lt_of_lt_of_le hl h.1)).trans (h.2 b hb hl)⟩
theorem Agr.below {S:Nat→Prop} {w w':World} (h:Below w.heap.size w w'):Agr S w w':=⟨h.size,fun b _ hl=>h.block b hl⟩
theorem Agr.row {S:Nat→Prop} {w w':World} {c:Nat} {cs:Array Value} (h:Agr S w w') (hc:¬ S c):Agr S w (w'.setRow c cs) :=
 ⟨by have:=h.1;simpa [World.setRow] using this,fun b hb hl=>(setRow_other w' c b cs (fun e=>hc (e ▸ hb))).trans (h.2 b hb hl)⟩
theorem Agr.cell {S:Nat→Prop} {w w':World} {c k:Nat} {v:Value} (h:Agr S w w') (hc:¬ S c):Agr S w (w'.setCell ⟨c,k,none⟩ v) :=
 ⟨by have:=h.1;simpa using this,fun b hb hl=>(heap_setCell_other w' ⟨c,k,none⟩ b v (fun e=>hc (by have e2:b=c:=e;exact e2 ▸ hb))).trans (h.2 b hb hl)⟩
/-- an element that leans on the blocks of S alone -/
def Dep (S:Nat→Prop) (w:World) (T:Tl) (cs:List Value):Prop:=∀ w',Agr S w w'→TlAt w' T cs
theorem Dep.now {S:Nat→Prop} {w:World} {T:Tl} {cs:List Value} (h:Dep S w T cs):TlAt w T cs:=h w (Agr.refl S w)
theorem Dep.next {S S':Nat→Prop} {w w':World} {T:Tl} {cs:List Value} (h:Dep S w T cs) (ha:Agr S w w') (hs:∀ b,S b→b < w.heap.size→S' b):Dep S' w' T cs:=fun w'' h2 =>
 h w'' ⟨Nat.le_trans ha.1 h2.1,fun b hb hl=>(h2.2 b (hs b hb hl) (Nat.lt_of_lt_of_le hl ha.1)).trans (ha.2 b hb hl)⟩
theorem Blk.agr {S:Nat→Prop} {w w':World} {g:Nat} {X:List Value} (B:Blk w g X) (h:Agr S w w') (hg:S g):Blk w' g X:=by
 obtain ⟨t,ht⟩:=B
 exact ⟨t,(h.2 g hg (Array.getElem?_eq_some_iff.1 ht).1).trans ht⟩
theorem kids_at {w:World} {g:Nat}:∀ {ks:List Tl} {o:Nat},(∀ i k,ks[i]?=some k→∃ cs,CsAt w g (o + 5 * i) cs∧TlAt w k cs)→KidsAt w ks g o
 | [],_,_=>by rw [KidsAt];trivial
 | k :: ks,o,h=>by
  rw [KidsAt]
  refine ⟨by simpa using h 0 k rfl,kids_at (fun i x hx=>?_)⟩
  have:=h (i + 1) x (by rw [List.getElem?_cons_succ];exact hx)
  rw [show o + 5 * (i + 1)=o + 5 + 5 * i by omega] at this
  exact this
/-- bytes that are owned lean on their row alone -/
theorem own_agr {S:Nat→Prop} {w w':World} {base size:Nat} {e:TypeId} {v:Value} {n:Nat} {xs:List Value} (h:w.ownsRow base e size v n xs) (ha:Agr S w w') (hs:∀ g,v.ownBlock=some g→S g):w'.ownsRow base e size v n xs:=by
 obtain ⟨hl,h⟩:=h
 rcases h with h|⟨g,cap,cur,h1,h2,h3,h4⟩
 ·exact ⟨hl,.inl h⟩
 ·exact ⟨hl,.inr ⟨g,cap,cur,h1,h2,(ha.2 g (hs g (by rw [h1];rfl)) (Array.getElem?_eq_some_iff.1 h3).1).trans h3,h4⟩⟩
/-- elements in a row that is owned -/
theorem kids_own {S:Nat→Prop} {w:World} {base:Nat} {e:TypeId} {v:Value} {ks:List Tl} {xs:List Value} (h:w.ownsRow base e 5 v ks.length xs) (hk:∀ i k,ks[i]?=some k→Dep S w k ((xs.drop (5 * i)).take 5)) (c t:Int) (m:Bool) {S':Nat→Prop} (hS:∀ b,S b→S' b) (hv:∀ g,v.ownBlock=some g→S' g):Dep S' w (.mk c t m [] ks) [.int .i64 c,.int .i64 t,.bool m,.slice none 0 0,v]:=fun w' ha=>by
 have ha2:Agr S w w':=⟨ha.1,fun b hb hl=>ha.2 b (hS b hb) hl⟩
 have h2:=own_agr h ha hv
 rw [TlAt]
 obtain ⟨hl,h2⟩:=h2
 rcases h2 with ⟨e1,e2⟩|⟨g,cap,cur,h1,h2,h3,h4,h5,h6,h7⟩
 ·refine ⟨.slice none 0 0,none,0,by rw [e1,e2],⟨none,0,rfl,by decide,by decide,fun h0=>by simp at h0⟩,by omega,by decide,fun h0=>by omega⟩
 ·refine ⟨.slice none 0 0,some ⟨g,0,none⟩,cap,by rw [h1],⟨none,0,rfl,by decide,by decide,fun h0=>by simp at h0⟩,h4,h5,fun _=>⟨g,0,rfl,?_⟩⟩
  have B:Blk w' g cur.toList:=⟨e,by simpa using h3⟩
  refine kids_at (fun i k hi=>⟨_,⟨B.lt,fun j u hu=>?_⟩,hk i k hi w' ha2⟩)
  have hj:j < 5:=by
   have:=(List.getElem?_eq_some_iff.1 hu).1
   rw [List.length_take] at this
   omega
  have hi2:=(List.getElem?_eq_some_iff.1 hi).1
  rw [List.getElem?_take,if_pos hj,List.getElem?_drop,← h7,List.getElem?_take,if_pos (by omega)] at hu
  have:=B.cell (5 * i + j) u hu
  rw [Nat.zero_add]
  exact this
theorem leaf_own {S:Nat→Prop} {w:World} {base:Nat} {e:TypeId} {v:Value} {b:List Int} {n:Nat} (h:w.ownsRow base e 1 v n (u8s b)) (hn:b.length=n) (hv:∀ g,v.ownBlock=some g→S g) (c t:Int) (m:Bool):Dep S w (.mk c t m b []) [.int .i64 c,.int .i64 t,.bool m,v,.slice none 0 0]:=fun w' ha=>by
 subst hn
 have h2:=Bs.of_own (own_agr h ha hv)
 rw [TlAt]
 exact ⟨v,none,0,rfl,h2,by simp,by decide,fun h0=>by simp at h0⟩
/-- each of them is one cell -/
def OneC (cs:List Value):Prop:=cs.toArray.all (·.oneCell')=true
theorem TlAt.ones {w:World}:∀ {T:Tl} {cs:List Value},TlAt w T cs→OneC cs
 | .mk ..,cs,h=>by
  rw [TlAt] at h
  obtain ⟨bv,ao,cap,rfl,hb,_⟩:=h
  obtain ⟨bo,bc,rfl,_⟩:=hb
  simp [OneC,Value.oneCell']
theorem lenP_bad {B:List Int} {a en c p:Nat} (h:lenP B a en=.error (c,p)):c=6∨c=7:=by
 unfold lenP at h
 split at h
 ·cases h;exact .inl rfl
 ·split at h
  ·cases h
  ·split at h
   ·cases h;exact .inr rfl
   ·split at h
    ·cases h;exact .inl rfl
    ·split at h
     ·cases h;exact .inr rfl
     ·cases h
theorem kidsP_bad {f:Nat→Nat→Except (Nat × Nat) (Tl × Nat)} {stop c p:Nat} (hf:∀ x c p,f x stop=.error (c,p)→c=6∨c=7∨c=9):∀ {k x:Nat} {acc:List Tl},kidsP f stop k x acc=.error (c,p)→c=6∨c=7∨c=9
 | 0,x,acc,h=>by rw [kidsP] at h;cases h
 | k + 1,x,acc,h=>by
  rw [kidsP] at h
  split at h
  ·cases hq:f x stop with
   | error e=>rw [hq] at h;obtain ⟨c',p'⟩:=e;cases h;exact hf x _ _ hq
   | ok q=>rw [hq] at h;obtain ⟨t,y⟩:=q;exact kidsP_bad hf h
  ·cases h
theorem elemP_bad {B:List Int}:∀ {d a en c p:Nat},elemP B d a en=.error (c,p)→c=6∨c=7∨c=9
 | 0,a,en,c,p,h=>by rw [elemP] at h;cases h;exact .inr (.inr rfl)
 | d + 1,a,en,c,p,h=>by
  rw [elemP] at h
  split at h
  ·cases h;exact .inl rfl
  ·split at h
   ·cases h;exact .inr (.inl rfl)
   ·cases hl:lenP B (a + 1) en with
    | error e =>
     rw [hl] at h
     obtain ⟨c',p'⟩:=e
     cases h
     rcases lenP_bad hl with h|h
     ·exact .inl h
     ·exact .inr (.inl h)
    | ok q =>
     obtain ⟨n,f⟩:=q
     rw [hl] at h
     simp only at h
     split at h
     ·cases h;exact .inl rfl
     ·split at h
      ·cases hk:kidsP (elemP B d) (f + n) n f [] with
       | error e =>
        rw [hk] at h
        obtain ⟨c',p'⟩:=e
        cases h
        exact kidsP_bad (fun x c p hx=>elemP_bad hx) hk
       | ok q=>rw [hk] at h;obtain ⟨ks,z⟩:=q;cases h
      ·cases h
theorem Blk.grown {w w':World} {row:Option Nat} {g:Nat} {X:List Value} (B:Blk w g X) (hg:w.grownBy w' row) (hr:∀ k,row=some k→k≠g):Blk w' g X:=by
 obtain ⟨t,ht⟩:=B
 exact ⟨t,(hg.block g (Array.getElem?_eq_some_iff.1 ht).1 (fun e=>hr g e.symm rfl)).trans ht⟩
theorem Agr.grown {S:Nat→Prop} {w w':World} {row:Option Nat} (hg:w.grownBy w' row) (hs:∀ b,S b→row≠some b):Agr S w w':=⟨hg.size,fun b hb hl=>hg.block b hl (fun e=>hs b hb e.symm)⟩
theorem own_geK {w:World} {base size:Nat} {e:TypeId} {v:Value} {n:Nat} {xs:List Value} {j:Nat} (h:w.ownsRow base e size v n xs) (hj:v.ownBlock=some j):base≤j∧j < w.heap.size:=by
 rcases h.2 with ⟨h1,_⟩|⟨g,c,cur,h1,h2,h3,_⟩
 ·rw [h1] at hj;simp [Value.ownBlock] at hj
 ·rw [h1] at hj
  simp only [Value.ownBlock,Option.some.injEq] at hj
  subst hj
  exact ⟨h2,(Array.getElem?_eq_some_iff.1 h3).1⟩
theorem zero_tlv:Hid (∀ w:World,(zeroValue 53).run Tryz.prog w=.ok (.agg #[.int .i64 0,.int .i64 0,.bool false,.slice none 0 0,.slice none 0 0]) w):=fun w=>by kernel_rfl
theorem info_tlv:(Tryz.prog.info? 53).map (fun i=>(i.zero,i.size,i.bytes))=some (some (.agg #[.int .i64 0,.int .i64 0,.bool false,.slice none 0 0,.slice none 0 0]),5,72):=by kernel_rfl
theorem info_partsD {i:Option TypeInfo} {z:Value} {n m:Nat} (h:i.map (fun i=>(i.zero,i.size,i.bytes))=some (some z,n,m)):∃ j,i=some j∧j.zero=some z∧j.size=n∧j.bytes=m:=by
 obtain ⟨j,hj,e⟩:=Option.map_eq_some_iff.1 h
 simp only [Prod.mk.injEq] at e
 exact ⟨j,hj,e.1,e.2.1,e.2.2⟩
theorem five {cs:List Value} (h:cs.length=5):∃ a b c d e,cs=[a,b,c,d,e]:=by
 match cs,h with
 | [a,b,c,d,e],_=>exact ⟨a,b,c,d,e,rfl⟩
theorem fill_5 {cs:List Value} (h:cs.length=5):Instr.fill (fun i=>some (i * 5,5)) ((Array.range (1 * 5)).map ((Value.agg #[.int .i64 0,.int .i64 0,.bool false,.slice none 0 0,.slice none 0 0]).cells[· % (Value.agg #[.int .i64 0,.int .i64 0,.bool false,.slice none 0 0,.slice none 0 0]).cells.size]!)) [(0,.agg cs.toArray)]=some cs.toArray:=by
 obtain ⟨a,b,c,d,e,rfl⟩:=five h
 kernel_rfl
theorem dpl {S:Nat→Prop} {w w':World} {T:Tl} {cs:List Value} (h:Hid (Dep S w T cs)) (hb:Below w.heap.size w w'):Hid (Dep S w' T cs):=(h.out.next (Agr.below hb) (fun _ h _=>h):Dep S w' T cs)
theorem dpm {S:Nat→Prop} {w w':World} {T:Tl} {cs:List Value} (h:Dep S w T cs) (hb:Below w.heap.size w w'):Dep S w' T cs:=h.next (Agr.below hb) (fun _ h _=>h)
theorem TlAtL {w w':World} {T:Tl} {cs:List Value} (h:Hid (TlAt w T cs)) (hb:Below w.heap.size w w'):Hid (TlAt w' T cs):=h.out.later hb
theorem BsL {w w':World} {v:Value} {b:List Int} (h:Hid (Bs w v b)) (hb:Below w.heap.size w w'):Hid (Bs w' v b):=h.out.later hb
/-- an error of Parse as it lies: itself, or as a Spot -/
def ErAt (w:World) (c p:Nat) (er:Value):Prop:=(c=2∧er=.iface 46 (.int .i64 2))∨(¬ c=2∧∃ g,er=.iface 99 (.pointer (some ⟨g,0,none⟩))∧Blk w g [.int .i64 (p:Int),.iface 46 (.int .i64 (c:Int))])
/-- a Spot's block is new -/
def ErFresh (n:Nat) (er:Value):Prop:=∀ g,er=.iface 99 (.pointer (some ⟨g,0,none⟩))→n≤g
theorem ErAt.later {w w':World} {c p:Nat} {er:Value} (h:ErAt w c p er) (hb:Below w.heap.size w w'):ErAt w' c p er:=by
 rcases h with h|⟨h1,g,h2,h3⟩
 ·exact .inl h
 ·exact .inr ⟨h1,g,h2,h3.later hb⟩
/-- bytes in a block that was not there before -/
def FreshD (w w':World) (v:Value) (X:List Int):Prop:=∃ g o cap cur,v=.slice (some ⟨g,o,none⟩) X.length cap∧X.length≤cap∧cap≤maxLen∧w.heap.size≤g∧Blk w' g cur∧∀ j,j < X.length→cur[o + j]?=some (.int .u8 (X.getD j 0))
theorem FreshD.bs {w w':World} {v:Value} {X:List Int} (h:FreshD w w' v X):Bs w' v X:=by
 obtain ⟨g,o,cap,cur,rfl,h1,h2,h3,h4,h5⟩:=h
 exact ⟨_,cap,rfl,h2,h1,fun _=>⟨g,o,rfl,h4.lt,fun j hj=>h4.cell _ _ (h5 j hj)⟩⟩
/-- what Write tells -/
def WrAt (w w':World) (T:Tl) (v er:Value):Prop:=(wrN T=0→FreshD w w' v (bytesT T)∧er=.nilIface)∧(¬ wrN T=0→Bs w' v []∧er=.iface 46 (.int .i64 ((wrN T:Nat):Int)))
/-- an element without anything in it -/
def nilT:Tl:=.mk 0 0 false [] []
theorem nilT_at (w:World):TlAt w nilT [.int .i64 0,.int .i64 0,.bool false,.slice none 0 0,.slice none 0 0]:=by
 unfold nilT
 rw [TlAt]
 exact ⟨.slice none 0 0,none,0,rfl,⟨none,0,rfl,by decide,by decide,fun h=>by simp at h⟩,by simp,by decide,fun h=>by simp at h⟩
end Go.Proofs.YtohcdbifhnfcbaaGreatDoor
