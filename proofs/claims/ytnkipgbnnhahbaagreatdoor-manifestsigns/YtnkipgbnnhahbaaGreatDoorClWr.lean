/- '==' on arrays of uint64: what it answers. Words of 64 bits in slices; append of any of them, also of none, to a row of one's own. '==' on six limbs. Numbers of six limbs as rows of cells. Certificates as they lie. Rows of elements that grow one by one. Digits told as bytes. The bytes of a point: plain facts. Bytes that grow: owned rows through calls; bytes are told by their number; bytes as text. Rows of bytes of one's own, and bytes behind a cut. Bytes in a list; a slice that is owned. Certificates and their elements, as functions. Elements of several, and what der.Write answers, shortly. -/
import Derived.Test.YtnkipgbnnhahbaaGreatDoorNum
import Derived.Test.YtnkipgbnnhahbaaGreatDoorApBs
import Derived.Test.YtnkipgbnnhahbaaGreatDoorDrPar
import Derived.Test.YtnkipgbnnhahbaaGreatDoorDrDep
import Derived.Test.YtnkipgbnnhahbaaGreatDoorCtPl
import Derived.Test.YtnkipgbnnhahbaaGreatDoorDcOut
import Derived.Test.YtnkipgbnnhahbaaGreatDoorHeld3
import Derived.ChangeKeysEq
import Derived.Test.YtnkipgbnnhahbaaGreatDoorRows
import Derived.Deep.OwnRows
import Derived.Deep.AppendLies
import Derived.Laws.BytesArg
import Derived.Deep.WholeRow
import Derived.Deep.RegionHeld3
import Derived.Deep.DeepCutAuto
import Derived.Deep.DeepFit
import Derived.ChangeArms
import Derived.ChangeOld
import Derived.Lib.ConvBytes
import Derived.Laws.AppendOwn
import Derived.Great.BuildSlice
import Derived.Laws.Rows
import Derived.BigQuiet
namespace Go.Proofs.YtnkipgbnnhahbaaGreatDoor
open Go.RowKit
theorem drop_head (A:List Int) (j:Nat) (h:j < A.length):A.drop j=A.getD j 0 :: A.drop (j + 1):=by
 rw [List.drop_eq_getElem_cons h]
 simp [List.getD_eq_getElem?_getD,h]
theorem run_eqItems_us {P:Program} (w:World) (d:Nat) {e:TypeId} (he:P.plainKey e=true) (hu:P.underlying e=some (.int .u64)) (hc:P.cellsOf e=1) (A B:List Int) (n:Nat) (lA:A.length=n) (lB:B.length=n) :
  ∀ m j,j + m=n→(Op.eqItems (d + 1) e (P.cellsOf e) (us A).toArray (us B).toArray (List.range' j m)).run P w=.ok (decide (A.drop j=B.drop j)) w
 | 0,j,h=>by
  have e1:A.drop j=[]:=List.drop_eq_nil_of_le (by omega)
  have e2:B.drop j=[]:=List.drop_eq_nil_of_le (by omega)
  simp [Op.eqItems,e1,e2]
 | m + 1,j,h=>by
  have ih:=run_eqItems_us w d he hu hc A B n lA lB m (j + 1) (by omega)
  have p1:=run_part_plain (P:=P) w he (xs:=(us A).toArray) (off:=j * P.cellsOf e) (v:=.int .u64 (A.getD j 0)) (by rw [hc,Nat.mul_one,List.getElem?_toArray];exact us_get A j (by omega))
  have p2:=run_part_plain (P:=P) w he (xs:=(us B).toArray) (off:=j * P.cellsOf e) (v:=.int .u64 (B.getD j 0)) (by rw [hc,Nat.mul_one,List.getElem?_toArray];exact us_get B j (by omega))
  have p3:=run_equalIn_int (P:=P) w d e .u64 .u64 (A.getD j 0) (B.getD j 0) hu
  rw [List.range'_succ]
  simp only [Op.eqItems,Sem.run_bind,p1,p2,p3,Result.andThen_ok]
  rw [drop_head A j (by omega),drop_head B j (by omega)]
  clear p1 p2 p3
  generalize A.getD j 0=a
  generalize B.getD j 0=b
  by_cases hq:a=b
  ·simp only [hq,beq_self_eq_true,Bool.not_true,Bool.false_eq_true,if_false,List.cons.injEq,true_and]
   exact ih
  ·have:(a == b)=false:=by simpa using hq
   simp [this,hq]
/-- the slice value v, in the world w, holds the words L -/
def Us (w:World) (v:Value) (L:List Int):Prop :=
 ∃ ao cap,v=.slice ao L.length cap∧cap≤maxLen∧L.length≤cap∧(0 < L.length→∃ b o,ao=some ⟨b,o,none⟩∧b < w.heap.size∧∀ j,j < L.length→w.cell? ⟨b,o + j,none⟩=some (.int .u64 (L.getD j 0)))
theorem Us.later {w w':World} {v:Value} {L:List Int} (h:Us w v L) (hb:Below w.heap.size w w'):Us w' v L:=by
 obtain ⟨ao,cap,h1,h2,h3,h4⟩:=h
 refine ⟨ao,cap,h1,h2,h3,fun hp=>?_⟩
 obtain ⟨b,o,e1,e2,e3⟩:=h4 hp
 exact ⟨b,o,e1,Nat.lt_of_lt_of_le e2 hb.size,fun j hj=>(hb.cell e2).trans (e3 j hj)⟩
theorem Us.of_own {w:World} {base:Nat} {e:TypeId} {v:Value} {n:Nat} {D:List Int} (h:w.ownsRow base e 1 v n (us D)):Us w v D:=by
 obtain ⟨hl,h⟩:=h
 have hn:D.length=n:=by simpa using hl
 rcases h with ⟨h1,h2⟩|⟨g,cap,cur,h1,h2,h3,h4,h5,h6,h7⟩
 ·exact ⟨none,0,by rw [h1,hn,h2],Nat.zero_le _,by omega,fun h=>by omega⟩
 ·refine ⟨_,cap,by rw [hn];exact h1,h5,by omega,fun _=>⟨g,0,rfl,(Array.getElem?_eq_some_iff.1 h3).1,fun j hj=>?_⟩⟩
  have e1:(cur.toList.take (n * 1))[j]?=some (.int .u64 (D.getD j 0)):=by rw [h7];exact us_get D j hj
  rw [List.getElem?_take,if_pos (by omega)] at e1
  rw [Nat.zero_add]
  simp only [World.cell?,h3,Option.isSome_none,Bool.false_eq_true,if_false]
  simpa using e1
theorem us_blk {w:World} {g q:Nat} {P:List Int} (B:Blk w g (us P)) (l:P.length=q) (h:q≤maxLen):Us w (.slice (some ⟨g,0,none⟩) q q) P :=
 ⟨some ⟨g,0,none⟩,q,by rw [l],h,by omega,fun _=>⟨g,0,rfl,B.lt,fun j hj=>by rw [Nat.zero_add];exact B.cell j _ (us_get P j hj)⟩⟩
theorem run_eql_usd {P:Program} (w:World) (d:Nat) {t e:TypeId} {n:Nat} {i:TypeInfo} (hp:P.underlying t=some (.array n e)) (hi:P.info? e=some i) (he:P.plainKey e=true) (hu:P.underlying e=some (.int .u64)) (hc:P.cellsOf e=1) (A B:List Int) (lA:A.length=n) (lB:B.length=n) :
  (Op.equalIn (d + 2) t (.agg (us A).toArray) (.agg (us B).toArray)).run P w=.ok (decide (A=B)) w:=by
 rw [run_equalIn_array w (d + 1) _ _ hp hi,List.range_eq_range',run_eqItems_us w d he hu hc A B n lA lB n 0 (by omega)]
 simp
theorem info_u64:(Tryz.prog.info? 23).map (fun i=>(i.zero,i.size,i.bytes))=some (some (.int .u64 0),1,8):=by kernel_rfl
theorem eql_six9 (x0 x1 x2 x3 x4 x5 y0 y1 y2 y3 y4 y5:Int):∀ w:World,(Op.equalIn 9999 25 (.agg #[.int .u64 x0,.int .u64 x1,.int .u64 x2,.int .u64 x3,.int .u64 x4,.int .u64 x5]) (.agg #[.int .u64 y0,.int .u64 y1,.int .u64 y2,.int .u64 y3,.int .u64 y4,.int .u64 y5])).run Tryz.prog w=.ok (decide ([x0,x1,x2,x3,x4,x5]=[y0,y1,y2,y3,y4,y5])) w:=fun w=>by
 cases hi:Tryz.prog.info? 23 with
 | none=>have:=info_u64;rw [hi] at this;simp at this
 | some i=>exact run_eql_usd (P:=Tryz.prog) w 9997 (t:=25) (e:=23) (n:=6) Tryz.underlying25 hi (by kernel_rfl) Tryz.underlying23 (by kernel_rfl) [x0,x1,x2,x3,x4,x5] [y0,y1,y2,y3,y4,y5] rfl rfl
/-- each of them is one cell -/
def OneR (cs:List Value):Prop:=cs.toArray.all (·.oneCell')=true
/-- a number of six limbs, as a row of cells -/
def U6 (cs:List Value) (x:Int):Prop:=∃ z0 z1 z2 z3 z4 z5:Int,cs=[.int .u64 z0,.int .u64 z1,.int .u64 z2,.int .u64 z3,.int .u64 z4,.int .u64 z5]∧fits [z0,z1,z2,z3,z4,z5]∧v64 [z0,z1,z2,z3,z4,z5]=x
theorem U6.mk {z0 z1 z2 z3 z4 z5:Int} (h:fits [z0,z1,z2,z3,z4,z5]):U6 [.int .u64 z0,.int .u64 z1,.int .u64 z2,.int .u64 z3,.int .u64 z4,.int .u64 z5] (v64 [z0,z1,z2,z3,z4,z5]):=⟨z0,z1,z2,z3,z4,z5,rfl,h,rfl⟩
theorem U6.len {cs:List Value} {x:Int} (h:U6 cs x):cs.length=6:=by
 obtain ⟨z0,z1,z2,z3,z4,z5,rfl,_⟩:=h
 rfl
theorem U6.ones {cs:List Value} {x:Int} (h:U6 cs x):OneR cs:=by
 obtain ⟨z0,z1,z2,z3,z4,z5,rfl,_⟩:=h
 simp [OneR,Value.oneCell']
theorem U6.bd {cs:List Value} {x:Int} (h:U6 cs x):0≤x∧x < 18446744073709551616 ^ 6:=by
 obtain ⟨z0,z1,z2,z3,z4,z5,rfl,hf,rfl⟩:=h
 exact v6_bound _ rfl hf
theorem U6.zero:U6 [.int .u64 0,.int .u64 0,.int .u64 0,.int .u64 0,.int .u64 0,.int .u64 0] 0:=⟨0,0,0,0,0,0,rfl,fits6 (by decide),by decide⟩
theorem U6.one:U6 [.int .u64 1,.int .u64 0,.int .u64 0,.int .u64 0,.int .u64 0,.int .u64 0] 1:=⟨1,0,0,0,0,0,rfl,fits6 (by decide),by decide⟩
/-- a slice of slices: each of its values is what P says -/
def SlAt {α:Type} (P:World→Value→α→Prop) (w:World) (v:Value) (L:List α):Prop:=∃ ao cap,v=.slice ao L.length cap∧L.length≤cap∧cap≤maxLen∧(0 < L.length→∃ b o,ao=some ⟨b,o,none⟩∧b < w.heap.size∧∀ i x,L[i]?=some x→∃ u,w.cell? ⟨b,o + i,none⟩=some u∧P w u x)
theorem SlAt.later {α:Type} {P:World→Value→α→Prop} (hP:∀ {w w':World} {u:Value} {x:α},P w u x→Below w.heap.size w w'→P w' u x) {w w':World} {v:Value} {L:List α} (h:SlAt P w v L) (hb:Below w.heap.size w w'):SlAt P w' v L:=by
 obtain ⟨ao,cap,e,h1,h2,h3⟩:=h
 refine ⟨ao,cap,e,h1,h2,fun h0=>?_⟩
 obtain ⟨b,o,e2,hl,hc⟩:=h3 h0
 refine ⟨b,o,e2,Nat.lt_of_lt_of_le hl hb.size,fun i x hx=>?_⟩
 obtain ⟨u,k1,k2⟩:=hc i x hx
 exact ⟨u,(hb.cell (p:=⟨b,o + i,none⟩) hl).trans k1,hP k2 hb⟩
/-- lists of identifiers, of names -/
def OdsAt (w:World) (v:Value) (L:List (List Int)):Prop:=SlAt Us w v L
def NmsAt (w:World) (v:Value) (L:List (List Pn)):Prop:=SlAt NmAt w v L
theorem OdsAt.later {w w':World} {v:Value} {L:List (List Int)} (h:OdsAt w v L) (hb:Below w.heap.size w w'):OdsAt w' v L:=SlAt.later (P:=Us) (fun h hb=>Us.later h hb) h hb
theorem NmsAt.later {w w':World} {v:Value} {L:List (List Pn)} (h:NmsAt w v L) (hb:Below w.heap.size w w'):NmsAt w' v L:=SlAt.later (P:=NmAt) (fun h hb=>NmAt.later h hb) h hb
/-- a certificate -/
structure Ct where
 serial:List Int
 issuer:List Pn
 subject:List Pn
 frm:Int
 til:Int
 kx:Int
 ky:Int
 kn:Bool
 ca:Bool
 path:Int
 usage:Int
 uses:List (List Int)
 permit:List (List Pn)
 exclude:List (List Pn)
 odd:Bool
 body:List Int
 sr:Int
 ss:Int
/-- its 38 cells -/
def ctRow (sv iv jv:Value) (frm til:Int) (xs ys:List Value) (kn ca:Bool) (path usage:Int) (uv pv ev:Value) (odd:Bool) (bv:Value) (rs zs:List Value):List Value :=
 [sv,iv,jv,.int .i64 frm,.int .i64 til]++(xs++ys++[.bool kn])++[.bool ca,.int .i64 path,.int .i64 usage,uv,pv,ev,.bool odd,bv]++(rs++zs)
/-- a certificate as it lies -/
def CtAt (w:World) (c:Ct) (cs:List Value):Prop:=∃ sv iv jv xs ys uv pv ev bv rs zs,cs=ctRow sv iv jv c.frm c.til xs ys c.kn c.ca c.path c.usage uv pv ev c.odd bv rs zs∧Bs w sv c.serial∧NmAt w iv c.issuer∧NmAt w jv c.subject∧U6 xs c.kx∧U6 ys c.ky∧OdsAt w uv c.uses∧NmsAt w pv c.permit∧NmsAt w ev c.exclude∧Bs w bv c.body∧U6 rs c.sr∧U6 zs c.ss
theorem CtAt.later {w w':World} {c:Ct} {cs:List Value} (h:CtAt w c cs) (hb:Below w.heap.size w w'):CtAt w' c cs:=by
 obtain ⟨sv,iv,jv,xs,ys,uv,pv,ev,bv,rs,zs,e,h1,h2,h3,h4,h5,h6,h7,h8,h9,h10,h11⟩:=h
 exact ⟨sv,iv,jv,xs,ys,uv,pv,ev,bv,rs,zs,e,h1.later hb,h2.later hb,h3.later hb,h4,h5,h6.later hb,h7.later hb,h8.later hb,h9.later hb,h10,h11⟩
theorem CtAt.len {w:World} {c:Ct} {cs:List Value} (h:CtAt w c cs):cs.length=38:=by
 obtain ⟨sv,iv,jv,xs,ys,uv,pv,ev,bv,rs,zs,rfl,-,-,-,h4,h5,-,-,-,-,h10,h11⟩:=h
 simp [ctRow,h4.len,h5.len,h10.len,h11.len]
/-- a row of one's own that holds these elements, none of which leans on the row -/
def RwT (w:World) (base:Nat) (kv:Value) (Ts:List Tl):Prop:=∃ xs,w.ownsRow base 41 5 kv Ts.length xs∧∀ i t,Ts[i]?=some t→Dep (fun b=>base≤b∧kv.ownBlock≠some b) w t ((xs.drop (5 * i)).take 5)
theorem RwT.later {w w':World} {base:Nat} {kv:Value} {Ts:List Tl} (h:RwT w base kv Ts) (hb:Below w.heap.size w w'):RwT w' base kv Ts:=by
 obtain ⟨xs,h1,h2⟩:=h
 exact ⟨xs,own_agr (S:=fun _=>True) h1 (Agr.below hb) (fun _ _=>trivial),fun i t ht=>(h2 i t ht).next (Agr.below hb) (fun _ h _=>h)⟩
theorem RwT.dep {w:World} {base:Nat} {kv:Value} {Ts:List Tl} (h:RwT w base kv Ts) (c t:Int) (m:Bool):Dep (fun b=>base≤b) w (.mk c t m [] Ts) [.int .i64 c,.int .i64 t,.bool m,.slice none 0 0,kv]:=by
 obtain ⟨xs,h1,h2⟩:=h
 exact kids_own h1 h2 c t m (fun _ h=>h.1) (fun g hg=>(own_geK h1 hg).1)
theorem RwT.sl {w:World} {base:Nat} {kv:Value} {Ts:List Tl} (h:RwT w base kv Ts):∃ ao cap,kv=.slice ao Ts.length cap:=by
 obtain ⟨xs,h1,_⟩:=h
 rcases h1.2 with ⟨e1,e2⟩|⟨g,cap,cur,e1,_⟩
 ·exact ⟨none,0,by rw [e1,e2]⟩
 ·exact ⟨_,cap,e1⟩
/-- a literal of one element -/
theorem RwT.lit {w:World} {base:Nat} {T:Tl} {cs:List Value} (h:Dep (fun b=>base≤b) w T cs) (l:cs.length=5) (hb:base≤w.heap.size):RwT (w.alloc (.cells cs.toArray 41)) base (.slice (some ⟨w.heap.size,0,none⟩) 1 1) [T]:=by
 refine ⟨cs,⟨l,.inr ⟨w.heap.size,1,cs.toArray,rfl,hb,by show (w.heap.push _)[w.heap.size]?=_;simp,Nat.le_refl _,by decide,by simpa using l,by rw [List.take_of_length_le (by simp;omega)]⟩⟩,?_⟩
 refine one_kid (P:=Dep (fun b=>base≤b∧(Value.slice (some ⟨w.heap.size,0,none⟩) 1 1).ownBlock≠some b) (w.alloc (.cells cs.toArray 41))) ?_ l
 refine h.next (Agr.below ((Below.refl _ _).alloc (Nat.le_refl _) _)) (fun b hb hl=>⟨hb,fun e=>?_⟩)
 simp only [Value.ownBlock,Option.some.injEq] at e
 omega
/-- one element more -/
theorem wpList_append_tlv {ops:Array Oper} {rest:List Oper} {o:Oper} {a:Act} {w:World} {Q:Exit→Act→World→Prop} (hgd:o.guard=none) (s x:Operand)
  (ho:o.op=.call { callee:=.builtin .append,args:=#[s,x],argTypes:=#[39,39] })
  (base:Nat) (kv:Value) (Ts:List Tl) (hs:a.eval s=kv) (hr:RwT w base kv Ts) (g:Nat) (hx:a.eval x=.slice (some ⟨g,0,none⟩) 1 1) (cs:List Value) (B:Blk w g cs) (l5:cs.length=5) (ones:OneC cs)
  (T:Tl) (hd:Dep (fun b=>base≤b∧kv.ownBlock≠some b) w T cs) (hn:Ts.length≤1000000) (hbase:base≤w.heap.size)
  (h:∀ kv' w',RwT w' base kv' (Ts++[T])→w.grownBy w' kv.ownBlock→(∀ b,kv.ownBlock=some b→base≤b)→(kv'.ownBlock=kv.ownBlock∨kv'.ownBlock=some w.heap.size)→wpList Tryz.prog ops Q rest (a.put o.dst kv') w') :
  wpList Tryz.prog ops Q (o :: rest) a w:=by
 obtain ⟨xs,h1,h2⟩:=hr
 obtain ⟨jt,hjt,ht0,ht1,ht2⟩:=info_partsD info_tlv
 refine wpList_append_lies _ hgd s x _ ho base 41 jt _ 5 72 Tryz.underlying39 hjt ht0 ht1 ht2 rfl (by omega) kv Ts.length xs hs h1 ⟨g,0,none⟩ 1 1 cs hx l5 ?_ (fun u hu=>(Array.all_eq_true_iff_forall_mem.1 ones) u (by simpa using hu)) (by omega) (by unfold maxLen;omega) (by omega) hbase w.heap.size rfl ?_
 ·intro j u hu
  rw [Addr.add_mid,Nat.zero_add]
  exact B.cell j u hu
 ·intro g' cap1 w' hown hgrow hat hlt
  have hl:xs.length=Ts.length * 5:=h1.1
  refine h _ w' ⟨xs++cs,by rw [List.length_append];exact hown,fun i t ht=>?_⟩ hgrow (fun b hb=>(own_geK h1 hb).1) (by rcases hat with e|e;exact .inl (by rw [e];rfl);exact .inr (by rw [← e];rfl))
  have hag:Agr (fun b=>base≤b∧kv.ownBlock≠some b) w w':=Agr.grown hgrow (fun b hb=>hb.2)
  have hS:∀ b,(base≤b∧kv.ownBlock≠some b)→b < w.heap.size→(base≤b∧(Value.slice (some ⟨g',0,none⟩) (Ts.length + 1) cap1).ownBlock≠some b):=fun b hb hlb=>⟨hb.1,fun e=>by
   simp only [Value.ownBlock,Option.some.injEq] at e
   rcases hat with e2|e2
   ·exact hb.2 (by rw [e2,e])
   ·omega⟩
  by_cases hi:i < Ts.length
  ·rw [List.getElem?_append_left hi] at ht
   rw [List.drop_append_of_le_length (by omega),List.take_append_of_le_length (by rw [List.length_drop];omega)]
   exact (h2 i t ht).next hag hS
  ·have hi2:=(List.getElem?_eq_some_iff.1 ht).1
   rw [List.length_append] at hi2
   obtain rfl:i=Ts.length:=by simp at hi2;omega
   rw [List.getElem?_append_right (Nat.le_refl _),Nat.sub_self] at ht
   simp only [List.getElem?_cons_zero,Option.some.injEq] at ht
   subst ht
   rw [List.drop_append_of_le_length (by omega),List.drop_of_length_le (by omega),List.nil_append,List.take_of_length_le (by omega)]
   exact hd.next hag hS
theorem RwT.lt {w:World} {base:Nat} {kv:Value} {Ts:List Tl} (h:RwT w base kv Ts):∀ b,kv.ownBlock=some b→b < w.heap.size:=fun b hb=>by
 obtain ⟨xs,h1,_⟩:=h
 exact (own_geK h1 hb).2
theorem mod_next (a:Int) (h0:0≤a) (k:Nat):a % 256 ^ k + 256 ^ k * (a / 256 ^ k % 256)=a % 256 ^ (k + 1):=by
 obtain ⟨n,rfl⟩:=Int.eq_ofNat_of_zero_le h0
 have e:=Nat.mod_mul (x:=n) (a:=256 ^ k) (b:=256)
 have h1:(256:Int) ^ k=((256 ^ k:Nat):Int):=(Int.natCast_pow 256 k).symm
 rw [Int.pow_succ,h1]
 generalize (256:Nat) ^ k=p at e
 have e2:((n % p + p * (n / p % 256):Nat):Int)=((n % (p * 256):Nat):Int):=by rw [e]
 exact e2
theorem digits_of (a:Int) (h0:0≤a) (Q:List Int) (hQ:∀ r,r < Q.length→Q.getD r 0=a / 256 ^ r % 256):pv 256 Q=a % 256 ^ Q.length:=by
 have key:∀ k,k≤Q.length→pv 256 (Q.take k)=a % 256 ^ k:=by
  intro k
  induction k with
  | zero=>intro _;simp [pv,Int.emod_one]
  | succ k ih =>
   intro hk
   rw [pv_take _ Q k (by omega),ih (by omega),hQ k (by omega),mod_next a h0 k]
 have:=key Q.length (Nat.le_refl _)
 rwa [List.take_of_length_le (Nat.le_refl _)] at this
theorem pv_take_any (b:Int) (D:List Int) (k:Nat):pv b (D.take (k + 1))=pv b (D.take k) + b ^ k * D.getD k 0:=by
 by_cases h:k < D.length
 ·exact pv_take b D k h
 ·rw [List.take_of_length_le (by omega),List.take_of_length_le (by omega),getD_none D k (by omega)];simp
theorem spread (c:Nat) (hc:0 < c) (A R:List Int) (hA:∀ j,0≤A.getD j 0∧A.getD j 0 < 256 ^ c) (hR:∀ t,t < R.length→R.getD t 0=A.getD (t / c) 0 / 256 ^ (t % c) % 256) :
  ∀ n,c * n≤R.length→pv 256 (R.take (c * n))=pv (256 ^ c) (A.take n):=by
 intro n
 induction n with
 | zero=>intro _;simp [pv]
 | succ n ih =>
  intro hn
  have hn':c * n + c≤R.length:=by rw [Nat.mul_succ] at hn;exact hn
  have e1:R.take (c * (n + 1))=R.take (c * n)++(R.take (c * n + c)).drop (c * n):=by
   rw [Nat.mul_succ]
   have:=List.take_append_drop (c * n) (R.take (c * n + c))
   rw [List.take_take,show min (c * n) (c * n + c)=c * n by omega] at this
   exact this.symm
  have hl:((R.take (c * n + c)).drop (c * n)).length=c:=by simp;omega
  have hQ:∀ r,r < ((R.take (c * n + c)).drop (c * n)).length→((R.take (c * n + c)).drop (c * n)).getD r 0=A.getD n 0 / 256 ^ r % 256:=by
   intro r hr
   rw [hl] at hr
   have e:((R.take (c * n + c)).drop (c * n)).getD r 0=R.getD (c * n + r) 0:=by
    simp only [List.getD_eq_getElem?_getD,List.getElem?_drop,List.getElem?_take,show c * n + r < c * n + c by omega,if_true]
   rw [e,hR _ (by omega),Nat.mul_add_div hc,Nat.div_eq_of_lt hr,Nat.mul_add_mod,Nat.mod_eq_of_lt hr,Nat.add_zero]
  have e2:=digits_of (A.getD n 0) (hA n).1 _ hQ
  have e3:(R.take (c * n)).length=c * n:=by simp;omega
  rw [e1,pv_append,ih (by omega),e2,hl,e3,Int.emod_eq_of_lt (hA n).1 (hA n).2,pv_take_any,Int.pow_mul]
/-- bytes are told by their number -/
theorem pv256_inj:∀ (A B:List Int),A.length=B.length→(∀ j,0≤A.getD j 0∧A.getD j 0 < 256)→(∀ j,0≤B.getD j 0∧B.getD j 0 < 256)→pv 256 A=pv 256 B→A=B
 | [],[],_,_,_,_=>rfl
 | [],b :: B,h,_,_,_=>by simp at h
 | a :: A,[],h,_,_,_=>by simp at h
 | a :: A,b :: B,h,hA,hB,hv=>by
  have ha:0≤a∧a < 256:=hA 0
  have hb:0≤b∧b < 256:=hB 0
  simp only [pv] at hv
  have h1:a=b:=by omega
  have h2:pv 256 A=pv 256 B:=by omega
  rw [h1,pv256_inj A B (by simpa using h) (fun j=>hA (j + 1)) (fun j=>hB (j + 1)) h2]
theorem beN_inj (A B:List Int) (hl:A.length=B.length) (hA:byt A) (hB:byt B) (h:beN A=beN B):A=B:=by
 have:=pv256_inj A.reverse B.reverse (by simpa using hl) (byt_rev hA) (byt_rev hB) h
 exact List.reverse_inj.1 this
theorem be_lt {bs:List Int} (hB:byt bs) (hl:bs.length=48):0≤beN bs∧beN bs < 18446744073709551616 ^ 6:=by
 have h:=pv256_bound bs.reverse (byt_rev hB)
 rw [List.length_reverse,hl] at h
 exact ⟨h.1,Int.lt_of_lt_of_le h.2 (by decide)⟩
theorem Bs.alloc {w:World} {v:Value} {bs:List Int} (h:Bs w v bs) (o:Obj):Bs (w.alloc o) v bs:=h.later ((Below.refl _ _).alloc (Nat.le_refl _) o)
theorem Bs.lt {w:World} {b o n cap:Nat} {bs:List Int} (h:Bs w (.slice (some ⟨b,o,none⟩) n cap) bs) (hn:0 < n):b < w.heap.size:=by
 obtain ⟨ao,c,e,-,-,h4⟩:=h
 simp only [Value.slice.injEq] at e
 obtain ⟨rfl,rfl,rfl⟩:=e
 obtain ⟨b',o',e',h5,-⟩:=h4 hn
 simp only [Option.some.injEq,Addr.mk.injEq] at e'
 rw [e'.1];exact h5
/-- a row of bytes of the call's own -/
def Own (w:World) (base:Nat) (v:Value) (n:Nat) (xs:List Int):Prop:=w.ownsRow base 5 1 v n (u8s xs)
theorem Own.later {w w':World} {base:Nat} {v:Value} {n:Nat} {xs:List Int} (h:Own w base v n xs) (hb:Below w.heap.size w w'):Own w' base v n xs:=by
 refine ⟨h.1,?_⟩
 rcases h.2 with h0|⟨g,cap,cur,hv,hg,hh,h3⟩
 ·exact .inl h0
 ·refine .inr ⟨g,cap,cur,hv,hg,?_,h3⟩
  rw [hb.block g (Array.getElem?_eq_some_iff.1 hh).1];exact hh
theorem Own.alloc {w:World} {base:Nat} {v:Value} {n:Nat} {xs:List Int} (h:Own w base v n xs) (o:Obj):Own (w.alloc o) base v n xs:=h.later ((Below.refl _ _).alloc (Nat.le_refl _) o)
theorem Own.drew {w:World} {base:Nat} {v:Value} {n:Nat} {xs:List Int} (h:Own w base v n xs):Own w.drew base v n xs:=h
theorem Bs.grown {w w':World} {b o n cap g:Nat} {bs:List Int} (h:Bs w (.slice (some ⟨b,o,none⟩) n cap) bs) (hg:w.grownBy w' (some g)) (hne:b≠g):Bs w' (.slice (some ⟨b,o,none⟩) n cap) bs:=by
 obtain ⟨ao,c,e,h2,h3,h4⟩:=h
 refine ⟨ao,c,e,h2,h3,fun hp=>?_⟩
 obtain ⟨b',o',e',h5,h6⟩:=h4 hp
 simp only [Value.slice.injEq] at e
 have eb:b'=b:=by
  have:=e.1.trans e'
  simp only [Option.some.injEq,Addr.mk.injEq] at this
  exact this.1.symm
 subst eb
 exact ⟨b',o',e',Nat.lt_of_lt_of_le h5 hg.size,fun j hj=>hg.cell (h6 j hj) (by simpa using hne)⟩
theorem own_nilM (w:World):(w.alloc (.cells #[] 5)).ownsRow w.heap.size 5 1 (.slice (some ⟨w.heap.size,0,none⟩) 0 0) 0 (u8s []):=own_made w [] 5 0 w.heap.size rfl (Nat.le_refl _) (by decide)
theorem own_geM {w:World} {base:Nat} {e:TypeId} {v:Value} {n:Nat} {xs:List Value} {j:Nat} (h:w.ownsRow base e 1 v n xs) (hj:v.ownBlock=some j):base≤j:=by
 rcases h.2 with ⟨h1,_⟩|⟨g,c,cur,h1,h2,_⟩
 ·rw [h1] at hj;simp [Value.ownBlock] at hj
 ·rw [h1] at hj;simp [Value.ownBlock] at hj;omega
/-- bytes behind a cut, wherever an empty one lies -/
theorem bs_cutM {w:World} {g o n cap r m k:Nat} {ad:Option Addr} {B:List Int} (h:Bs w (.slice (some ⟨g,o,none⟩) n cap) B) (hn:B.length=n) (hr:r≤n) (hm:m=n - r) (ha:0 < m→ad=some ⟨g,o + r,none⟩) (hk:k=cap - r):Bs w (.slice ad m k) (B.drop r):=by
 obtain ⟨a,c,e,h1,h2,h3⟩:=h
 obtain ⟨rfl,_,rfl⟩:some ⟨g,o,none⟩=a∧n=B.length∧cap=c:=by simpa using e
 have el:(B.drop r).length=m:=by rw [List.length_drop,hn,hm]
 refine ⟨ad,k,by rw [el],by rw [hk];exact Nat.le_trans (Nat.sub_le _ _) h1,by rw [el,hm,hk];exact Nat.sub_le_sub_right (by rw [← hn];exact h2) r,fun h0=>?_⟩
 rw [el] at h0 ⊢
 obtain ⟨b',o',e',k1,k2⟩:=h3 (by rw [hn];exact Nat.lt_of_lt_of_le h0 (by rw [hm];exact Nat.sub_le _ _))
 simp only [Option.some.injEq,Addr.mk.injEq] at e'
 obtain ⟨rfl,rfl,-⟩:=e'
 refine ⟨g,o + r,ha h0,k1,fun j hj=>?_⟩
 rw [Nat.add_assoc,k2 (r + j) (by omega),List.getD_eq_getElem?_getD,List.getD_eq_getElem?_getD,List.getElem?_drop]
theorem own_slE {w:World} {base size:Nat} {e:TypeId} {v:Value} {n:Nat} {xs:List Value} (h:w.ownsRow base e size v n xs):∃ ao cap,v=.slice ao n cap:=by
 rcases h.2 with ⟨h1,h2⟩|⟨g,cap,cur,h1,_⟩
 ·exact ⟨none,0,by rw [h1,h2]⟩
 ·exact ⟨_,cap,h1⟩
theorem byt_in {L:List Int} (h:∀ x∈L,0≤x∧x < 256):byt L:=fun j=>by
 by_cases hj:j < L.length
 ·rw [List.getD_eq_getElem?_getD,List.getElem?_eq_getElem hj]
  exact h _ (List.getElem_mem hj)
 ·rw [List.getD_eq_getElem?_getD,List.getElem?_eq_none (by omega)]
  decide
/-- a list, an element of class 2, a truth that is true -/
def listT (ks:List Tl):Tl:=.mk 0 16 true [] ks
/-- what is answered, or no bytes -/
def orNil:Except Nat (List Int)→List Int
 | .ok b=>b
 | .error _=>[]
/-- an identifier's element -/
def oidT (l:List Int):Tl:=.mk 0 6 false (orNil (oidOf l)) []
def algT:Tl:=listT [oidT [1,2,840,10045,4,3,3]]
/-- the bytes of an element, or none -/
noncomputable def wrB (T:Tl):List Int:=if wrN T=0 then bytesT T else []
/-- an error of this number, or none -/
def erN (n:Nat):Value:=if n=0 then .nilIface else .iface 46 (.int .i64 (n:Int))
theorem erN_0:erN 0=.nilIface:=rfl
theorem erN_s {n:Nat} (h:¬ n=0):erN n=.iface 46 (.int .i64 (n:Int)):=if_neg h
/-- what der.Write answers, shortly -/
theorem c17_Write {T:Tl} {cs:List Value} {w:World} (h:TlAt w T cs) (hl:(bytesT T).length≤1099511627776) :
  Calls Tryz.prog 16 #[.agg cs.toArray] w fun e w'=>∃ v':Value,e=.returned (.tuple #[v',erN (wrN T)])∧Bs w' v' (wrB T)∧NewV w v'∧Below w.heap.size w w':=by
 refine (c12_Write (smT_of_len hl) h).mono ?_
 rintro e w' ⟨v,er,rfl,hw,hb⟩
 by_cases k:wrN T=0
 ·obtain ⟨hf,rfl⟩:=hw.1 k
  refine ⟨v,by rw [k,erN_0],?_,?_,hb⟩
  ·unfold wrB
   rw [if_pos k]
   exact hf.bs
  ·obtain ⟨g,o,cap,cur,rfl,-,-,h3,-,-⟩:=hf
   exact fun a m c e h0=>by simp only [Value.slice.injEq,Option.some.injEq] at e;rw [← e.1];exact h3
 ·obtain ⟨hf,rfl⟩:=hw.2 k
  refine ⟨v,by rw [erN_s k],?_,?_,hb⟩
  ·unfold wrB
   rw [if_neg k]
   exact hf
  ·obtain ⟨ao,cap,rfl,-,-,-⟩:=hf
   exact fun a m c e h0=>by simp only [Value.slice.injEq] at e;simp at e;omega
end Go.Proofs.YtnkipgbnnhahbaaGreatDoor
