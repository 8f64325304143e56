import Derived.Test.YtdfmoghjimghhaaGreatDoorDrTG
import Derived.Test.YtdfmoghjimghhaaGreatDoorLBytes
import Derived.Test.YtdfmoghjimghhaaGreatDoorCRef
import Derived.Test.YtdfmoghjimghhaaGreatDoorCtBase
import Derived.Test.YtdfmoghjimghhaaGreatDoorCtSize
import Derived.Test.YtdfmoghjimghhaaGreatDoorPrOidOf
import Derived.Test.YtdfmoghjimghhaaGreatDoorRows
import Derived.Deep.OwnRows
import Derived.Deep.AppendLies
import Derived.Deep.WholeRow
import Derived.Deep.RegionHeld3
import Derived.Deep.DeepCutAuto
import Derived.Deep.DeepFit
import Derived.Great.BuildSlice
import Derived.Laws.Rows
import Derived.BigQuiet
import Derived.ChangeArms
import Derived.ChangeOld
import Derived.Lib.ConvBytes
import Derived.Laws.AppendOwn
namespace Go.Proofs.YtdfmoghjimghhaaGreatDoor
open Go.RowKit
open Go.ChangeShapes Go.WideShapes Go.ChangeAt Go.RowKit
set_option linter.unusedSimpArgs false
set_option maxRecDepth 100000
set_option maxHeartbeats 2000000
theorem Zdo {w w':World} {base:Nat} {e:TypeId} {v:Value} {n:Nat} {xs:List Value} (h:w.ownsRow base e 1 v n xs) (hb:Below w.heap.size w w'):w'.ownsRow base e 1 v n xs:=by
 obtain⟨hl,h⟩:=h;rcases h with h|⟨g,cap,cur,h1,h2,h3,h4⟩
 ·exact ⟨hl,.inl h⟩
 ·exact ⟨hl,.inr ⟨g,cap,cur,h1,h2,by rw[hb.block g (Array.getElem?_eq_some_iff.1 h3).1];exact h3,h4⟩⟩
theorem ZaJ {w:World} {base:Nat} {e:TypeId} {v:Value} {n:Nat} {xs:List Value} {j:Nat} (h:w.ownsRow base e 1 v n xs) (hj:v.ownBlock=some j):base≤j:=by
 rcases h.2 with ⟨h1,_⟩|⟨g,c,cur,h1,h2,_⟩
 ·rw[h1] at hj;simp[Value.ownBlock] at hj
 ·rw[h1] at hj;simp[Value.ownBlock] at hj;omega
theorem Za0 {w:World} {base b2:Nat} {e:TypeId} {v:Value} {n:Nat} {xs:List Value} (h:w.ownsRow base e 1 v n xs) (hb:b2≤base):w.ownsRow b2 e 1 v n xs:=by
 obtain⟨h1,h2⟩:=h;refine ⟨h1,?_⟩;rcases h2 with h2|⟨g,cap,cur,a,b,c⟩
 ·exact .inl h2
 ·exact .inr ⟨g,cap,cur,a,Nat.le_trans hb b,c⟩
theorem Zbc {w:World} {base:Nat} {e:TypeId} {v:Value} {n:Nat} {xs:List Value} {o:Obj} (h:w.ownsRow base e 1 v n xs):(w.alloc o).ownsRow base e 1 v n xs:=Zdo h ((Below.refl _ _).alloc (Nat.le_refl _) o)
theorem Zbi (w:World) (X:List Int) (hm:X.length≤maxLen):Bs (w.alloc (.cells (u8s X).toArray 5)) (.slice (some ⟨w.heap.size,0,none⟩) X.length X.length) X:=by
 have B:=Blk.new w (u8s X) 5 w.heap.size rfl;exact B.bs rfl hm
theorem Zcp (w:World) (X:List Int) (n base:Nat) (hn:X.length=n) (hb:base≤w.heap.size) (hm:n≤maxLen):(w.alloc (.cells (u8s X).toArray 5)).ownsRow base 5 1 (.slice (some ⟨w.heap.size,0,none⟩) n n) n (u8s X):=by
 subst hn;refine ⟨by simp,.inr ⟨w.heap.size,X.length,(u8s X).toArray,rfl,hb,?_,Nat.le_refl _,hm,?_⟩⟩
 ·show (w.heap.push _)[w.heap.size]?=_;simp
 ·simp
  exact List.take_of_length_le (by simp[u8s])
theorem ZjN {S:Nat→Prop} {w w':World} {v:Value} {n:List Int} (h:Bs w v n) (hv:∀ a m c,v=.slice (some a) m c→0<m→S a.block) (ha:Agr S w w'):Bs w' v n:=by
 obtain⟨ao,cp,e,h1,h2,h3⟩:=h;refine ⟨ao,cp,e,h1,h2,fun h0=>?_⟩;obtain ⟨b,o,e2,hb,hc⟩:=h3 h0;have hs:S b:=hv ⟨b,o,none⟩ _ _ (by rw[e,e2]) h0;refine ⟨b,o,e2,Nat.lt_of_lt_of_le hb ha.1,fun j hj=>?_⟩;rw[← hc j hj];have:=ha.2 b hs hb;unfold World.cell?;simp only[this]
theorem ZbZ {w0 w:World} {v:Value} {b:List Int} (h:Bs w v b) (hn:ZbR w0 v) (c t:Int) (m:Bool):Dep (fun g=>w0.heap.size≤g) w (.mk c t m b []) [.int .i64 c,.int .i64 t,.bool m,v,.slice none 0 0]:=fun w' ha=>by
 rw[Zbg];exact ⟨v,none,0,rfl,ZjN h hn ha,Nat.le_refl _,Nat.zero_le _,fun h=>absurd h (Nat.lt_irrefl 0)⟩
theorem ZaB {w:World} {T:Tl} {cs:List Value} {N M g:Nat} {X:Array Value} (h:Dep (fun b=>N≤b) w T cs) (hg:g<N) (hM:M≤N):Dep (fun b=>M≤b) (w.setRow g X) T cs :=
 h.next ((Agr.refl _ _).row (by omega)) (fun b hb _=>Nat.le_trans hM hb)
theorem Zav {w:World} {N:Nat} {ks:List Tl} {xs:List Value} (hl:xs.length=ks.length*5) (hN:N≤w.heap.size) (hm:ks.length≤maxLen) (hk:∀ i k,ks[i]?=some k→Dep (fun b=>N≤b) w k ((xs.drop (5*i)).take 5)) (c t:Int) (m:Bool) :
  Dep (fun b=>N≤b) (w.alloc (.cells xs.toArray 57)) (.mk c t m [] ks) [.int .i64 c,.int .i64 t,.bool m,.slice none 0 0,.slice (some ⟨w.heap.size,0,none⟩) ks.length ks.length]:=by
 have own:(w.alloc (.cells xs.toArray 57)).ownsRow N 57 5 (.slice (some ⟨w.heap.size,0,none⟩) ks.length ks.length) ks.length xs :=
  ⟨hl,.inr ⟨w.heap.size,ks.length,xs.toArray,rfl,hN,by show (w.heap.push _)[w.heap.size]?=_;simp,Nat.le_refl _,hm,by simpa using hl,by rw[List.take_of_length_le (by simp;omega)]⟩⟩
 refine ZdV own (fun i k hi=>(hk i k hi).next (Agr.below ((Below.refl _ _).alloc (Nat.le_refl _) _)) (fun _ h _=>h)) c t m (fun _ h=>h) (fun g hg=>?_);simp only[Value.ownBlock,Option.some.injEq] at hg;omega
theorem ZaY {P:Tl→List Value→Prop} {T:Tl} {cs:List Value} (h:P T cs) (l:cs.length=5):∀ i k,[T][i]?=some k→P k ((cs.drop (5*i)).take 5):=fun i k hk=>by
 match i,hk with
 | 0,hk =>
  simp only[List.getElem?_cons_zero,Option.some.injEq] at hk;subst hk;rw[Nat.mul_zero,List.drop_zero,List.take_of_length_le (by omega)];exact h
 | i+1,hk=>simp at hk
theorem Zbo {P:Tl→List Value→Prop} {T U:Tl} {cs ds:List Value} (h:P T cs) (k:P U ds) (l:cs.length=5) (m:ds.length=5):∀ i x,[T,U][i]?=some x→P x (((cs++ds).drop (5*i)).take 5):=fun i x hx=>by
 match i,hx with
 | 0,hx =>
  simp only[List.getElem?_cons_zero,Option.some.injEq] at hx;subst hx;rw[Nat.mul_zero,List.drop_zero,List.take_append_of_le_length (by omega),List.take_of_length_le (by omega)];exact h
 | 1,hx =>
  simp only[List.getElem?_cons_succ,List.getElem?_cons_zero,Option.some.injEq] at hx;subst hx;rw[Nat.mul_one,List.drop_append_of_le_length (by omega),List.drop_of_length_le (by omega),List.nil_append,List.take_of_length_le (by omega)];exact k
 | i+2,hx=>simp at hx
theorem ZbO {cs ds:List Value} (h:cs.length=5) (k:ds.length=5):Instr.fill (fun i=>some (i*5,5)) ((Array.range (2*5)).map ((Value.agg #[.int .i64 0,.int .i64 0,.bool false,.slice none 0 0,.slice none 0 0]).cells[· % (Value.agg #[.int .i64 0,.int .i64 0,.bool false,.slice none 0 0,.slice none 0 0]).cells.size]!)) [(0,.agg cs.toArray),(1,.agg ds.toArray)]=some (cs++ds).toArray:=by
 obtain⟨a,b,c,d,e,rfl⟩:=five h;obtain ⟨a',b',c',d',e',rfl⟩:=five k;kernel_rfl
theorem Zfe {L:List Int} (h:∀ x∈L,0≤x∧x<18446744073709551616):wrd L:=fun j=>by
 by_cases hj:j<L.length
 ·rw[List.getD_eq_getElem?_getD,List.getElem?_eq_getElem hj]
  exact h _ (List.getElem_mem hj)
 ·rw[List.getD_eq_getElem?_getD,List.getElem?_eq_none (by omega)]
  decide
def RwT (w:World) (base:Nat) (kv:Value) (Ts:List Tl):Prop:=∃ xs,w.ownsRow base 57 5 kv Ts.length xs∧∀ i t,Ts[i]?=some t→Dep (fun b=>base≤b∧kv.ownBlock≠some b) w t ((xs.drop (5*i)).take 5)
theorem RwT.nil0 (w:World) (base:Nat):RwT w base (.slice none 0 0) []:=⟨[],⟨rfl,.inl ⟨rfl,rfl⟩⟩,fun i t h=>by simp at h⟩
theorem RwT.later {w w':World} {base:Nat} {kv:Value} {Ts:List Tl} (h:RwT w base kv Ts) (hb:Below w.heap.size w w'):RwT w' base kv Ts:=by
 obtain⟨xs,h1,h2⟩:=h;exact ⟨xs,Zbr (S:=fun _=>True) h1 (Agr.below hb) (fun _ _=>trivial),fun i t ht=>(h2 i t ht).next (Agr.below hb) (fun _ h _=>h)⟩
theorem RwT.dep {w:World} {base:Nat} {kv:Value} {Ts:List Tl} (h:RwT w base kv Ts) (c t:Int) (m:Bool):Dep (fun b=>base≤b) w (.mk c t m [] Ts) [.int .i64 c,.int .i64 t,.bool m,.slice none 0 0,kv]:=by
 obtain⟨xs,h1,h2⟩:=h;exact ZdV h1 h2 c t m (fun _ h=>h.1) (fun g hg=>(Zat h1 hg).1)
theorem RwT.sl {w:World} {base:Nat} {kv:Value} {Ts:List Tl} (h:RwT w base kv Ts):∃ ao cap,kv=.slice ao Ts.length cap:=by
 obtain⟨xs,h1,_⟩:=h;rcases h1.2 with ⟨e1,e2⟩|⟨g,cap,cur,e1,_⟩
 ·exact ⟨none,0,by rw[e1,e2]⟩
 ·exact ⟨_,cap,e1⟩
theorem ZcD {S:Nat→Prop} {w:World} {v:Value} {b:List Int} (h:Bs w v b) (hS:∀ a m c,v=.slice (some a) m c→0<m→S a.block) (c t:Int) (m:Bool):Dep S w (.mk c t m b []) [.int .i64 c,.int .i64 t,.bool m,v,.slice none 0 0]:=fun w' ha=>by
 rw[Zbg];exact ⟨v,none,0,rfl,ZjN h hS ha,Nat.le_refl _,Nat.zero_le _,fun h=>absurd h (Nat.lt_irrefl 0)⟩
theorem RwT.lit {w:World} {base:Nat} {T:Tl} {cs:List Value} (h:Dep (fun b=>base≤b) w T cs) (l:cs.length=5) (hb:base≤w.heap.size):RwT (w.alloc (.cells cs.toArray 57)) base (.slice (some ⟨w.heap.size,0,none⟩) 1 1) [T]:=by
 refine⟨cs,⟨l,.inr ⟨w.heap.size,1,cs.toArray,rfl,hb,by show (w.heap.push _)[w.heap.size]?=_;simp,Nat.le_refl _,by decide,by simpa using l,by rw[List.take_of_length_le (by simp;omega)]⟩⟩,?_⟩;refine ZaY (P:=Dep (fun b=>base≤b∧(Value.slice (some ⟨w.heap.size,0,none⟩) 1 1).ownBlock≠some b) (w.alloc (.cells cs.toArray 57))) ?_ l;refine h.next (Agr.below ((Below.refl _ _).alloc (Nat.le_refl _) _)) (fun b hb hl=>⟨hb,fun e=>?_⟩);simp only[Value.ownBlock,Option.some.injEq] at e;omega
theorem Zal {ops:Array Oper} {rest:List Oper} {o:Oper} {a:Act} {w:World} {Q:Exit→Act→World→Prop} (hgd:o.guard=none) (s x:Operand)
  (ho:o.op=.call { callee:=.builtin .append,args:=#[s,x],argTypes:=#[55,55] })
  (base:Nat) (kv:Value) (Ts:List Tl) (hs:a.eval s=kv) (hr:RwT w base kv Ts) (g:Nat) (hx:a.eval x=.slice (some ⟨g,0,none⟩) 1 1) (cs:List Value) (B:Blk w g cs) (l5:cs.length=5) (ones:Zbp cs)
  (T:Tl) (hd:Dep (fun b=>base≤b∧kv.ownBlock≠some b) w T cs) (hn:Ts.length≤1000000) (hbase:base≤w.heap.size)
  (h:∀ kv' w',RwT w' base kv' (Ts++[T])→w.grownBy w' kv.ownBlock→(∀ b,kv.ownBlock=some b→base≤b)→(kv'.ownBlock=kv.ownBlock∨kv'.ownBlock=some w.heap.size)→wpList Tryz.prog ops Q rest (a.put o.dst kv') w') :
  wpList Tryz.prog ops Q (o::rest) a w:=by
 obtain⟨xs,h1,h2⟩:=hr;obtain ⟨jt,hjt,ht0,ht1,ht2⟩:=Zap ZaI;refine wpList_append_lies _ hgd s x _ ho base 57 jt _ 5 72 Tryz.underlying55 hjt ht0 ht1 ht2 rfl (by omega) kv Ts.length xs hs h1 ⟨g,0,none⟩ 1 1 cs hx l5 ?_ (fun u hu=>(Array.all_eq_true_iff_forall_mem.1 ones) u (by simpa using hu)) (by omega) (by unfold maxLen;omega) (by omega) hbase w.heap.size rfl ?_
 ·intro j u hu
  rw[Addr.add_mid,Nat.zero_add];exact B.cell j u hu
 ·intro g' cap1 w' hown hgrow hat hlt
  have hl:xs.length=Ts.length*5:=h1.1;refine h _ w' ⟨xs++cs,by rw[List.length_append];exact hown,fun i t ht=>?_⟩ hgrow (fun b hb=>(Zat h1 hb).1) (by rcases hat with e|e;exact .inl (by rw[e];rfl);exact .inr (by rw[← e];rfl));have hag:Agr (fun b=>base≤b∧kv.ownBlock≠some b) w w':=Agr.grown hgrow (fun b hb=>hb.2);have hS:∀ b,(base≤b∧kv.ownBlock≠some b)→b<w.heap.size→(base≤b∧(Value.slice (some ⟨g',0,none⟩) (Ts.length+1) cap1).ownBlock≠some b):=fun b hb hlb=>⟨hb.1,fun e=>by
   simp only[Value.ownBlock,Option.some.injEq] at e;rcases hat with e2|e2
   ·exact hb.2 (by rw[e2,e])
   ·omega⟩
  by_cases hi:i<Ts.length
  ·rw[List.getElem?_append_left hi] at ht
   rw[List.drop_append_of_le_length (by omega),List.take_append_of_le_length (by rw[List.length_drop];omega)];exact (h2 i t ht).next hag hS
  ·have hi2:=(List.getElem?_eq_some_iff.1 ht).1
   rw[List.length_append] at hi2;obtain rfl:i=Ts.length:=by simp at hi2;omega
   rw[List.getElem?_append_right (Nat.le_refl _),Nat.sub_self] at ht;simp only[List.getElem?_cons_zero,Option.some.injEq] at ht;subst ht;rw[List.drop_append_of_le_length (by omega),List.drop_of_length_le (by omega),List.nil_append,List.take_of_length_le (by omega)];exact hd.next hag hS
theorem Zbx {w w':World} {N:Nat} {kv:Value} {Ts:List Tl} (h:Hid (RwT w N kv Ts)) (hb:Below w.heap.size w w'):Hid (RwT w' N kv Ts):=h.out.later hb
theorem RwT.lt {w:World} {base:Nat} {kv:Value} {Ts:List Tl} (h:RwT w base kv Ts):∀ b,kv.ownBlock=some b→b<w.heap.size:=fun b hb=>by
 obtain⟨xs,h1,_⟩:=h;exact (Zat h1 hb).2
theorem Zfu:Tryz.prog.cellsOf 121=2:=by kernel_rfl
theorem Zi5:Tryz.prog.cellsOf 3=1:=by kernel_rfl
theorem Zi7:Tryz.prog.cellsOf 9=1:=by kernel_rfl
theorem Zfd {n:Int}:(Lit.int .i64 n).wf=true↔-9223372036854775808≤n∧n<9223372036854775808:=by
 have h1:IntKind.i64.min=-9223372036854775808:=rfl;have h2:IntKind.i64.max=9223372036854775807:=rfl;simp[Lit.wf,h1,h2];omega
theorem Zj6 {w:World} {a:Addr} {cs:List Value} (h:w.cells? 0 a 2=some cs):cs.length=2∧∀ j v,cs[j]?=some v→w.cell? (a.add j)=some v:=by
 unfold World.cells? at h;rw[if_pos (Nat.zero_le _)] at h;have e:List.range 2=[0,1]:=rfl;rw[e] at h;simp only[List.mapM_cons,List.mapM_nil,Option.bind_eq_bind,Option.pure_def,Option.bind_eq_some_iff,Option.some.injEq] at h;obtain ⟨v0,h0,t0,⟨v1,h1,t1,rfl,rfl⟩,rfl⟩:=h;refine ⟨rfl,fun j v hj=>?_⟩
 match j,hj with
 | 0,hj=>rw[h0];simpa using hj
 | 1,hj=>rw[h1];simpa using hj
theorem ZeK (b o j:Nat):(⟨b,o,none⟩:Addr).add j=⟨b,o+j,none⟩:=by unfold Addr.add;split<;>simp_all
theorem ZnD (s:ByteArray):strOfNums (s.data.toList.map fun b=>(b.toNat:Int))=s:=by
 have e:∀ l:List UInt8,l.map ((fun n:Int=>UInt8.ofNat n.toNat) ∘ fun b:UInt8=>((b.toNat:Nat):Int))=l:=fun l=>by
  induction l with
  | nil=>rfl
  | cons a l ih=>rw[List.map_cons,ih];simp
 apply ByteArray.ext;simp[strOfNums,e]
theorem Zm0 (l:List UInt8):byt (l.map fun b=>(b.toNat:Int)):=fun j=>by
 by_cases h:j<l.length
 ·have hl:=l[j].toNat_lt
  rw[List.getD_eq_getElem?_getD,List.getElem?_map,List.getElem?_eq_getElem h];simp only[Option.map_some,Option.getD_some];omega
 ·rw[List.getD_eq_getElem?_getD,List.getElem?_eq_none (by simpa using h)]
  decide
theorem ZkY {H:Type} {enc:TypeId × Value→H} {w:World} {fuel:Nat} {cs:List Value} {x:DataW H × List MemPlace} (h:DataW.trod enc Tryz.prog w 0 (fun _=>true) true fuel 121 cs=some x):∃ p:Pn,cs=[.int .i64 p.1,.string (strOfNums p.2)]∧(-9223372036854775808≤p.1∧p.1<9223372036854775808)∧byt p.2∧p.2.length≤maxLen:=by
 obtain⟨xs,n,rfl,_,hl,hlen,hf⟩:=DataW.trod_struct Tryz.underlying121 h;rw[Zfu] at hl
 match cs,hl with
 | [a,b],_ =>
 have some2:∀ i,i<2→∃ y,xs[i]?=some y:=fun i hi=>⟨_,List.getElem?_eq_getElem (by rw[hlen];exact hi)⟩;obtain ⟨y0,s0⟩:=some2 0 (by decide);obtain ⟨y1,s1⟩:=some2 1 (by decide);have f0:DataW.trod enc Tryz.prog w 0 (fun _=>true) true n 3 (([a,b].drop 0).take (Tryz.prog.cellsOf 3))=some y0:=(hf 0 _ rfl).trans s0;rw[Zi5] at f0;replace f0:DataW.trod enc Tryz.prog w 0 (fun _=>true) true n 3 [a]=some y0:=f0;have f1:DataW.trod enc Tryz.prog w 0 (fun _=>true) true n 9 (([a,b].drop 1).take (Tryz.prog.cellsOf 9))=some y1:=(hf 1 _ rfl).trans s1;rw[Zi7] at f1;replace f1:DataW.trod enc Tryz.prog w 0 (fun _=>true) true n 9 [b]=some y1:=f1;obtain ⟨n0,e0,_,w0⟩:=DataW.trod_int Tryz.underlying3 f0;obtain ⟨s,e1,_,hsz⟩:=DataW.trod_string Tryz.underlying9 f1;simp only[List.cons.injEq,and_true] at e0 e1;subst e0 e1;exact ⟨(n0,s.data.toList.map fun b=>(b.toNat:Int)),by rw[ZnD],Zfd.1 w0,Zm0 _,by rw[List.length_map];exact hsz⟩
theorem ZfE {w:World} {x:Addr}:∀ (n:Nat),(∀ i,i<n→∃ p:Pn,(w.cell? (x.add (i*2))=some (.int .i64 p.1)∧w.cell? (x.add (i*2+1))=some (.string (strOfNums p.2)))∧(-9223372036854775808≤p.1∧p.1<9223372036854775808)∧byt p.2∧p.2.length≤maxLen)→∃ ps:List Pn,ps.length=n∧WfN ps∧∀ i p,ps[i]?=some p→w.cell? (x.add (i*2))=some (.int .i64 p.1)∧w.cell? (x.add (i*2+1))=some (.string (strOfNums p.2))
 | 0,_=>⟨[],rfl,fun i p h=>by simp at h,fun i k h=>by simp at h⟩
 | n+1,h=>by
  obtain⟨ps,h1,h2,h3⟩:=ZfE n (fun i hi=>h i (by omega));obtain ⟨p,c1,c2,c3⟩:=h n (by omega);have key:∀ i q,(ps++[p])[i]?=some q→(ps[i]?=some q)∨(i=n∧q=p):=fun i q hq=>by
   by_cases hi:i<ps.length
   ·rw[List.getElem?_append_left hi] at hq
    exact .inl hq
   ·have hl:=(List.getElem?_eq_some_iff.1 hq).1
    rw[List.length_append] at hl;have ei:i=n:=by simp at hl;omega
    subst ei;rw[List.getElem?_append_right (by omega),h1,Nat.sub_self] at hq;simp at hq;exact .inr ⟨rfl,hq.symm⟩
  refine⟨ps++[p],by rw[List.length_append,h1];rfl,fun i q hq=>?_,fun i q hq=>?_⟩
  ·rcases key i q hq with h|⟨rfl,rfl⟩
   ·exact h2 i q h
   ·exact ⟨c2,c3⟩
  ·rcases key i q hq with h|⟨rfl,rfl⟩
   ·exact h3 i q h
   ·exact c1
theorem Zjr {H:Type} {enc:TypeId × Value→H} {w:World} {fuel:Nat} {v:Value} {x:DataW H × List MemPlace} (h:DataW.trod enc Tryz.prog w 0 (fun _=>true) true fuel 24 [v]=some x):∃ n,Zb3 w v n∧WfN n∧((x.1=.nil∧n.length=0)∨∃ e r,x.1=.slice e r∧n.length=e.length):=by
 rcases DataW.trod_slice Tryz.underlying24 h with ⟨e4,ex⟩|⟨ad,len,cap,elems,rest,n',hn',e4,ex,_,hlc,hcm,hel,hea,_,_⟩
 ·simp only[List.cons.injEq,and_true] at e4
  subst e4;exact ⟨[],Zb3.nil0 w,fun i p h=>(by simp at h),.inl ⟨by rw[ex],rfl⟩⟩
 ·simp only[List.cons.injEq,and_true] at e4
  subst e4;have each:∀ i,i<len→∃ p:Pn,(w.cell? (ad.add (i*2))=some (.int .i64 p.1)∧w.cell? (ad.add (i*2+1))=some (.string (strOfNums p.2)))∧(-9223372036854775808≤p.1∧p.1<9223372036854775808)∧byt p.2∧p.2.length≤maxLen:=fun i hi=>by
   have hi2:=hea i hi;rw[Zfu,List.getElem?_eq_getElem (by omega)] at hi2;obtain ⟨cs,hc1,hc2⟩:=Option.bind_eq_some_iff.1 hi2;obtain ⟨p,rfl,t1,t2⟩:=ZkY hc2;have k:=(Zj6 hc1).2;have k0:=k 0 _ rfl;have k1:=k 1 _ rfl;rw[Addr.add_add] at k0 k1;exact ⟨p,⟨k0,k1⟩,t1,t2⟩
  obtain⟨ps,k1,k2,k3⟩:=ZfE len each;refine ⟨ps,⟨some ad,cap,by rw[k1],by omega,hcm,fun h0=>?_⟩,k2,.inr ⟨elems.map (·.1),rest.map (·.1),by rw[ex],by rw[k1,List.length_map,hel]⟩⟩;obtain ⟨g,o,spot⟩:=ad;obtain ⟨k,hk⟩:∃ k,ps[0]?=some k:=⟨_,List.getElem?_eq_getElem h0⟩;have c0:=(k3 0 k hk).1;have hs:spot=none:=by simpa [Addr.add] using World.cell?_spot c0
  subst hs;have hb:=World.block_lt_of_cell? w _ c0;refine ⟨g,o,rfl,by simpa [Addr.add] using hb,fun i p hp=>?_⟩;have:=k3 i p hp;rw[ZeK,ZeK] at this;exact this
theorem ZdX {H:Type} {enc:TypeId × Value→H} {w:World} {fuel:Nat} {v:Value} {x:DataW H × List MemPlace} (h:DataW.trod enc Tryz.prog w 0 (fun _=>true) true fuel 24 [v]=some x):∃ n,Zb3 w v n∧WfN n:=by
 obtain⟨n,h1,h2,_⟩:=Zjr h;exact ⟨n,h1,h2⟩
theorem Zmj {v:Value} {B:List Int} {w:World} (hv:Bs w v B) (b:byt B) :
  Calls Tryz.prog 168 #[v] w fun e w'=>(∀ n,ZbF B=.ok n→e=.returned (.tuple #[.string (strOfNums n),.nilIface])∧Below w.heap.size w w')∧(∀ c,ZbF B=.error c→e=.returned (.tuple #[.string (strOfNums []),.iface 53 (.int .i64 (c:Int))])∧Below w.heap.size w w'):=by
 have cv:=ZdS hv;have HB:Hid (byt B):=b;obtain ⟨ao,cap,rfl,h1,h2,h3⟩:=hv;obtain ⟨N,hN⟩:∃ N,B.length=N:=⟨_,rfl⟩;have HN:Hid (B.length=N):=hN;rw[hN] at h2 h3 cv ⊢;have HC:Hid (∀ j,j<N→∃ g o,ao=some ⟨g,o,none⟩∧w.cell? ⟨g,o+j,none⟩=some (.int .u8 (B.getD j 0))∧g<w.heap.size):=fun j hj=>by
  obtain⟨g,o,e1,e2,e3⟩:=h3 (by omega);exact ⟨g,o,e1,e3 j hj,e2⟩
 unfold maxLen at h1;clear b h3 hN
 by_cases c0:64<N
 ·have H:Hid (ZbF B=.error 2):=by show _=_;unfold ZbF;rw[if_pos (by rw[HN.out];exact c0)]
  have g0:(64:Int)<(N:Int):=by omega
  go_enter Tryz.func168,Tryz.ntmps168;go_wp2_with fail;refine bodyPost_ret (results_tmp2 rfl _ _ _) rfl ?_;exact ⟨fun n h=>(by rw[H.out] at h;cases h),fun c h=>(by rw[H.out] at h;cases h;exact ⟨rfl,Below.refl _ _⟩)⟩
 have g0:¬ (64:Int)<(N:Int):=by omega
 by_cases c1:N=0
 ·have H:Hid (ZbF B=.error 7):=by show _=_;unfold ZbF;rw[if_neg (by rw[HN.out];exact c0),if_pos (by rw[HN.out];exact c1)]
  have g1:(N:Int)=0:=by omega
  go_enter Tryz.func168,Tryz.ntmps168;go_wp2_with fail;refine bodyPost_ret (results_tmp2 rfl _ _ _) rfl ?_;exact ⟨fun n h=>(by rw[H.out] at h;cases h),fun c h=>(by rw[H.out] at h;cases h;exact ⟨rfl,Below.refl _ _⟩)⟩
 have g1:¬ (N:Int)=0:=by omega
 have H0:Hid (ZbF B=if ∃ j,j<N∧(B.getD j 0<32∨126<B.getD j 0) then .error 7 else .ok B):=by show _=_;unfold ZbF;rw[HN.out,if_neg c0,if_neg c1]
 go_enter Tryz.func168,Tryz.ntmps168;go_wp2_with fail;go_loop [16] (fun iv=>∃ (i:Nat),i≤N∧iv=.int .i64 (i:Int)∧Hid (∀ j,j<i→¬ (B.getD j 0<32∨126<B.getD j 0))) (fun iv=>N-(intOf iv).toNat)
 case atStart=>exact ⟨0,by omega,rfl,fun j h=>absurd h (by omega)⟩
 case round =>
  obtain⟨i,hi,rfl,HE⟩:=hrel
  by_cases hil:i<N
  ·have k1:(i:Int)<(N:Int):=by omega
   have k2:(0:Int)≤(i:Int):=by omega
   have gi:IntKind.i64.wrap ((i:Int)+1)=(i:Int)+1:=by rw[IntKind.wrap_i64];omega
   obtain⟨g,o,rfl,cy,lg⟩:=HC.out i hil;have yb:=HB.out i;obtain ⟨y,hy⟩:∃ y,B.getD i 0=y:=⟨_,rfl⟩;have HY:Hid (B.getD i 0=y):=hy;rw[hy] at cy yb;clear hy
   by_cases d1:y<32
   ·have H:Hid (ZbF B=.error 7):=by show _=_;rw[H0.out,if_pos ⟨i,hil,.inl (by rw[HY.out];exact d1)⟩]
    go_wp2_with fail;refine bodyPost_ret (results_tmp2 rfl _ _ _) rfl ?_;exact ⟨fun n h=>(by rw[H.out] at h;cases h),fun c h=>(by rw[H.out] at h;cases h;exact ⟨rfl,Below.refl _ _⟩)⟩
   by_cases d2:126<y
   ·have H:Hid (ZbF B=.error 7):=by show _=_;rw[H0.out,if_pos ⟨i,hil,.inr (by rw[HY.out];exact d2)⟩]
    go_wp2_with fail;refine bodyPost_ret (results_tmp2 rfl _ _ _) rfl ?_;exact ⟨fun n h=>(by rw[H.out] at h;cases h),fun c h=>(by rw[H.out] at h;cases h;exact ⟨rfl,Below.refl _ _⟩)⟩
   have HE2:Hid (∀ j,j<i+1→¬ (B.getD j 0<32∨126<B.getD j 0)):=fun j hj=>by
    by_cases hji:j<i
    ·exact HE.out j hji
    ·obtain rfl:j=i:=by omega
     rw[HY.out];omega
   go_wp2_with fail;go_round
   case rel=>exact ⟨i+1,by omega,by go_num,HE2⟩
   case measure=>simp[intOf];omega
  ·have k1:¬ (i:Int)<(N:Int):=by omega
   have H:Hid (ZbF B=.ok B):=by
    show _=_;rw[H0.out,if_neg (by rintro ⟨j,hj,h⟩;exact HE.out j (by omega) h)]
   go_wp2_with fail;refine bodyPost_ret (results_tmp2 rfl _ _ _) rfl ?_;exact ⟨fun n h=>(by rw[H.out] at h;cases h;exact ⟨rfl,Below.refl _ _⟩),fun c h=>(by rw[H.out] at h;cases h)⟩
theorem Zg9 (A:List Int):(strOfNums A).size=A.length:=by simp[strOfNums,ByteArray.size]
theorem ZnC {A:List Int} (h:byt A) {j:Nat} (hj:j<A.length):(((strOfNums A).data.toList.getD j 0).toNat:Int)=A.getD j 0:=by
 have h0:=h j;have e:(strOfNums A).data.toList=A.map fun n=>UInt8.ofNat n.toNat:=by simp[strOfNums]
 rw[e,List.getD_eq_getElem?_getD,List.getElem?_map,List.getElem?_eq_getElem hj];rw[List.getD_eq_getElem?_getD,List.getElem?_eq_getElem hj] at h0 ⊢;simp only[Option.map_some,Option.getD_some] at h0 ⊢;rw[UInt8.toNat_ofNat_of_lt' (by have:UInt8.size=256:=rfl;omega)];omega
theorem Zc8 {bs:List Int} (b:byt bs) (hl:bs.length≤maxLen) (w:World):∃ cap w',(convert 9 22 (.string (strOfNums bs))).run Tryz.prog w=.ok (.slice (some ⟨w.heap.size,0,none⟩) bs.length cap) w'∧Bs w' (.slice (some ⟨w.heap.size,0,none⟩) bs.length cap) bs∧Below w.heap.size w w':=by
 have hc:=Lib.run_convert_string_bytes (P:=Tryz.prog) w 9 22 5 (strOfNums bs) Tryz.underlying9 Tryz.underlying22 Tryz.underlying5;rw[Zg9] at hc;refine ⟨_,_,hc,⟨_,_,rfl,grownCap_le_maxLen _ _ _ _ hl,grownCap_ge _ _ _ _,fun _=>⟨w.heap.size,0,rfl,by rw[Lib.bytesWorld_size];omega,fun j hj=>?_⟩⟩,?_⟩
 ·rw[Nat.zero_add,Lib.bytesWorld_cell _ _ _ _ (by rw[Zg9];exact hj),ZnC b hj]
 ·exact ⟨rfl,rfl,rfl,by rw[Lib.bytesWorld_size];omega,fun j hj=>Lib.bytesWorld_at_old _ _ _ j hj⟩
theorem Zfq {k:Int} {w:World}:Calls Tryz.prog 167 #[.int .i64 k] w fun e w'=>e=.returned (.bool (ZcQ k))∧w'=w:=by
 have e3:(k == 3)=decide (k=3):=rfl;have e6:(k == 6)=decide (k=6):=rfl;have e10:(k == 10)=decide (k=10):=rfl;have e11:(k == 11)=decide (k=11):=rfl;have HK:Hid (ZcQ k=(decide (k=3) || decide (k=6) || decide (k=10) || decide (k=11))):=rfl;generalize decide (k=3)=b3 at *;generalize decide (k=6)=b6 at *;generalize decide (k=10)=b10 at *;generalize decide (k=11)=b11 at *;go_enter Tryz.func167,Tryz.ntmps167
 cases b3
 ·cases b6
  ·cases b10
   ·cases b11
    ·go_wp2_with fail
     go_ret;exact ⟨by rw[HK.out];rfl,rfl⟩
    ·go_wp2_with fail
     go_ret;exact ⟨by rw[HK.out];rfl,rfl⟩
   ·go_wp2_with fail
    go_ret;exact ⟨by rw[HK.out];rfl,rfl⟩
  ·go_wp2_with fail
   go_ret;exact ⟨by rw[HK.out];rfl,rfl⟩
 ·go_wp2_with fail
  go_ret;exact ⟨by rw[HK.out];rfl,rfl⟩
theorem Zi1 {k:Int} {w:World}:Calls Tryz.prog 166 #[.int .i64 k] w fun e w'=>∃ g,e=.returned (.slice (some ⟨g,0,none⟩) 4 4)∧w.heap.size≤g∧Us w' (.slice (some ⟨g,0,none⟩) 4 4) [2,5,4,IntKind.u64.wrap k]∧Below w.heap.size w w':=by
 obtain⟨u,hu⟩:∃ u,IntKind.u64.wrap k=u:=⟨_,rfl⟩;rw[hu];go_enter Tryz.func166,Tryz.ntmps166;go_wp2_with fail;go_ret;exact ⟨w.heap.size,rfl,Nat.le_refl _,Zhc (Blk.new w (us [2,5,4,u]) 25 w.heap.size rfl) rfl (by decide),(Below.refl _ _).alloc (Nat.le_refl _) _⟩
theorem ZaE (c:Int):∀ w:World,(binOp .neq 39 (.iface 53 (.int .i64 c)) .nilIface).run Tryz.prog w=.ok (.bool true) w:=fun _=>by kernel_rfl
theorem ZaS:∀ w:World,(binOp .neq 39 .nilIface .nilIface).run Tryz.prog w=.ok (.bool false) w:=fun _=>by kernel_rfl
theorem ZfS {t:Int} {ka:Option Addr} {n kc:Nat} {w:World}:Calls Tryz.prog 106 #[.int .i64 t,.slice ka n kc] w fun e w'=>e=.returned (.agg #[.int .i64 0,.int .i64 t,.bool true,.slice none 0 0,.slice ka n kc])∧Below w.heap.size w w':=by
 have R0:=Blk.new w [.int .i64 0,.int .i64 0,.bool false,.slice none 0 0,.slice none 0 0] 57 w.heap.size rfl;have bel:=bal w (.cells #[.int .i64 0,.int .i64 0,.bool false,.slice none 0 0,.slice none 0 0] 57);have hz:=Zad.out;go_enter Tryz.func106,Tryz.ntmps106;go_upto_region 1 with fail;have lW:=bel.size;generalize w.alloc (.cells #[.int .i64 0,.int .i64 0,.bool false,.slice none 0 0,.slice none 0 0] 57)=W at *;obtain ⟨tR,hR⟩:=R0;have HR1:Hid _:=hR;clear hR;go_wp2_with (first|((with_reducible show wpList _ _ _ ({ dst:=_,op:=.store _ _ _,type:=_,pos:=_,after:=_,guard:=_ } :: _) _ _);refine wpList_store_row rfl 57 _ _ rfl w.heap.size #[.int .i64 0,.int .i64 t,.bool true,.slice none 0 0,.slice ka n kc] rfl rfl tR _ HR1.out (by rw[Zab];rfl) rfl (by simp[Value.oneCell']) ?_)|fail);refine bodyPost_ret (results_cell_row rfl _ _ w.heap.size tR #[.int .i64 0,.int .i64 t,.bool true,.slice none 0 0,.slice ka n kc] (0,0) _ rfl (setRow_heap _ _ _ _ _ _ HR1.out) Tryz.underlying57 rfl (by rw[Zab];rfl)) rfl ?_;exact ⟨rfl,below_setRow bel (by omega) _⟩
theorem Zj2 {t:Int} {ka:Option Addr} {n kc:Nat} {w:World}:Calls Tryz.prog 169 #[.int .i64 t,.slice ka n kc] w fun e w'=>e=.returned (.agg #[.int .i64 0,.int .i64 t,.bool false,.slice ka n kc,.slice none 0 0])∧Below w.heap.size w w':=by
 have R0:=Blk.new w [.int .i64 0,.int .i64 0,.bool false,.slice none 0 0,.slice none 0 0] 57 w.heap.size rfl;have bel:=bal w (.cells #[.int .i64 0,.int .i64 0,.bool false,.slice none 0 0,.slice none 0 0] 57);have hz:=Zad.out;go_enter Tryz.func169,Tryz.ntmps169;go_upto_region 1 with fail;have lW:=bel.size;generalize w.alloc (.cells #[.int .i64 0,.int .i64 0,.bool false,.slice none 0 0,.slice none 0 0] 57)=W at *;obtain ⟨tR,hR⟩:=R0;have HR1:Hid _:=hR;clear hR;go_wp2_with (first|((with_reducible show wpList _ _ _ ({ dst:=_,op:=.store _ _ _,type:=_,pos:=_,after:=_,guard:=_ } :: _) _ _);refine wpList_store_row rfl 57 _ _ rfl w.heap.size #[.int .i64 0,.int .i64 t,.bool false,.slice ka n kc,.slice none 0 0] rfl rfl tR _ HR1.out (by rw[Zab];rfl) rfl (by simp[Value.oneCell']) ?_)|fail);refine bodyPost_ret (results_cell_row rfl _ _ w.heap.size tR #[.int .i64 0,.int .i64 t,.bool false,.slice ka n kc,.slice none 0 0] (0,0) _ rfl (setRow_heap _ _ _ _ _ _ HR1.out) Tryz.underlying57 rfl (by rw[Zab];rfl)) rfl ?_;exact ⟨rfl,below_setRow bel (by omega) _⟩
def ZlL (B:List Int):Bool:=match ZbF B with|.ok _=>true|.error _=>false
def Zl1 (w:World) (p:Pn) (e:Ending) (w':World):Prop:=Below w.heap.size w w'∧(ZbB p=false→e=.returned (.tuple #[.agg #[.int .i64 0,.int .i64 0,.bool false,.slice none 0 0,.slice none 0 0],.iface 53 (.int .i64 1)]))∧(ZbB p=true→∃ cs:List Value,e=.returned (.tuple #[.agg cs.toArray,.nilIface])∧Dep (fun b=>w.heap.size≤b) w' (ZbY p) cs)
theorem Zl1.bad {w w':World} {p:Pn} (h:ZbB p=false) (hb:Below w.heap.size w w'):Zl1 w p (.returned (.tuple #[.agg #[.int .i64 0,.int .i64 0,.bool false,.slice none 0 0,.slice none 0 0],.iface 53 (.int .i64 1)])) w':=⟨hb,fun _=>rfl,fun k=>(by rw[h] at k;cases k)⟩
theorem Zl1.ok {w w':World} {p:Pn} {cs:List Value} (h:ZbB p=true) (hd:Dep (fun b=>w.heap.size≤b) w' (ZbY p) cs) (hb:Below w.heap.size w w'):Zl1 w p (.returned (.tuple #[.agg cs.toArray,.nilIface])) w':=⟨hb,fun k=>(by rw[h] at k;cases k),fun _=>⟨cs,rfl,hd⟩⟩
theorem Zfz {k:Int} (h:ZcQ k=true):k=3∨k=6∨k=10∨k=11:=by
 unfold ZcQ at h;simp only[Bool.or_eq_true,decide_eq_true_eq] at h;omega
theorem ZkB {k:Int} (h:ZcQ k=true):IntKind.u64.wrap k=k:=by
 have:=Zfz h;rw[IntKind.wrap_u64];omega
theorem ZmH {k:Int} (h:ZcQ k=true):ZaD [2,5,4,k]=.ok [85,4,k]:=by
 have n4:∀ {x:Int},x<100→¬ ∃ j,j < [2,5,4,x].length∧4294967295 < [2,5,4,x].getD j 0:=by
  rintro x hx ⟨j,h1,h2⟩
  match j,h1,h2 with
  | 0,_,h2=>exact absurd (show (4294967295:Int)<2 from h2) (by decide)
  | 1,_,h2=>exact absurd (show (4294967295:Int)<5 from h2) (by decide)
  | 2,_,h2=>exact absurd (show (4294967295:Int)<4 from h2) (by decide)
  | 3,_,h2 =>
   have h3:4294967295<x:=h2;omega
  | j+4,h1,_ =>
   have h3:j+4<4:=h1;omega
 have hk:=Zfz h;unfold ZaD;rw[if_neg (by simp),if_neg (n4 (by omega))];rcases hk with rfl|rfl|rfl|rfl<;>rfl
theorem ZmI {k:Int}:wrd [2,5,4,IntKind.u64.wrap k]:=Zfe (by
 intro x hx;simp only[List.mem_cons,List.not_mem_nil,or_false] at hx;rcases hx with rfl|rfl|rfl|rfl
 ·decide
 ·decide
 ·decide
 ·rw[IntKind.wrap_u64];omega)
theorem ZgX {k:Int} {s:List Int} (h:ZcQ k=true):ZbB (k,s)=ZlL s:=by
 show (ZcQ k && _)=_;rw[h];rfl
theorem Zfr {t:Int} {ka:Option Addr} {n kc:Nat} {w:World}:Calls Tryz.prog 169 #[.int .i64 t,.slice ka n kc] w fun e w'=>∃ cs:List Value,e=.returned (.agg cs.toArray)∧Hid (cs=[.int .i64 0,.int .i64 t,.bool false,.slice ka n kc,.slice none 0 0])∧Below w.heap.size w w':=Zj2.mono (fun _ _ ⟨h,hb⟩=>⟨_,h,rfl,hb⟩)
theorem Zj1 {t:Int} {ka:Option Addr} {n kc:Nat} {w:World}:Calls Tryz.prog 106 #[.int .i64 t,.slice ka n kc] w fun e w'=>∃ cs:List Value,e=.returned (.agg cs.toArray)∧Hid (cs=[.int .i64 0,.int .i64 t,.bool true,.slice none 0 0,.slice ka n kc])∧Below w.heap.size w w':=ZfS.mono (fun _ _ ⟨h,hb⟩=>⟨_,h,rfl,hb⟩)
theorem Zj3 {k:Int} {s:List Int} {w:World} (hk:-9223372036854775808≤k∧k<9223372036854775808) (hs:byt s) (hl:s.length≤maxLen) :
  Calls Tryz.prog 105 #[.agg #[.int .i64 k,.string (strOfNums s)]] w (Zl1 w (k,s)):=by
 have HKr:Hid (-9223372036854775808≤k∧k<9223372036854775808):=hk;have HY:Hid (byt s):=hs;have HLs:Hid (s.length≤maxLen):=hl;obtain ⟨s9,hs9⟩:∃ z,strOfNums s=z:=⟨_,rfl⟩;have HS9:Hid (strOfNums s=s9):=hs9;rw[hs9];clear hk hs hl hs9;have P0:=(Blk.new w [.int .i64 k,.string s9] 121 w.heap.size rfl).alloc (.cells #[.int .i64 0,.int .i64 0,.bool false,.slice none 0 0,.slice none 0 0] 57);have R0:=Blk.new (w.alloc (.cells #[.int .i64 k,.string s9] 121)) [.int .i64 0,.int .i64 0,.bool false,.slice none 0 0,.slice none 0 0] 57 (w.heap.size+1) (by simp);have bel:Below w.heap.size w ((w.alloc (.cells #[.int .i64 k,.string s9] 121)).alloc (.cells #[.int .i64 0,.int .i64 0,.bool false,.slice none 0 0,.slice none 0 0] 57)):=((Below.refl _ _).alloc (Nat.le_refl _) _).alloc (by simp) _;have hz:=Zad.out;go_enter Tryz.func105,Tryz.ntmps105;go_upto_region 1 with fail;have lW:=bel.size;generalize (w.alloc (.cells #[.int .i64 k,.string s9] 121)).alloc (.cells #[.int .i64 0,.int .i64 0,.bool false,.slice none 0 0,.slice none 0 0] 57)=W at *;have lR:=R0.lt;obtain ⟨N0,hN0⟩:∃ n,n=W.heap.size:=⟨_,rfl⟩;rw[← hN0] at lR lW;clear hz;obtain ⟨jt,hjt,ht0,ht1,ht2⟩:=Zap ZaI

 have e0:=P0.cell 0 _ rfl;have e1:=P0.cell 1 _ rfl;have l0:=P0.lt;go_wp2_with fail;refine Zi1.mono ?_;rintro e w1 ⟨g,rfl,hg,hu,hb⟩;have HU:Hid _:=hu;clear hu hg e0 e1 l0;replace P0:=P0.later hb;replace R0:=R0.later hb;have st:Below W.heap.size W w1:=hb;replace bel:=Zaa bel hb;clear hb;go_wp2_with fail;refine (ZgD HU.out ZmI).mono ?_;rintro e w2 ⟨hok,hbad⟩
 by_cases hkd:ZcQ k=true
 rotate_left
 ·have H:Hid (ZbB (k,s)=false):=by show (ZcQ k && _)=false;rw[Bool.not_eq_true] at hkd;rw[hkd];rfl
  have HKd:Hid (ZcQ k=false):=by rw[Bool.not_eq_true] at hkd;exact hkd
  cases ho:ZaD [2,5,4,IntKind.u64.wrap k] with
  | ok n =>
   obtain⟨v1,rfl,-,-,hb⟩:=hok n ho;clear hok hbad hkd ho HU;replace P0:=P0.later hb;replace R0:=R0.later hb;replace bel:=Zaa bel hb;clear hb;have q:=ZaS;have e0:=P0.cell 0 _ rfl;have e1:=P0.cell 1 _ rfl;have l0:=P0.lt;go_wp2_with fail;refine Zfq.mono ?_;rintro e w3 ⟨rfl,hw3⟩;rw[hw3,HKd.out];clear hw3;have hz:=Zad.out;obtain ⟨tR,hR⟩:=R0;have HR1:Hid _:=hR;clear hR;go_wp2_with (first|((with_reducible show wpList _ _ _ ({ dst:=_,op:=.store _ _ _,type:=_,pos:=_,after:=_,guard:=_ } :: _) _ _);refine wpList_store_row rfl 57 _ _ rfl (w.heap.size+1) #[.int .i64 0,.int .i64 0,.bool false,.slice none 0 0,.slice none 0 0] rfl rfl tR _ HR1.out (by rw[Zab];rfl) rfl (by simp[Value.oneCell']) ?_)|fail);refine bodyPost_ret (Zag rfl _ _ (w.heap.size+1) tR #[.int .i64 0,.int .i64 0,.bool false,.slice none 0 0,.slice none 0 0] (0,0) _ rfl (setRow_heap _ _ _ _ _ _ HR1.out) Tryz.underlying57 rfl (by rw[Zab];rfl)) rfl ?_;exact Zl1.bad H.out (below_setRow bel (by omega) _)
  | error c =>
   obtain⟨va,vc,rfl,hb⟩:=hbad c ho;clear hok hbad hkd ho HU;replace P0:=P0.later hb;replace R0:=R0.later hb;replace bel:=Zaa bel hb;clear hb;have q:=ZaE (c:Int);have hz:=Zad.out;obtain ⟨tR,hR⟩:=R0;have HR1:Hid _:=hR;clear hR;go_wp2_with (first|((with_reducible show wpList _ _ _ ({ dst:=_,op:=.store _ _ _,type:=_,pos:=_,after:=_,guard:=_ } :: _) _ _);refine wpList_store_row rfl 57 _ _ rfl (w.heap.size+1) #[.int .i64 0,.int .i64 0,.bool false,.slice none 0 0,.slice none 0 0] rfl rfl tR _ HR1.out (by rw[Zab];rfl) rfl (by simp[Value.oneCell']) ?_)|fail);refine bodyPost_ret (Zag rfl _ _ (w.heap.size+1) tR #[.int .i64 0,.int .i64 0,.bool false,.slice none 0 0,.slice none 0 0] (0,0) _ rfl (setRow_heap _ _ _ _ _ _ HR1.out) Tryz.underlying57 rfl (by rw[Zab];rfl)) rfl ?_;exact Zl1.bad H.out (below_setRow bel (by omega) _)
 obtain⟨v1,rfl,hv1,hn1,hb⟩:=hok [85,4,k] (by rw[ZkB hkd];exact ZmH hkd);have HKd:Hid (ZcQ k=true):=hkd;have HB1:Hid (Bs w2 v1 [85,4,k]):=hv1;have HN1:Hid (ZbR W v1):=fun a m c e h0=>Nat.le_trans st.size (hn1 a m c e h0);obtain ⟨va,vc,hv,-,-,-⟩:=id hv1;replace hv:v1=.slice va 3 vc:=hv;subst hv;clear hok hbad hkd HU hv1 hn1;replace P0:=P0.later hb;replace R0:=R0.later hb;replace st:=Zaa st hb;replace bel:=Zaa bel hb;clear hb;have q:=ZaS;have e0:=P0.cell 0 _ rfl;have e1:=P0.cell 1 _ rfl;have l0:=P0.lt;go_wp2_with fail;refine Zfq.mono ?_;rintro e w3 ⟨rfl,hw3⟩;rw[hw3,HKd.out];clear hw3;obtain ⟨cap3,w3,hcv,hbs,hb⟩:=Zc8 HY.out HLs.out w2;rw[HS9.out] at hcv;have HB3:Hid (Bs w3 (.slice (some ⟨w2.heap.size,0,none⟩) s.length cap3) s):=hbs;have HN3:Hid (ZbR W (.slice (some ⟨w2.heap.size,0,none⟩) s.length cap3)):=fun a m c e _=>by simp only[Value.slice.injEq,Option.some.injEq] at e;rw[← e.1];exact st.size
 replace HB1:=BsL HB1 hb;obtain ⟨L,hL⟩:∃ L,s.length=L:=⟨_,rfl⟩;rw[hL] at HB3 HN3 hcv;clear hL hbs;go_upto_region 5 with fail;replace P0:=P0.later hb;replace R0:=R0.later hb;replace st:=Zaa st hb;replace bel:=Zaa bel hb;clear hb hcv e0 e1 l0;obtain ⟨g3,hg3⟩:∃ g,g=w2.heap.size:=⟨_,rfl⟩;rw[← hg3] at HB3 HN3 ⊢;clear hg3;go_wp2_with fail;refine (Zmj HB3.out HY.out).mono ?_;rintro e w4 ⟨hok,hbad⟩
 cases ht:ZbF s with
 | error c =>
  have H:Hid (ZbB (k,s)=false):=by rw[ZgX HKd.out];show ZlL s=false;unfold ZlL;rw[ht]
  obtain⟨rfl,hb⟩:=hbad c ht;clear hok hbad ht q;replace P0:=P0.later hb;replace R0:=R0.later hb;replace bel:=Zaa bel hb;clear hb;have q:=ZaE (c:Int);have hz:=Zad.out;obtain ⟨tR,hR⟩:=R0;have HR1:Hid _:=hR;clear hR;go_wp2_with (first|((with_reducible show wpList _ _ _ ({ dst:=_,op:=.store _ _ _,type:=_,pos:=_,after:=_,guard:=_ } :: _) _ _);refine wpList_store_row rfl 57 _ _ rfl (w.heap.size+1) #[.int .i64 0,.int .i64 0,.bool false,.slice none 0 0,.slice none 0 0] rfl rfl tR _ HR1.out (by rw[Zab];rfl) rfl (by simp[Value.oneCell']) ?_)|fail);refine bodyPost_ret (Zag rfl _ _ (w.heap.size+1) tR #[.int .i64 0,.int .i64 0,.bool false,.slice none 0 0,.slice none 0 0] (0,0) _ rfl (setRow_heap _ _ _ _ _ _ HR1.out) Tryz.underlying57 rfl (by rw[Zab];rfl)) rfl ?_;exact Zl1.bad H.out (below_setRow bel (by omega) _)
 | ok n =>
  have H:Hid (ZbB (k,s)=true):=by rw[ZgX HKd.out];show ZlL s=true;unfold ZlL;rw[ht]
  obtain⟨rfl,hb⟩:=hok n ht;clear hok hbad ht;replace P0:=P0.later hb;replace R0:=R0.later hb;replace HB1:=BsL HB1 hb;replace HB3:=BsL HB3 hb;replace st:=Zaa st hb;replace bel:=Zaa bel hb;clear hb;go_wp2_with fail;refine Zfr.mono ?_;rintro e w5 ⟨cs,rfl,HC,hb⟩;replace P0:=P0.later hb;replace R0:=R0.later hb;replace HB1:=BsL HB1 hb;replace HB3:=BsL HB3 hb;replace st:=Zaa st hb;replace bel:=Zaa bel hb;clear hb;go_wp2_with fail;refine Zfr.mono ?_;rintro e w6 ⟨ds,rfl,HD,hb⟩;replace P0:=P0.later hb;replace R0:=R0.later hb;replace HB1:=BsL HB1 hb;replace HB3:=BsL HB3 hb;replace st:=Zaa st hb;replace bel:=Zaa bel hb;clear hb;have HLc:Hid (cs.length=5):=by rw[HC.out];rfl
  have HLd:Hid (ds.length=5):=by rw[HD.out];rfl
  have HE1:Hid (Dep (fun g=>N0≤g) w6 (.mk 0 6 false [85,4,k] []) cs):=by rw[HC.out,hN0];exact ZbZ HB1.out HN1.out 0 6 false
  have HE2:Hid (Dep (fun g=>N0≤g) w6 (.mk 0 12 false s []) ds):=by rw[HD.out,hN0];exact ZbZ HB3.out HN3.out 0 12 false
  have HT1:Hid (Dep (fun g=>N0≤g) (w6.alloc (.cells (cs++ds).toArray 57)) (.mk 0 16 true [] [.mk 0 6 false [85,4,k] [],.mk 0 12 false s []]) [.int .i64 0,.int .i64 16,.bool true,.slice none 0 0,.slice (some ⟨w6.heap.size,0,none⟩) 2 2]):=Zav (ks:=[.mk 0 6 false [85,4,k] [],.mk 0 12 false s []]) (w:=w6) (N:=N0) (xs:=cs++ds) (by rw[List.length_append,HLc.out,HLd.out];rfl) (by rw[hN0];exact st.size) (show 2≤maxLen by decide) (Zbo (P:=Dep (fun g=>N0≤g) w6) HE1.out HE2.out HLc.out HLd.out) 0 16 true;have HF:Hid _:=ZbO HLc.out HLd.out;clear HB1 HB3 HN1 HN3 HE1 HE2 HC HD;replace R0:=R0.alloc (.cells (cs++ds).toArray 57);replace st:=Zaf (o:=.cells (cs++ds).toArray 57) st;replace bel:=Zaf (o:=.cells (cs++ds).toArray 57) bel;have hz:=Zad.out;go_wp2_with (first|((with_reducible show wpList _ _ _ ({ dst:=_,op:=.buildSlice _ _ _,type:=_,pos:=_,after:=_,guard:=_ } :: _) _ _);refine Go.wpList_buildSlice rfl 55 57 2 _ rfl (cs++ds).toArray jt _ Tryz.underlying55 hjt ht0 (by rw[ht1];decide) (by rw[ht1];decide) (by rw[ht1];refine (congrArg _ (?_:_=[(0,Value.agg cs.toArray),(1,Value.agg ds.toArray)])).trans HF.out;kernel_rfl) ?_)|fail);clear hz HF;obtain ⟨g6,hg6⟩:∃ g,g=w6.heap.size:=⟨_,rfl⟩;rw[← hg6] at HT1 ⊢;generalize w6.alloc (.cells (cs++ds).toArray 57)=V6 at *;clear hg6;refine Zj1.mono ?_;rintro e w7 ⟨es,rfl,HE,hb⟩;have HLe:Hid (es.length=5):=by rw[HE.out];rfl
  have HE7:Hid (Dep (fun g=>N0≤g) w7 (.mk 0 16 true [] [.mk 0 6 false [85,4,k] [],.mk 0 12 false s []]) es):=by rw[HE.out];exact HT1.out.next (Agr.below hb) (fun _ h _=>h)
  replace R0:=R0.later hb;replace st:=Zaa st hb;replace bel:=Zaa bel hb;clear hb HT1 HE;have HT2:Hid (Dep (fun g=>N0≤g) (w7.alloc (.cells es.toArray 57)) (ZbY (k,s)) [.int .i64 0,.int .i64 17,.bool true,.slice none 0 0,.slice (some ⟨w7.heap.size,0,none⟩) 1 1]):=Zav (ks:=[.mk 0 16 true [] [.mk 0 6 false [85,4,k] [],.mk 0 12 false s []]]) (w:=w7) (N:=N0) (xs:=es) HLe.out (by rw[hN0];exact st.size) (show 1≤maxLen by decide) (ZaY (P:=Dep (fun g=>N0≤g) w7) HE7.out HLe.out) 0 17 true;have HF:Hid _:=Zay HLe.out;replace R0:=R0.alloc (.cells es.toArray 57);replace bel:=Zaf (o:=.cells es.toArray 57) bel;have hz:=Zad.out;go_wp2_with (first|((with_reducible show wpList _ _ _ ({ dst:=_,op:=.buildSlice _ _ _,type:=_,pos:=_,after:=_,guard:=_ } :: _) _ _);refine Go.wpList_buildSlice rfl 55 57 1 _ rfl es.toArray jt _ Tryz.underlying55 hjt ht0 (by rw[ht1];decide) (by rw[ht1];decide) (by rw[ht1];refine (congrArg _ (?_:_=[(0,Value.agg es.toArray)])).trans HF.out;kernel_rfl) ?_)|fail);clear hz HF;obtain ⟨g7,hg7⟩:∃ g,g=w7.heap.size:=⟨_,rfl⟩;rw[← hg7] at HT2 ⊢;generalize w7.alloc (.cells es.toArray 57)=V7 at *;clear hg7 st HE7;refine ZfS.mono ?_;rintro e w8 ⟨rfl,hb⟩;replace HT2:=dpl HT2 hb;replace R0:=R0.later hb;replace bel:=Zaa bel hb;clear hb;obtain ⟨tR,hR⟩:=R0;have HR1:Hid _:=hR;clear hR;go_wp2_with (first|((with_reducible show wpList _ _ _ ({ dst:=_,op:=.store _ _ _,type:=_,pos:=_,after:=_,guard:=_ } :: _) _ _);refine wpList_store_row rfl 57 _ _ rfl (w.heap.size+1) #[.int .i64 0,.int .i64 17,.bool true,.slice none 0 0,.slice (some ⟨g7,0,none⟩) 1 1] rfl rfl tR _ HR1.out (by rw[Zab];rfl) rfl (by simp[Value.oneCell']) ?_)|fail);refine bodyPost_ret (Zag rfl _ _ (w.heap.size+1) tR #[.int .i64 0,.int .i64 17,.bool true,.slice none 0 0,.slice (some ⟨g7,0,none⟩) 1 1] (0,0) _ rfl (setRow_heap _ _ _ _ _ _ HR1.out) Tryz.underlying57 rfl (by rw[Zab];rfl)) rfl ?_;exact Zl1.ok (cs:=[.int .i64 0,.int .i64 17,.bool true,.slice none 0 0,.slice (some ⟨g7,0,none⟩) 1 1]) H.out (ZaB HT2.out lR lW) (below_setRow bel (by omega) _)
end Go.Proofs.YtdfmoghjimghhaaGreatDoor
