/- A row of elements that lean on what S says. -/
import Derived.Test.YtnkipgbnnhahbaaRwT
import Derived.Test.YtnkipgbnnhahbaaDrDep
import Derived.Test.YtnkipgbnnhahbaaRows
import Derived.Deep.OwnRows
import Derived.Deep.AppendLies
import Derived.Great.BuildSlice
import Derived.Laws.Rows
import Derived.BigQuiet
import Derived.Deep.WholeRow
import Derived.Deep.RegionHeld3
import Derived.Deep.DeepCutAuto
import Derived.Deep.DeepFit
namespace Go.Proofs.Ytnkipgbnnhahbaa
open Go.RowKit
/-- a row of elements; they lean on what S says, and not on the row itself -/
def RwS (S:Nat→Prop) (w:World) (kv:Value) (Ts:List Tl):Prop:=∃ xs:List Value,w.ownsRow 0 42 5 kv Ts.length xs∧∀ i t,Ts[i]?=some t→Dep (fun b=>S b∧kv.ownBlock≠some b) w t ((xs.drop (5 * i)).take 5)
theorem RwS.later {S:Nat→Prop} {w w':World} {kv:Value} {Ts:List Tl} (h:RwS S w kv Ts) (hb:Below w.heap.size w w'):RwS S w' kv Ts:=by
 obtain ⟨xs,h1,h2⟩:=h
 exact ⟨xs,own_agr (S:=fun _=>True) h1 (Agr.below hb) (fun _ _=>trivial),fun i t ht=>(h2 i t ht).next (Agr.below hb) (fun _ h _=>h)⟩
theorem RwS.mono {S S':Nat→Prop} {w:World} {kv:Value} {Ts:List Tl} (h:RwS S w kv Ts) (hS:∀ b,S b→b < w.heap.size→S' b):RwS S' w kv Ts:=by
 obtain ⟨xs,h1,h2⟩:=h
 exact ⟨xs,h1,fun i t ht=>(h2 i t ht).next (Agr.refl _ _) (fun b h hl=>⟨hS b h.1 hl,h.2⟩)⟩
theorem RwS.grown {S:Nat→Prop} {w w':World} {kv:Value} {Ts:List Tl} {row:Option Nat} (h:RwS S w kv Ts) (hg:w.grownBy w' row) (hr:∀ k,row=some k→¬ S k∧kv.ownBlock≠some k):RwS S w' kv Ts:=by
 obtain ⟨xs,h1,h2⟩:=h
 exact ⟨xs,own_agr (S:=fun b=>row≠some b) h1 (Agr.grown hg (fun b hb=>hb)) (fun g hg2 e=>(hr g e).2 hg2),fun i t ht=>(h2 i t ht).next (Agr.grown hg (fun b hb e=>(hr b e).1 hb.1)) (fun _ h _=>h)⟩
theorem RwS.row {S:Nat→Prop} {w:World} {c:Nat} {kv:Value} {Ts:List Tl} {X:Array Value} (h:RwS S w kv Ts) (hc:¬ S c) (ho:kv.ownBlock≠some c):RwS S (w.setRow c X) kv Ts:=by
 obtain ⟨xs,h1,h2⟩:=h
 exact ⟨xs,own_agr (S:=fun b=>b≠c) h1 ((Agr.refl _ _).row (by simp)) (fun g hg e=>ho (e ▸ hg)),fun i t ht=>(h2 i t ht).next ((Agr.refl _ _).row (fun h=>hc h.1)) (fun _ h _=>h)⟩
theorem RwS.cell {S:Nat→Prop} {w:World} {c k:Nat} {kv v:Value} {Ts:List Tl} (h:RwS S w kv Ts) (hc:¬ S c) (ho:kv.ownBlock≠some c):RwS S (w.setCell ⟨c,k,none⟩ v) kv Ts:=by
 obtain ⟨xs,h1,h2⟩:=h
 exact ⟨xs,own_agr (S:=fun b=>b≠c) h1 ((Agr.refl _ _).cell (by simp)) (fun g hg e=>ho (e ▸ hg)),fun i t ht=>(h2 i t ht).next ((Agr.refl _ _).cell (fun h=>hc h.1)) (fun _ h _=>h)⟩
theorem RwS.dep {S S':Nat→Prop} {w:World} {kv:Value} {Ts:List Tl} (h:RwS S w kv Ts) (c t:Int) (m:Bool) (hS:∀ b,S b→S' b) (hv:∀ g,kv.ownBlock=some g→S' g):Dep S' w (.mk c t m [] Ts) [.int .i64 c,.int .i64 t,.bool m,.slice none 0 0,kv]:=by
 obtain ⟨xs,h1,h2⟩:=h
 exact kids_own h1 h2 c t m (fun _ h=>hS _ h.1) hv
theorem RwS.sl {S:Nat→Prop} {w:World} {kv:Value} {Ts:List Tl} (h:RwS S w kv Ts):∃ ao cap,kv=.slice ao Ts.length cap:=by
 obtain ⟨xs,h1,_⟩:=h
 rcases h1.2 with ⟨e1,e2⟩|⟨g,cap,cur,e1,_⟩
 ·exact ⟨none,0,by rw [e1,e2]⟩
 ·exact ⟨_,cap,e1⟩
theorem RwS.lt {S:Nat→Prop} {w:World} {kv:Value} {Ts:List Tl} (h:RwS S w kv Ts) {b:Nat} (hb:kv.ownBlock=some b):b < w.heap.size:=by
 obtain ⟨xs,h1,_⟩:=h
 exact (own_geK h1 hb).2
/-- one element more -/
theorem wpList_append_rws {ops:Array Oper} {rest:List Oper} {o:Oper} {a:Act} {w:World} {Q:Exit→Act→World→Prop} (hgd:o.guard=none) (s x:Operand)
  (ho:o.op=.call { callee:=.builtin .append,args:=#[s,x],argTypes:=#[40,40] })
  (S:Nat→Prop) (kv:Value) (Ts:List Tl) (hs:a.eval s=kv) (hr:RwS S w kv Ts) (g:Nat) (hx:a.eval x=.slice (some ⟨g,0,none⟩) 1 1) (cs:List Value) (B:Blk w g cs) (l5:cs.length=5) (ones:OneC cs)
  (T:Tl) (hd:Dep (fun b=>S b∧kv.ownBlock≠some b) w T cs) (hn:Ts.length≤1000000)
  (h:∀ kv' w',RwS S w' kv' (Ts++[T])→w.grownBy w' kv.ownBlock→(kv'.ownBlock=kv.ownBlock∨kv'.ownBlock=some w.heap.size)→wpList Try.prog ops Q rest (a.put o.dst kv') w') :
  wpList Try.prog ops Q (o :: rest) a w:=by
 obtain ⟨xs,h1,h2⟩:=hr
 obtain ⟨jt,hjt,ht0,ht1,ht2⟩:=info_partsD info_tlv
 refine wpList_append_lies _ hgd s x _ ho 0 42 jt _ 5 72 Try.underlying40 hjt ht0 ht1 ht2 rfl (by omega) kv Ts.length xs hs h1 ⟨g,0,none⟩ 1 1 cs hx l5 ?_ (fun u hu=>(Array.all_eq_true_iff_forall_mem.1 ones) u (by simpa using hu)) (by omega) (by unfold maxLen;omega) (by omega) (Nat.zero_le _) w.heap.size rfl ?_
 ·intro j u hu
  rw [Addr.add_mid,Nat.zero_add]
  exact B.cell j u hu
 ·intro g' cap1 w' hown hgrow hat hlt
  have hl:xs.length=Ts.length * 5:=h1.1
  refine h _ w' ⟨xs++cs,by rw [List.length_append];exact hown,fun i t ht=>?_⟩ hgrow (by rcases hat with e|e;exact .inl (by rw [e];rfl);exact .inr (by rw [← e];rfl))
  have hag:Agr (fun b=>S b∧kv.ownBlock≠some b) w w':=Agr.grown hgrow (fun b hb=>hb.2)
  have hS:∀ b,(S b∧kv.ownBlock≠some b)→b < w.heap.size→(S b∧(Value.slice (some ⟨g',0,none⟩) (Ts.length + 1) cap1).ownBlock≠some b):=fun b hb hlb=>⟨hb.1,fun e=>by
   simp only [Value.ownBlock,Option.some.injEq] at e
   rcases hat with e2|e2
   ·exact hb.2 (by rw [e2,e])
   ·omega⟩
  by_cases hi:i < Ts.length
  ·rw [List.getElem?_append_left hi] at ht
   rw [List.drop_append_of_le_length (by omega),List.take_append_of_le_length (by rw [List.length_drop];omega)]
   exact (h2 i t ht).next hag hS
  ·have hi2:=(List.getElem?_eq_some_iff.1 ht).1
   rw [List.length_append] at hi2
   obtain rfl:i=Ts.length:=by simp at hi2;omega
   rw [List.getElem?_append_right (Nat.le_refl _),Nat.sub_self] at ht
   simp only [List.getElem?_cons_zero,Option.some.injEq] at ht
   subst ht
   rw [List.drop_append_of_le_length (by omega),List.drop_of_length_le (by omega),List.nil_append,List.take_of_length_le (by omega)]
   exact hd.next hag hS
end Go.Proofs.Ytnkipgbnnhahbaa
