/- Bytes in rows of one's own. Elements that are made: what they lean on. Rows of elements that grow one by one. -/
import Derived.Test.YtkgjlcdefnpkpaaGreatDoorPmNG
import Derived.Test.YtkgjlcdefnpkpaaGreatDoorApBs
import Derived.Test.YtkgjlcdefnpkpaaGreatDoorEdG
import Derived.Test.YtkgjlcdefnpkpaaGreatDoorCtBase
import Derived.Test.YtkgjlcdefnpkpaaGreatDoorDrTG
import Derived.Test.YtkgjlcdefnpkpaaGreatDoorDrDG
import Derived.Test.YtkgjlcdefnpkpaaGreatDoorRows
import Derived.Deep.OwnRows
import Derived.Deep.AppendLies
import Derived.Deep.WholeRow
import Derived.Deep.RegionHeld3
import Derived.Deep.DeepCutAuto
import Derived.Deep.DeepFit
import Derived.Great.BuildSlice
import Derived.Laws.Rows
import Derived.BigQuiet
namespace Go.Proofs.YtkgjlcdefnpkpaaGreatDoor
open Go.RowKit
theorem own_laterD {w w':World} {base:Nat} {e:TypeId} {v:Value} {n:Nat} {xs:List Value} (h:w.ownsRow base e 1 v n xs) (hb:Below w.heap.size w w'):w'.ownsRow base e 1 v n xs:=by
 obtain ⟨hl,h⟩:=h
 rcases h with h|⟨g,cap,cur,h1,h2,h3,h4⟩
 ·exact ⟨hl,.inl h⟩
 ·exact ⟨hl,.inr ⟨g,cap,cur,h1,h2,by rw [hb.block g (Array.getElem?_eq_some_iff.1 h3).1];exact h3,h4⟩⟩
theorem own_geD {w:World} {base:Nat} {e:TypeId} {v:Value} {n:Nat} {xs:List Value} {j:Nat} (h:w.ownsRow base e 1 v n xs) (hj:v.ownBlock=some j):base≤j:=by
 rcases h.2 with ⟨h1,_⟩|⟨g,c,cur,h1,h2,_⟩
 ·rw [h1] at hj;simp [Value.ownBlock] at hj
 ·rw [h1] at hj;simp [Value.ownBlock] at hj;omega
theorem own_lowerD {w:World} {base b2:Nat} {e:TypeId} {v:Value} {n:Nat} {xs:List Value} (h:w.ownsRow base e 1 v n xs) (hb:b2≤base):w.ownsRow b2 e 1 v n xs:=by
 obtain ⟨h1,h2⟩:=h
 refine ⟨h1,?_⟩
 rcases h2 with h2|⟨g,cap,cur,a,b,c⟩
 ·exact .inl h2
 ·exact .inr ⟨g,cap,cur,a,Nat.le_trans hb b,c⟩
theorem own_later6 {w:World} {base:Nat} {e:TypeId} {v:Value} {n:Nat} {xs:List Value} {o:Obj} (h:w.ownsRow base e 1 v n xs):(w.alloc o).ownsRow base e 1 v n xs:=own_laterD h ((Below.refl _ _).alloc (Nat.le_refl _) o)
theorem bs_lits (w:World) (X:List Int) (hm:X.length≤maxLen):Bs (w.alloc (.cells (u8s X).toArray 5)) (.slice (some ⟨w.heap.size,0,none⟩) X.length X.length) X:=by
 have B:=Blk.new w (u8s X) 5 w.heap.size rfl
 exact B.bs rfl hm
/-- a new block of bytes as a row of one's own -/
theorem own_lits (w:World) (X:List Int) (n base:Nat) (hn:X.length=n) (hb:base≤w.heap.size) (hm:n≤maxLen):(w.alloc (.cells (u8s X).toArray 5)).ownsRow base 5 1 (.slice (some ⟨w.heap.size,0,none⟩) n n) n (u8s X):=by
 subst hn
 refine ⟨by simp,.inr ⟨w.heap.size,X.length,(u8s X).toArray,rfl,hb,?_,Nat.le_refl _,hm,?_⟩⟩
 ·show (w.heap.push _)[w.heap.size]?=_;simp
 ·simp
  exact List.take_of_length_le (by simp [u8s])
theorem bs_agrC {S:Nat→Prop} {w w':World} {v:Value} {n:List Int} (h:Bs w v n) (hv:∀ a m c,v=.slice (some a) m c→0 < m→S a.block) (ha:Agr S w w'):Bs w' v n:=by
 obtain ⟨ao,cp,e,h1,h2,h3⟩:=h
 refine ⟨ao,cp,e,h1,h2,fun h0=>?_⟩
 obtain ⟨b,o,e2,hb,hc⟩:=h3 h0
 have hs:S b:=hv ⟨b,o,none⟩ _ _ (by rw [e,e2]) h0
 refine ⟨b,o,e2,Nat.lt_of_lt_of_le hb ha.1,fun j hj=>?_⟩
 rw [← hc j hj]
 have:=ha.2 b hs hb
 unfold World.cell?
 simp only [this]
/-- an element without kids whose bytes are new -/
theorem leaf_new {w0 w:World} {v:Value} {b:List Int} (h:Bs w v b) (hn:NewV w0 v) (c t:Int) (m:Bool):Dep (fun g=>w0.heap.size≤g) w (.mk c t m b []) [.int .i64 c,.int .i64 t,.bool m,v,.slice none 0 0]:=fun w' ha=>by
 rw [TlAt]
 exact ⟨v,none,0,rfl,bs_agrC h hn ha,Nat.le_refl _,Nat.zero_le _,fun h=>absurd h (Nat.lt_irrefl 0)⟩
/-- stored into a cell that it does not lean on -/
theorem dep_ret {w:World} {T:Tl} {cs:List Value} {N M g:Nat} {X:Array Value} (h:Dep (fun b=>N≤b) w T cs) (hg:g < N) (hM:M≤N):Dep (fun b=>M≤b) (w.setRow g X) T cs :=
 h.next ((Agr.refl _ _).row (by omega)) (fun b hb _=>Nat.le_trans hM hb)
/-- a new row of elements, as the kids of one -/
theorem list_dep {w:World} {N:Nat} {ks:List Tl} {xs:List Value} (hl:xs.length=ks.length * 5) (hN:N≤w.heap.size) (hm:ks.length≤maxLen) (hk:∀ i k,ks[i]?=some k→Dep (fun b=>N≤b) w k ((xs.drop (5 * i)).take 5)) (c t:Int) (m:Bool) :
  Dep (fun b=>N≤b) (w.alloc (.cells xs.toArray 60)) (.mk c t m [] ks) [.int .i64 c,.int .i64 t,.bool m,.slice none 0 0,.slice (some ⟨w.heap.size,0,none⟩) ks.length ks.length]:=by
 have own:(w.alloc (.cells xs.toArray 60)).ownsRow N 60 5 (.slice (some ⟨w.heap.size,0,none⟩) ks.length ks.length) ks.length xs :=
  ⟨hl,.inr ⟨w.heap.size,ks.length,xs.toArray,rfl,hN,by show (w.heap.push _)[w.heap.size]?=_;simp,Nat.le_refl _,hm,by simpa using hl,by rw [List.take_of_length_le (by simp;omega)]⟩⟩
 refine kids_own own (fun i k hi=>(hk i k hi).next (Agr.below ((Below.refl _ _).alloc (Nat.le_refl _) _)) (fun _ h _=>h)) c t m (fun _ h=>h) (fun g hg=>?_)
 simp only [Value.ownBlock,Option.some.injEq] at hg
 omega
theorem one_kid {P:Tl→List Value→Prop} {T:Tl} {cs:List Value} (h:P T cs) (l:cs.length=5):∀ i k,[T][i]?=some k→P k ((cs.drop (5 * i)).take 5):=fun i k hk=>by
 match i,hk with
 | 0,hk =>
  simp only [List.getElem?_cons_zero,Option.some.injEq] at hk
  subst hk
  rw [Nat.mul_zero,List.drop_zero,List.take_of_length_le (by omega)]
  exact h
 | i + 1,hk=>simp at hk
theorem two_kids {P:Tl→List Value→Prop} {T U:Tl} {cs ds:List Value} (h:P T cs) (k:P U ds) (l:cs.length=5) (m:ds.length=5):∀ i x,[T,U][i]?=some x→P x (((cs++ds).drop (5 * i)).take 5):=fun i x hx=>by
 match i,hx with
 | 0,hx =>
  simp only [List.getElem?_cons_zero,Option.some.injEq] at hx
  subst hx
  rw [Nat.mul_zero,List.drop_zero,List.take_append_of_le_length (by omega),List.take_of_length_le (by omega)]
  exact h
 | 1,hx =>
  simp only [List.getElem?_cons_succ,List.getElem?_cons_zero,Option.some.injEq] at hx
  subst hx
  rw [Nat.mul_one,List.drop_append_of_le_length (by omega),List.drop_of_length_le (by omega),List.nil_append,List.take_of_length_le (by omega)]
  exact k
 | i + 2,hx=>simp at hx
theorem fill_10 {cs ds:List Value} (h:cs.length=5) (k:ds.length=5):Instr.fill (fun i=>some (i * 5,5)) ((Array.range (2 * 5)).map ((Value.agg #[.int .i64 0,.int .i64 0,.bool false,.slice none 0 0,.slice none 0 0]).cells[· % (Value.agg #[.int .i64 0,.int .i64 0,.bool false,.slice none 0 0,.slice none 0 0]).cells.size]!)) [(0,.agg cs.toArray),(1,.agg ds.toArray)]=some (cs++ds).toArray:=by
 obtain ⟨a,b,c,d,e,rfl⟩:=five h
 obtain ⟨a',b',c',d',e',rfl⟩:=five k
 kernel_rfl
theorem wrd_mem {L:List Int} (h:∀ x∈L,0≤x∧x < 18446744073709551616):wrd L:=fun j=>by
 by_cases hj:j < L.length
 ·rw [List.getD_eq_getElem?_getD,List.getElem?_eq_getElem hj]
  exact h _ (List.getElem_mem hj)
 ·rw [List.getD_eq_getElem?_getD,List.getElem?_eq_none (by omega)]
  decide
/-- a row of one's own that holds these elements, none of which leans on the row -/
def RwT (w:World) (base:Nat) (kv:Value) (Ts:List Tl):Prop:=∃ xs,w.ownsRow base 60 5 kv Ts.length xs∧∀ i t,Ts[i]?=some t→Dep (fun b=>base≤b∧kv.ownBlock≠some b) w t ((xs.drop (5 * i)).take 5)
theorem RwT.nil0 (w:World) (base:Nat):RwT w base (.slice none 0 0) []:=⟨[],⟨rfl,.inl ⟨rfl,rfl⟩⟩,fun i t h=>by simp at h⟩
theorem RwT.later {w w':World} {base:Nat} {kv:Value} {Ts:List Tl} (h:RwT w base kv Ts) (hb:Below w.heap.size w w'):RwT w' base kv Ts:=by
 obtain ⟨xs,h1,h2⟩:=h
 exact ⟨xs,own_agr (S:=fun _=>True) h1 (Agr.below hb) (fun _ _=>trivial),fun i t ht=>(h2 i t ht).next (Agr.below hb) (fun _ h _=>h)⟩
theorem RwT.dep {w:World} {base:Nat} {kv:Value} {Ts:List Tl} (h:RwT w base kv Ts) (c t:Int) (m:Bool):Dep (fun b=>base≤b) w (.mk c t m [] Ts) [.int .i64 c,.int .i64 t,.bool m,.slice none 0 0,kv]:=by
 obtain ⟨xs,h1,h2⟩:=h
 exact kids_own h1 h2 c t m (fun _ h=>h.1) (fun g hg=>(own_geK h1 hg).1)
theorem RwT.sl {w:World} {base:Nat} {kv:Value} {Ts:List Tl} (h:RwT w base kv Ts):∃ ao cap,kv=.slice ao Ts.length cap:=by
 obtain ⟨xs,h1,_⟩:=h
 rcases h1.2 with ⟨e1,e2⟩|⟨g,cap,cur,e1,_⟩
 ·exact ⟨none,0,by rw [e1,e2]⟩
 ·exact ⟨_,cap,e1⟩
/-- an element without kids, whose bytes lie where S says -/
theorem leaf_S {S:Nat→Prop} {w:World} {v:Value} {b:List Int} (h:Bs w v b) (hS:∀ a m c,v=.slice (some a) m c→0 < m→S a.block) (c t:Int) (m:Bool):Dep S w (.mk c t m b []) [.int .i64 c,.int .i64 t,.bool m,v,.slice none 0 0]:=fun w' ha=>by
 rw [TlAt]
 exact ⟨v,none,0,rfl,bs_agrC h hS ha,Nat.le_refl _,Nat.zero_le _,fun h=>absurd h (Nat.lt_irrefl 0)⟩
/-- a literal of one element -/
theorem RwT.lit {w:World} {base:Nat} {T:Tl} {cs:List Value} (h:Dep (fun b=>base≤b) w T cs) (l:cs.length=5) (hb:base≤w.heap.size):RwT (w.alloc (.cells cs.toArray 60)) base (.slice (some ⟨w.heap.size,0,none⟩) 1 1) [T]:=by
 refine ⟨cs,⟨l,.inr ⟨w.heap.size,1,cs.toArray,rfl,hb,by show (w.heap.push _)[w.heap.size]?=_;simp,Nat.le_refl _,by decide,by simpa using l,by rw [List.take_of_length_le (by simp;omega)]⟩⟩,?_⟩
 refine one_kid (P:=Dep (fun b=>base≤b∧(Value.slice (some ⟨w.heap.size,0,none⟩) 1 1).ownBlock≠some b) (w.alloc (.cells cs.toArray 60))) ?_ l
 refine h.next (Agr.below ((Below.refl _ _).alloc (Nat.le_refl _) _)) (fun b hb hl=>⟨hb,fun e=>?_⟩)
 simp only [Value.ownBlock,Option.some.injEq] at e
 omega
/-- one element more -/
theorem wpList_append_tlv {ops:Array Oper} {rest:List Oper} {o:Oper} {a:Act} {w:World} {Q:Exit→Act→World→Prop} (hgd:o.guard=none) (s x:Operand)
  (ho:o.op=.call { callee:=.builtin .append,args:=#[s,x],argTypes:=#[58,58] })
  (base:Nat) (kv:Value) (Ts:List Tl) (hs:a.eval s=kv) (hr:RwT w base kv Ts) (g:Nat) (hx:a.eval x=.slice (some ⟨g,0,none⟩) 1 1) (cs:List Value) (B:Blk w g cs) (l5:cs.length=5) (ones:OneC cs)
  (T:Tl) (hd:Dep (fun b=>base≤b∧kv.ownBlock≠some b) w T cs) (hn:Ts.length≤1000000) (hbase:base≤w.heap.size)
  (h:∀ kv' w',RwT w' base kv' (Ts++[T])→w.grownBy w' kv.ownBlock→(∀ b,kv.ownBlock=some b→base≤b)→(kv'.ownBlock=kv.ownBlock∨kv'.ownBlock=some w.heap.size)→wpList Tryz.prog ops Q rest (a.put o.dst kv') w') :
  wpList Tryz.prog ops Q (o :: rest) a w:=by
 obtain ⟨xs,h1,h2⟩:=hr
 obtain ⟨jt,hjt,ht0,ht1,ht2⟩:=info_partsD info_tlv
 refine wpList_append_lies _ hgd s x _ ho base 60 jt _ 5 72 Tryz.underlying58 hjt ht0 ht1 ht2 rfl (by omega) kv Ts.length xs hs h1 ⟨g,0,none⟩ 1 1 cs hx l5 ?_ (fun u hu=>(Array.all_eq_true_iff_forall_mem.1 ones) u (by simpa using hu)) (by omega) (by unfold maxLen;omega) (by omega) hbase w.heap.size rfl ?_
 ·intro j u hu
  rw [Addr.add_mid,Nat.zero_add]
  exact B.cell j u hu
 ·intro g' cap1 w' hown hgrow hat hlt
  have hl:xs.length=Ts.length * 5:=h1.1
  refine h _ w' ⟨xs++cs,by rw [List.length_append];exact hown,fun i t ht=>?_⟩ hgrow (fun b hb=>(own_geK h1 hb).1) (by rcases hat with e|e;exact .inl (by rw [e];rfl);exact .inr (by rw [← e];rfl))
  have hag:Agr (fun b=>base≤b∧kv.ownBlock≠some b) w w':=Agr.grown hgrow (fun b hb=>hb.2)
  have hS:∀ b,(base≤b∧kv.ownBlock≠some b)→b < w.heap.size→(base≤b∧(Value.slice (some ⟨g',0,none⟩) (Ts.length + 1) cap1).ownBlock≠some b):=fun b hb hlb=>⟨hb.1,fun e=>by
   simp only [Value.ownBlock,Option.some.injEq] at e
   rcases hat with e2|e2
   ·exact hb.2 (by rw [e2,e])
   ·omega⟩
  by_cases hi:i < Ts.length
  ·rw [List.getElem?_append_left hi] at ht
   rw [List.drop_append_of_le_length (by omega),List.take_append_of_le_length (by rw [List.length_drop];omega)]
   exact (h2 i t ht).next hag hS
  ·have hi2:=(List.getElem?_eq_some_iff.1 ht).1
   rw [List.length_append] at hi2
   obtain rfl:i=Ts.length:=by simp at hi2;omega
   rw [List.getElem?_append_right (Nat.le_refl _),Nat.sub_self] at ht
   simp only [List.getElem?_cons_zero,Option.some.injEq] at ht
   subst ht
   rw [List.drop_append_of_le_length (by omega),List.drop_of_length_le (by omega),List.nil_append,List.take_of_length_le (by omega)]
   exact hd.next hag hS
theorem RwT.lt {w:World} {base:Nat} {kv:Value} {Ts:List Tl} (h:RwT w base kv Ts):∀ b,kv.ownBlock=some b→b < w.heap.size:=fun b hb=>by
 obtain ⟨xs,h1,_⟩:=h
 exact (own_geK h1 hb).2
end Go.Proofs.YtkgjlcdefnpkpaaGreatDoor
