/- Bytes in rows of one's own. Elements that are made: what they lean on. Rows of elements that grow one by one. What the program's own reckoning of lengths and depths comes to. Plain facts. bits.Len. The program's size. The program's headOf and lengthOf. -/
import Derived.Test.YtohcdbifhnfcbaaGreatDoorDrTG
import Derived.Test.YtohcdbifhnfcbaaGreatDoorDrDG
import Derived.Test.YtohcdbifhnfcbaaGreatDoorPmOidN
import Derived.Test.YtohcdbifhnfcbaaGreatDoorRows
import Derived.Deep.OwnRows
import Derived.Deep.AppendLies
import Derived.Deep.WholeRow
import Derived.Deep.RegionHeld3
import Derived.Deep.DeepCutAuto
import Derived.Deep.DeepFit
import Derived.Great.BuildSlice
import Derived.Laws.Rows
import Derived.BigQuiet
namespace Go.Proofs.YtohcdbifhnfcbaaGreatDoor
open Go.RowKit
set_option linter.unusedSimpArgs false
set_option maxRecDepth 100000
set_option maxHeartbeats 4000000
theorem own_laterD {w w':World} {base:Nat} {e:TypeId} {v:Value} {n:Nat} {xs:List Value} (h:w.ownsRow base e 1 v n xs) (hb:Below w.heap.size w w'):w'.ownsRow base e 1 v n xs:=by
 obtain ⟨hl,h⟩:=h
 rcases h with h|⟨g,cap,cur,h1,h2,h3,h4⟩
 ·exact ⟨hl,.inl h⟩
 ·exact ⟨hl,.inr ⟨g,cap,cur,h1,h2,by rw [hb.block g (Array.getElem?_eq_some_iff.1 h3).1];exact h3,h4⟩⟩
theorem own_geD {w:World} {base:Nat} {e:TypeId} {v:Value} {n:Nat} {xs:List Value} {j:Nat} (h:w.ownsRow base e 1 v n xs) (hj:v.ownBlock=some j):base≤j:=by
 rcases h.2 with ⟨h1,_⟩|⟨g,c,cur,h1,h2,_⟩
 ·rw [h1] at hj;simp [Value.ownBlock] at hj
 ·rw [h1] at hj;simp [Value.ownBlock] at hj;omega
theorem own_lowerD {w:World} {base b2:Nat} {e:TypeId} {v:Value} {n:Nat} {xs:List Value} (h:w.ownsRow base e 1 v n xs) (hb:b2≤base):w.ownsRow b2 e 1 v n xs:=by
 obtain ⟨h1,h2⟩:=h
 refine ⟨h1,?_⟩
 rcases h2 with h2|⟨g,cap,cur,a,b,c⟩
 ·exact .inl h2
 ·exact .inr ⟨g,cap,cur,a,Nat.le_trans hb b,c⟩
theorem own_later6 {w:World} {base:Nat} {e:TypeId} {v:Value} {n:Nat} {xs:List Value} {o:Obj} (h:w.ownsRow base e 1 v n xs):(w.alloc o).ownsRow base e 1 v n xs:=own_laterD h ((Below.refl _ _).alloc (Nat.le_refl _) o)
theorem bs_lits (w:World) (X:List Int) (hm:X.length≤maxLen):Bs (w.alloc (.cells (u8s X).toArray 5)) (.slice (some ⟨w.heap.size,0,none⟩) X.length X.length) X:=by
 have B:=Blk.new w (u8s X) 5 w.heap.size rfl
 exact B.bs rfl hm
/-- a new block of bytes as a row of one's own -/
theorem own_lits (w:World) (X:List Int) (n base:Nat) (hn:X.length=n) (hb:base≤w.heap.size) (hm:n≤maxLen):(w.alloc (.cells (u8s X).toArray 5)).ownsRow base 5 1 (.slice (some ⟨w.heap.size,0,none⟩) n n) n (u8s X):=by
 subst hn
 refine ⟨by simp,.inr ⟨w.heap.size,X.length,(u8s X).toArray,rfl,hb,?_,Nat.le_refl _,hm,?_⟩⟩
 ·show (w.heap.push _)[w.heap.size]?=_;simp
 ·simp
  exact List.take_of_length_le (by simp [u8s])
theorem bs_agrC {S:Nat→Prop} {w w':World} {v:Value} {n:List Int} (h:Bs w v n) (hv:∀ a m c,v=.slice (some a) m c→0 < m→S a.block) (ha:Agr S w w'):Bs w' v n:=by
 obtain ⟨ao,cp,e,h1,h2,h3⟩:=h
 refine ⟨ao,cp,e,h1,h2,fun h0=>?_⟩
 obtain ⟨b,o,e2,hb,hc⟩:=h3 h0
 have hs:S b:=hv ⟨b,o,none⟩ _ _ (by rw [e,e2]) h0
 refine ⟨b,o,e2,Nat.lt_of_lt_of_le hb ha.1,fun j hj=>?_⟩
 rw [← hc j hj]
 have:=ha.2 b hs hb
 unfold World.cell?
 simp only [this]
/-- an element without kids whose bytes are new -/
theorem leaf_new {w0 w:World} {v:Value} {b:List Int} (h:Bs w v b) (hn:NewV w0 v) (c t:Int) (m:Bool):Dep (fun g=>w0.heap.size≤g) w (.mk c t m b []) [.int .i64 c,.int .i64 t,.bool m,v,.slice none 0 0]:=fun w' ha=>by
 rw [TlAt]
 exact ⟨v,none,0,rfl,bs_agrC h hn ha,Nat.le_refl _,Nat.zero_le _,fun h=>absurd h (Nat.lt_irrefl 0)⟩
/-- stored into a cell that it does not lean on -/
theorem dep_ret {w:World} {T:Tl} {cs:List Value} {N M g:Nat} {X:Array Value} (h:Dep (fun b=>N≤b) w T cs) (hg:g < N) (hM:M≤N):Dep (fun b=>M≤b) (w.setRow g X) T cs :=
 h.next ((Agr.refl _ _).row (by omega)) (fun b hb _=>Nat.le_trans hM hb)
/-- a new row of elements, as the kids of one -/
theorem list_dep {w:World} {N:Nat} {ks:List Tl} {xs:List Value} (hl:xs.length=ks.length * 5) (hN:N≤w.heap.size) (hm:ks.length≤maxLen) (hk:∀ i k,ks[i]?=some k→Dep (fun b=>N≤b) w k ((xs.drop (5 * i)).take 5)) (c t:Int) (m:Bool) :
  Dep (fun b=>N≤b) (w.alloc (.cells xs.toArray 53)) (.mk c t m [] ks) [.int .i64 c,.int .i64 t,.bool m,.slice none 0 0,.slice (some ⟨w.heap.size,0,none⟩) ks.length ks.length]:=by
 have own:(w.alloc (.cells xs.toArray 53)).ownsRow N 53 5 (.slice (some ⟨w.heap.size,0,none⟩) ks.length ks.length) ks.length xs :=
  ⟨hl,.inr ⟨w.heap.size,ks.length,xs.toArray,rfl,hN,by show (w.heap.push _)[w.heap.size]?=_;simp,Nat.le_refl _,hm,by simpa using hl,by rw [List.take_of_length_le (by simp;omega)]⟩⟩
 refine kids_own own (fun i k hi=>(hk i k hi).next (Agr.below ((Below.refl _ _).alloc (Nat.le_refl _) _)) (fun _ h _=>h)) c t m (fun _ h=>h) (fun g hg=>?_)
 simp only [Value.ownBlock,Option.some.injEq] at hg
 omega
theorem one_kid {P:Tl→List Value→Prop} {T:Tl} {cs:List Value} (h:P T cs) (l:cs.length=5):∀ i k,[T][i]?=some k→P k ((cs.drop (5 * i)).take 5):=fun i k hk=>by
 match i,hk with
 | 0,hk =>
  simp only [List.getElem?_cons_zero,Option.some.injEq] at hk
  subst hk
  rw [Nat.mul_zero,List.drop_zero,List.take_of_length_le (by omega)]
  exact h
 | i + 1,hk=>simp at hk
theorem two_kids {P:Tl→List Value→Prop} {T U:Tl} {cs ds:List Value} (h:P T cs) (k:P U ds) (l:cs.length=5) (m:ds.length=5):∀ i x,[T,U][i]?=some x→P x (((cs++ds).drop (5 * i)).take 5):=fun i x hx=>by
 match i,hx with
 | 0,hx =>
  simp only [List.getElem?_cons_zero,Option.some.injEq] at hx
  subst hx
  rw [Nat.mul_zero,List.drop_zero,List.take_append_of_le_length (by omega),List.take_of_length_le (by omega)]
  exact h
 | 1,hx =>
  simp only [List.getElem?_cons_succ,List.getElem?_cons_zero,Option.some.injEq] at hx
  subst hx
  rw [Nat.mul_one,List.drop_append_of_le_length (by omega),List.drop_of_length_le (by omega),List.nil_append,List.take_of_length_le (by omega)]
  exact k
 | i + 2,hx=>simp at hx
theorem fill_10 {cs ds:List Value} (h:cs.length=5) (k:ds.length=5):Instr.fill (fun i=>some (i * 5,5)) ((Array.range (2 * 5)).map ((Value.agg #[.int .i64 0,.int .i64 0,.bool false,.slice none 0 0,.slice none 0 0]).cells[· % (Value.agg #[.int .i64 0,.int .i64 0,.bool false,.slice none 0 0,.slice none 0 0]).cells.size]!)) [(0,.agg cs.toArray),(1,.agg ds.toArray)]=some (cs++ds).toArray:=by
 obtain ⟨a,b,c,d,e,rfl⟩:=five h
 obtain ⟨a',b',c',d',e',rfl⟩:=five k
 kernel_rfl
theorem wrd_mem {L:List Int} (h:∀ x∈L,0≤x∧x < 18446744073709551616):wrd L:=fun j=>by
 by_cases hj:j < L.length
 ·rw [List.getD_eq_getElem?_getD,List.getElem?_eq_getElem hj]
  exact h _ (List.getElem_mem hj)
 ·rw [List.getD_eq_getElem?_getD,List.getElem?_eq_none (by omega)]
  decide
/-- a row of one's own that holds these elements, none of which leans on the row -/
def RwT (w:World) (base:Nat) (kv:Value) (Ts:List Tl):Prop:=∃ xs,w.ownsRow base 53 5 kv Ts.length xs∧∀ i t,Ts[i]?=some t→Dep (fun b=>base≤b∧kv.ownBlock≠some b) w t ((xs.drop (5 * i)).take 5)
theorem RwT.nil0 (w:World) (base:Nat):RwT w base (.slice none 0 0) []:=⟨[],⟨rfl,.inl ⟨rfl,rfl⟩⟩,fun i t h=>by simp at h⟩
theorem RwT.later {w w':World} {base:Nat} {kv:Value} {Ts:List Tl} (h:RwT w base kv Ts) (hb:Below w.heap.size w w'):RwT w' base kv Ts:=by
 obtain ⟨xs,h1,h2⟩:=h
 exact ⟨xs,own_agr (S:=fun _=>True) h1 (Agr.below hb) (fun _ _=>trivial),fun i t ht=>(h2 i t ht).next (Agr.below hb) (fun _ h _=>h)⟩
theorem RwT.dep {w:World} {base:Nat} {kv:Value} {Ts:List Tl} (h:RwT w base kv Ts) (c t:Int) (m:Bool):Dep (fun b=>base≤b) w (.mk c t m [] Ts) [.int .i64 c,.int .i64 t,.bool m,.slice none 0 0,kv]:=by
 obtain ⟨xs,h1,h2⟩:=h
 exact kids_own h1 h2 c t m (fun _ h=>h.1) (fun g hg=>(own_geK h1 hg).1)
theorem RwT.sl {w:World} {base:Nat} {kv:Value} {Ts:List Tl} (h:RwT w base kv Ts):∃ ao cap,kv=.slice ao Ts.length cap:=by
 obtain ⟨xs,h1,_⟩:=h
 rcases h1.2 with ⟨e1,e2⟩|⟨g,cap,cur,e1,_⟩
 ·exact ⟨none,0,by rw [e1,e2]⟩
 ·exact ⟨_,cap,e1⟩
/-- an element without kids, whose bytes lie where S says -/
theorem leaf_S {S:Nat→Prop} {w:World} {v:Value} {b:List Int} (h:Bs w v b) (hS:∀ a m c,v=.slice (some a) m c→0 < m→S a.block) (c t:Int) (m:Bool):Dep S w (.mk c t m b []) [.int .i64 c,.int .i64 t,.bool m,v,.slice none 0 0]:=fun w' ha=>by
 rw [TlAt]
 exact ⟨v,none,0,rfl,bs_agrC h hS ha,Nat.le_refl _,Nat.zero_le _,fun h=>absurd h (Nat.lt_irrefl 0)⟩
/-- one element more -/
theorem wpList_append_tlv {ops:Array Oper} {rest:List Oper} {o:Oper} {a:Act} {w:World} {Q:Exit→Act→World→Prop} (hgd:o.guard=none) (s x:Operand)
  (ho:o.op=.call { callee:=.builtin .append,args:=#[s,x],argTypes:=#[51,51] })
  (base:Nat) (kv:Value) (Ts:List Tl) (hs:a.eval s=kv) (hr:RwT w base kv Ts) (g:Nat) (hx:a.eval x=.slice (some ⟨g,0,none⟩) 1 1) (cs:List Value) (B:Blk w g cs) (l5:cs.length=5) (ones:OneC cs)
  (T:Tl) (hd:Dep (fun b=>base≤b∧kv.ownBlock≠some b) w T cs) (hn:Ts.length≤1000000) (hbase:base≤w.heap.size)
  (h:∀ kv' w',RwT w' base kv' (Ts++[T])→w.grownBy w' kv.ownBlock→(∀ b,kv.ownBlock=some b→base≤b)→(kv'.ownBlock=kv.ownBlock∨kv'.ownBlock=some w.heap.size)→wpList Tryz.prog ops Q rest (a.put o.dst kv') w') :
  wpList Tryz.prog ops Q (o :: rest) a w:=by
 obtain ⟨xs,h1,h2⟩:=hr
 obtain ⟨jt,hjt,ht0,ht1,ht2⟩:=info_partsD info_tlv
 refine wpList_append_lies _ hgd s x _ ho base 53 jt _ 5 72 Tryz.underlying51 hjt ht0 ht1 ht2 rfl (by omega) kv Ts.length xs hs h1 ⟨g,0,none⟩ 1 1 cs hx l5 ?_ (fun u hu=>(Array.all_eq_true_iff_forall_mem.1 ones) u (by simpa using hu)) (by omega) (by unfold maxLen;omega) (by omega) hbase w.heap.size rfl ?_
 ·intro j u hu
  rw [Addr.add_mid,Nat.zero_add]
  exact B.cell j u hu
 ·intro g' cap1 w' hown hgrow hat hlt
  have hl:xs.length=Ts.length * 5:=h1.1
  refine h _ w' ⟨xs++cs,by rw [List.length_append];exact hown,fun i t ht=>?_⟩ hgrow (fun b hb=>(own_geK h1 hb).1) (by rcases hat with e|e;exact .inl (by rw [e];rfl);exact .inr (by rw [← e];rfl))
  have hag:Agr (fun b=>base≤b∧kv.ownBlock≠some b) w w':=Agr.grown hgrow (fun b hb=>hb.2)
  have hS:∀ b,(base≤b∧kv.ownBlock≠some b)→b < w.heap.size→(base≤b∧(Value.slice (some ⟨g',0,none⟩) (Ts.length + 1) cap1).ownBlock≠some b):=fun b hb hlb=>⟨hb.1,fun e=>by
   simp only [Value.ownBlock,Option.some.injEq] at e
   rcases hat with e2|e2
   ·exact hb.2 (by rw [e2,e])
   ·omega⟩
  by_cases hi:i < Ts.length
  ·rw [List.getElem?_append_left hi] at ht
   rw [List.drop_append_of_le_length (by omega),List.take_append_of_le_length (by rw [List.length_drop];omega)]
   exact (h2 i t ht).next hag hS
  ·have hi2:=(List.getElem?_eq_some_iff.1 ht).1
   rw [List.length_append] at hi2
   obtain rfl:i=Ts.length:=by simp at hi2;omega
   rw [List.getElem?_append_right (Nat.le_refl _),Nat.sub_self] at ht
   simp only [List.getElem?_cons_zero,Option.some.injEq] at ht
   subst ht
   rw [List.drop_append_of_le_length (by omega),List.drop_of_length_le (by omega),List.nil_append,List.take_of_length_le (by omega)]
   exact hd.next hag hS
theorem RwTL {w w':World} {N:Nat} {kv:Value} {Ts:List Tl} (h:Hid (RwT w N kv Ts)) (hb:Below w.heap.size w w'):Hid (RwT w' N kv Ts):=h.out.later hb
mutual
/-- every body in it is one that a machine bears -/
def SmT:Tl→Prop
 | .mk _ _ _ b ks=>b.length≤140737488355328∧SmL ks
def SmL:List Tl→Prop
 | []=>True
 | k :: ks=>SmT k∧SmL ks
end
theorem SmL.get:∀ {ks:List Tl} {i:Nat} {k:Tl},SmL ks→ks[i]?=some k→SmT k
 | [],i,k,_,h=>by simp at h
 | x :: xs,0,k,h,e=>by
  rw [SmL] at h
  simp at e
  subst e
  exact h.1
 | x :: xs,i + 1,k,h,e=>by
  rw [SmL] at h
  rw [List.getElem?_cons_succ] at e
  exact SmL.get h.2 e
mutual
theorem smT_of_len:∀ {T:Tl},(bytesT T).length≤1099511627776→SmT T
 | .mk c t m b ks,h=>by
  rw [bytesT_len,List.length_append] at h
  rw [SmT]
  exact ⟨by omega,smL_of_len (by omega)⟩
theorem smL_of_len:∀ {ks:List Tl},(bytesL ks).length≤1099511627776→SmL ks
 | [],_=>by rw [SmL];trivial
 | k :: ks,h=>by
  rw [bytesL,List.length_append] at h
  rw [SmL]
  exact ⟨smT_of_len (by omega),smL_of_len (by omega)⟩
end
theorem depL_get:∀ {ks:List Tl} {i:Nat} {k:Tl},ks[i]?=some k→depT k≤depL ks
 | [],i,k,h=>by simp at h
 | x :: xs,0,k,h=>by
  simp at h
  subst h
  rw [depL]
  omega
 | x :: xs,i + 1,k,h=>by
  rw [List.getElem?_cons_succ] at h
  have:=depL_get h
  rw [depL]
  omega
/-- how many bytes of its own a length has, as the program tells it -/
def LongOk (n l:Nat):Prop:=l≤8∧(n < 128→l=0)∧(128≤n→n < 256→l=1)∧(256≤n→n < 65536→l=2)∧(65536≤n→n < 16777216→l=3)
theorem LongOk.len {n l:Nat} (h:LongOk n l) (hn:n < 16777216):(lenB n).length=1 + l:=by
 obtain ⟨_,h0,h1,h2,h3⟩:=h
 unfold lenB
 split
 ·rw [h0 (by assumption)];rfl
 ·split
  ·rw [h1 (by omega) (by assumption)];rfl
  ·split
   ·rw [h2 (by omega) (by assumption)];rfl
   ·rw [h3 (by omega) hn];rfl
/-- so many binary digits -/
def BitLen (n l:Nat):Prop:=n < 2 ^ l∧(0 < n→2 ^ (l - 1)≤n)∧l≤64∧(n=0→l=0)
theorem BitLen.long {n l:Nat} (h:BitLen n l) (hn:128≤n):LongOk n ((l + 7) / 8):=by
 obtain ⟨h1,h2,h3,_⟩:=h
 have h2:=h2 (by omega)
 have up:∀ k,n < 2 ^ k→l≤k:=fun k hk=>by
  by_cases c:l≤k
  ·exact c
  ·have:=Nat.pow_le_pow_right (n:=2) (by omega) (show k≤l - 1 by omega)
   omega
 have dn:∀ k,2 ^ k≤n→k < l:=fun k hk=>by
  by_cases c:k < l
  ·exact c
  ·have:=Nat.pow_le_pow_right (n:=2) (by omega) (show l≤k by omega)
   omega
 refine ⟨by omega,fun h=>by omega,fun a b=>?_,fun a b=>?_,fun a b=>?_⟩
 ·have:=up 8 (by simpa using b);have:=dn 7 (by simpa using a);omega
 ·have:=up 16 (by simpa using b);have:=dn 8 (by simpa using a);omega
 ·have:=up 24 (by simpa using b);have:=dn 16 (by simpa using a);omega
/-- how many bytes an element has, as the program tells it: exactly, as far as it may have so many -/
def SizeOk (T:Tl) (n:Nat):Prop:=((bytesT T).length≤1048576→n=(bytesT T).length)∧(1048576 < (bytesT T).length→1048576 < n)∧n≤depT T * 281474976710656
theorem SizeOk.end {c t:Int} {m:Bool} {b:List Int} {ks:List Tl} {N l:Nat} (hN:b.length + (bytesL ks).length=N) (hl:LongOk N l) (hb:N≤140737488355328):SizeOk (.mk c t m b ks) (2 + l + N):=by
 have e:=bytesT_len c t m b ks
 rw [List.length_append,hN] at e
 have hl8:=hl.1
 have hB:=lenB_len N
 refine ⟨fun h=>?_,fun h=>?_,by rw [depT];omega⟩
 ·rw [e] at h ⊢
  have:=hl.len (by omega)
  omega
 ·rw [e] at h
  by_cases c:N < 16777216
  ·have:=hl.len c
   omega
  ·omega
theorem SizeOk.over {c t:Int} {m:Bool} {b:List Int} {ks:List Tl} {i x y:Nat} {k:Tl} (hk:ks[i]?=some k) (hx:x=b.length + (bytesL (ks.take i)).length) (hx2:x≤140737488355328) (hy:SizeOk k y) (h:1048576 < x + y):SizeOk (.mk c t m b ks) (x + y):=by
 have e:=bytesT_len c t m b ks
 rw [List.length_append] at e
 have hkl:=bytesL_kid hk
 have hd:=depL_get hk
 obtain ⟨h1,h2,h3⟩:=hy
 have h4:depT k * 281474976710656 + 281474976710656≤(depL ks + 1) * 281474976710656:=by omega
 refine ⟨fun hh=>?_,fun _=>h,by rw [depT];omega⟩
 rw [e] at hh
 have:=h1 (by omega)
 omega
theorem SizeOk.next {b:List Int} {ks:List Tl} {i x y:Nat} {k:Tl} (hk:ks[i]?=some k) (hx:x=b.length + (bytesL (ks.take i)).length) (hy:SizeOk k y) (h:¬ 1048576 < x + y):x + y=b.length + (bytesL (ks.take (i + 1))).length:=by
 rw [bytesL_next hk,List.length_append]
 obtain ⟨h1,h2,_⟩:=hy
 by_cases c:1048576 < (bytesT k).length
 ·have:=h2 c
  omega
 ·have:=h1 (by omega)
  omega
/-- an element, and what is in it, that is in so many others: is it too deep? -/
theorem deep_kid {ks:List Tl} {i d:Nat} {k:Tl} (h:ks[i]?=some k) (hk:16 < depT k + d):16 < depL ks + d:=by
 have:=depL_get h
 omega
theorem deep_none:∀ {ks:List Tl} {d:Nat},d≤16→(∀ (i:Nat) (k:Tl),ks[i]?=some k→depT k + d≤16)→depL ks + d≤16
 | [],d,hd,_=>by rw [depL];omega
 | k :: ks,d,hd,h=>by
  have h0:=h 0 k rfl
  have h1:=deep_none hd (fun i x hx=>h (i + 1) x (by rw [List.getElem?_cons_succ];exact hx))
  rw [depL]
  omega
/-- binary digits of a byte -/
def len8 (y:Nat):Nat:=if y=0 then 0 else Nat.log2 y + 1
def lenTab:ByteArray:=⟨((List.range 256).map (fun y=>UInt8.ofNat (len8 y))).toArray⟩
theorem lenTab_get:∀ y:Nat,y < 256→lenTab[y]?=some (UInt8.ofNat (len8 y)):=by decide +kernel
theorem len8_byte:∀ y:Nat,y < 256→(UInt8.ofNat (len8 y)).toNat=len8 y:=by decide +kernel
theorem len8_bits:∀ y:Nat,y < 256→BitLen y (len8 y):=by unfold BitLen;decide +kernel
theorem len8_le:∀ y:Nat,y < 256→len8 y≤8:=by decide +kernel
theorem BitLen.shift {x y s l:Nat} (h:x / 2 ^ s=y) (hb:BitLen y l) (h0:s=0∨0 < y) (hl:s + l≤64):BitLen x (s + l):=by
 obtain ⟨b1,b2,b3,b4⟩:=hb
 have hp:0 < 2 ^ s:=Nat.two_pow_pos s
 refine ⟨?_,fun hx=>?_,hl,fun hx=>?_⟩
 ·rw [Nat.pow_add,Nat.mul_comm]
  exact (Nat.div_lt_iff_lt_mul hp).1 (by rw [h];exact b1)
 ·rcases h0 with rfl|h0
  ·rw [Nat.pow_zero,Nat.div_one] at h
   subst h
   rw [Nat.zero_add]
   exact b2 hx
  ·have h1:1≤l:=by
    by_cases c:l=0
    ·subst c
     rw [Nat.pow_zero] at b1
     omega
    ·omega
   rw [show s + l - 1=(l - 1) + s by omega,Nat.pow_add]
   have h2:=b2 h0
   rw [← h] at h2
   exact (Nat.le_div_iff_mul_le hp).1 h2
 ·subst hx
  rw [Nat.zero_div] at h
  have:=b4 h.symm
  rcases h0 with h0|h0<;>omega
theorem index_str {ty:TypeId} {s:ByteArray} {y:Nat} {b:UInt8} {w:World} (hu:Tryz.prog.underlying ty=some .string) (hb:s[y]?=some b):(Instr.index ty (.string s) (.int .u8 (y:Int))).run Tryz.prog w=.ok (.int .u8 (b.toNat:Int)) w:=by
 have h1:=run_underlying hu (w:=w)
 unfold Instr.index
 simp [asIntOf,h1,hb]
theorem wpList_index_run {P:Program} {ops:Array Oper} {rest:List Oper} {o:Oper} {a:Act} {w:World} {Q:Exit→Act→World→Prop} {ty:TypeId} {x i:Operand} {u j v:Value} (hw:Region.wanted o (yielded ops a.tmps)=true) (ho:o.op=.index ty x i) (hx:a.eval x=u) (hi:a.eval i=j) (h:(Instr.index ty u j).run P w=.ok v w)
  (k:wpList P ops Q rest (a.put o.dst v) w):wpList P ops Q (o :: rest) a w:=by
 refine wpList_step fun K hK=>?_
 simp only [hw,if_true]
 unfold Oper.wp execOp
 simp only [ho,hx,hi,Sem.run_bind,Sem.run_pure,Result.andThen_ok,h]
 exact hK _ _ k
theorem under_str:Tryz.prog.underlying 9=some .string:=by kernel_rfl
theorem c12_Len64 {x:Nat} {w:World} (hx:x < 9223372036854775808) :
  Calls Tryz.prog 162 #[.int .u64 (x:Int)] w fun e w'=>∃ l:Nat,e=.returned (.int .i64 (l:Int))∧BitLen x l∧w'=w:=by
 go_enter Tryz.func162,Tryz.ntmps162
 by_cases c0:4294967296≤x
 ·have g0:(4294967296:Int)≤(x:Int):=by omega
  obtain ⟨y0,hy0⟩:∃ z,x / 4294967296=z:=⟨_,rfl⟩
  have e0:(x:Int) / 4294967296=(y0:Int):=by omega
  go_upto_region 4 with fail
  by_cases c1:65536≤y0
  ·have g1:(65536:Int)≤(y0:Int):=by omega
   obtain ⟨y1,hy1⟩:∃ z,y0 / 65536=z:=⟨_,rfl⟩
   have e1:(y0:Int) / 65536=(y1:Int):=by omega
   have a1:IntKind.i64.wrap (32 + 16)=48:=by decide
   go_upto_region 7 with fail
   by_cases c2:256≤y1
   ·have g2:(256:Int)≤(y1:Int):=by omega
    obtain ⟨y2,hy2⟩:∃ z,y1 / 256=z:=⟨_,rfl⟩
    have e2:(y1:Int) / 256=(y2:Int):=by omega
    have a2:IntKind.i64.wrap (48 + 8)=56:=by decide
    go_upto_region 10 with fail
    have hy:y2 < 256:=by omega
    have k1:=len8_le y2 hy
    have k2:=len8_bits y2 hy
    have HT:Hid _:=index_str (w:=w) under_str (lenTab_get y2 hy)
    rw [len8_byte y2 hy] at HT
    have HB:Hid (BitLen x (56 + len8 y2)):=BitLen.shift (by omega) k2 (.inr (by omega)) (by omega)
    clear k2
    obtain ⟨l,hl⟩:∃ l,len8 y2=l:=⟨_,rfl⟩
    rw [hl] at k1 HT HB
    clear hl
    have w1:IntKind.u8.wrap (y2:Int)=(y2:Int):=by rw [IntKind.wrap_u8];omega
    have w2:IntKind.i64.wrap (l:Int)=(l:Int):=by rw [IntKind.wrap_i64];omega
    have w3:IntKind.i64.wrap (56 + (l:Int))=((56 + l:Nat):Int):=by rw [IntKind.wrap_i64];omega
    go_wp2_with (first|(refine wpList_index_run (by rfl) (by rfl) (u:=.string lenTab) (by kernel_rfl) (by rfl) HT.out ?_)|fail)
    go_ret
    exact ⟨56 + l,by first|rfl|go_num,HB.out,rfl⟩
   ·have g2:¬ (256:Int)≤(y1:Int):=by omega
    go_upto_region 10 with fail
    have hy:y1 < 256:=by omega
    have k1:=len8_le y1 hy
    have k2:=len8_bits y1 hy
    have HT:Hid _:=index_str (w:=w) under_str (lenTab_get y1 hy)
    rw [len8_byte y1 hy] at HT
    have HB:Hid (BitLen x (48 + len8 y1)):=BitLen.shift (by omega) k2 (.inr (by omega)) (by omega)
    clear k2
    obtain ⟨l,hl⟩:∃ l,len8 y1=l:=⟨_,rfl⟩
    rw [hl] at k1 HT HB
    clear hl
    have w1:IntKind.u8.wrap (y1:Int)=(y1:Int):=by rw [IntKind.wrap_u8];omega
    have w2:IntKind.i64.wrap (l:Int)=(l:Int):=by rw [IntKind.wrap_i64];omega
    have w3:IntKind.i64.wrap (48 + (l:Int))=((48 + l:Nat):Int):=by rw [IntKind.wrap_i64];omega
    go_wp2_with (first|(refine wpList_index_run (by rfl) (by rfl) (u:=.string lenTab) (by kernel_rfl) (by rfl) HT.out ?_)|fail)
    go_ret
    exact ⟨48 + l,by first|rfl|go_num,HB.out,rfl⟩
  ·have g1:¬ (65536:Int)≤(y0:Int):=by omega
   go_upto_region 7 with fail
   by_cases c2:256≤y0
   ·have g2:(256:Int)≤(y0:Int):=by omega
    obtain ⟨y2,hy2⟩:∃ z,y0 / 256=z:=⟨_,rfl⟩
    have e2:(y0:Int) / 256=(y2:Int):=by omega
    have a2:IntKind.i64.wrap (32 + 8)=40:=by decide
    go_upto_region 10 with fail
    have hy:y2 < 256:=by omega
    have k1:=len8_le y2 hy
    have k2:=len8_bits y2 hy
    have HT:Hid _:=index_str (w:=w) under_str (lenTab_get y2 hy)
    rw [len8_byte y2 hy] at HT
    have HB:Hid (BitLen x (40 + len8 y2)):=BitLen.shift (by omega) k2 (.inr (by omega)) (by omega)
    clear k2
    obtain ⟨l,hl⟩:∃ l,len8 y2=l:=⟨_,rfl⟩
    rw [hl] at k1 HT HB
    clear hl
    have w1:IntKind.u8.wrap (y2:Int)=(y2:Int):=by rw [IntKind.wrap_u8];omega
    have w2:IntKind.i64.wrap (l:Int)=(l:Int):=by rw [IntKind.wrap_i64];omega
    have w3:IntKind.i64.wrap (40 + (l:Int))=((40 + l:Nat):Int):=by rw [IntKind.wrap_i64];omega
    go_wp2_with (first|(refine wpList_index_run (by rfl) (by rfl) (u:=.string lenTab) (by kernel_rfl) (by rfl) HT.out ?_)|fail)
    go_ret
    exact ⟨40 + l,by first|rfl|go_num,HB.out,rfl⟩
   ·have g2:¬ (256:Int)≤(y0:Int):=by omega
    go_upto_region 10 with fail
    have hy:y0 < 256:=by omega
    have k1:=len8_le y0 hy
    have k2:=len8_bits y0 hy
    have HT:Hid _:=index_str (w:=w) under_str (lenTab_get y0 hy)
    rw [len8_byte y0 hy] at HT
    have HB:Hid (BitLen x (32 + len8 y0)):=BitLen.shift (by omega) k2 (.inr (by omega)) (by omega)
    clear k2
    obtain ⟨l,hl⟩:∃ l,len8 y0=l:=⟨_,rfl⟩
    rw [hl] at k1 HT HB
    clear hl
    have w1:IntKind.u8.wrap (y0:Int)=(y0:Int):=by rw [IntKind.wrap_u8];omega
    have w2:IntKind.i64.wrap (l:Int)=(l:Int):=by rw [IntKind.wrap_i64];omega
    have w3:IntKind.i64.wrap (32 + (l:Int))=((32 + l:Nat):Int):=by rw [IntKind.wrap_i64];omega
    go_wp2_with (first|(refine wpList_index_run (by rfl) (by rfl) (u:=.string lenTab) (by kernel_rfl) (by rfl) HT.out ?_)|fail)
    go_ret
    exact ⟨32 + l,by first|rfl|go_num,HB.out,rfl⟩
 ·have g0:¬ (4294967296:Int)≤(x:Int):=by omega
  go_upto_region 4 with fail
  by_cases c1:65536≤x
  ·have g1:(65536:Int)≤(x:Int):=by omega
   obtain ⟨y1,hy1⟩:∃ z,x / 65536=z:=⟨_,rfl⟩
   have e1:(x:Int) / 65536=(y1:Int):=by omega
   go_upto_region 7 with fail
   by_cases c2:256≤y1
   ·have g2:(256:Int)≤(y1:Int):=by omega
    obtain ⟨y2,hy2⟩:∃ z,y1 / 256=z:=⟨_,rfl⟩
    have e2:(y1:Int) / 256=(y2:Int):=by omega
    have a2:IntKind.i64.wrap (16 + 8)=24:=by decide
    go_upto_region 10 with fail
    have hy:y2 < 256:=by omega
    have k1:=len8_le y2 hy
    have k2:=len8_bits y2 hy
    have HT:Hid _:=index_str (w:=w) under_str (lenTab_get y2 hy)
    rw [len8_byte y2 hy] at HT
    have HB:Hid (BitLen x (24 + len8 y2)):=BitLen.shift (by omega) k2 (.inr (by omega)) (by omega)
    clear k2
    obtain ⟨l,hl⟩:∃ l,len8 y2=l:=⟨_,rfl⟩
    rw [hl] at k1 HT HB
    clear hl
    have w1:IntKind.u8.wrap (y2:Int)=(y2:Int):=by rw [IntKind.wrap_u8];omega
    have w2:IntKind.i64.wrap (l:Int)=(l:Int):=by rw [IntKind.wrap_i64];omega
    have w3:IntKind.i64.wrap (24 + (l:Int))=((24 + l:Nat):Int):=by rw [IntKind.wrap_i64];omega
    go_wp2_with (first|(refine wpList_index_run (by rfl) (by rfl) (u:=.string lenTab) (by kernel_rfl) (by rfl) HT.out ?_)|fail)
    go_ret
    exact ⟨24 + l,by first|rfl|go_num,HB.out,rfl⟩
   ·have g2:¬ (256:Int)≤(y1:Int):=by omega
    go_upto_region 10 with fail
    have hy:y1 < 256:=by omega
    have k1:=len8_le y1 hy
    have k2:=len8_bits y1 hy
    have HT:Hid _:=index_str (w:=w) under_str (lenTab_get y1 hy)
    rw [len8_byte y1 hy] at HT
    have HB:Hid (BitLen x (16 + len8 y1)):=BitLen.shift (by omega) k2 (.inr (by omega)) (by omega)
    clear k2
    obtain ⟨l,hl⟩:∃ l,len8 y1=l:=⟨_,rfl⟩
    rw [hl] at k1 HT HB
    clear hl
    have w1:IntKind.u8.wrap (y1:Int)=(y1:Int):=by rw [IntKind.wrap_u8];omega
    have w2:IntKind.i64.wrap (l:Int)=(l:Int):=by rw [IntKind.wrap_i64];omega
    have w3:IntKind.i64.wrap (16 + (l:Int))=((16 + l:Nat):Int):=by rw [IntKind.wrap_i64];omega
    go_wp2_with (first|(refine wpList_index_run (by rfl) (by rfl) (u:=.string lenTab) (by kernel_rfl) (by rfl) HT.out ?_)|fail)
    go_ret
    exact ⟨16 + l,by first|rfl|go_num,HB.out,rfl⟩
  ·have g1:¬ (65536:Int)≤(x:Int):=by omega
   go_upto_region 7 with fail
   by_cases c2:256≤x
   ·have g2:(256:Int)≤(x:Int):=by omega
    obtain ⟨y2,hy2⟩:∃ z,x / 256=z:=⟨_,rfl⟩
    have e2:(x:Int) / 256=(y2:Int):=by omega
    go_upto_region 10 with fail
    have hy:y2 < 256:=by omega
    have k1:=len8_le y2 hy
    have k2:=len8_bits y2 hy
    have HT:Hid _:=index_str (w:=w) under_str (lenTab_get y2 hy)
    rw [len8_byte y2 hy] at HT
    have HB:Hid (BitLen x (8 + len8 y2)):=BitLen.shift (by omega) k2 (.inr (by omega)) (by omega)
    clear k2
    obtain ⟨l,hl⟩:∃ l,len8 y2=l:=⟨_,rfl⟩
    rw [hl] at k1 HT HB
    clear hl
    have w1:IntKind.u8.wrap (y2:Int)=(y2:Int):=by rw [IntKind.wrap_u8];omega
    have w2:IntKind.i64.wrap (l:Int)=(l:Int):=by rw [IntKind.wrap_i64];omega
    have w3:IntKind.i64.wrap (8 + (l:Int))=((8 + l:Nat):Int):=by rw [IntKind.wrap_i64];omega
    go_wp2_with (first|(refine wpList_index_run (by rfl) (by rfl) (u:=.string lenTab) (by kernel_rfl) (by rfl) HT.out ?_)|fail)
    go_ret
    exact ⟨8 + l,by first|rfl|go_num,HB.out,rfl⟩
   ·have g2:¬ (256:Int)≤(x:Int):=by omega
    go_upto_region 10 with fail
    have hy:x < 256:=by omega
    have k1:=len8_le x hy
    have k2:=len8_bits x hy
    have HT:Hid _:=index_str (w:=w) under_str (lenTab_get x hy)
    rw [len8_byte x hy] at HT
    have HB:Hid (BitLen x (0 + len8 x)):=BitLen.shift (by rw [Nat.pow_zero,Nat.div_one]) k2 (.inl rfl) (by omega)
    clear k2
    obtain ⟨l,hl⟩:∃ l,len8 x=l:=⟨_,rfl⟩
    rw [hl] at k1 HT HB
    clear hl
    have w1:IntKind.u8.wrap (x:Int)=(x:Int):=by rw [IntKind.wrap_u8];omega
    have w2:IntKind.i64.wrap (l:Int)=(l:Int):=by rw [IntKind.wrap_i64];omega
    have w3:IntKind.i64.wrap (0 + (l:Int))=((0 + l:Nat):Int):=by rw [IntKind.wrap_i64];omega
    go_wp2_with (first|(refine wpList_index_run (by rfl) (by rfl) (u:=.string lenTab) (by kernel_rfl) (by rfl) HT.out ?_)|fail)
    go_ret
    exact ⟨l,rfl,by have:=HB.out;rw [Nat.zero_add] at this;exact this,rfl⟩
theorem c12_Len {x:Nat} {w:World} (hx:x < 9223372036854775808) :
  Calls Tryz.prog 151 #[.int .u64 (x:Int)] w fun e w'=>∃ l:Nat,e=.returned (.int .i64 (l:Int))∧BitLen x l∧w'=w:=by
 go_enter Tryz.func151,Tryz.ntmps151
 go_wp2_with fail
 refine (c12_Len64 hx).mono ?_
 rintro e w2 ⟨l,rfl,hl,rfl⟩
 go_wp2_with fail
 go_ret
 exact ⟨l,rfl,hl,rfl⟩
theorem c12_longSize {n:Nat} {w:World} (hn:n≤4503599627370496) :
  Calls Tryz.prog 131 #[.int .i64 (n:Int)] w fun e w'=>∃ l:Nat,e=.returned (.int .i64 (l:Int))∧LongOk n l∧w'=w:=by
 go_enter Tryz.func131,Tryz.ntmps131
 by_cases c1:n < 128
 ·have g1:(n:Int) < 128:=by omega
  go_wp2_with fail
  go_ret
  exact ⟨0,rfl,⟨by omega,fun _=>rfl,fun _ _=>by omega,fun _ _=>by omega,fun _ _=>by omega⟩,rfl⟩
 ·have g1:¬ (n:Int) < 128:=by omega
  have w1:IntKind.u64.wrap (n:Int)=(n:Int):=by rw [IntKind.wrap_u64];omega
  go_wp2_with fail
  refine (c12_Len (by omega)).mono ?_
  rintro e w2 ⟨l,rfl,hl,rfl⟩
  have HL:Hid (LongOk n ((l + 7) / 8)):=hl.long (by omega)
  have hl64:=hl.2.2.1
  clear hl
  have w2:IntKind.i64.wrap ((l:Int) + 8)=(l:Int) + 8:=by rw [IntKind.wrap_i64];omega
  have w3:IntKind.i64.wrap ((l:Int) + 8 - 1)=((l + 7:Nat):Int):=by rw [IntKind.wrap_i64];omega
  have w4:((l + 7:Nat):Int).tdiv 8=(((l + 7) / 8:Nat):Int):=by rw [Int.tdiv_eq_ediv_of_nonneg (by omega)];omega
  have w5:IntKind.i64.wrap (((l + 7) / 8:Nat):Int)=(((l + 7) / 8:Nat):Int):=by rw [IntKind.wrap_i64];omega
  go_wp2_with fail
  go_ret
  exact ⟨(l + 7) / 8,by first|rfl|go_num,HL.out,rfl⟩
theorem c12_size (n:Nat):∀ (T:Tl) (w:World) (cs:List Value),szT T≤n→depT T≤16→SmT T→TlAt w T cs →
  Calls Tryz.prog 97 #[.agg cs.toArray] w fun e w'=>∃ z:Nat,e=.returned (.int .i64 (z:Int))∧SizeOk T z∧Below w.heap.size w w':=by
 induction n with
 | zero=>intro T w cs hz;have:=szT_pos T;omega
 | succ n IH =>
  intro T w cs hz hdp hsm h
  obtain ⟨c,t,m,b,ks⟩:=T
  have h0:=h
  rw [TlAt] at h
  obtain ⟨bv,ao,cap,rfl,hbv,hk1,hk2,hk3⟩:=h
  have HK:Hid (0 < ks.length→∃ g o,ao=some ⟨g,o,none⟩∧KidsAt w ks g o):=hk3
  clear hk3 h0
  unfold maxLen at hk2
  obtain ⟨bao,bcap,rfl,hb1,hb2,hb3⟩:=hbv
  clear hb3
  unfold maxLen at hb1
  have B0:=Blk.new w [.int .i64 c,.int .i64 t,.bool m,.slice bao b.length bcap,.slice ao ks.length cap] 53 w.heap.size rfl
  have bel:=bal w (.cells #[.int .i64 c,.int .i64 t,.bool m,.slice bao b.length bcap,.slice ao ks.length cap] 53)
  rw [szT] at hz
  rw [SmT] at hsm
  rw [depT] at hdp
  have hbl:=hsm.1
  have HSm:Hid (SmL ks):=hsm.2
  clear hsm
  have e3:=B0.cell 3 _ rfl
  have e4:=B0.cell 4 _ rfl
  have lt0:=B0.lt
  go_enter Tryz.func97,Tryz.ntmps97
  go_upto_region 1 with fail
  generalize w.alloc (Obj.cells #[.int .i64 c,.int .i64 t,.bool m,.slice bao b.length bcap,.slice ao ks.length cap] 53)=W at *
  go_wp2_with fail
  go_loopw [3,12] (fun xv iv wx=>∃ i x:Nat,i≤ks.length∧iv=.int .i64 i∧xv=.int .i64 (x:Int)∧Hid (x=b.length + (bytesL (ks.take i)).length)∧x≤140737488355328∧Blk wx w.heap.size [.int .i64 c,.int .i64 t,.bool m,.slice bao b.length bcap,.slice ao ks.length cap]∧Below w.heap.size w wx) (fun _ iv _=>ks.length - (intOf iv).toNat)
  case atStart=>exact ⟨0,b.length,by omega,rfl,rfl,by show _=_;rw [List.take_zero,bytesL];simp,hbl,B0,bel⟩
  case round =>
   clear B0 bel lt0 e3 e4
   obtain ⟨i,x,hi,rfl,rfl,HX,hx1,B0,bel⟩:=hrel
   by_cases hil:i < ks.length
   ·have g1:(i:Int) < (ks.length:Int):=by omega
    have g2:(0:Int)≤(i:Int):=by omega
    have gi:IntKind.i64.wrap ((i:Int) + 1)=(i:Int) + 1:=by rw [IntKind.wrap_i64];omega
    obtain ⟨k,hkk⟩:=get_kid hil
    obtain ⟨g,o,hao,hks⟩:=HK.out (by omega)
    obtain ⟨cs,hcs,hkt⟩:=hks.get hkk
    have hsz:=szL_get hkk
    replace hcs:=hcs.later bel
    replace hkt:=hkt.later bel
    have hld:=tlv_load hcs hkt.five
    have hld2:=hld
    rw [Nat.mul_comm 5 i] at hld2
    subst hao
    have hz:=zero_tlv.out
    have HS5:Hid (cs.toArray.size=5):=by show _=_;rw [List.size_toArray];exact hkt.five
    have HO5:Hid (OneC cs):=hkt.ones
    have HL5:Hid (cs.length=5):=hkt.five
    have KB:=Blk.new wr cs 53 wr.heap.size rfl
    replace B0:=B0.alloc (.cells cs.toArray 53)
    replace bel:=below_alloc (o:=.cells cs.toArray 53) bel
    replace hkt:=hkt.later ((Below.refl _ _).alloc (Nat.le_refl _) (.cells cs.toArray 53))
    go_upto_region 5 with (first|(refine wpList_load_run (by rfl) (by rfl) (by rfl) hld ?_)|(refine wpList_load_run (by rfl) (by rfl) (by rfl) hld2 ?_)|(refine wpList_store_row rfl 53 _ _ rfl wr.heap.size cs.toArray rfl rfl 53 _ (heap_alloc_last _ _) (by rw [size_tlv,HS5.out]) (by rw [HS5.out];rfl) HO5.out ?_;rw [World.setRow_alloc_new])|fail)
    clear hz hld hld2 hcs
    obtain ⟨g1,hg1⟩:∃ g1,g1=wr.heap.size:=⟨_,rfl⟩
    rw [← hg1] at KB
    generalize wr.alloc (.cells cs.toArray 53)=W2 at *
    rw [← hg1]
    clear hg1
    have lk:=KB.lt
    have HKK:Hid (ks[i]?=some k):=hkk
    have hdk:=depL_get hkk
    have hsk:=HSm.out.get hkk
    clear hkk
    go_wp2_with (first|(refine wpList_load_run (by rfl) (by rfl) (by rfl) (KB.load Tryz.underlying53 rfl size_tlv HL5.out) ?_)|fail)
    refine (IH k _ _ (by omega) (by omega) hsk hkt).mono ?_
    rintro e w2 ⟨y,rfl,hy,hb2⟩
    replace B0:=B0.later hb2
    replace bel:=below_stepD bel hb2
    clear hb2 hkt lk KB HS5 HO5 HL5
    have hyb:=hy.2.2
    have HY:Hid _:=hy
    clear hy hsk
    obtain ⟨z,hz9⟩:∃ z,x + y=z:=⟨_,rfl⟩
    have g3:IntKind.i64.wrap ((x:Int) + (y:Int))=(z:Int):=by rw [IntKind.wrap_i64];omega
    by_cases hq:1048576 < z
    ·have g4:(1048576:Int) < (z:Int):=by omega
     have HQ:Hid (SizeOk (.mk c t m b ks) z):=by rw [← hz9];exact SizeOk.over HKK.out HX.out hx1 HY.out (by omega)
     go_wp2_with fail
     go_ret
     exact ⟨z,rfl,HQ.out,bel⟩
    ·have g4:¬ (1048576:Int) < (z:Int):=by omega
     have HN:Hid (z=b.length + (bytesL (ks.take (i + 1))).length):=by rw [← hz9];exact SizeOk.next HKK.out HX.out HY.out (by omega)
     go_wp2_with fail
     go_roundw
     case rel=>exact ⟨i + 1,z,by omega,by go_num,rfl,HN,by omega,B0,bel⟩
     case measure=>simp [intOf];omega
   ·have HI:Hid (i=ks.length):=by show i=ks.length;omega
    have g1:¬ (i:Int) < (ks.length:Int):=by omega
    have HE:Hid (b.length + (bytesL ks).length=x):=by show _=_;rw [HX.out,HI.out,List.take_of_length_le (Nat.le_refl _)]
    go_wp2_with fail
    refine (c12_longSize (n:=x) (by omega)).mono ?_
    rintro e w2 ⟨l,rfl,hl,rfl⟩
    have hl8:=hl.1
    have HQ:Hid (SizeOk (.mk c t m b ks) (2 + l + x)):=SizeOk.end HE.out hl hx1
    clear hl
    have w1:IntKind.i64.wrap (2 + (l:Int))=2 + (l:Int):=by rw [IntKind.wrap_i64];omega
    have w2:IntKind.i64.wrap (2 + (l:Int) + (x:Int))=((2 + l + x:Nat):Int):=by rw [IntKind.wrap_i64];omega
    go_wp2_with fail
    go_ret
    exact ⟨_,rfl,HQ.out,bel⟩
theorem c12_headOf {c t:Int} {m:Bool} {b:List Int} {ks:List Tl} {w:World} {cs:List Value} (hf:fine1 c t m b ks=true) (h:TlAt w (.mk c t m b ks) cs) :
  Calls Tryz.prog 98 #[.agg cs.toArray] w fun e w'=>e=.returned (.int .u8 (headB c t m))∧Below w.heap.size w w':=by
 have h0:=h
 rw [TlAt] at h
 obtain ⟨bv,ao,cap,rfl,hbv,hk1,hk2,hk3⟩:=h
 have HK:Hid (0 < ks.length→∃ g o,ao=some ⟨g,o,none⟩∧KidsAt w ks g o):=hk3
 clear hk3 h0
 unfold maxLen at hk2
 obtain ⟨bao,bcap,rfl,hb1,hb2,hb3⟩:=hbv
 clear hb3
 unfold maxLen at hb1
 have B0:=Blk.new w [.int .i64 c,.int .i64 t,.bool m,.slice bao b.length bcap,.slice ao ks.length cap] 53 w.heap.size rfl
 have bel:=bal w (.cells #[.int .i64 c,.int .i64 t,.bool m,.slice bao b.length bcap,.slice ao ks.length cap] 53)
 have hnum:=fine1_num hf
 have e0:=B0.cell 0 _ rfl
 have e1:=B0.cell 1 _ rfl
 have e2:=B0.cell 2 _ rfl
 have lt0:=B0.lt
 go_enter Tryz.func98,Tryz.ntmps98
 go_upto_region 1 with fail
 generalize w.alloc (Obj.cells #[.int .i64 c,.int .i64 t,.bool m,.slice bao b.length bcap,.slice ao ks.length cap] 53)=W at *
 have a1:IntKind.i64.wrap (c * 64)=c * 64:=by rw [IntKind.wrap_i64];omega
 have a2:IntKind.i64.wrap (c * 64 + t)=c * 64 + t:=by rw [IntKind.wrap_i64];omega
 cases m with
 | true =>
  have a3:IntKind.i64.wrap (c * 64 + t + 32)=c * 64 + t + 32:=by rw [IntKind.wrap_i64];omega
  have a4:IntKind.u8.wrap (c * 64 + t + 32)=headB c t true:=by rw [IntKind.wrap_u8];simp [headB];omega
  go_wp2_with fail
  go_ret
  exact ⟨rfl,bel⟩
 | false =>
  have a4:IntKind.u8.wrap (c * 64 + t)=headB c t false:=by rw [IntKind.wrap_u8];simp [headB];omega
  go_wp2_with fail
  go_ret
  exact ⟨rfl,bel⟩
theorem lenB_byte {n l i:Nat} (h:LongOk n l) (hn:n < 16777216) (h1:1≤l) (hi:i < l):(lenB n)[i + 1]?=some ((n / 2 ^ (8 * (l - 1 - i)) % 256:Nat):Int)∧(lenB n)[0]?=some ((128 + l:Nat):Int):=by
 obtain ⟨_,h0,ha,hb,hc⟩:=h
 unfold lenB
 split
 ·have:=h0 (by assumption);omega
 ·split
  ·have:=ha (by omega) (by assumption)
   subst this
   obtain rfl:i=0:=by omega
   refine ⟨?_,rfl⟩
   simp
   omega
  ·split
   ·have:=hb (by omega) (by assumption)
    subst this
    refine ⟨?_,rfl⟩
    rcases (show i=0∨i=1 by omega) with rfl|rfl
    ·simp;omega
    ·simp
   ·have:=hc (by omega) hn
    subst this
    refine ⟨?_,rfl⟩
    rcases (show i=0∨i=1∨i=2 by omega) with rfl|rfl|rfl
    ·simp
    ·simp
    ·simp
theorem c12_lengthOf {n:Nat} {w:World} (hn:n≤1048576) :
  Calls Tryz.prog 99 #[.int .i64 (n:Int)] w fun e w'=>∃ v':Value,e=.returned v'∧w'.ownsRow w.heap.size 5 1 v' (lenB n).length (u8s (lenB n))∧Below w.heap.size w w':=by
 go_enter Tryz.func99,Tryz.ntmps99
 go_wp2_with fail
 refine (c12_longSize (n:=n) (by omega)).mono ?_
 rintro e w2 ⟨l,rfl,hl,rfl⟩
 have HL:Hid (LongOk n l):=hl
 have hl0:=hl.2.1
 have hl3:l≤3:=by
  obtain ⟨q0,q1,q2,q3,q4⟩:=hl
  by_cases c1:n < 128
  ·have:=q1 c1;omega
  ·by_cases c2:n < 256
   ·have:=q2 (by omega) c2;omega
   ·by_cases c3:n < 65536
    ·have:=q3 (by omega) c3;omega
    ·have:=q4 (by omega) (by omega);omega
 have hl1:128≤n→1≤l:=by
  obtain ⟨q0,q1,q2,q3,q4⟩:=hl
  intro c1
  by_cases c2:n < 256
  ·have:=q2 (by omega) c2;omega
  ·by_cases c3:n < 65536
   ·have:=q3 (by omega) c3;omega
   ·have:=q4 (by omega) (by omega);omega
 clear hl
 by_cases c1:n < 128
 ·have hl:=hl0 c1
  subst hl
  have HB:Hid (lenB n=[(n:Int)]):=by show _=_;unfold lenB;rw [if_pos c1]
  have a1:IntKind.u8.wrap (n:Int)=(n:Int):=by rw [IntKind.wrap_u8];omega
  go_wp2_with fail
  go_ret
  refine ⟨_,rfl,?_,(Below.refl _ _).alloc (Nat.le_refl _) _⟩
  rw [HB.out]
  exact own_lits _ [(n:Int)] 1 _ rfl (Nat.le_refl _) (by decide)
 have hl:=hl1 (by omega)
 clear hl0 hl1
 have hl9:((l:Int) == 0)=false:=by rw [beq_eq_false_iff_ne];omega
 have a1:IntKind.i64.wrap (128 + (l:Int))=128 + (l:Int):=by rw [IntKind.wrap_i64];omega
 have a2:IntKind.u8.wrap (128 + (l:Int))=128 + (l:Int):=by rw [IntKind.wrap_u8];omega
 have HLen:Hid ((lenB n).length=1 + l):=HL.out.len (by omega)
 have own0:=own_lits w2 [128 + (l:Int)] 1 w2.heap.size rfl (Nat.le_refl _) (by decide)
 have bel:=bal w2 (.cells #[.int .u8 (128 + (l:Int))] 5)
 replace own0:(w2.alloc (.cells #[.int .u8 (128 + (l:Int))] 5)).ownsRow w2.heap.size 5 1 (.slice (some ⟨w2.heap.size,0,none⟩) 1 1) 1 (u8s [128 + (l:Int)]):=own0
 have HT1:Hid ((lenB n).take 1=[128 + (l:Int)]):=by
  show _=_
  have:=(lenB_byte (i:=0) HL.out (by omega) hl (by omega)).2
  rw [List.take_one,List.head?_eq_getElem?,this]
  simp
 go_wp2_with fail
 generalize w2.alloc (.cells #[.int .u8 (128 + (l:Int))] 5)=W at *
 go_loopw [4,18] (fun av iv wx=>∃ i:Nat,i≤l∧iv=.int .i64 (i:Int)∧wx.ownsRow w2.heap.size 5 1 av (i + 1) (u8s ((lenB n).take (i + 1)))∧Below w2.heap.size w2 wx) (fun _ iv _=>l - (intOf iv).toNat)
 case atStart=>exact ⟨0,by omega,rfl,by rw [Nat.zero_add,HT1.out];exact own0,bel⟩
 case round =>
  clear own0 bel
  obtain ⟨i,hi,rfl,own,bel⟩:=hrel
  by_cases hil:i < l
  ·have g1:(i:Int) < (l:Int):=by omega
   have gi:IntKind.i64.wrap ((i:Int) + 1)=(i:Int) + 1:=by rw [IntKind.wrap_i64];omega
   obtain ⟨s,hs⟩:∃ s,l - 1 - i=s:=⟨_,rfl⟩
   have HBy:Hid ((lenB n)[i + 1]?=some ((n / 2 ^ (8 * s) % 256:Nat):Int)):=by rw [← hs];exact (lenB_byte HL.out (by omega) hl hil).1
   have a3:IntKind.i64.wrap ((l:Int) - 1)=(l:Int) - 1:=by rw [IntKind.wrap_i64];omega
   have a4:IntKind.i64.wrap ((l:Int) - 1 - (i:Int))=(s:Int):=by rw [IntKind.wrap_i64];omega
   have a5:IntKind.i64.wrap (8 * (s:Int))=((8 * s:Nat):Int):=by rw [IntKind.wrap_i64];omega
   obtain ⟨y,hy⟩:∃ y,n / 2 ^ (8 * s) % 256=y:=⟨_,rfl⟩
   rw [hy] at HBy
   have a6:(n:Int) / 2 ^ (8 * s) % 256=(y:Int):=by rw [← hy];simp
   clear hy
   have own1:=own_later6 own (o:=.cells #[.int .u8 (y:Int)] 5)
   have bl:=bs_one wr (y:Int)
   have bel1:=below_alloc (o:=.cells #[.int .u8 (y:Int)] 5) bel
   have bsz:=bel1.size
   go_wp2_with (first|(at_builtin;refine wpList_append_bs (by rfl) _ _ (by rfl) w2.heap.size _ (i + 1) _ (by rfl) own1 _ [(y:Int)] (by rfl) bl (by simp;omega) bsz ?_;intro v8 w8 own8 hgrow hat)|fail)
   have bel8:=below_own bel1 hgrow bsz (fun g hg=>own_geD own1 hg) (Nat.le_refl _)
   have HT:Hid ((lenB n).take (i + 1)++[(y:Int)]=(lenB n).take (i + 1 + 1)):=by show _=_;rw [List.take_add_one (i:=i + 1),HBy.out];rfl
   rw [HT.out] at own8
   clear hgrow hat own1 bl bel1
   go_roundw
   case rel=>exact ⟨i + 1,by omega,by go_num,own8,bel8⟩
   case measure=>simp [intOf];omega
  ·have HI:Hid (i=l):=by show i=l;omega
   have g1:¬ (i:Int) < (l:Int):=by omega
   go_wp2_with fail
   go_ret
   refine ⟨_,rfl,?_,bel⟩
   rw [HI.out] at own
   rw [List.take_of_length_le (by rw [HLen.out];omega)] at own
   rw [HLen.out,Nat.add_comm 1 l]
   exact own
end Go.Proofs.YtohcdbifhnfcbaaGreatDoor
