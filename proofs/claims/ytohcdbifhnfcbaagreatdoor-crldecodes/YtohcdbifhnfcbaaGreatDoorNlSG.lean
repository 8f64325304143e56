import Derived.Test.YtohcdbifhnfcbaaGreatDoorPmNG
import Derived.Test.YtohcdbifhnfcbaaGreatDoorDrDG
import Derived.Test.YtohcdbifhnfcbaaGreatDoorPrOidN
import Derived.Test.YtohcdbifhnfcbaaGreatDoorDrTG
import Derived.Test.YtohcdbifhnfcbaaGreatDoorPrOidOf
import Derived.Test.YtohcdbifhnfcbaaGreatDoorRows
import Derived.Deep.OwnRows
import Derived.Deep.AppendLies
import Derived.Deep.WholeRow
import Derived.Deep.RegionHeld3
import Derived.Deep.DeepCutAuto
import Derived.Deep.DeepFit
import Derived.Great.BuildSlice
import Derived.Laws.Rows
import Derived.BigQuiet
import Derived.Laws.BytesArg
import Derived.Laws.StructEq
import Derived.ChangeArms
import Derived.ChangeOld
import Derived.Lib.ConvBytes
import Derived.Laws.AppendOwn
namespace Go.Proofs.YtohcdbifhnfcbaaGreatDoor
open Go.RowKit
set_option linter.unusedSimpArgs false
set_option maxRecDepth 100000
set_option maxHeartbeats 2000000
theorem ZdI {w w':World} {base:Nat} {e:TypeId} {v:Value} {n:Nat} {xs:List Value} (h:w.ownsRow base e 1 v n xs) (hb:Below w.heap.size w w'):w'.ownsRow base e 1 v n xs:=by
 obtain⟨hl,h⟩:=h;rcases h with h|⟨g,cap,cur,h1,h2,h3,h4⟩
 ·exact ⟨hl,.inl h⟩
 ·exact ⟨hl,.inr ⟨g,cap,cur,h1,h2,by rw[hb.block g (Array.getElem?_eq_some_iff.1 h3).1];exact h3,h4⟩⟩
theorem ZaI {w:World} {base:Nat} {e:TypeId} {v:Value} {n:Nat} {xs:List Value} {j:Nat} (h:w.ownsRow base e 1 v n xs) (hj:v.ownBlock=some j):base≤j:=by
 rcases h.2 with ⟨h1,_⟩|⟨g,c,cur,h1,h2,_⟩
 ·rw[h1] at hj;simp[Value.ownBlock] at hj
 ·rw[h1] at hj;simp[Value.ownBlock] at hj;omega
theorem Za9 {w:World} {base b2:Nat} {e:TypeId} {v:Value} {n:Nat} {xs:List Value} (h:w.ownsRow base e 1 v n xs) (hb:b2≤base):w.ownsRow b2 e 1 v n xs:=by
 obtain⟨h1,h2⟩:=h;refine ⟨h1,?_⟩;rcases h2 with h2|⟨g,cap,cur,a,b,c⟩
 ·exact .inl h2
 ·exact .inr ⟨g,cap,cur,a,Nat.le_trans hb b,c⟩
theorem Zbw {w:World} {base:Nat} {e:TypeId} {v:Value} {n:Nat} {xs:List Value} {o:Obj} (h:w.ownsRow base e 1 v n xs):(w.alloc o).ownsRow base e 1 v n xs:=ZdI h ((Below.refl _ _).alloc (Nat.le_refl _) o)
theorem ZcJ (w:World) (X:List Int) (hm:X.length≤maxLen):Bs (w.alloc (.cells (u8s X).toArray 5)) (.slice (some ⟨w.heap.size,0,none⟩) X.length X.length) X:=by
 have B:=Blk.new w (u8s X) 5 w.heap.size rfl;exact B.bs rfl hm
theorem Zcc (w:World) (X:List Int) (n base:Nat) (hn:X.length=n) (hb:base≤w.heap.size) (hm:n≤maxLen):(w.alloc (.cells (u8s X).toArray 5)).ownsRow base 5 1 (.slice (some ⟨w.heap.size,0,none⟩) n n) n (u8s X):=by
 subst hn;refine ⟨by simp,.inr ⟨w.heap.size,X.length,(u8s X).toArray,rfl,hb,?_,Nat.le_refl _,hm,?_⟩⟩
 ·show (w.heap.push _)[w.heap.size]?=_;simp
 ·simp
  exact List.take_of_length_le (by simp[u8s])
theorem Zcn {S:Nat→Prop} {w w':World} {v:Value} {n:List Int} (h:Bs w v n) (hv:∀ a m c,v=.slice (some a) m c→0<m→S a.block) (ha:Agr S w w'):Bs w' v n:=by
 obtain⟨ao,cp,e,h1,h2,h3⟩:=h;refine ⟨ao,cp,e,h1,h2,fun h0=>?_⟩;obtain ⟨b,o,e2,hb,hc⟩:=h3 h0;have hs:S b:=hv ⟨b,o,none⟩ _ _ (by rw[e,e2]) h0;refine ⟨b,o,e2,Nat.lt_of_lt_of_le hb ha.1,fun j hj=>?_⟩;rw[← hc j hj];have:=ha.2 b hs hb;unfold World.cell?;simp only[this]
theorem Zda {w0 w:World} {v:Value} {b:List Int} (h:Bs w v b) (hn:Zbg w0 v) (c t:Int) (m:Bool):Dep (fun g=>w0.heap.size≤g) w (.mk c t m b []) [.int .i64 c,.int .i64 t,.bool m,v,.slice none 0 0]:=fun w' ha=>by
 rw[Zav];exact ⟨v,none,0,rfl,Zcn h hn ha,Nat.le_refl _,Nat.zero_le _,fun h=>absurd h (Nat.lt_irrefl 0)⟩
theorem Zc7 {w:World} {T:Tl} {cs:List Value} {N M g:Nat} {X:Array Value} (h:Dep (fun b=>N≤b) w T cs) (hg:g<N) (hM:M≤N):Dep (fun b=>M≤b) (w.setRow g X) T cs :=
 h.next ((Agr.refl _ _).row (by omega)) (fun b hb _=>Nat.le_trans hM hb)
theorem Zfi {w:World} {N:Nat} {ks:List Tl} {xs:List Value} (hl:xs.length=ks.length*5) (hN:N≤w.heap.size) (hm:ks.length≤maxLen) (hk:∀ i k,ks[i]?=some k→Dep (fun b=>N≤b) w k ((xs.drop (5*i)).take 5)) (c t:Int) (m:Bool) :
  Dep (fun b=>N≤b) (w.alloc (.cells xs.toArray 53)) (.mk c t m [] ks) [.int .i64 c,.int .i64 t,.bool m,.slice none 0 0,.slice (some ⟨w.heap.size,0,none⟩) ks.length ks.length]:=by
 have own:(w.alloc (.cells xs.toArray 53)).ownsRow N 53 5 (.slice (some ⟨w.heap.size,0,none⟩) ks.length ks.length) ks.length xs :=
  ⟨hl,.inr ⟨w.heap.size,ks.length,xs.toArray,rfl,hN,by show (w.heap.push _)[w.heap.size]?=_;simp,Nat.le_refl _,hm,by simpa using hl,by rw[List.take_of_length_le (by simp;omega)]⟩⟩
 refine Zem own (fun i k hi=>(hk i k hi).next (Agr.below ((Below.refl _ _).alloc (Nat.le_refl _) _)) (fun _ h _=>h)) c t m (fun _ h=>h) (fun g hg=>?_);simp only[Value.ownBlock,Option.some.injEq] at hg;omega
theorem ZiB {P:Tl→List Value→Prop} {T:Tl} {cs:List Value} (h:P T cs) (l:cs.length=5):∀ i k,[T][i]?=some k→P k ((cs.drop (5*i)).take 5):=fun i k hk=>by
 match i,hk with
 | 0,hk =>
  simp only[List.getElem?_cons_zero,Option.some.injEq] at hk;subst hk;rw[Nat.mul_zero,List.drop_zero,List.take_of_length_le (by omega)];exact h
 | i+1,hk=>simp at hk
theorem ZpI {P:Tl→List Value→Prop} {T U:Tl} {cs ds:List Value} (h:P T cs) (k:P U ds) (l:cs.length=5) (m:ds.length=5):∀ i x,[T,U][i]?=some x→P x (((cs++ds).drop (5*i)).take 5):=fun i x hx=>by
 match i,hx with
 | 0,hx =>
  simp only[List.getElem?_cons_zero,Option.some.injEq] at hx;subst hx;rw[Nat.mul_zero,List.drop_zero,List.take_append_of_le_length (by omega),List.take_of_length_le (by omega)];exact h
 | 1,hx =>
  simp only[List.getElem?_cons_succ,List.getElem?_cons_zero,Option.some.injEq] at hx;subst hx;rw[Nat.mul_one,List.drop_append_of_le_length (by omega),List.drop_of_length_le (by omega),List.nil_append,List.take_of_length_le (by omega)];exact k
 | i+2,hx=>simp at hx
theorem ZqA {cs ds:List Value} (h:cs.length=5) (k:ds.length=5):Instr.fill (fun i=>some (i*5,5)) ((Array.range (2*5)).map ((Value.agg #[.int .i64 0,.int .i64 0,.bool false,.slice none 0 0,.slice none 0 0]).cells[· % (Value.agg #[.int .i64 0,.int .i64 0,.bool false,.slice none 0 0,.slice none 0 0]).cells.size]!)) [(0,.agg cs.toArray),(1,.agg ds.toArray)]=some (cs++ds).toArray:=by
 obtain⟨a,b,c,d,e,rfl⟩:=five h;obtain ⟨a',b',c',d',e',rfl⟩:=five k;kernel_rfl
theorem ZnM {L:List Int} (h:∀ x∈L,0≤x∧x<18446744073709551616):wrd L:=fun j=>by
 by_cases hj:j<L.length
 ·rw[List.getD_eq_getElem?_getD,List.getElem?_eq_getElem hj]
  exact h _ (List.getElem_mem hj)
 ·rw[List.getD_eq_getElem?_getD,List.getElem?_eq_none (by omega)]
  decide
def RwT (w:World) (base:Nat) (kv:Value) (Ts:List Tl):Prop:=∃ xs,w.ownsRow base 53 5 kv Ts.length xs∧∀ i t,Ts[i]?=some t→Dep (fun b=>base≤b∧kv.ownBlock≠some b) w t ((xs.drop (5*i)).take 5)
theorem RwT.nil0 (w:World) (base:Nat):RwT w base (.slice none 0 0) []:=⟨[],⟨rfl,.inl ⟨rfl,rfl⟩⟩,fun i t h=>by simp at h⟩
theorem RwT.later {w w':World} {base:Nat} {kv:Value} {Ts:List Tl} (h:RwT w base kv Ts) (hb:Below w.heap.size w w'):RwT w' base kv Ts:=by
 obtain⟨xs,h1,h2⟩:=h;exact ⟨xs,Za7 (S:=fun _=>True) h1 (Agr.below hb) (fun _ _=>trivial),fun i t ht=>(h2 i t ht).next (Agr.below hb) (fun _ h _=>h)⟩
theorem RwT.sl {w:World} {base:Nat} {kv:Value} {Ts:List Tl} (h:RwT w base kv Ts):∃ ao cap,kv=.slice ao Ts.length cap:=by
 obtain⟨xs,h1,_⟩:=h;rcases h1.2 with ⟨e1,e2⟩|⟨g,cap,cur,e1,_⟩
 ·exact ⟨none,0,by rw[e1,e2]⟩
 ·exact ⟨_,cap,e1⟩
theorem Zmg {S:Nat→Prop} {w:World} {v:Value} {b:List Int} (h:Bs w v b) (hS:∀ a m c,v=.slice (some a) m c→0<m→S a.block) (c t:Int) (m:Bool):Dep S w (.mk c t m b []) [.int .i64 c,.int .i64 t,.bool m,v,.slice none 0 0]:=fun w' ha=>by
 rw[Zav];exact ⟨v,none,0,rfl,Zcn h hS ha,Nat.le_refl _,Nat.zero_le _,fun h=>absurd h (Nat.lt_irrefl 0)⟩
theorem ZeR {ops:Array Oper} {rest:List Oper} {o:Oper} {a:Act} {w:World} {Q:Exit→Act→World→Prop} (hgd:o.guard=none) (s x:Operand)
  (ho:o.op=.call { callee:=.builtin .append,args:=#[s,x],argTypes:=#[51,51] })
  (base:Nat) (kv:Value) (Ts:List Tl) (hs:a.eval s=kv) (hr:RwT w base kv Ts) (g:Nat) (hx:a.eval x=.slice (some ⟨g,0,none⟩) 1 1) (cs:List Value) (B:Blk w g cs) (l5:cs.length=5) (ones:Zca cs)
  (T:Tl) (hd:Dep (fun b=>base≤b∧kv.ownBlock≠some b) w T cs) (hn:Ts.length≤1000000) (hbase:base≤w.heap.size)
  (h:∀ kv' w',RwT w' base kv' (Ts++[T])→w.grownBy w' kv.ownBlock→(∀ b,kv.ownBlock=some b→base≤b)→(kv'.ownBlock=kv.ownBlock∨kv'.ownBlock=some w.heap.size)→wpList Tryz.prog ops Q rest (a.put o.dst kv') w') :
  wpList Tryz.prog ops Q (o::rest) a w:=by
 obtain⟨xs,h1,h2⟩:=hr;obtain ⟨jt,hjt,ht0,ht1,ht2⟩:=ZaO Zcb;refine wpList_append_lies _ hgd s x _ ho base 53 jt _ 5 72 Tryz.underlying51 hjt ht0 ht1 ht2 rfl (by omega) kv Ts.length xs hs h1 ⟨g,0,none⟩ 1 1 cs hx l5 ?_ (fun u hu=>(Array.all_eq_true_iff_forall_mem.1 ones) u (by simpa using hu)) (by omega) (by unfold maxLen;omega) (by omega) hbase w.heap.size rfl ?_
 ·intro j u hu
  rw[Addr.add_mid,Nat.zero_add];exact B.cell j u hu
 ·intro g' cap1 w' hown hgrow hat hlt
  have hl:xs.length=Ts.length*5:=h1.1;refine h _ w' ⟨xs++cs,by rw[List.length_append];exact hown,fun i t ht=>?_⟩ hgrow (fun b hb=>(ZaB h1 hb).1) (by rcases hat with e|e;exact .inl (by rw[e];rfl);exact .inr (by rw[← e];rfl));have hag:Agr (fun b=>base≤b∧kv.ownBlock≠some b) w w':=Agr.grown hgrow (fun b hb=>hb.2);have hS:∀ b,(base≤b∧kv.ownBlock≠some b)→b<w.heap.size→(base≤b∧(Value.slice (some ⟨g',0,none⟩) (Ts.length+1) cap1).ownBlock≠some b):=fun b hb hlb=>⟨hb.1,fun e=>by
   simp only[Value.ownBlock,Option.some.injEq] at e;rcases hat with e2|e2
   ·exact hb.2 (by rw[e2,e])
   ·omega⟩
  by_cases hi:i<Ts.length
  ·rw[List.getElem?_append_left hi] at ht
   rw[List.drop_append_of_le_length (by omega),List.take_append_of_le_length (by rw[List.length_drop];omega)];exact (h2 i t ht).next hag hS
  ·have hi2:=(List.getElem?_eq_some_iff.1 ht).1
   rw[List.length_append] at hi2;obtain rfl:i=Ts.length:=by simp at hi2;omega
   rw[List.getElem?_append_right (Nat.le_refl _),Nat.sub_self] at ht;simp only[List.getElem?_cons_zero,Option.some.injEq] at ht;subst ht;rw[List.drop_append_of_le_length (by omega),List.drop_of_length_le (by omega),List.nil_append,List.take_of_length_le (by omega)];exact hd.next hag hS
theorem RwTL {w w':World} {N:Nat} {kv:Value} {Ts:List Tl} (h:Hid (RwT w N kv Ts)) (hb:Below w.heap.size w w'):Hid (RwT w' N kv Ts):=h.out.later hb
theorem conv_s {w:World} {b o n cap:Nat} {bs:List Int} (h:Bs w (.slice (some ⟨b,o,none⟩) n cap) bs) (hn:0<n):(convert 22 9 (.slice (some ⟨b,o,none⟩) n cap)).run Tryz.prog w=.ok (.string (strOfNums bs)) w:=by
 obtain⟨ao,c,e,-,-,h4⟩:=h;simp only[Value.slice.injEq] at e;obtain ⟨rfl,rfl,rfl⟩:=e;obtain ⟨b',o',e',-,h6⟩:=h4 hn;simp only[Option.some.injEq,Addr.mk.injEq] at e';obtain ⟨rfl,rfl,-⟩:=e';exact run_convert_bytes_arg w 22 5 Tryz.underlying22 Tryz.underlying5 b o bs.length _ bs rfl h6 9 Tryz.underlying9
theorem Bs.form {w:World} {v:Value} {bs:List Int} (h:Bs w v bs) (h0:0<bs.length):∃ b o cap,v=.slice (some ⟨b,o,none⟩) bs.length cap∧bs.length≤cap∧cap≤maxLen:=by
 obtain⟨ao,cap,e,h1,h2,h3⟩:=h;obtain ⟨b,o,rfl,_⟩:=h3 h0;exact ⟨b,o,cap,e,h2,h1⟩
theorem Zbq {w:World} {v:Value} {bs:List Int} (h:Bs w v bs):(convert 22 9 v).run Tryz.prog w=.ok (.string (strOfNums bs)) w:=by
 by_cases h0:0<bs.length
 ·obtain ⟨b,o,cap,rfl,_,_⟩:=h.form h0
  exact conv_s h h0
 ·obtain rfl:bs=[]:=List.eq_nil_of_length_eq_zero (by omega)
  obtain⟨ao,cap,rfl,_,_,_⟩:=h
  cases ao<;>kernel_rfl
abbrev Pn:=Int × List Int
def Zcq (w:World) (v:Value) (n:List Pn):Prop:=∃ ao cap,v=.slice ao n.length cap∧n.length≤cap∧cap≤maxLen∧(0<n.length→∃ b o,ao=some ⟨b,o,none⟩∧b<w.heap.size∧∀ i p,n[i]?=some p→w.cell? ⟨b,o+i*2,none⟩=some (.int .i64 p.1)∧w.cell? ⟨b,o+i*2+1,none⟩=some (.string (strOfNums p.2)))
def WfN (n:List Pn):Prop:=∀ (i:Nat) (p:Pn),n[i]?=some p→(-9223372036854775808≤p.1∧p.1<9223372036854775808)∧byt p.2∧p.2.length≤maxLen
theorem Zcq.later {w w':World} {v:Value} {n:List Pn} (h:Zcq w v n) (hb:Below w.heap.size w w'):Zcq w' v n:=by
 obtain⟨ao,cap,e,h1,h2,h3⟩:=h;refine ⟨ao,cap,e,h1,h2,fun h0=>?_⟩;obtain ⟨b,o,e2,hl,hc⟩:=h3 h0;exact ⟨b,o,e2,Nat.lt_of_lt_of_le hl hb.size,fun i p hp=>⟨(hb.cell (p:=⟨b,o+i*2,none⟩) hl).trans (hc i p hp).1,(hb.cell (p:=⟨b,o+i*2+1,none⟩) hl).trans (hc i p hp).2⟩⟩
theorem Zcq.nil0 (w:World):Zcq w (.slice none 0 0) []:=⟨_,_,rfl,Nat.le_refl _,by decide,fun h=>absurd h (by decide)⟩
theorem Zrk {A B:List Int} (ha:byt A) (hb:byt B) (h:strOfNums A=strOfNums B):A=B:=by
 have e:∀ {A B:List Int},byt A→byt B→(A.map fun n=>UInt8.ofNat n.toNat)=(B.map fun n=>UInt8.ofNat n.toNat)→A=B:=by
  intro A
  induction A with
  | nil=>intro B _ _ h;cases B with
   | nil=>rfl
   | cons b B=>simp at h
  | cons a A ih=>intro B ha hb h;cases B with
   | nil=>simp at h
   | cons b B =>
    simp only[List.map_cons,List.cons.injEq] at h;have h0:=ha 0;have k0:=hb 0;simp only[List.getD_cons_zero] at h0 k0;have e1:a=b:=by
     have:=congrArg UInt8.toNat h.1;rw[UInt8.toNat_ofNat_of_lt' (by have:UInt8.size=256:=rfl;omega),UInt8.toNat_ofNat_of_lt' (by have:UInt8.size=256:=rfl;omega)] at this;omega
    rw[e1,ih (fun j=>by simpa using ha (j+1)) (fun j=>by simpa using hb (j+1)) h.2]
 refine e ha hb ?_;have:=congrArg (fun s:ByteArray=>s.data.toList) h
 simpa [strOfNums] using this
theorem ZiE : (Tryz.prog.fieldsOf 106).toList.map (fun f => (f.name == "_", f.type, f.offset)) = [(false, 3, 0), (false, 9, 1)] := by kernel_rfl
theorem ZhJ {P : Program} {w : World} {d : Nat} {xs ys : Array Value} {f : Field} {fs : List Field} {a b : Value} {r : Bool} (hn : (f.name == "_") = false) (ha : ∀ w, (part f.type xs f.offset).run P w = .ok a w) (hb : ∀ w, (part f.type ys f.offset).run P w = .ok b w) (hr : ∀ w, (Op.equalIn d f.type a b).run P w = .ok r w) :
  (Op.eqFields d xs ys (f::fs)).run P w=if r then (Op.eqFields d xs ys fs).run P w else .ok false w:=by
 have : f.name ≠ "_" := by simpa using hn
 rw[Op.eqFields,if_pos this];simp only[Sem.run_bind,ha,hb,hr,Result.andThen_ok]
 cases r<;>simp
theorem ba_beq:∀ x y:ByteArray,(x == y)=(x.data == y.data)
 | ⟨_⟩,⟨_⟩=>rfl
theorem Zrj {A B:List Int} (ha:byt A) (hb:byt B):(strOfNums A == strOfNums B)=decide (A=B):=by
 rw[ba_beq]
 by_cases h:A=B
 ·subst h
  simp
 ·rw[decide_eq_false h,beq_eq_false_iff_ne]
  exact fun e=>h (Zrk ha hb (ByteArray.ext e))
theorem eqPt (k1 k2:Int) (s1 s2:List Int) (h1:byt s1) (h2:byt s2):∀ w:World,(Op.equalIn 10000 106 (.agg #[.int .i64 k1,.string (strOfNums s1)]) (.agg #[.int .i64 k2,.string (strOfNums s2)])).run Tryz.prog w=.ok (decide ((k1,s1)=(k2,s2))) w:=fun w=>by
 rw[run_equalIn_struct w 9999 106 _ _ (by kernel_rfl) (by kernel_rfl)];have hf:=ZiE;have hs:=Zrj h1 h2;generalize (Tryz.prog.fieldsOf 106).toList=fs at *;have hl:fs.length=2:=by simpa using congrArg List.length hf
 obtain⟨t1,e1⟩:∃ t,strOfNums s1=t:=⟨_,rfl⟩;obtain ⟨t2,e2⟩:∃ t,strOfNums s2=t:=⟨_,rfl⟩;rw[e1,e2] at hs ⊢
 match fs,hl,hf with
 | [f0,f1],_,hf =>
  simp only[List.map_cons,List.map_nil,List.cons.injEq,and_true,Prod.mk.injEq] at hf;obtain ⟨⟨n0,y0,o0⟩,⟨n1,y1,o1⟩⟩:=hf;rw[ZhJ (r:=decide (k1=k2)) n0 (a:=.int .i64 k1) (b:=.int .i64 k2) (by rw[y0,o0];intro w;kernel_rfl) (by rw[y0,o0];intro w;kernel_rfl) (by rw[y0];intro w;kernel_rfl)];rw[ZhJ (r:=t1 == t2) n1 (a:=.string t1) (b:=.string t2) (by rw[y1,o1];intro w;kernel_rfl) (by rw[y1,o1];intro w;kernel_rfl) (by rw[y1];intro w;kernel_rfl)];simp only[Op.eqFields,Sem.run_pure];rw[hs]
  by_cases c1:k1=k2<;>by_cases c2:s1=s2<;>simp[c1,c2]
theorem Zje {v:Value} {B:List Int} {w:World} (hv:Bs w v B) (b:byt B) :
  Calls Tryz.prog 125 #[v] w fun e w'=>(∀ n,ZbJ B=.ok n→e=.returned (.tuple #[.string (strOfNums n),.nilIface])∧Below w.heap.size w w')∧(∀ c,ZbJ B=.error c→e=.returned (.tuple #[.string (strOfNums []),.iface 46 (.int .i64 (c:Int))])∧Below w.heap.size w w'):=by
 have cv:=Zbq hv;have HB:Hid (byt B):=b;obtain ⟨ao,cap,rfl,h1,h2,h3⟩:=hv;obtain ⟨N,hN⟩:∃ N,B.length=N:=⟨_,rfl⟩;have HN:Hid (B.length=N):=hN;rw[hN] at h2 h3 cv ⊢;have HC:Hid (∀ j,j<N→∃ g o,ao=some ⟨g,o,none⟩∧w.cell? ⟨g,o+j,none⟩=some (.int .u8 (B.getD j 0))∧g<w.heap.size):=fun j hj=>by
  obtain⟨g,o,e1,e2,e3⟩:=h3 (by omega);exact ⟨g,o,e1,e3 j hj,e2⟩
 unfold maxLen at h1;clear b h3 hN
 by_cases c0:64<N
 ·have H:Hid (ZbJ B=.error 2):=by show _=_;unfold ZbJ;rw[if_pos (by rw[HN.out];exact c0)]
  have g0:(64:Int)<(N:Int):=by omega
  go_enter Tryz.func125,Tryz.ntmps125;go_wp2_with fail;refine bodyPost_ret (results_tmp2 rfl _ _ _) rfl ?_;exact ⟨fun n h=>(by rw[H.out] at h;cases h),fun c h=>(by rw[H.out] at h;cases h;exact ⟨rfl,Below.refl _ _⟩)⟩
 have g0:¬ (64:Int)<(N:Int):=by omega
 by_cases c1:N=0
 ·have H:Hid (ZbJ B=.error 7):=by show _=_;unfold ZbJ;rw[if_neg (by rw[HN.out];exact c0),if_pos (by rw[HN.out];exact c1)]
  have g1:(N:Int)=0:=by omega
  go_enter Tryz.func125,Tryz.ntmps125;go_wp2_with fail;refine bodyPost_ret (results_tmp2 rfl _ _ _) rfl ?_;exact ⟨fun n h=>(by rw[H.out] at h;cases h),fun c h=>(by rw[H.out] at h;cases h;exact ⟨rfl,Below.refl _ _⟩)⟩
 have g1:¬ (N:Int)=0:=by omega
 have H0:Hid (ZbJ B=if ∃ j,j<N∧(B.getD j 0<32∨126<B.getD j 0) then .error 7 else .ok B):=by show _=_;unfold ZbJ;rw[HN.out,if_neg c0,if_neg c1]
 go_enter Tryz.func125,Tryz.ntmps125;go_wp2_with fail;go_loop [16] (fun iv=>∃ (i:Nat),i≤N∧iv=.int .i64 (i:Int)∧Hid (∀ j,j<i→¬ (B.getD j 0<32∨126<B.getD j 0))) (fun iv=>N-(intOf iv).toNat)
 case atStart=>exact ⟨0,by omega,rfl,fun j h=>absurd h (by omega)⟩
 case round =>
  obtain⟨i,hi,rfl,HE⟩:=hrel
  by_cases hil:i<N
  ·have k1:(i:Int)<(N:Int):=by omega
   have k2:(0:Int)≤(i:Int):=by omega
   have gi:IntKind.i64.wrap ((i:Int)+1)=(i:Int)+1:=by rw[IntKind.wrap_i64];omega
   obtain⟨g,o,rfl,cy,lg⟩:=HC.out i hil;have yb:=HB.out i;obtain ⟨y,hy⟩:∃ y,B.getD i 0=y:=⟨_,rfl⟩;have HY:Hid (B.getD i 0=y):=hy;rw[hy] at cy yb;clear hy
   by_cases d1:y<32
   ·have H:Hid (ZbJ B=.error 7):=by show _=_;rw[H0.out,if_pos ⟨i,hil,.inl (by rw[HY.out];exact d1)⟩]
    go_wp2_with fail;refine bodyPost_ret (results_tmp2 rfl _ _ _) rfl ?_;exact ⟨fun n h=>(by rw[H.out] at h;cases h),fun c h=>(by rw[H.out] at h;cases h;exact ⟨rfl,Below.refl _ _⟩)⟩
   by_cases d2:126<y
   ·have H:Hid (ZbJ B=.error 7):=by show _=_;rw[H0.out,if_pos ⟨i,hil,.inr (by rw[HY.out];exact d2)⟩]
    go_wp2_with fail;refine bodyPost_ret (results_tmp2 rfl _ _ _) rfl ?_;exact ⟨fun n h=>(by rw[H.out] at h;cases h),fun c h=>(by rw[H.out] at h;cases h;exact ⟨rfl,Below.refl _ _⟩)⟩
   have HE2:Hid (∀ j,j<i+1→¬ (B.getD j 0<32∨126<B.getD j 0)):=fun j hj=>by
    by_cases hji:j<i
    ·exact HE.out j hji
    ·obtain rfl:j=i:=by omega
     rw[HY.out];omega
   go_wp2_with fail;go_round
   case rel=>exact ⟨i+1,by omega,by go_num,HE2⟩
   case measure=>simp[intOf];omega
  ·have k1:¬ (i:Int)<(N:Int):=by omega
   have H:Hid (ZbJ B=.ok B):=by
    show _=_;rw[H0.out,if_neg (by rintro ⟨j,hj,h⟩;exact HE.out j (by omega) h)]
   go_wp2_with fail;refine bodyPost_ret (results_tmp2 rfl _ _ _) rfl ?_;exact ⟨fun n h=>(by rw[H.out] at h;cases h;exact ⟨rfl,Below.refl _ _⟩),fun c h=>(by rw[H.out] at h;cases h)⟩
def ZbT (k:Int):Bool:=decide (k=3) || decide (k=6) || decide (k=10) || decide (k=11)
def Zbn (p:Pn):Bool:=ZbT p.1 && (match ZbJ p.2 with|.ok _=>true|.error _=>false)
def Zc3 (n:List Pn):Bool:=decide (n.length≤8) && n.all Zbn
def ZbX (p:Pn):Tl:=.mk 0 17 true [] [.mk 0 16 true [] [.mk 0 6 false [85,4,p.1] [],.mk 0 12 false p.2 []]]
def ZbC (n:List Pn):Tl:=.mk 0 16 true [] (n.map ZbX)
def Zdc:Tl→Option Pn
 | .mk c t m _ [.mk c1 t1 m1 _ [.mk c2 t2 m2 [x,y,k] _,.mk c3 t3 m3 b _]]=>if c=0∧t=17∧m=true∧c1=0∧t1=16∧m1=true∧c2=0∧t2=6∧m2=false∧x=85∧y=4∧c3=0∧t3=12∧m3=false∧Zbn (k,b)=true then some (k,b) else none
 | _=>none
def Zcz:Tl→Except Nat (List Pn)
 | .mk c t m _ ks=>if c=0∧t=16∧m=true then (match ks.mapM Zdc with|none=>.error 7|some n=>if 8<n.length then .error 2 else .ok n) else .error 7
def Ze2 (w:World) (n:List Pn) (e:Ending) (w':World):Prop :=
 (Zc3 n=false→e=.returned (.tuple #[.agg #[.int .i64 0,.int .i64 0,.bool false,.slice none 0 0,.slice none 0 0],.iface 46 (.int .i64 1)])∧Below w.heap.size w w') ∧
 (Zc3 n=true→∃ (kv:Value) (xs:List Value),e=.returned (.tuple #[.agg #[.int .i64 0,.int .i64 16,.bool true,.slice none 0 0,kv],.nilIface])∧w'.ownsRow w.heap.size 53 5 kv n.length xs∧(∀ (i:Nat) (t:Tl),(n.map ZbX)[i]?=some t→Dep (fun b=>w.heap.size≤b∧kv.ownBlock≠some b) w' t ((xs.drop (5*i)).take 5))∧Below w.heap.size w w')
def Zey (w w':World) (v:Value) (n:List Pn):Prop:=∀ w2,Agr (fun b=>w.heap.size≤b) w' w2→Zcq w2 v n
def OfR (w:World) (T:Tl) (e:Ending) (w':World):Prop :=
 (∃ v er:Value,e=.returned (.tuple #[v,er])∧Below w.heap.size w w')∧(wrN T=0→(∀ n,Zcz T=.ok n→∃ v,e=.returned (.tuple #[v,.nilIface])∧Zey w w' v n)∧(∀ c,Zcz T=.error c→∃ (ao:Option Addr) (cap:Nat),e=.returned (.tuple #[.slice ao 0 cap,.iface 46 (.int .i64 (c:Int))])))
theorem Ze2.tl {w w':World} {n:List Pn} {kv:Value} {xs:List Value} (h:w'.ownsRow w.heap.size 53 5 kv n.length xs) (hk:∀ (i:Nat) (t:Tl),(n.map ZbX)[i]?=some t→Dep (fun b=>w.heap.size≤b∧kv.ownBlock≠some b) w' t ((xs.drop (5*i)).take 5)):Dep (fun b=>w.heap.size≤b) w' (ZbC n) [.int .i64 0,.int .i64 16,.bool true,.slice none 0 0,kv] :=
 Zem (ks:=n.map ZbX) (by rw[List.length_map];exact h) hk 0 16 true (fun _ h=>h.1) (fun g hg=>(ZaB h hg).1)
theorem Zic (A:List Int):(strOfNums A).size=A.length:=by simp[strOfNums,ByteArray.size]
theorem ZpB {A:List Int} (h:byt A) {j:Nat} (hj:j<A.length):(((strOfNums A).data.toList.getD j 0).toNat:Int)=A.getD j 0:=by
 have h0:=h j;have e:(strOfNums A).data.toList=A.map fun n=>UInt8.ofNat n.toNat:=by simp[strOfNums]
 rw[e,List.getD_eq_getElem?_getD,List.getElem?_map,List.getElem?_eq_getElem hj];rw[List.getD_eq_getElem?_getD,List.getElem?_eq_getElem hj] at h0 ⊢;simp only[Option.map_some,Option.getD_some] at h0 ⊢;rw[UInt8.toNat_ofNat_of_lt' (by have:UInt8.size=256:=rfl;omega)];omega
theorem Zef {bs:List Int} (b:byt bs) (hl:bs.length≤maxLen) (w:World):∃ cap w',(convert 9 22 (.string (strOfNums bs))).run Tryz.prog w=.ok (.slice (some ⟨w.heap.size,0,none⟩) bs.length cap) w'∧Bs w' (.slice (some ⟨w.heap.size,0,none⟩) bs.length cap) bs∧Below w.heap.size w w':=by
 have hc:=Lib.run_convert_string_bytes (P:=Tryz.prog) w 9 22 5 (strOfNums bs) Tryz.underlying9 Tryz.underlying22 Tryz.underlying5;rw[Zic] at hc;refine ⟨_,_,hc,⟨_,_,rfl,grownCap_le_maxLen _ _ _ _ hl,grownCap_ge _ _ _ _,fun _=>⟨w.heap.size,0,rfl,by rw[Lib.bytesWorld_size];omega,fun j hj=>?_⟩⟩,?_⟩
 ·rw[Nat.zero_add,Lib.bytesWorld_cell _ _ _ _ (by rw[Zic];exact hj),ZpB b hj]
 ·exact ⟨rfl,rfl,rfl,by rw[Lib.bytesWorld_size];omega,fun j hj=>Lib.bytesWorld_at_old _ _ _ j hj⟩
theorem ZeF {k:Int} {w:World}:Calls Tryz.prog 124 #[.int .i64 k] w fun e w'=>e=.returned (.bool (ZbT k))∧w'=w:=by
 have e3:(k == 3)=decide (k=3):=rfl;have e6:(k == 6)=decide (k=6):=rfl;have e10:(k == 10)=decide (k=10):=rfl;have e11:(k == 11)=decide (k=11):=rfl;have HK:Hid (ZbT k=(decide (k=3) || decide (k=6) || decide (k=10) || decide (k=11))):=rfl;generalize decide (k=3)=b3 at *;generalize decide (k=6)=b6 at *;generalize decide (k=10)=b10 at *;generalize decide (k=11)=b11 at *;go_enter Tryz.func124,Tryz.ntmps124
 cases b3
 ·cases b6
  ·cases b10
   ·cases b11
    ·go_wp2_with fail
     go_ret;exact ⟨by rw[HK.out];rfl,rfl⟩
    ·go_wp2_with fail
     go_ret;exact ⟨by rw[HK.out];rfl,rfl⟩
   ·go_wp2_with fail
    go_ret;exact ⟨by rw[HK.out];rfl,rfl⟩
  ·go_wp2_with fail
   go_ret;exact ⟨by rw[HK.out];rfl,rfl⟩
 ·go_wp2_with fail
  go_ret;exact ⟨by rw[HK.out];rfl,rfl⟩
theorem Zgi {k:Int} {w:World}:Calls Tryz.prog 123 #[.int .i64 k] w fun e w'=>∃ g,e=.returned (.slice (some ⟨g,0,none⟩) 4 4)∧w.heap.size≤g∧Us w' (.slice (some ⟨g,0,none⟩) 4 4) [2,5,4,IntKind.u64.wrap k]∧Below w.heap.size w w':=by
 obtain⟨u,hu⟩:∃ u,IntKind.u64.wrap k=u:=⟨_,rfl⟩;rw[hu];go_enter Tryz.func123,Tryz.ntmps123;go_wp2_with fail;go_ret;exact ⟨w.heap.size,rfl,Nat.le_refl _,ZnE (Blk.new w (us [2,5,4,u]) 27 w.heap.size rfl) rfl (by decide),(Below.refl _ _).alloc (Nat.le_refl _) _⟩
theorem Zbh (c:Int):∀ w:World,(binOp .neq 35 (.iface 46 (.int .i64 c)) .nilIface).run Tryz.prog w=.ok (.bool true) w:=fun _=>by kernel_rfl
theorem ZaU:∀ w:World,(binOp .neq 35 .nilIface .nilIface).run Tryz.prog w=.ok (.bool false) w:=fun _=>by kernel_rfl
theorem ZgL {t:Int} {ka:Option Addr} {n kc:Nat} {w:World}:Calls Tryz.prog 92 #[.int .i64 t,.slice ka n kc] w fun e w'=>e=.returned (.agg #[.int .i64 0,.int .i64 t,.bool true,.slice none 0 0,.slice ka n kc])∧Below w.heap.size w w':=by
 have R0:=Blk.new w [.int .i64 0,.int .i64 0,.bool false,.slice none 0 0,.slice none 0 0] 53 w.heap.size rfl;have bel:=bal w (.cells #[.int .i64 0,.int .i64 0,.bool false,.slice none 0 0,.slice none 0 0] 53);have hz:=Zaj.out;go_enter Tryz.func92,Tryz.ntmps92;go_upto_region 1 with fail;have lW:=bel.size;generalize w.alloc (.cells #[.int .i64 0,.int .i64 0,.bool false,.slice none 0 0,.slice none 0 0] 53)=W at *;obtain ⟨tR,hR⟩:=R0;have HR1:Hid _:=hR;clear hR;go_wp2_with (first|((with_reducible show wpList _ _ _ (⟨_,.store _ _ _,_,_,_,_⟩::_) _ _);refine wpList_store_row rfl 53 _ _ rfl w.heap.size #[.int .i64 0,.int .i64 t,.bool true,.slice none 0 0,.slice ka n kc] rfl rfl tR _ HR1.out (by rw[Zae];rfl) rfl (by simp[Value.oneCell']) ?_)|fail);refine bodyPost_ret (results_cell_row rfl _ _ w.heap.size tR #[.int .i64 0,.int .i64 t,.bool true,.slice none 0 0,.slice ka n kc] (0,0) _ rfl (setRow_heap _ _ _ _ _ _ HR1.out) Tryz.underlying53 rfl (by rw[Zae];rfl)) rfl ?_;exact ⟨rfl,below_setRow bel (by omega) _⟩
theorem ZlE {t:Int} {ka:Option Addr} {n kc:Nat} {w:World}:Calls Tryz.prog 126 #[.int .i64 t,.slice ka n kc] w fun e w'=>e=.returned (.agg #[.int .i64 0,.int .i64 t,.bool false,.slice ka n kc,.slice none 0 0])∧Below w.heap.size w w':=by
 have R0:=Blk.new w [.int .i64 0,.int .i64 0,.bool false,.slice none 0 0,.slice none 0 0] 53 w.heap.size rfl;have bel:=bal w (.cells #[.int .i64 0,.int .i64 0,.bool false,.slice none 0 0,.slice none 0 0] 53);have hz:=Zaj.out;go_enter Tryz.func126,Tryz.ntmps126;go_upto_region 1 with fail;have lW:=bel.size;generalize w.alloc (.cells #[.int .i64 0,.int .i64 0,.bool false,.slice none 0 0,.slice none 0 0] 53)=W at *;obtain ⟨tR,hR⟩:=R0;have HR1:Hid _:=hR;clear hR;go_wp2_with (first|((with_reducible show wpList _ _ _ (⟨_,.store _ _ _,_,_,_,_⟩::_) _ _);refine wpList_store_row rfl 53 _ _ rfl w.heap.size #[.int .i64 0,.int .i64 t,.bool false,.slice ka n kc,.slice none 0 0] rfl rfl tR _ HR1.out (by rw[Zae];rfl) rfl (by simp[Value.oneCell']) ?_)|fail);refine bodyPost_ret (results_cell_row rfl _ _ w.heap.size tR #[.int .i64 0,.int .i64 t,.bool false,.slice ka n kc,.slice none 0 0] (0,0) _ rfl (setRow_heap _ _ _ _ _ _ HR1.out) Tryz.underlying53 rfl (by rw[Zae];rfl)) rfl ?_;exact ⟨rfl,below_setRow bel (by omega) _⟩
def Zcx (tg:Int):Tl→Bool
 | .mk c t m b _=>decide (c=0∧t=tg∧m=true∧b.length=0)
def Zb4 (tg:Int):Tl→Bool
 | .mk c t m _ ks=>decide (c=0∧t=tg∧m=false∧ks.length=0)
theorem ZeG {c t tg:Int} {m:Bool} {b:List Int} {ks:List Tl} {cs:List Value} {w:World} (h:Zav w (.mk c t m b ks) cs) :
  Calls Tryz.prog 106 #[.agg cs.toArray,.int .i64 tg] w fun e w'=>e=.returned (.bool (Zcx tg (.mk c t m b ks)))∧Below w.heap.size w w':=by
 rw[Zav] at h;obtain ⟨bv,ka,kc,rfl,hbv,-,-,-⟩:=h;obtain ⟨ba,bc,rfl,-,-,-⟩:=hbv;obtain ⟨N,hN⟩:∃ N,b.length=N:=⟨_,rfl⟩;obtain ⟨K,hK⟩:∃ K,ks.length=K:=⟨_,rfl⟩;have HN:Hid (b.length=N):=hN;have HK:Hid (ks.length=K):=hK;rw[hN,hK];clear hN hK;have B0:=Blk.new w [.int .i64 c,.int .i64 t,.bool m,.slice ba N bc,.slice ka K kc] 53 w.heap.size rfl;have bel:=bal w (.cells #[.int .i64 c,.int .i64 t,.bool m,.slice ba N bc,.slice ka K kc] 53);go_enter Tryz.func106,Tryz.ntmps106;go_upto_region 1 with fail;generalize w.alloc (.cells #[.int .i64 c,.int .i64 t,.bool m,.slice ba N bc,.slice ka K kc] 53)=W at *;have e0:=B0.cell 0 _ rfl;have e1:=B0.cell 1 _ rfl;have e2:=B0.cell 2 _ rfl;have e3:=B0.cell 3 _ rfl;have e4:=B0.cell 4 _ rfl;have lt0:=B0.lt
 by_cases c1:c=0
 rotate_left
 ·have H:Hid (Zcx tg (.mk c t m b ks)=false):=decide_eq_false (fun h=>c1 h.1)
  have d1:(c == 0)=false:=by rw[beq_eq_false_iff_ne];exact c1
  clear c1;go_wp2_with fail;go_ret;exact ⟨by rw[H.out];rfl,bel⟩
 subst c1
 by_cases c2:t=tg
 rotate_left
 ·have H:Hid (Zcx tg (.mk 0 t m b ks)=false):=decide_eq_false (fun h=>c2 h.2.1)
  have d2:(t == tg)=false:=by rw[beq_eq_false_iff_ne];exact c2
  clear c2;go_wp2_with fail;go_ret;exact ⟨by rw[H.out];rfl,bel⟩
 subst c2;have d2:(t == t)=true:=beq_self_eq_true _
 by_cases c3:m=true
 rotate_left
 ·have H:Hid (Zcx t (.mk 0 t m b ks)=false):=decide_eq_false (fun h=>c3 h.2.2.1)
  obtain rfl:m=!true:=by cases m<;>simp_all
  clear c3;go_wp2_with fail;go_ret;exact ⟨by rw[H.out];rfl,bel⟩
 subst c3
 by_cases c4:N=0
 ·have H:Hid (Zcx t (.mk 0 t true b ks)=true):=decide_eq_true ⟨rfl,rfl,rfl,by rw[HN.out,c4]⟩
  have d4:((N:Int) == 0)=true:=by rw[c4];rfl
  clear c4;go_wp2_with fail;go_ret;exact ⟨by rw[H.out];rfl,bel⟩
 ·have H:Hid (Zcx t (.mk 0 t true b ks)=false):=decide_eq_false (fun h=>c4 (by rw[← HN.out];exact h.2.2.2))
  have d4:((N:Int) == 0)=false:=by rw[beq_eq_false_iff_ne];omega
  clear c4;go_wp2_with fail;go_ret;exact ⟨by rw[H.out];rfl,bel⟩
theorem Zfy {c t tg:Int} {m:Bool} {b:List Int} {ks:List Tl} {cs:List Value} {w:World} (h:Zav w (.mk c t m b ks) cs) :
  Calls Tryz.prog 135 #[.agg cs.toArray,.int .i64 tg] w fun e w'=>e=.returned (.bool (Zb4 tg (.mk c t m b ks)))∧Below w.heap.size w w':=by
 rw[Zav] at h;obtain ⟨bv,ka,kc,rfl,hbv,-,-,-⟩:=h;obtain ⟨ba,bc,rfl,-,-,-⟩:=hbv;obtain ⟨N,hN⟩:∃ N,b.length=N:=⟨_,rfl⟩;obtain ⟨K,hK⟩:∃ K,ks.length=K:=⟨_,rfl⟩;have HN:Hid (b.length=N):=hN;have HK:Hid (ks.length=K):=hK;rw[hN,hK];clear hN hK;have B0:=Blk.new w [.int .i64 c,.int .i64 t,.bool m,.slice ba N bc,.slice ka K kc] 53 w.heap.size rfl;have bel:=bal w (.cells #[.int .i64 c,.int .i64 t,.bool m,.slice ba N bc,.slice ka K kc] 53);go_enter Tryz.func135,Tryz.ntmps135;go_upto_region 1 with fail;generalize w.alloc (.cells #[.int .i64 c,.int .i64 t,.bool m,.slice ba N bc,.slice ka K kc] 53)=W at *;have e0:=B0.cell 0 _ rfl;have e1:=B0.cell 1 _ rfl;have e2:=B0.cell 2 _ rfl;have e3:=B0.cell 3 _ rfl;have e4:=B0.cell 4 _ rfl;have lt0:=B0.lt
 by_cases c1:c=0
 rotate_left
 ·have H:Hid (Zb4 tg (.mk c t m b ks)=false):=decide_eq_false (fun h=>c1 h.1)
  have d1:(c == 0)=false:=by rw[beq_eq_false_iff_ne];exact c1
  clear c1;go_wp2_with fail;go_ret;exact ⟨by rw[H.out];rfl,bel⟩
 subst c1
 by_cases c2:t=tg
 rotate_left
 ·have H:Hid (Zb4 tg (.mk 0 t m b ks)=false):=decide_eq_false (fun h=>c2 h.2.1)
  have d2:(t == tg)=false:=by rw[beq_eq_false_iff_ne];exact c2
  clear c2;go_wp2_with fail;go_ret;exact ⟨by rw[H.out];rfl,bel⟩
 subst c2;have d2:(t == t)=true:=beq_self_eq_true _
 by_cases c3:m=false
 rotate_left
 ·have H:Hid (Zb4 t (.mk 0 t m b ks)=false):=decide_eq_false (fun h=>c3 h.2.2.1)
  obtain rfl:m=!false:=by cases m<;>simp_all
  clear c3;go_wp2_with fail;go_ret;exact ⟨by rw[H.out];rfl,bel⟩
 subst c3
 by_cases c4:K=0
 ·have H:Hid (Zb4 t (.mk 0 t false b ks)=true):=decide_eq_true ⟨rfl,rfl,rfl,by rw[HK.out,c4]⟩
  have d4:((K:Int) == 0)=true:=by rw[c4];rfl
  clear c4;go_wp2_with fail;go_ret;exact ⟨by rw[H.out];rfl,bel⟩
 ·have H:Hid (Zb4 t (.mk 0 t false b ks)=false):=decide_eq_false (fun h=>c4 (by rw[← HK.out];exact h.2.2.2))
  have d4:((K:Int) == 0)=false:=by rw[beq_eq_false_iff_ne];omega
  clear c4;go_wp2_with fail;go_ret;exact ⟨by rw[H.out];rfl,bel⟩
def Zeu (B:List Int):Bool:=match ZbJ B with|.ok _=>true|.error _=>false
def ZnZ (w:World) (p:Pn) (e:Ending) (w':World):Prop:=Below w.heap.size w w'∧(Zbn p=false→e=.returned (.tuple #[.agg #[.int .i64 0,.int .i64 0,.bool false,.slice none 0 0,.slice none 0 0],.iface 46 (.int .i64 1)]))∧(Zbn p=true→∃ cs:List Value,e=.returned (.tuple #[.agg cs.toArray,.nilIface])∧Dep (fun b=>w.heap.size≤b) w' (ZbX p) cs)
theorem ZnZ.bad {w w':World} {p:Pn} (h:Zbn p=false) (hb:Below w.heap.size w w'):ZnZ w p (.returned (.tuple #[.agg #[.int .i64 0,.int .i64 0,.bool false,.slice none 0 0,.slice none 0 0],.iface 46 (.int .i64 1)])) w':=⟨hb,fun _=>rfl,fun k=>(by rw[h] at k;cases k)⟩
theorem ZnZ.ok {w w':World} {p:Pn} {cs:List Value} (h:Zbn p=true) (hd:Dep (fun b=>w.heap.size≤b) w' (ZbX p) cs) (hb:Below w.heap.size w w'):ZnZ w p (.returned (.tuple #[.agg cs.toArray,.nilIface])) w':=⟨hb,fun k=>(by rw[h] at k;cases k),fun _=>⟨cs,rfl,hd⟩⟩
theorem ZdG {k:Int} (h:ZbT k=true):k=3∨k=6∨k=10∨k=11:=by
 unfold ZbT at h;simp only[Bool.or_eq_true,decide_eq_true_eq] at h;omega
theorem ZfK {k:Int} (h:ZbT k=true):IntKind.u64.wrap k=k:=by
 have:=ZdG h;rw[IntKind.wrap_u64];omega
theorem Zjq {k:Int} (h:ZbT k=true):Za6 [2,5,4,k]=.ok [85,4,k]:=by
 have n4:∀ {x:Int},x<100→¬ ∃ j,j < [2,5,4,x].length∧4294967295 < [2,5,4,x].getD j 0:=by
  rintro x hx ⟨j,h1,h2⟩
  match j,h1,h2 with
  | 0,_,h2=>exact absurd (show (4294967295:Int)<2 from h2) (by decide)
  | 1,_,h2=>exact absurd (show (4294967295:Int)<5 from h2) (by decide)
  | 2,_,h2=>exact absurd (show (4294967295:Int)<4 from h2) (by decide)
  | 3,_,h2 =>
   have h3:4294967295<x:=h2;omega
  | j+4,h1,_ =>
   have h3:j+4<4:=h1;omega
 have hk:=ZdG h;unfold Za6;rw[if_neg (by simp),if_neg (n4 (by omega))];rcases hk with rfl|rfl|rfl|rfl<;>rfl
theorem Zjr {k:Int}:wrd [2,5,4,IntKind.u64.wrap k]:=ZnM (by
 intro x hx;simp only[List.mem_cons,List.not_mem_nil,or_false] at hx;rcases hx with rfl|rfl|rfl|rfl
 ·decide
 ·decide
 ·decide
 ·rw[IntKind.wrap_u64];omega)
theorem Zh0 {k:Int} {s:List Int} (h:ZbT k=true):Zbn (k,s)=Zeu s:=by
 show (ZbT k && _)=_;rw[h];rfl
theorem Zgj {t:Int} {ka:Option Addr} {n kc:Nat} {w:World}:Calls Tryz.prog 126 #[.int .i64 t,.slice ka n kc] w fun e w'=>∃ cs:List Value,e=.returned (.agg cs.toArray)∧Hid (cs=[.int .i64 0,.int .i64 t,.bool false,.slice ka n kc,.slice none 0 0])∧Below w.heap.size w w':=ZlE.mono (fun _ _ ⟨h,hb⟩=>⟨_,h,rfl,hb⟩)
theorem ZlD {t:Int} {ka:Option Addr} {n kc:Nat} {w:World}:Calls Tryz.prog 92 #[.int .i64 t,.slice ka n kc] w fun e w'=>∃ cs:List Value,e=.returned (.agg cs.toArray)∧Hid (cs=[.int .i64 0,.int .i64 t,.bool true,.slice none 0 0,.slice ka n kc])∧Below w.heap.size w w':=ZgL.mono (fun _ _ ⟨h,hb⟩=>⟨_,h,rfl,hb⟩)
theorem ZlF {k:Int} {s:List Int} {w:World} (hk:-9223372036854775808≤k∧k<9223372036854775808) (hs:byt s) (hl:s.length≤maxLen) :
  Calls Tryz.prog 91 #[.agg #[.int .i64 k,.string (strOfNums s)]] w (ZnZ w (k,s)):=by
 have HKr:Hid (-9223372036854775808≤k∧k<9223372036854775808):=hk;have HY:Hid (byt s):=hs;have HLs:Hid (s.length≤maxLen):=hl;obtain ⟨s9,hs9⟩:∃ z,strOfNums s=z:=⟨_,rfl⟩;have HS9:Hid (strOfNums s=s9):=hs9;rw[hs9];clear hk hs hl hs9;have P0:=(Blk.new w [.int .i64 k,.string s9] 106 w.heap.size rfl).alloc (.cells #[.int .i64 0,.int .i64 0,.bool false,.slice none 0 0,.slice none 0 0] 53);have R0:=Blk.new (w.alloc (.cells #[.int .i64 k,.string s9] 106)) [.int .i64 0,.int .i64 0,.bool false,.slice none 0 0,.slice none 0 0] 53 (w.heap.size+1) (by simp);have bel:Below w.heap.size w ((w.alloc (.cells #[.int .i64 k,.string s9] 106)).alloc (.cells #[.int .i64 0,.int .i64 0,.bool false,.slice none 0 0,.slice none 0 0] 53)):=((Below.refl _ _).alloc (Nat.le_refl _) _).alloc (by simp) _;have hz:=Zaj.out;go_enter Tryz.func91,Tryz.ntmps91;go_upto_region 1 with fail;have lW:=bel.size;generalize (w.alloc (.cells #[.int .i64 k,.string s9] 106)).alloc (.cells #[.int .i64 0,.int .i64 0,.bool false,.slice none 0 0,.slice none 0 0] 53)=W at *;have lR:=R0.lt;obtain ⟨N0,hN0⟩:∃ n,n=W.heap.size:=⟨_,rfl⟩;rw[← hN0] at lR lW;clear hz;obtain ⟨jt,hjt,ht0,ht1,ht2⟩:=ZaO Zcb

 have e0:=P0.cell 0 _ rfl;have e1:=P0.cell 1 _ rfl;have l0:=P0.lt;go_wp2_with fail;refine Zgi.mono ?_;rintro e w1 ⟨g,rfl,hg,hu,hb⟩;have HU:Hid _:=hu;clear hu hg e0 e1 l0;replace P0:=P0.later hb;replace R0:=R0.later hb;have st:Below W.heap.size W w1:=hb;replace bel:=Zaa bel hb;clear hb;go_wp2_with fail;refine (ZlN HU.out Zjr).mono ?_;rintro e w2 ⟨hok,hbad⟩
 by_cases hkd:ZbT k=true
 rotate_left
 ·have H:Hid (Zbn (k,s)=false):=by show (ZbT k && _)=false;rw[Bool.not_eq_true] at hkd;rw[hkd];rfl
  have HKd:Hid (ZbT k=false):=by rw[Bool.not_eq_true] at hkd;exact hkd
  cases ho:Za6 [2,5,4,IntKind.u64.wrap k] with
  | ok n =>
   obtain⟨v1,rfl,-,-,hb⟩:=hok n ho;clear hok hbad hkd ho HU;replace P0:=P0.later hb;replace R0:=R0.later hb;replace bel:=Zaa bel hb;clear hb;have q:=ZaU;have e0:=P0.cell 0 _ rfl;have e1:=P0.cell 1 _ rfl;have l0:=P0.lt;go_wp2_with fail;refine ZeF.mono ?_;rintro e w3 ⟨rfl,hw3⟩;rw[hw3,HKd.out];clear hw3;have hz:=Zaj.out;obtain ⟨tR,hR⟩:=R0;have HR1:Hid _:=hR;clear hR;go_wp2_with (first|((with_reducible show wpList _ _ _ (⟨_,.store _ _ _,_,_,_,_⟩::_) _ _);refine wpList_store_row rfl 53 _ _ rfl (w.heap.size+1) #[.int .i64 0,.int .i64 0,.bool false,.slice none 0 0,.slice none 0 0] rfl rfl tR _ HR1.out (by rw[Zae];rfl) rfl (by simp[Value.oneCell']) ?_)|fail);refine bodyPost_ret (Zac rfl _ _ (w.heap.size+1) tR #[.int .i64 0,.int .i64 0,.bool false,.slice none 0 0,.slice none 0 0] (0,0) _ rfl (setRow_heap _ _ _ _ _ _ HR1.out) Tryz.underlying53 rfl (by rw[Zae];rfl)) rfl ?_;exact ZnZ.bad H.out (below_setRow bel (by omega) _)
  | error c =>
   obtain⟨va,vc,rfl,hb⟩:=hbad c ho;clear hok hbad hkd ho HU;replace P0:=P0.later hb;replace R0:=R0.later hb;replace bel:=Zaa bel hb;clear hb;have q:=Zbh (c:Int);have hz:=Zaj.out;obtain ⟨tR,hR⟩:=R0;have HR1:Hid _:=hR;clear hR;go_wp2_with (first|((with_reducible show wpList _ _ _ (⟨_,.store _ _ _,_,_,_,_⟩::_) _ _);refine wpList_store_row rfl 53 _ _ rfl (w.heap.size+1) #[.int .i64 0,.int .i64 0,.bool false,.slice none 0 0,.slice none 0 0] rfl rfl tR _ HR1.out (by rw[Zae];rfl) rfl (by simp[Value.oneCell']) ?_)|fail);refine bodyPost_ret (Zac rfl _ _ (w.heap.size+1) tR #[.int .i64 0,.int .i64 0,.bool false,.slice none 0 0,.slice none 0 0] (0,0) _ rfl (setRow_heap _ _ _ _ _ _ HR1.out) Tryz.underlying53 rfl (by rw[Zae];rfl)) rfl ?_;exact ZnZ.bad H.out (below_setRow bel (by omega) _)
 obtain⟨v1,rfl,hv1,hn1,hb⟩:=hok [85,4,k] (by rw[ZfK hkd];exact Zjq hkd);have HKd:Hid (ZbT k=true):=hkd;have HB1:Hid (Bs w2 v1 [85,4,k]):=hv1;have HN1:Hid (Zbg W v1):=fun a m c e h0=>Nat.le_trans st.size (hn1 a m c e h0);obtain ⟨va,vc,hv,-,-,-⟩:=id hv1;replace hv:v1=.slice va 3 vc:=hv;subst hv;clear hok hbad hkd HU hv1 hn1;replace P0:=P0.later hb;replace R0:=R0.later hb;replace st:=Zaa st hb;replace bel:=Zaa bel hb;clear hb;have q:=ZaU;have e0:=P0.cell 0 _ rfl;have e1:=P0.cell 1 _ rfl;have l0:=P0.lt;go_wp2_with fail;refine ZeF.mono ?_;rintro e w3 ⟨rfl,hw3⟩;rw[hw3,HKd.out];clear hw3;obtain ⟨cap3,w3,hcv,hbs,hb⟩:=Zef HY.out HLs.out w2;rw[HS9.out] at hcv;have HB3:Hid (Bs w3 (.slice (some ⟨w2.heap.size,0,none⟩) s.length cap3) s):=hbs;have HN3:Hid (Zbg W (.slice (some ⟨w2.heap.size,0,none⟩) s.length cap3)):=fun a m c e _=>by simp only[Value.slice.injEq,Option.some.injEq] at e;rw[← e.1];exact st.size
 replace HB1:=BsL HB1 hb;obtain ⟨L,hL⟩:∃ L,s.length=L:=⟨_,rfl⟩;rw[hL] at HB3 HN3 hcv;clear hL hbs;go_upto_region 5 with fail;replace P0:=P0.later hb;replace R0:=R0.later hb;replace st:=Zaa st hb;replace bel:=Zaa bel hb;clear hb hcv e0 e1 l0;obtain ⟨g3,hg3⟩:∃ g,g=w2.heap.size:=⟨_,rfl⟩;rw[← hg3] at HB3 HN3 ⊢;clear hg3;go_wp2_with fail;refine (Zje HB3.out HY.out).mono ?_;rintro e w4 ⟨hok,hbad⟩
 cases ht:ZbJ s with
 | error c =>
  have H:Hid (Zbn (k,s)=false):=by rw[Zh0 HKd.out];show Zeu s=false;unfold Zeu;rw[ht]
  obtain⟨rfl,hb⟩:=hbad c ht;clear hok hbad ht q;replace P0:=P0.later hb;replace R0:=R0.later hb;replace bel:=Zaa bel hb;clear hb;have q:=Zbh (c:Int);have hz:=Zaj.out;obtain ⟨tR,hR⟩:=R0;have HR1:Hid _:=hR;clear hR;go_wp2_with (first|((with_reducible show wpList _ _ _ (⟨_,.store _ _ _,_,_,_,_⟩::_) _ _);refine wpList_store_row rfl 53 _ _ rfl (w.heap.size+1) #[.int .i64 0,.int .i64 0,.bool false,.slice none 0 0,.slice none 0 0] rfl rfl tR _ HR1.out (by rw[Zae];rfl) rfl (by simp[Value.oneCell']) ?_)|fail);refine bodyPost_ret (Zac rfl _ _ (w.heap.size+1) tR #[.int .i64 0,.int .i64 0,.bool false,.slice none 0 0,.slice none 0 0] (0,0) _ rfl (setRow_heap _ _ _ _ _ _ HR1.out) Tryz.underlying53 rfl (by rw[Zae];rfl)) rfl ?_;exact ZnZ.bad H.out (below_setRow bel (by omega) _)
 | ok n =>
  have H:Hid (Zbn (k,s)=true):=by rw[Zh0 HKd.out];show Zeu s=true;unfold Zeu;rw[ht]
  obtain⟨rfl,hb⟩:=hok n ht;clear hok hbad ht;replace P0:=P0.later hb;replace R0:=R0.later hb;replace HB1:=BsL HB1 hb;replace HB3:=BsL HB3 hb;replace st:=Zaa st hb;replace bel:=Zaa bel hb;clear hb;go_wp2_with fail;refine Zgj.mono ?_;rintro e w5 ⟨cs,rfl,HC,hb⟩;replace P0:=P0.later hb;replace R0:=R0.later hb;replace HB1:=BsL HB1 hb;replace HB3:=BsL HB3 hb;replace st:=Zaa st hb;replace bel:=Zaa bel hb;clear hb;go_wp2_with fail;refine Zgj.mono ?_;rintro e w6 ⟨ds,rfl,HD,hb⟩;replace P0:=P0.later hb;replace R0:=R0.later hb;replace HB1:=BsL HB1 hb;replace HB3:=BsL HB3 hb;replace st:=Zaa st hb;replace bel:=Zaa bel hb;clear hb;have HLc:Hid (cs.length=5):=by rw[HC.out];rfl
  have HLd:Hid (ds.length=5):=by rw[HD.out];rfl
  have HE1:Hid (Dep (fun g=>N0≤g) w6 (.mk 0 6 false [85,4,k] []) cs):=by rw[HC.out,hN0];exact Zda HB1.out HN1.out 0 6 false
  have HE2:Hid (Dep (fun g=>N0≤g) w6 (.mk 0 12 false s []) ds):=by rw[HD.out,hN0];exact Zda HB3.out HN3.out 0 12 false
  have HT1:Hid (Dep (fun g=>N0≤g) (w6.alloc (.cells (cs++ds).toArray 53)) (.mk 0 16 true [] [.mk 0 6 false [85,4,k] [],.mk 0 12 false s []]) [.int .i64 0,.int .i64 16,.bool true,.slice none 0 0,.slice (some ⟨w6.heap.size,0,none⟩) 2 2]):=Zfi (ks:=[.mk 0 6 false [85,4,k] [],.mk 0 12 false s []]) (w:=w6) (N:=N0) (xs:=cs++ds) (by rw[List.length_append,HLc.out,HLd.out];rfl) (by rw[hN0];exact st.size) (show 2≤maxLen by decide) (ZpI (P:=Dep (fun g=>N0≤g) w6) HE1.out HE2.out HLc.out HLd.out) 0 16 true;have HF:Hid _:=ZqA HLc.out HLd.out;clear HB1 HB3 HN1 HN3 HE1 HE2 HC HD;replace R0:=R0.alloc (.cells (cs++ds).toArray 53);replace st:=Zah (o:=.cells (cs++ds).toArray 53) st;replace bel:=Zah (o:=.cells (cs++ds).toArray 53) bel;have hz:=Zaj.out;go_wp2_with (first|((with_reducible show wpList _ _ _ (⟨_,.buildSlice _ _ _,_,_,_,_⟩::_) _ _);refine Go.wpList_buildSlice rfl 51 53 2 _ rfl (cs++ds).toArray jt _ Tryz.underlying51 hjt ht0 (by rw[ht1];decide) (by rw[ht1];decide) (by rw[ht1];refine (congrArg _ (?_:_=[(0,Value.agg cs.toArray),(1,Value.agg ds.toArray)])).trans HF.out;kernel_rfl) ?_)|fail);clear hz HF;obtain ⟨g6,hg6⟩:∃ g,g=w6.heap.size:=⟨_,rfl⟩;rw[← hg6] at HT1 ⊢;generalize w6.alloc (.cells (cs++ds).toArray 53)=V6 at *;clear hg6;refine ZlD.mono ?_;rintro e w7 ⟨es,rfl,HE,hb⟩;have HLe:Hid (es.length=5):=by rw[HE.out];rfl
  have HE7:Hid (Dep (fun g=>N0≤g) w7 (.mk 0 16 true [] [.mk 0 6 false [85,4,k] [],.mk 0 12 false s []]) es):=by rw[HE.out];exact HT1.out.next (Agr.below hb) (fun _ h _=>h)
  replace R0:=R0.later hb;replace st:=Zaa st hb;replace bel:=Zaa bel hb;clear hb HT1 HE;have HT2:Hid (Dep (fun g=>N0≤g) (w7.alloc (.cells es.toArray 53)) (ZbX (k,s)) [.int .i64 0,.int .i64 17,.bool true,.slice none 0 0,.slice (some ⟨w7.heap.size,0,none⟩) 1 1]):=Zfi (ks:=[.mk 0 16 true [] [.mk 0 6 false [85,4,k] [],.mk 0 12 false s []]]) (w:=w7) (N:=N0) (xs:=es) HLe.out (by rw[hN0];exact st.size) (show 1≤maxLen by decide) (ZiB (P:=Dep (fun g=>N0≤g) w7) HE7.out HLe.out) 0 17 true;have HF:Hid _:=ZeX HLe.out;replace R0:=R0.alloc (.cells es.toArray 53);replace bel:=Zah (o:=.cells es.toArray 53) bel;have hz:=Zaj.out;go_wp2_with (first|((with_reducible show wpList _ _ _ (⟨_,.buildSlice _ _ _,_,_,_,_⟩::_) _ _);refine Go.wpList_buildSlice rfl 51 53 1 _ rfl es.toArray jt _ Tryz.underlying51 hjt ht0 (by rw[ht1];decide) (by rw[ht1];decide) (by rw[ht1];refine (congrArg _ (?_:_=[(0,Value.agg es.toArray)])).trans HF.out;kernel_rfl) ?_)|fail);clear hz HF;obtain ⟨g7,hg7⟩:∃ g,g=w7.heap.size:=⟨_,rfl⟩;rw[← hg7] at HT2 ⊢;generalize w7.alloc (.cells es.toArray 53)=V7 at *;clear hg7 st HE7;refine ZgL.mono ?_;rintro e w8 ⟨rfl,hb⟩;replace HT2:=dpl HT2 hb;replace R0:=R0.later hb;replace bel:=Zaa bel hb;clear hb;obtain ⟨tR,hR⟩:=R0;have HR1:Hid _:=hR;clear hR;go_wp2_with (first|((with_reducible show wpList _ _ _ (⟨_,.store _ _ _,_,_,_,_⟩::_) _ _);refine wpList_store_row rfl 53 _ _ rfl (w.heap.size+1) #[.int .i64 0,.int .i64 17,.bool true,.slice none 0 0,.slice (some ⟨g7,0,none⟩) 1 1] rfl rfl tR _ HR1.out (by rw[Zae];rfl) rfl (by simp[Value.oneCell']) ?_)|fail);refine bodyPost_ret (Zac rfl _ _ (w.heap.size+1) tR #[.int .i64 0,.int .i64 17,.bool true,.slice none 0 0,.slice (some ⟨g7,0,none⟩) 1 1] (0,0) _ rfl (setRow_heap _ _ _ _ _ _ HR1.out) Tryz.underlying53 rfl (by rw[Zae];rfl)) rfl ?_;exact ZnZ.ok (cs:=[.int .i64 0,.int .i64 17,.bool true,.slice none 0 0,.slice (some ⟨g7,0,none⟩) 1 1]) H.out (Zc7 HT2.out lR lW) (below_setRow bel (by omega) _)
end Go.Proofs.YtohcdbifhnfcbaaGreatDoor
