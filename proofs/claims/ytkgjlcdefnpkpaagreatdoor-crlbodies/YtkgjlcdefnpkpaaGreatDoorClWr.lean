/- Names that are handed in: from the row's reading to the walk's words. Names and their elements. A text as bytes. Certificates and their elements, as functions. Bytes in a list; a slice that is owned. Elements of several, and what der.Write answers, shortly. -/
import Derived.Test.YtkgjlcdefnpkpaaGreatDoorCtRG
import Derived.Test.YtkgjlcdefnpkpaaGreatDoorDrTG
import Derived.Test.YtkgjlcdefnpkpaaGreatDoorDrDG
import Derived.Test.YtkgjlcdefnpkpaaGreatDoorPmNG
import Derived.Test.YtkgjlcdefnpkpaaGreatDoorPmTof
import Derived.Test.YtkgjlcdefnpkpaaGreatDoorEdG
import Derived.Test.YtkgjlcdefnpkpaaGreatDoorDcG2
import Derived.ChangeArms
import Derived.ChangeOld
import Derived.Test.YtkgjlcdefnpkpaaGreatDoorRows
import Derived.Deep.WholeRow
import Derived.Deep.RegionHeld3
import Derived.Deep.DeepCutAuto
import Derived.Deep.DeepFit
import Derived.Lib.ConvBytes
import Derived.Laws.AppendOwn
import Derived.Deep.OwnRows
import Derived.Deep.AppendLies
import Derived.Great.BuildSlice
import Derived.Laws.Rows
import Derived.BigQuiet
namespace Go.Proofs.YtkgjlcdefnpkpaaGreatDoor
open Go.ChangeShapes Go.WideShapes Go.ChangeAt Go.RowKit
open Go.RowKit
theorem cells_part:Tryz.prog.cellsOf 99=2:=by kernel_rfl
theorem cells_intN:Tryz.prog.cellsOf 3=1:=by kernel_rfl
theorem cells_strN:Tryz.prog.cellsOf 9=1:=by kernel_rfl
theorem wf_intN {n:Int}:(Lit.int .i64 n).wf=true↔-9223372036854775808≤n∧n < 9223372036854775808:=by
 have h1:IntKind.i64.min=-9223372036854775808:=rfl
 have h2:IntKind.i64.max=9223372036854775807:=rfl
 simp [Lit.wf,h1,h2]
 omega
theorem cells_two {w:World} {a:Addr} {cs:List Value} (h:w.cells? 0 a 2=some cs):cs.length=2∧∀ j v,cs[j]?=some v→w.cell? (a.add j)=some v:=by
 unfold World.cells? at h
 rw [if_pos (Nat.zero_le _)] at h
 have e:List.range 2=[0,1]:=rfl
 rw [e] at h
 simp only [List.mapM_cons,List.mapM_nil,Option.bind_eq_bind,Option.pure_def,Option.bind_eq_some_iff,Option.some.injEq] at h
 obtain ⟨v0,h0,t0,⟨v1,h1,t1,rfl,rfl⟩,rfl⟩:=h
 refine ⟨rfl,fun j v hj=>?_⟩
 match j,hj with
 | 0,hj=>rw [h0];simpa using hj
 | 1,hj=>rw [h1];simpa using hj
theorem add_noneN (b o j:Nat):(⟨b,o,none⟩:Addr).add j=⟨b,o + j,none⟩:=by unfold Addr.add;split<;>simp_all
theorem str_nums (s:ByteArray):strOfNums (s.data.toList.map fun b=>(b.toNat:Int))=s:=by
 have e:∀ l:List UInt8,l.map ((fun n:Int=>UInt8.ofNat n.toNat) ∘ fun b:UInt8=>((b.toNat:Nat):Int))=l:=fun l=>by
  induction l with
  | nil=>rfl
  | cons a l ih=>rw [List.map_cons,ih];simp
 apply ByteArray.ext
 simp [strOfNums,e]
theorem nums_byt (l:List UInt8):byt (l.map fun b=>(b.toNat:Int)):=fun j=>by
 by_cases h:j < l.length
 ·have hl:=l[j].toNat_lt
  rw [List.getD_eq_getElem?_getD,List.getElem?_map,List.getElem?_eq_getElem h]
  simp only [Option.map_some,Option.getD_some]
  omega
 ·rw [List.getD_eq_getElem?_getD,List.getElem?_eq_none (by simpa using h)]
  decide
set_option maxRecDepth 10000 in
theorem open_part {H:Type} {enc:TypeId × Value→H} {w:World} {fuel:Nat} {cs:List Value} {x:DataW H × List MemPlace} (h:DataW.trod enc Tryz.prog w 0 (fun _=>true) true fuel 99 cs=some x):∃ p:Pn,cs=[.int .i64 p.1,.string (strOfNums p.2)]∧(-9223372036854775808≤p.1∧p.1 < 9223372036854775808)∧byt p.2∧p.2.length≤maxLen:=by
 obtain ⟨xs,n,rfl,_,hl,hlen,hf⟩:=DataW.trod_struct Tryz.underlying99 h
 rw [cells_part] at hl
 match cs,hl with
 | [a,b],_ =>
 have some2:∀ i,i < 2→∃ y,xs[i]?=some y:=fun i hi=>⟨_,List.getElem?_eq_getElem (by rw [hlen];exact hi)⟩
 obtain ⟨y0,s0⟩:=some2 0 (by decide)
 obtain ⟨y1,s1⟩:=some2 1 (by decide)
 have f0:DataW.trod enc Tryz.prog w 0 (fun _=>true) true n 3 (([a,b].drop 0).take (Tryz.prog.cellsOf 3))=some y0:=(hf 0 _ rfl).trans s0
 rw [cells_intN] at f0
 replace f0:DataW.trod enc Tryz.prog w 0 (fun _=>true) true n 3 [a]=some y0:=f0
 have f1:DataW.trod enc Tryz.prog w 0 (fun _=>true) true n 9 (([a,b].drop 1).take (Tryz.prog.cellsOf 9))=some y1:=(hf 1 _ rfl).trans s1
 rw [cells_strN] at f1
 replace f1:DataW.trod enc Tryz.prog w 0 (fun _=>true) true n 9 [b]=some y1:=f1
 obtain ⟨n0,e0,_,w0⟩:=DataW.trod_int Tryz.underlying3 f0
 obtain ⟨s,e1,_,hsz⟩:=DataW.trod_string Tryz.underlying9 f1
 simp only [List.cons.injEq,and_true] at e0 e1
 subst e0 e1
 exact ⟨(n0,s.data.toList.map fun b=>(b.toNat:Int)),by rw [str_nums],wf_intN.1 w0,nums_byt _,by rw [List.length_map];exact hsz⟩
theorem parts_open {w:World} {x:Addr}:∀ (n:Nat),(∀ i,i < n→∃ p:Pn,(w.cell? (x.add (i * 2))=some (.int .i64 p.1)∧w.cell? (x.add (i * 2 + 1))=some (.string (strOfNums p.2)))∧(-9223372036854775808≤p.1∧p.1 < 9223372036854775808)∧byt p.2∧p.2.length≤maxLen)→∃ ps:List Pn,ps.length=n∧WfN ps∧∀ i p,ps[i]?=some p→w.cell? (x.add (i * 2))=some (.int .i64 p.1)∧w.cell? (x.add (i * 2 + 1))=some (.string (strOfNums p.2))
 | 0,_=>⟨[],rfl,fun i p h=>by simp at h,fun i k h=>by simp at h⟩
 | n + 1,h=>by
  obtain ⟨ps,h1,h2,h3⟩:=parts_open n (fun i hi=>h i (by omega))
  obtain ⟨p,c1,c2,c3⟩:=h n (by omega)
  have key:∀ i q,(ps++[p])[i]?=some q→(ps[i]?=some q)∨(i=n∧q=p):=fun i q hq=>by
   by_cases hi:i < ps.length
   ·rw [List.getElem?_append_left hi] at hq
    exact .inl hq
   ·have hl:=(List.getElem?_eq_some_iff.1 hq).1
    rw [List.length_append] at hl
    have ei:i=n:=by simp at hl;omega
    subst ei
    rw [List.getElem?_append_right (by omega),h1,Nat.sub_self] at hq
    simp at hq
    exact .inr ⟨rfl,hq.symm⟩
  refine ⟨ps++[p],by rw [List.length_append,h1];rfl,fun i q hq=>?_,fun i q hq=>?_⟩
  ·rcases key i q hq with h|⟨rfl,rfl⟩
   ·exact h2 i q h
   ·exact ⟨c2,c3⟩
  ·rcases key i q hq with h|⟨rfl,rfl⟩
   ·exact h3 i q h
   ·exact c1
/-- what reads as a name is one -/
theorem open_nameL {H:Type} {enc:TypeId × Value→H} {w:World} {fuel:Nat} {v:Value} {x:DataW H × List MemPlace} (h:DataW.trod enc Tryz.prog w 0 (fun _=>true) true fuel 23 [v]=some x):∃ n,NmAt w v n∧WfN n∧((x.1=.nil∧n.length=0)∨∃ e r,x.1=.slice e r∧n.length=e.length):=by
 rcases DataW.trod_slice Tryz.underlying23 h with ⟨e4,ex⟩|⟨ad,len,cap,elems,rest,n',hn',e4,ex,_,hlc,hcm,hel,hea,_,_⟩
 ·simp only [List.cons.injEq,and_true] at e4
  subst e4
  exact ⟨[],NmAt.nil0 w,fun i p h=>(by simp at h),.inl ⟨by rw [ex],rfl⟩⟩
 ·simp only [List.cons.injEq,and_true] at e4
  subst e4
  have each:∀ i,i < len→∃ p:Pn,(w.cell? (ad.add (i * 2))=some (.int .i64 p.1)∧w.cell? (ad.add (i * 2 + 1))=some (.string (strOfNums p.2)))∧(-9223372036854775808≤p.1∧p.1 < 9223372036854775808)∧byt p.2∧p.2.length≤maxLen:=fun i hi=>by
   have hi2:=hea i hi
   rw [cells_part,List.getElem?_eq_getElem (by omega)] at hi2
   obtain ⟨cs,hc1,hc2⟩:=Option.bind_eq_some_iff.1 hi2
   obtain ⟨p,rfl,t1,t2⟩:=open_part hc2
   have k:=(cells_two hc1).2
   have k0:=k 0 _ rfl
   have k1:=k 1 _ rfl
   rw [Addr.add_add] at k0 k1
   exact ⟨p,⟨k0,k1⟩,t1,t2⟩
  obtain ⟨ps,k1,k2,k3⟩:=parts_open len each
  refine ⟨ps,⟨some ad,cap,by rw [k1],by omega,hcm,fun h0=>?_⟩,k2,.inr ⟨elems.map (·.1),rest.map (·.1),by rw [ex],by rw [k1,List.length_map,hel]⟩⟩
  obtain ⟨g,o,spot⟩:=ad
  obtain ⟨k,hk⟩:∃ k,ps[0]?=some k:=⟨_,List.getElem?_eq_getElem h0⟩
  have c0:=(k3 0 k hk).1
  have hs:spot=none:=by simpa [Addr.add] using World.cell?_spot c0
  subst hs
  have hb:=World.block_lt_of_cell? w _ c0
  refine ⟨g,o,rfl,by simpa [Addr.add] using hb,fun i p hp=>?_⟩
  have:=k3 i p hp
  rw [add_noneN,add_noneN] at this
  exact this
theorem open_name {H:Type} {enc:TypeId × Value→H} {w:World} {fuel:Nat} {v:Value} {x:DataW H × List MemPlace} (h:DataW.trod enc Tryz.prog w 0 (fun _=>true) true fuel 23 [v]=some x):∃ n,NmAt w v n∧WfN n:=by
 obtain ⟨n,h1,h2,_⟩:=open_nameL h
 exact ⟨n,h1,h2⟩
/-- kinds of parts -/
def kindN (k:Int):Bool:=decide (k=3) || decide (k=6) || decide (k=10) || decide (k=11)
/-- may it be a part? -/
def partN (p:Pn):Bool:=kindN p.1 && (match textP p.2 with|.ok _=>true|.error _=>false)
/-- is it a name? -/
def mayN (n:List Pn):Bool:=decide (n.length≤8) && n.all partN
/-- a part's element, a name's -/
def setN (p:Pn):Tl:=.mk 0 17 true [] [.mk 0 16 true [] [.mk 0 6 false [85,4,p.1] [],.mk 0 12 false p.2 []]]
def elemN (n:List Pn):Tl:=.mk 0 16 true [] (n.map setN)
/-- what Element tells: the kids lie in a row of its own, which may be written -/
def ElemR (w:World) (n:List Pn) (e:Ending) (w':World):Prop :=
 (mayN n=false→e=.returned (.tuple #[.agg #[.int .i64 0,.int .i64 0,.bool false,.slice none 0 0,.slice none 0 0],.iface 56 (.int .i64 1)])∧Below w.heap.size w w') ∧
 (mayN n=true→∃ (kv:Value) (xs:List Value),e=.returned (.tuple #[.agg #[.int .i64 0,.int .i64 16,.bool true,.slice none 0 0,kv],.nilIface])∧w'.ownsRow w.heap.size 60 5 kv n.length xs∧(∀ (i:Nat) (t:Tl),(n.map setN)[i]?=some t→Dep (fun b=>w.heap.size≤b∧kv.ownBlock≠some b) w' t ((xs.drop (5 * i)).take 5))∧Below w.heap.size w w')
/-- Element's answer as an element, from this world on -/
theorem ElemR.tl {w w':World} {n:List Pn} {kv:Value} {xs:List Value} (h:w'.ownsRow w.heap.size 60 5 kv n.length xs) (hk:∀ (i:Nat) (t:Tl),(n.map setN)[i]?=some t→Dep (fun b=>w.heap.size≤b∧kv.ownBlock≠some b) w' t ((xs.drop (5 * i)).take 5)):Dep (fun b=>w.heap.size≤b) w' (elemN n) [.int .i64 0,.int .i64 16,.bool true,.slice none 0 0,kv] :=
 kids_own (ks:=n.map setN) (by rw [List.length_map];exact h) hk 0 16 true (fun _ h=>h.1) (fun g hg=>(own_geK h hg).1)
theorem str_sizeN (A:List Int):(strOfNums A).size=A.length:=by simp [strOfNums,ByteArray.size]
theorem str_getN {A:List Int} (h:byt A) {j:Nat} (hj:j < A.length):(((strOfNums A).data.toList.getD j 0).toNat:Int)=A.getD j 0:=by
 have h0:=h j
 have e:(strOfNums A).data.toList=A.map fun n=>UInt8.ofNat n.toNat:=by simp [strOfNums]
 rw [e,List.getD_eq_getElem?_getD,List.getElem?_map,List.getElem?_eq_getElem hj]
 rw [List.getD_eq_getElem?_getD,List.getElem?_eq_getElem hj] at h0 ⊢
 simp only [Option.map_some,Option.getD_some] at h0 ⊢
 rw [UInt8.toNat_ofNat_of_lt' (by have:UInt8.size=256:=rfl;omega)]
 omega
/-- a text's bytes, in a row of their own -/
theorem conv_text {bs:List Int} (b:byt bs) (hl:bs.length≤maxLen) (w:World):∃ cap w',(convert 9 25 (.string (strOfNums bs))).run Tryz.prog w=.ok (.slice (some ⟨w.heap.size,0,none⟩) bs.length cap) w'∧Bs w' (.slice (some ⟨w.heap.size,0,none⟩) bs.length cap) bs∧Below w.heap.size w w':=by
 have hc:=Lib.run_convert_string_bytes (P:=Tryz.prog) w 9 25 5 (strOfNums bs) Tryz.underlying9 Tryz.underlying25 Tryz.underlying5
 rw [str_sizeN] at hc
 refine ⟨_,_,hc,⟨_,_,rfl,grownCap_le_maxLen _ _ _ _ hl,grownCap_ge _ _ _ _,fun _=>⟨w.heap.size,0,rfl,by rw [Lib.bytesWorld_size];omega,fun j hj=>?_⟩⟩,?_⟩
 ·rw [Nat.zero_add,Lib.bytesWorld_cell _ _ _ _ (by rw [str_sizeN];exact hj),str_getN b hj]
 ·exact ⟨rfl,rfl,rfl,by rw [Lib.bytesWorld_size];omega,fun j hj=>Lib.bytesWorld_at_old _ _ _ j hj⟩
/-- a list, an element of class 2, a truth that is true -/
def listT (ks:List Tl):Tl:=.mk 0 16 true [] ks
/-- what is answered, or no bytes -/
def orNil:Except Nat (List Int)→List Int
 | .ok b=>b
 | .error _=>[]
/-- an identifier's element -/
def oidT (l:List Int):Tl:=.mk 0 6 false (orNil (oidOf l)) []
def algT:Tl:=listT [oidT [1,2,840,10045,4,3,3]]
/-- the bytes of an element, or none -/
noncomputable def wrB (T:Tl):List Int:=if wrN T=0 then bytesT T else []
/-- a serial number's element, a time's; or none -/
def serT (n:List Int):Option Tl:=if n.length < 1∨20 < n.length∨n.getD 0 0=0 then none else some (.mk 0 2 false (orNil (numOf n)) [])
def timT (v:Int):Option Tl:=match timeOf v with|.ok (a,b)=>some (.mk 0 a false b [])|.error _=>none
noncomputable def orT:Option Tl→Tl
 | some T=>T
 | none=>.mk 0 0 false [] []
theorem own_slE {w:World} {base size:Nat} {e:TypeId} {v:Value} {n:Nat} {xs:List Value} (h:w.ownsRow base e size v n xs):∃ ao cap,v=.slice ao n cap:=by
 rcases h.2 with ⟨h1,h2⟩|⟨g,cap,cur,h1,_⟩
 ·exact ⟨none,0,by rw [h1,h2]⟩
 ·exact ⟨_,cap,h1⟩
theorem byt_in {L:List Int} (h:∀ x∈L,0≤x∧x < 256):byt L:=fun j=>by
 by_cases hj:j < L.length
 ·rw [List.getD_eq_getElem?_getD,List.getElem?_eq_getElem hj]
  exact h _ (List.getElem_mem hj)
 ·rw [List.getD_eq_getElem?_getD,List.getElem?_eq_none (by omega)]
  decide
theorem kc_n {P:Tl→List Value→Prop}:∀ (i:Nat) (k:Tl),([]:List Tl)[i]?=some k→P k ((([]:List Value).drop (5 * i)).take 5):=fun i k h=>by simp at h
theorem kc_c {P:Tl→List Value→Prop} {T:Tl} {cs xs:List Value} {Ts:List Tl} (h:P T cs) (l:cs.length=5) (hr:∀ (i:Nat) (k:Tl),Ts[i]?=some k→P k ((xs.drop (5 * i)).take 5)):∀ (i:Nat) (k:Tl),(T :: Ts)[i]?=some k→P k (((cs++xs).drop (5 * i)).take 5):=fun i k hk=>by
 match i,hk with
 | 0,hk =>
  simp only [List.getElem?_cons_zero,Option.some.injEq] at hk
  subst hk
  rw [Nat.mul_zero,List.drop_zero,List.take_append_of_le_length (by omega),List.take_of_length_le (by omega)]
  exact h
 | i + 1,hk =>
  rw [List.getElem?_cons_succ] at hk
  have:=hr i k hk
  rw [show 5 * (i + 1)=cs.length + 5 * i by omega,← List.drop_drop,List.drop_left]
  exact this
theorem fill_15 {c0 c1 c2:List Value} (h0:c0.length=5) (h1:c1.length=5) (h2:c2.length=5):Instr.fill (fun i=>some (i * 5,5)) ((Array.range (3 * 5)).map ((Value.agg #[.int .i64 0,.int .i64 0,.bool false,.slice none 0 0,.slice none 0 0]).cells[· % (Value.agg #[.int .i64 0,.int .i64 0,.bool false,.slice none 0 0,.slice none 0 0]).cells.size]!)) [(0,.agg c0.toArray),(1,.agg c1.toArray),(2,.agg c2.toArray)]=some (c0++(c1++(c2++[]))).toArray:=by
 obtain ⟨_,_,_,_,_,rfl⟩:=five h0
 obtain ⟨_,_,_,_,_,rfl⟩:=five h1
 obtain ⟨_,_,_,_,_,rfl⟩:=five h2
 kernel_rfl
/-- an error of this number, or none -/
def erN (n:Nat):Value:=if n=0 then .nilIface else .iface 56 (.int .i64 (n:Int))
theorem erN_0:erN 0=.nilIface:=rfl
theorem erN_s {n:Nat} (h:¬ n=0):erN n=.iface 56 (.int .i64 (n:Int)):=if_neg h
/-- what der.Write answers, shortly -/
theorem c17_Write {T:Tl} {cs:List Value} {w:World} (h:TlAt w T cs) (hl:(bytesT T).length≤1099511627776) :
  Calls Tryz.prog 21 #[.agg cs.toArray] w fun e w'=>∃ v':Value,e=.returned (.tuple #[v',erN (wrN T)])∧Bs w' v' (wrB T)∧NewV w v'∧Below w.heap.size w w':=by
 refine (c12_Write (smT_of_len hl) h).mono ?_
 rintro e w' ⟨v,er,rfl,hw,hb⟩
 by_cases k:wrN T=0
 ·obtain ⟨hf,rfl⟩:=hw.1 k
  refine ⟨v,by rw [k,erN_0],?_,?_,hb⟩
  ·unfold wrB
   rw [if_pos k]
   exact hf.bs
  ·obtain ⟨g,o,cap,cur,rfl,-,-,h3,-,-⟩:=hf
   exact fun a m c e h0=>by simp only [Value.slice.injEq,Option.some.injEq] at e;rw [← e.1];exact h3
 ·obtain ⟨hf,rfl⟩:=hw.2 k
  refine ⟨v,by rw [erN_s k],?_,?_,hb⟩
  ·unfold wrB
   rw [if_neg k]
   exact hf
  ·obtain ⟨ao,cap,rfl,-,-,-⟩:=hf
   exact fun a m c e h0=>by simp only [Value.slice.injEq] at e;simp at e;omega
end Go.Proofs.YtkgjlcdefnpkpaaGreatDoor
