/- What the program's Parse, Write and Size answer. Signatures held against each other, and put together. What ecdsa.Decode answers. -/
import Derived.Test.YtnkipgbnnhahbaaGreatDoorDcOut
import Derived.Test.YtnkipgbnnhahbaaGreatDoorDcElem
import Derived.Test.YtnkipgbnnhahbaaGreatDoorEcTlv
import Derived.Test.YtnkipgbnnhahbaaGreatDoorEdFact
import Derived.Test.YtnkipgbnnhahbaaGreatDoorEcRange
import Derived.Test.YtnkipgbnnhahbaaGreatDoorDrDep
import Derived.Test.YtnkipgbnnhahbaaGreatDoorRows
import Derived.Deep.OwnRows
import Derived.Deep.AppendLies
import Derived.Great.BuildSlice
import Derived.Deep.WholeRow
import Derived.Deep.RegionHeld3
import Derived.Deep.DeepCutAuto
import Derived.Deep.DeepFit
import Derived.Laws.Rows
import Derived.Laws.StructEq
namespace Go.Proofs.YtnkipgbnnhahbaaGreatDoor
open Go.RowKit
theorem erAt_bad {w w':World} {c p:Nat} {er:Value} (h:BadR w w' (c:Int) (p:Int) er) (hc:¬ c=2):ErAt w' c p er∧ErFresh w.heap.size er:=by
 obtain ⟨g,h1,h2,h3,_⟩:=h
 refine ⟨.inr ⟨hc,g,h1,h3⟩,fun g2 e=>?_⟩
 rw [h1] at e
 simp only [Value.iface.injEq,Value.pointer.injEq,Option.some.injEq,Addr.mk.injEq] at e
 omega
set_option linter.unusedSimpArgs false in
set_option maxRecDepth 100000 in
set_option maxHeartbeats 2000000 in
theorem con_Parse {v:Value} {B:List Int} {w:World} (hv:Bs w v B) (b:byt B) :
  Calls Tryz.prog 14 #[v] w fun e w'=>(∀ T,parseP B=.ok T→∃ cs,e=.returned (.tuple #[.agg cs.toArray,.nilIface])∧Dep (fun b=>w.heap.size≤b) w' T cs∧Below w.heap.size w w')∧(∀ c p,parseP B=.error (c,p)→∃ (cs:List Value) (er:Value),e=.returned (.tuple #[.agg cs.toArray,er])∧TlAt w' (.mk 0 0 false [] []) cs∧ErAt w' c p er∧ErFresh w.heap.size er∧Below w.heap.size w w'):=by
 have HB:Hid (byt B):=b
 have HV:Hid (Bs w v B):=hv
 have hz:=zero_tlv.out
 obtain ⟨ao,cap,rfl,h1,h2,h3⟩:=hv
 clear h3 b
 unfold maxLen at h1
 have R0:=Blk.new w [.int .i64 0,.int .i64 0,.bool false,.slice none 0 0,.slice none 0 0] 41 w.heap.size rfl
 have bel:Below w.heap.size w (w.alloc (.cells #[.int .i64 0,.int .i64 0,.bool false,.slice none 0 0,.slice none 0 0] 41)):=(Below.refl _ _).alloc (Nat.le_refl _) _
 go_enter Tryz.func14,Tryz.ntmps14
 go_upto_region 1 with fail
 generalize w.alloc (.cells #[.int .i64 0,.int .i64 0,.bool false,.slice none 0 0,.slice none 0 0] 41)=W at *
 clear hz
 by_cases c1:1048576 < B.length
 ·have H:Hid (parseP B=.error (2,0)):=by show _=_;unfold parseP;rw [if_pos c1]
  have g1:(1048576:Int) < ((B.length:Nat):Int):=by omega
  obtain ⟨tR,hR⟩:=R0
  have HR1:Hid _:=hR
  clear hR
  go_wp2_with (first|(refine wpList_store_row rfl 41 _ _ rfl w.heap.size #[.int .i64 0,.int .i64 0,.bool false,.slice none 0 0,.slice none 0 0] rfl rfl tR _ HR1.out (by rw [size_tlv];rfl) rfl (by simp [Value.oneCell']) ?_)|fail)
  exact bodyPost_ret (results_row_tmp rfl _ _ w.heap.size tR #[.int .i64 0,.int .i64 0,.bool false,.slice none 0 0,.slice none 0 0] (0,0) _ rfl (setRow_heap _ _ _ _ _ _ HR1.out) Tryz.underlying41 rfl (by rw [size_tlv];rfl)) rfl ⟨fun T h=>(by rw [H.out] at h;cases h),fun c p h=>(by rw [H.out] at h;cases h;exact ⟨[.int .i64 0,.int .i64 0,.bool false,.slice none 0 0,.slice none 0 0],_,rfl,nilT_at _,.inl ⟨rfl,rfl⟩,fun g h=>by simp at h,below_setRow bel (Nat.le_refl _) _⟩)⟩
 have g1:¬ (1048576:Int) < ((B.length:Nat):Int):=by omega
 have HP:Hid (parseP B=match elemP B 16 0 B.length with|.error e=>.error e|.ok (t,z)=>if z < B.length then .error (8,z) else .ok t):=by
  show _=_
  unfold parseP
  rw [if_neg c1]
  rfl
 have lW:=R0.lt
 have hcall:=c12_elem HB.out (by omega) 16 0 B.length (.slice ao B.length cap) W (by omega) (by omega) (by omega) (Cut.of (HV.out.later bel) HB.out)
 rw [show 16 - ((16:Nat):Int)=0 from rfl] at hcall
 go_wp2_with fail
 refine hcall.mono ?_
 rintro e w1 ⟨hok,hbad⟩
 clear hcall
 have hz:=zero_tlv.out
 cases hep:elemP B 16 0 B.length with
 | error q =>
  obtain ⟨c,p⟩:=q
  obtain ⟨er,rfl,hr⟩:=hbad c p hep
  clear hok hbad
  have hcb:=elemP_bad hep
  have H:Hid (parseP B=.error (c,p)):=by show _=_;rw [HP.out,hep]
  clear hep HP
  have R1:=(R0.later hr.below).alloc (.cells #[.int .i64 0,.int .i64 0,.bool false,.slice none 0 0,.slice none 0 0] 41)
  have HBad:Hid (BadR w ((w1.alloc (.cells #[.int .i64 0,.int .i64 0,.bool false,.slice none 0 0,.slice none 0 0] 41)).setRow w.heap.size #[.int .i64 0,.int .i64 0,.bool false,.slice none 0 0,.slice none 0 0]) (c:Int) (p:Int) er):=BadR.row bel (Nat.le_refl _) lW (BadR.more hr _)
  obtain ⟨g9,rfl⟩:=hr.form
  clear hr
  go_upto_region 4 with (first|(refine wpList_store_row rfl 41 _ _ rfl w1.heap.size #[.int .i64 0,.int .i64 0,.bool false,.slice none 0 0,.slice none 0 0] rfl rfl 41 _ (heap_alloc_last _ _) (by rw [size_tlv];rfl) rfl (by simp [Value.oneCell']) ?_;rw [World.setRow_alloc_new])|fail)
  clear hz
  generalize w1.alloc (.cells #[.int .i64 0,.int .i64 0,.bool false,.slice none 0 0,.slice none 0 0] 41)=w2 at *
  obtain ⟨tR,hR⟩:=R1
  have HR1:Hid _:=hR
  clear hR
  go_wp2_with (first|(refine wpList_store_row rfl 41 _ _ rfl w.heap.size #[.int .i64 0,.int .i64 0,.bool false,.slice none 0 0,.slice none 0 0] rfl rfl tR _ HR1.out (by rw [size_tlv];rfl) rfl (by simp [Value.oneCell']) ?_)|fail)
  exact bodyPost_ret (results_row_tmp rfl _ _ w.heap.size tR #[.int .i64 0,.int .i64 0,.bool false,.slice none 0 0,.slice none 0 0] (0,0) _ rfl (setRow_heap _ _ _ _ _ _ HR1.out) Tryz.underlying41 rfl (by rw [size_tlv];rfl)) rfl ⟨fun T h=>(by rw [H.out] at h;cases h),fun c p h=>(by rw [H.out] at h;cases h;have he:=erAt_bad HBad.out (by omega);exact ⟨[.int .i64 0,.int .i64 0,.bool false,.slice none 0 0,.slice none 0 0],_,rfl,nilT_at _,he.1,he.2,HBad.out.below⟩)⟩
 | ok q =>
  obtain ⟨T,z⟩:=q
  obtain ⟨cs,rfl,hdep,hb⟩:=hok T z hep
  clear hok hbad
  have heo:=elem_ok HB.out 16 0 B.length T z (Nat.le_refl _) hep
  have hz2:z≤B.length:=heo.2
  replace HP:Hid (parseP B=if z < B.length then .error (8,z) else .ok T):=by show _=_;rw [HP.out,hep]
  clear hep heo
  have HO5:Hid (OneC cs):=hdep.now.ones
  have l5:=hdep.now.five
  have HL5:Hid (cs.length=5):=l5
  have HS5:Hid (cs.toArray.size=5):=by show _=_;rw [List.size_toArray];exact l5
  have HDp:Hid (Dep (fun b=>W.heap.size≤b) w1 T cs):=hdep
  have KB:=Blk.new w1 cs 41 w1.heap.size rfl
  have R1:=(R0.later hb).alloc (.cells cs.toArray 41)
  have bel1:=below_alloc (o:=.cells cs.toArray 41) (below_stepD bel hb)
  have HAg:Hid (Agr (fun b=>W.heap.size≤b) w1 (w1.alloc (.cells cs.toArray 41))):=Agr.below ((Below.refl _ _).alloc (Nat.le_refl _) _)
  clear hb hdep l5 R0 bel
  go_upto_region 4 with (first|(refine wpList_store_row rfl 41 _ _ rfl w1.heap.size cs.toArray rfl rfl 41 _ (heap_alloc_last _ _) (by rw [size_tlv,HS5.out]) (by rw [HS5.out];rfl) HO5.out ?_;rw [World.setRow_alloc_new])|fail)
  clear hz
  obtain ⟨g1,hg1⟩:∃ g1,g1=w1.heap.size:=⟨_,rfl⟩
  rw [← hg1] at KB
  generalize w1.alloc (.cells cs.toArray 41)=w2 at *
  rw [← hg1]
  clear hg1
  by_cases c2:z < B.length
  ·have H:Hid (parseP B=.error (8,z)):=by show _=_;rw [HP.out,if_pos c2]
   have g2:(z:Int) < ((B.length:Nat):Int):=by omega
   have lw2:=R1.lt
   go_wp2_with fail
   refine (c12_spot (p:=(z:Int)) (c:=8)).mono ?_
   rintro e w3 ⟨er,rfl,hr⟩
   replace R1:=R1.later hr.below
   have HBad:Hid (BadR w (w3.setRow w.heap.size #[.int .i64 0,.int .i64 0,.bool false,.slice none 0 0,.slice none 0 0]) ((8:Nat):Int) (z:Int) er):=BadR.row bel1 (Nat.le_refl _) lw2 hr
   clear hr
   obtain ⟨tR,hR⟩:=R1
   have HR1:Hid _:=hR
   clear hR
   go_wp2_with (first|(refine wpList_store_row rfl 41 _ _ rfl w.heap.size #[.int .i64 0,.int .i64 0,.bool false,.slice none 0 0,.slice none 0 0] rfl rfl tR _ HR1.out (by rw [size_tlv];rfl) rfl (by simp [Value.oneCell']) ?_)|fail)
   exact bodyPost_ret (results_row_tmp rfl _ _ w.heap.size tR #[.int .i64 0,.int .i64 0,.bool false,.slice none 0 0,.slice none 0 0] (0,0) _ rfl (setRow_heap _ _ _ _ _ _ HR1.out) Tryz.underlying41 rfl (by rw [size_tlv];rfl)) rfl ⟨fun T h=>(by rw [H.out] at h;cases h),fun c p h=>(by rw [H.out] at h;cases h;have he:=erAt_bad HBad.out (by decide);exact ⟨[.int .i64 0,.int .i64 0,.bool false,.slice none 0 0,.slice none 0 0],er,rfl,nilT_at _,he.1,he.2,HBad.out.below⟩)⟩
  ·have H:Hid (parseP B=.ok T):=by show _=_;rw [HP.out,if_neg c2]
   have g2:¬ (z:Int) < ((B.length:Nat):Int):=by omega
   have HD2:Hid (Dep (fun b=>w.heap.size≤b) (w2.setRow w.heap.size cs.toArray) T cs):=Dep.next HDp.out (Agr.row HAg.out (by show ¬ W.heap.size≤w.heap.size;omega)) (fun b hb _=>by show w.heap.size≤b;omega)
   obtain ⟨tR,hR⟩:=R1
   have HR1:Hid _:=hR
   clear hR
   go_wp2_with (first|(refine wpList_load_run (by rfl) (by rfl) (by rfl) (KB.load Tryz.underlying41 rfl size_tlv HL5.out) ?_)|(refine wpList_store_row rfl 41 _ _ rfl w.heap.size cs.toArray rfl rfl tR _ HR1.out (by rw [size_tlv,HS5.out]) (by rw [HS5.out];rfl) HO5.out ?_)|fail)
   exact bodyPost_ret (results_row_tmp rfl _ _ w.heap.size tR cs.toArray (0,0) _ rfl (setRow_heap _ _ _ _ _ _ HR1.out) Tryz.underlying41 rfl (by rw [size_tlv,HS5.out])) rfl ⟨fun T h=>(by rw [H.out] at h;cases h;exact ⟨cs,rfl,HD2.out,below_setRow bel1 (Nat.le_refl _) _⟩),fun c p h=>(by rw [H.out] at h;cases h)⟩
theorem sg_fields : (Tryz.prog.fieldsOf 27).toList.map (fun f => (f.name == "_", f.type, f.offset)) = [(false, 25, 0), (false, 25, 6)] := by kernel_rfl
theorem eqF_cons {P : Program} {w : World} {d : Nat} {xs ys : Array Value} {f : Field} {fs : List Field} {a b : Value} {r : Bool} (hn : (f.name == "_") = false) (ha : ∀ w, (part f.type xs f.offset).run P w = .ok a w) (hb : ∀ w, (part f.type ys f.offset).run P w = .ok b w) (hr : ∀ w, (Op.equalIn d f.type a b).run P w = .ok r w) :
  (Op.eqFields d xs ys (f :: fs)).run P w=if r then (Op.eqFields d xs ys fs).run P w else .ok false w:=by
 have : f.name ≠ "_" := by simpa using hn
 rw [Op.eqFields,if_pos this]
 simp only [Sem.run_bind,ha,hb,hr,Result.andThen_ok]
 cases r<;>simp
theorem part_r {ps qs:List Value} {a b:Int} (ha:U6 ps a) (hb:U6 qs b):∀ w:World,(part 25 (ps++qs).toArray 0).run Tryz.prog w=.ok (.agg ps.toArray) w:=fun w=>by
 obtain ⟨z0,z1,z2,z3,z4,z5,rfl,_⟩:=ha
 obtain ⟨y0,y1,y2,y3,y4,y5,rfl,_⟩:=hb
 kernel_rfl
theorem part_s {ps qs:List Value} {a b:Int} (ha:U6 ps a) (hb:U6 qs b):∀ w:World,(part 25 (ps++qs).toArray 6).run Tryz.prog w=.ok (.agg qs.toArray) w:=fun w=>by
 obtain ⟨z0,z1,z2,z3,z4,z5,rfl,_⟩:=ha
 obtain ⟨y0,y1,y2,y3,y4,y5,rfl,_⟩:=hb
 kernel_rfl
theorem eqU9 {cs ds:List Value} {x y:Int} (h:U6 cs x) (k:U6 ds y):∀ w:World,(Op.equalIn 9999 25 (.agg cs.toArray) (.agg ds.toArray)).run Tryz.prog w=.ok (decide (x=y)) w:=fun w=>by
 obtain ⟨z0,z1,z2,z3,z4,z5,rfl,hf,rfl⟩:=h
 obtain ⟨y0,y1,y2,y3,y4,y5,rfl,kf,rfl⟩:=k
 rw [eql_six9]
 congr 1
 by_cases e:[z0,z1,z2,z3,z4,z5]=[y0,y1,y2,y3,y4,y5]
 ·rw [decide_eq_true e,decide_eq_true (by rw [e])]
 ·rw [decide_eq_false e,decide_eq_false (fun h=>e (v64_inj [z0,z1,z2,z3,z4,z5] [y0,y1,y2,y3,y4,y5] rfl hf kf h))]
theorem eqS {ps qs cs ds:List Value} {a b c d:Int} (ha:U6 ps a) (hb:U6 qs b) (hc:U6 cs c) (hd:U6 ds d):∀ w:World,(Op.equalIn 10000 27 (.agg (ps++qs).toArray) (.agg (cs++ds).toArray)).run Tryz.prog w=.ok (decide (a=c∧b=d)) w:=fun w=>by
 rw [run_equalIn_struct w 9999 27 _ _ (by kernel_rfl) (by kernel_rfl)]
 have hf:=sg_fields
 generalize (Tryz.prog.fieldsOf 27).toList=fs at *
 have hl:fs.length=2:=by simpa using congrArg List.length hf
 match fs,hl,hf with
 | [f0,f1],_,hf =>
  simp only [List.map_cons,List.map_nil,List.cons.injEq,and_true,Prod.mk.injEq] at hf
  obtain ⟨⟨n0,t0,o0⟩,⟨n1,t1,o1⟩⟩:=hf
  rw [eqF_cons n0 (by rw [t0,o0];exact part_r ha hb) (by rw [t0,o0];exact part_r hc hd) (by rw [t0];exact eqU9 ha hc)]
  rw [eqF_cons n1 (by rw [t1,o1];exact part_s ha hb) (by rw [t1,o1];exact part_s hc hd) (by rw [t1];exact eqU9 hb hd)]
  simp only [Op.eqFields,Sem.run_pure]
  by_cases h1:a=c<;>by_cases h2:b=d<;>simp [h1,h2]
theorem wpList_build_run {P:Program} {ops:Array Oper} {rest:List Oper} {o:Oper} {a:Act} {w:World} {Q:Exit→Act→World→Prop} {ty:TypeId} {fs:Array (Nat × Operand)} {ps:List (Nat × Value)} {v:Value} (hw:Region.wanted o (yielded ops a.tmps)=true) (ho:o.op=.build ty fs) (hx:fs.toList.map (fun p=>(p.1,a.eval p.2))=ps) (h:(Instr.build ty ps.toArray).run P w=.ok v w)
  (k:wpList P ops Q rest (a.put o.dst v) w):wpList P ops Q (o :: rest) a w:=by
 refine wpList_step fun K hK=>?_
 simp only [hw,if_true]
 have e:(fs.map fun (p:Nat × Operand)=>(p.1,a.eval p.2))=ps.toArray:=by rw [← hx];exact Array.ext' (by rw [Array.toList_map])
 unfold Oper.wp execOp
 simp only [ho,e,Sem.run_bind,Sem.run_pure,Result.andThen_ok,h]
 exact hK _ _ k
theorem build_sig {ps qs:List Value} {a b:Int} (ha:U6 ps a) (hb:U6 qs b):∀ w:World,(Instr.build 27 #[(0,.agg ps.toArray),(1,.agg qs.toArray)]).run Tryz.prog w=.ok (.agg (ps++qs).toArray) w:=fun w=>by
 obtain ⟨z0,z1,z2,z3,z4,z5,rfl,_⟩:=ha
 obtain ⟨y0,y1,y2,y3,y4,y5,rfl,_⟩:=hb
 kernel_rfl
/-- what Decode tells -/
def DecR (w:World) (B:List Int) (e:Ending) (w':World):Prop:=(∀ c p,parseP B=.error (c,p)→∃ er:Value,e=.returned (.tuple #[.agg #[.int .u64 0,.int .u64 0,.int .u64 0,.int .u64 0,.int .u64 0,.int .u64 0,.int .u64 0,.int .u64 0,.int .u64 0,.int .u64 0,.int .u64 0,.int .u64 0],er])∧ErAt w' c p er∧Below w.heap.size w w')∧(∀ T,parseP B=.ok T→(sigP T=none→e=.returned (.tuple #[.agg #[.int .u64 0,.int .u64 0,.int .u64 0,.int .u64 0,.int .u64 0,.int .u64 0,.int .u64 0,.int .u64 0,.int .u64 0,.int .u64 0,.int .u64 0,.int .u64 0],codeV 7])∧Below w.heap.size w w')∧(∀ x y,sigP T=some (x,y)→(¬ (isSc (beN x)∧isSc (beN y))→e=.returned (.tuple #[.agg #[.int .u64 0,.int .u64 0,.int .u64 0,.int .u64 0,.int .u64 0,.int .u64 0,.int .u64 0,.int .u64 0,.int .u64 0,.int .u64 0,.int .u64 0,.int .u64 0],codeV 3])∧Below w.heap.size w w')∧(isSc (beN x)→isSc (beN y)→∃ rs ss,e=.returned (.tuple #[.agg (rs++ss).toArray,.nilIface])∧U6 rs (beN x)∧U6 ss (beN y)∧Below w.heap.size w w')))
theorem DecR.bad {w w':World} {B:List Int} {c p:Nat} {er:Value} (h:parseP B=.error (c,p)) (k:ErAt w' c p er) (bel:Below w.heap.size w w'):DecR w B (.returned (.tuple #[.agg #[.int .u64 0,.int .u64 0,.int .u64 0,.int .u64 0,.int .u64 0,.int .u64 0,.int .u64 0,.int .u64 0,.int .u64 0,.int .u64 0,.int .u64 0,.int .u64 0],er])) w' :=
 ⟨fun c2 p2 h2=>(by rw [h] at h2;cases h2;exact ⟨er,rfl,k,bel⟩),fun T h2=>(by rw [h] at h2;cases h2)⟩
theorem DecR.form {w w':World} {B:List Int} {T:Tl} (h:parseP B=.ok T) (k:sigP T=none) (bel:Below w.heap.size w w'):DecR w B (.returned (.tuple #[.agg #[.int .u64 0,.int .u64 0,.int .u64 0,.int .u64 0,.int .u64 0,.int .u64 0,.int .u64 0,.int .u64 0,.int .u64 0,.int .u64 0,.int .u64 0,.int .u64 0],.iface 46 (.int .i64 7)])) w' :=
 ⟨fun c2 p2 h2=>(by rw [h] at h2;cases h2),fun T2 h2=>(by rw [h] at h2;cases h2;exact ⟨fun _=>⟨rfl,bel⟩,fun x y h3=>(by rw [k] at h3;cases h3)⟩)⟩
theorem DecR.range {w w':World} {B:List Int} {T:Tl} {x y:List Int} (h:parseP B=.ok T) (k:sigP T=some (x,y)) (hn:¬ (isSc (beN x)∧isSc (beN y))) (bel:Below w.heap.size w w'):DecR w B (.returned (.tuple #[.agg #[.int .u64 0,.int .u64 0,.int .u64 0,.int .u64 0,.int .u64 0,.int .u64 0,.int .u64 0,.int .u64 0,.int .u64 0,.int .u64 0,.int .u64 0,.int .u64 0],.iface 46 (.int .i64 3)])) w' :=
 ⟨fun c2 p2 h2=>(by rw [h] at h2;cases h2),fun T2 h2=>(by rw [h] at h2;cases h2;exact ⟨fun h3=>(by rw [k] at h3;cases h3),fun x2 y2 h3=>(by rw [k] at h3;cases h3;exact ⟨fun _=>⟨rfl,bel⟩,fun a b=>absurd ⟨a,b⟩ hn⟩)⟩)⟩
theorem DecR.ok {w w':World} {B:List Int} {T:Tl} {x y:List Int} {rs ss us:List Value} (h:parseP B=.ok T) (k:sigP T=some (x,y)) (hr:U6 rs (beN x)) (hs:U6 ss (beN y)) (h1:isSc (beN x)) (h2:isSc (beN y)) (hu:rs++ss=us) (bel:Below w.heap.size w w'):DecR w B (.returned (.tuple #[.agg us.toArray,.nilIface])) w' :=
 ⟨fun c2 p2 h2=>(by rw [h] at h2;cases h2),fun T2 h3=>(by rw [h] at h3;cases h3;exact ⟨fun h4=>(by rw [k] at h4;cases h4),fun x2 y2 h4=>(by rw [k] at h4;cases h4;exact ⟨fun hn=>absurd ⟨h1,h2⟩ hn,fun _ _=>⟨rs,ss,by rw [hu],hr,hs,bel⟩⟩)⟩)⟩
theorem ErAt.ne {w:World} {c p:Nat} {er:Value} (h:ErAt w c p er):∀ w:World,(binOp .neq 30 er .nilIface).run Tryz.prog w=.ok (.bool true) w:=fun w=>by
 rcases h with ⟨_,rfl⟩|⟨_,g,rfl,_⟩
 ·kernel_rfl
 ·kernel_rfl
/-- what was read of the kids so far -/
def RdTo (w:World) (gt:Nat) (ks:List Tl) (i:Nat) (X:List Value):Prop:=(∀ j,j < 2→∃ a n c,X[j]?=some (.slice a n c))∧∀ j,j < i→∃ k n v,ks[j]?=some k∧partP k=some n∧X[j]?=some v∧Bs w v n∧(∀ a m c,v=.slice (some a) m c→0 < m→a.block≠gt)∧byt n∧n.length≤64∧(48 < n.length→QQ≤beN n)
theorem RdTo.later {w w':World} {gt i:Nat} {ks:List Tl} {X:List Value} (h:RdTo w gt ks i X) (hb:Below w.heap.size w w'):RdTo w' gt ks i X :=
 ⟨h.1,fun j hj=>by obtain ⟨k,n,v,h1,h2,h3,h4,h5⟩:=h.2 j hj;exact ⟨k,n,v,h1,h2,h3,h4.later hb,h5⟩⟩
theorem bs_cellC {w:World} {v u:Value} {n:List Int} {g k:Nat} (h:Bs w v n) (hg:∀ a m c,v=.slice (some a) m c→0 < m→a.block≠g):Bs (w.setCell ⟨g,k,none⟩ u) v n:=by
 obtain ⟨ao,cp,e,h1,h2,h3⟩:=h
 refine ⟨ao,cp,e,h1,h2,fun h0=>?_⟩
 obtain ⟨b,o,e2,hb,hc⟩:=h3 h0
 have hne:b≠g:=hg ⟨b,o,none⟩ _ _ (by rw [e,e2]) h0
 refine ⟨b,o,e2,by simpa using hb,fun j hj=>?_⟩
 rw [World.cell?_setCell_far _ _ _ _ (by exact fun h=>hne h.symm)]
 exact hc j hj
theorem RdTo.next {w:World} {gt i:Nat} {ks:List Tl} {X:List Value} {k:Tl} {n:List Int} {a:Option Addr} {m c:Nat} (h:RdTo w gt ks i X) (hX:X.length=2) (hi:i < 2) (hk:ks[i]?=some k) (hp:partP k=some n) (hv:Bs w (.slice a m c) n) (hg:∀ b m' c',Value.slice a m c=.slice (some b) m' c'→0 < m'→b.block≠gt) (hb:byt n) (hl:n.length≤64) (hq:48 < n.length→QQ≤beN n):RdTo (w.setCell ⟨gt,i,none⟩ (.slice a m c)) gt ks (i + 1) (X.set i (.slice a m c)):=by
 refine ⟨fun j hj=>?_,fun j hj=>?_⟩
 ·by_cases e:j=i
  ·subst e
   exact ⟨_,_,_,List.getElem?_set_self (by omega)⟩
  ·rw [List.getElem?_set_ne (fun h=>e h.symm)]
   exact h.1 j hj
 ·by_cases e:j=i
  ·subst e
   exact ⟨k,n,_,hk,hp,List.getElem?_set_self (by omega),bs_cellC hv hg,hg,hb,hl,hq⟩
  ·rw [List.getElem?_set_ne (fun h=>e h.symm)]
   obtain ⟨k',n',v,h1,h2,h3,h4,h5,h6⟩:=h.2 j (by omega)
   exact ⟨k',n',v,h1,h2,h3,bs_cellC h4 h5,h5,h6⟩
theorem two_kidsC {ks:List Tl} {a b:Tl} (h:ks.length=2) (ha:ks[0]?=some a) (hb:ks[1]?=some b):ks=[a,b]:=by
 match ks,h,ha,hb with
 | [x,y],_,ha,hb =>
  simp at ha hb
  rw [ha,hb]
theorem two_cells {X:List Value} {a b:Value} (h:X.length=2) (ha:X[0]?=some a) (hb:X[1]?=some b):X=[a,b]:=by
 match X,h,ha,hb with
 | [x,y],_,ha,hb =>
  simp at ha hb
  rw [ha,hb]
theorem zero_told:Hid (∀ w:World,(zeroValue 169).run Tryz.prog w=.ok (.agg #[.slice none 0 0,.slice none 0 0]) w):=fun w=>by kernel_rfl
theorem er_row {w:World} {c p g:Nat} {er:Value} {cs:Array Value} (h:ErAt w c p er) (hg:∀ k,er=.iface 98 (.pointer (some ⟨k,0,none⟩))→k≠g):ErAt (w.setRow g cs) c p er:=by
 rcases h with h|⟨h,k,rfl,B⟩
 ·exact .inl h
 ·exact .inr ⟨h,k,rfl,B.row (hg k rfl)⟩
set_option linter.unusedSimpArgs false in
set_option maxRecDepth 100000 in
set_option maxHeartbeats 4000000 in
theorem c14_Decode {v:Value} {B:List Int} {w:World} (G:GlsO w) (hv:Bs w v B) (b:byt B) :
  Calls Tryz.prog 83 #[v] w (DecR w B):=by
 have HG:Hid (GlsO w):=G
 have HB:Hid (byt B):=b
 have HV:Hid (Bs w v B):=hv
 obtain ⟨ao,cap,rfl,h1,h2,h3⟩:=hv
 clear G b h1 h2 h3
 have R0:=Blk.new w [.int .u64 0,.int .u64 0,.int .u64 0,.int .u64 0,.int .u64 0,.int .u64 0,.int .u64 0,.int .u64 0,.int .u64 0,.int .u64 0,.int .u64 0,.int .u64 0] 27 w.heap.size rfl
 have bel:Below w.heap.size w (w.alloc (.cells #[.int .u64 0,.int .u64 0,.int .u64 0,.int .u64 0,.int .u64 0,.int .u64 0,.int .u64 0,.int .u64 0,.int .u64 0,.int .u64 0,.int .u64 0,.int .u64 0] 27)):=(Below.refl _ _).alloc (Nat.le_refl _) _
 have hz:=zero_s.out
 go_enter Tryz.func83,Tryz.ntmps83
 go_upto_region 1 with fail
 generalize w.alloc (.cells #[.int .u64 0,.int .u64 0,.int .u64 0,.int .u64 0,.int .u64 0,.int .u64 0,.int .u64 0,.int .u64 0,.int .u64 0,.int .u64 0,.int .u64 0,.int .u64 0] 27)=W at *
 clear hz
 go_wp2_with fail
 refine (con_Parse (HV.out.later bel) HB.out).mono ?_
 rintro e w1 ⟨hok,hbad⟩
 cases hp:parseP B with
 | error q =>
  obtain ⟨c,p⟩:=q
  have R0w:=R0
  obtain ⟨cs,er,rfl,htl,her,hfr,hb⟩:=hbad c p hp
  have HP:Hid (parseP B=.error (c,p)):=hp
  clear hok hbad hp
  have HS5:Hid (cs.toArray.size=5):=by show _=_;rw [List.size_toArray];exact htl.five
  have HO5:Hid (OneC cs):=htl.ones
  have HL5:Hid (cs.length=5):=htl.five
  replace R0:=(R0.later hb).alloc (.cells cs.toArray 41)
  replace bel:=below_alloc (o:=.cells cs.toArray 41) (below_step bel hb)
  have HEr:Hid (ErAt (w1.alloc (.cells cs.toArray 41)) c p er):=her.later ((Below.refl _ _).alloc (Nat.le_refl _) _)
  have q3:=her.ne
  have HEl:Hid (∀ g,er=.iface 98 (.pointer (some ⟨g,0,none⟩))→g≠w.heap.size):=fun g hg=>by have:=hfr g hg;have:=R0w.lt;omega
  clear her htl hb hfr R0w
  have hz:=zero_tlv.out
  go_upto_region 2 with (first|(refine wpList_store_row rfl 41 _ _ rfl w1.heap.size cs.toArray rfl rfl 41 _ (heap_alloc_last _ _) (by rw [size_tlv,HS5.out]) (by rw [HS5.out];rfl) HO5.out ?_;rw [World.setRow_alloc_new])|fail)
  clear hz
  generalize w1.alloc (.cells cs.toArray 41)=V1 at *
  have lR:=R0.lt
  obtain ⟨ty,pv,hev⟩:∃ ty pv,er=.iface ty pv:=by rcases HEr.out with ⟨_,h⟩|⟨_,g,h,_⟩;exact ⟨_,_,h⟩;exact ⟨_,_,h⟩
  subst hev
  have HEz:Hid (ErAt (V1.setRow w.heap.size #[.int .u64 0,.int .u64 0,.int .u64 0,.int .u64 0,.int .u64 0,.int .u64 0,.int .u64 0,.int .u64 0,.int .u64 0,.int .u64 0,.int .u64 0,.int .u64 0]) c p (.iface ty pv)):=er_row HEr.out HEl.out
  obtain ⟨tR,hR⟩:=R0
  have HR1:Hid _:=hR
  clear hR
  have hz:=zero_s.out
  go_wp2_with (first|(refine wpList_store_row rfl 27 _ _ rfl (w.heap.size) #[.int .u64 0,.int .u64 0,.int .u64 0,.int .u64 0,.int .u64 0,.int .u64 0,.int .u64 0,.int .u64 0,.int .u64 0,.int .u64 0,.int .u64 0,.int .u64 0] rfl rfl tR _ HR1.out (by rw [size_s];rfl) rfl (by simp [Value.oneCell']) ?_)|fail)
  refine bodyPost_ret (results_row_tmp rfl _ _ (w.heap.size) tR #[.int .u64 0,.int .u64 0,.int .u64 0,.int .u64 0,.int .u64 0,.int .u64 0,.int .u64 0,.int .u64 0,.int .u64 0,.int .u64 0,.int .u64 0,.int .u64 0] (0,0) _ rfl (setRow_heap _ _ _ _ _ _ HR1.out) Tryz.underlying27 rfl (by rw [size_s];rfl)) rfl ?_
  exact DecR.bad HP.out HEz.out (below_setRow bel (by omega) _)
 | ok T =>
 obtain ⟨cs,rfl,hdep,hb⟩:=hok T hp
 have R0w:=R0
 have HP:Hid (parseP B=.ok T):=hp
 have HPo:Hid _:=parse_ok HB.out hp
 clear hok hbad hp
 obtain ⟨c,t,m,bb,ks⟩:=T
 have htl:=hdep.now
 have HS5:Hid (cs.toArray.size=5):=by show _=_;rw [List.size_toArray];exact htl.five
 have HO5:Hid (OneC cs):=htl.ones
 have HL5:Hid (cs.length=5):=htl.five
 have HT1:Hid (TlAt w1 (.mk c t m bb ks) cs):=htl
 have hcs:=htl
 rw [TlAt] at hcs
 obtain ⟨bv,ka,kc,hcs,-,-,-,hkids⟩:=hcs
 have HKd:Hid (0 < ks.length→∃ g o,ka=some ⟨g,o,none⟩∧KidsAt w1 ks g o):=hkids
 have HC4:Hid (cs[4]?=some (.slice ka ks.length kc)):=by show _=_;rw [hcs];rfl
 replace R0:=(R0.later hb).alloc (.cells cs.toArray 41)
 replace bel:=below_alloc (o:=.cells cs.toArray 41) (below_step bel hb)
 have KB:=Blk.new w1 cs 41 w1.heap.size rfl
 have st:Below w1.heap.size w1 (w1.alloc (.cells cs.toArray 41)):=(Below.refl _ _).alloc (Nat.le_refl _) _
 have HRw:Hid (w.heap.size < w1.heap.size):=by show _ < _;have:=(R0w.later hb).lt;exact this
 clear hdep htl hcs hkids hb R0w
 have hz:=zero_tlv.out
 go_upto_region 2 with (first|(refine wpList_store_row rfl 41 _ _ rfl w1.heap.size cs.toArray rfl rfl 41 _ (heap_alloc_last _ _) (by rw [size_tlv,HS5.out]) (by rw [HS5.out];rfl) HO5.out ?_;rw [World.setRow_alloc_new])|fail)
 clear hz
 obtain ⟨gk,hgk⟩:∃ g,g=w1.heap.size:=⟨_,rfl⟩
 have HGk:Hid (gk=w1.heap.size):=hgk
 rw [← hgk] at KB
 generalize w1.alloc (.cells cs.toArray 41)=V1 at *
 rw [← hgk]
 clear hgk
 have q3:=ne_nilT
 have lk:=KB.lt
 go_wp2_with (first|(refine wpList_load_run (by rfl) (by rfl) (by rfl) (KB.load Tryz.underlying41 rfl size_tlv HL5.out) ?_)|fail)
 refine (c14_isA (HT1.out.later st)).mono ?_
 rintro e w2 ⟨rfl,hb⟩
 replace R0:=R0.later hb
 replace KB:=KB.later hb
 replace bel:=below_step bel hb
 replace st:=below_stepD st hb
 clear hb
 clear lk q3
 have lk:=KB.lt
 have e4:=KB.cell 4 _ HC4.out
 by_cases c1:c=0∧t=16∧m=true
 rotate_left
 ·have HN:Hid (sigP (.mk c t m bb ks)=none):=sigC_none (fun h=>c1 h.1)
  rw [decide_eq_false c1]
  clear c1
  obtain ⟨tR,hR⟩:=R0
  have HR1:Hid _:=hR
  clear hR
  have hz:=zero_s.out
  go_wp2_with (first|(refine wpList_store_row rfl 27 _ _ rfl (w.heap.size) #[.int .u64 0,.int .u64 0,.int .u64 0,.int .u64 0,.int .u64 0,.int .u64 0,.int .u64 0,.int .u64 0,.int .u64 0,.int .u64 0,.int .u64 0,.int .u64 0] rfl rfl tR _ HR1.out (by rw [size_s];rfl) rfl (by simp [Value.oneCell']) ?_)|fail)
  refine bodyPost_ret (results_row_tmp rfl _ _ (w.heap.size) tR #[.int .u64 0,.int .u64 0,.int .u64 0,.int .u64 0,.int .u64 0,.int .u64 0,.int .u64 0,.int .u64 0,.int .u64 0,.int .u64 0,.int .u64 0,.int .u64 0] (0,0) _ rfl (setRow_heap _ _ _ _ _ _ HR1.out) Tryz.underlying27 rfl (by rw [size_s];rfl)) rfl ?_
  exact DecR.form HP.out HN.out (below_setRow bel (by omega) _)
 rw [decide_eq_true c1]
 obtain ⟨rfl,rfl,rfl⟩:=c1
 by_cases c2:ks.length=2
 rotate_left
 ·have HN:Hid (sigP (.mk 0 16 true bb ks)=none):=sigC_none (fun h=>c2 h.2)
  have g1:((ks.length:Int) == 2)=false:=by rw [beq_eq_false_iff_ne];omega
  have g2:((ks.length:Int) != 2)=true:=by rw [bne,g1];rfl
  clear c2
  obtain ⟨tR,hR⟩:=R0
  have HR1:Hid _:=hR
  clear hR
  have hz:=zero_s.out
  go_wp2_with (first|(refine wpList_store_row rfl 27 _ _ rfl (w.heap.size) #[.int .u64 0,.int .u64 0,.int .u64 0,.int .u64 0,.int .u64 0,.int .u64 0,.int .u64 0,.int .u64 0,.int .u64 0,.int .u64 0,.int .u64 0,.int .u64 0] rfl rfl tR _ HR1.out (by rw [size_s];rfl) rfl (by simp [Value.oneCell']) ?_)|fail)
  refine bodyPost_ret (results_row_tmp rfl _ _ (w.heap.size) tR #[.int .u64 0,.int .u64 0,.int .u64 0,.int .u64 0,.int .u64 0,.int .u64 0,.int .u64 0,.int .u64 0,.int .u64 0,.int .u64 0,.int .u64 0,.int .u64 0] (0,0) _ rfl (setRow_heap _ _ _ _ _ _ HR1.out) Tryz.underlying27 rfl (by rw [size_s];rfl)) rfl ?_
  exact DecR.form HP.out HN.out (below_setRow bel (by omega) _)
 have HK2:Hid (ks.length=2):=c2
 clear c2
 obtain ⟨kn,hkn⟩:∃ kn,ks.length=kn:=⟨_,rfl⟩
 have HKn:Hid (kn=2):=by show _=_;rw [← hkn];exact HK2.out
 rw [hkn] at e4
 have g1:((kn:Int) == 2)=true:=by rw [HKn.out];rfl
 have g2:((kn:Int) != 2)=false:=by rw [bne,g1];rfl
 have HC4n:Hid (cs[4]?=some (.slice ka kn kc)):=by show _=_;rw [← hkn];exact HC4.out
 clear hkn HC4
 obtain ⟨gkk,gko,hka,hks⟩:=HKd.out (by rw [HK2.out];omega)
 subst hka
 have HKs:Hid (KidsAt w1 ks gkk gko):=hks
 clear hks
 have hz:=zero_told.out
 have HSt2:Hid (w1.heap.size≤w2.heap.size):=st.size
 go_upto_region 7 with fail
 clear hz g1 g2
 have Bt:=Blk.new w2 [.slice none 0 0,.slice none 0 0] 169 w2.heap.size rfl
 replace R0:=R0.alloc (.cells #[.slice none 0 0,.slice none 0 0] 169)
 replace KB:=KB.alloc (.cells #[.slice none 0 0,.slice none 0 0] 169)
 replace bel:=below_alloc (o:=.cells #[.slice none 0 0,.slice none 0 0] 169) bel
 replace st:=below_alloc (o:=.cells #[.slice none 0 0,.slice none 0 0] 169) st
 obtain ⟨gt,hgt⟩:∃ g,g=w2.heap.size:=⟨_,rfl⟩
 have hgt1:w1.heap.size≤gt:=by rw [hgt];exact HSt2.out
 rw [← hgt] at Bt
 clear e4 lk
 generalize w2.alloc (.cells #[.slice none 0 0,.slice none 0 0] 169)=V2 at *
 rw [← hgt]
 clear hgt HSt2
 have lk:=KB.lt
 have e4:=KB.cell 4 _ HC4n.out
 have hTold:RdTo V2 gt ks 0 [.slice none 0 0,.slice none 0 0]:=⟨fun j hj=>by match j,hj with|0,_=>exact ⟨_,_,_,rfl⟩|1,_=>exact ⟨_,_,_,rfl⟩|j + 2,hj=>omega,fun j hj=>absurd hj (by omega)⟩
 have HTo:Hid _:=hTold
 clear hTold
 go_wp2_with fail
 clear e4 lk
 go_loopw [34] (fun iv wx=>∃ (i:Nat) (X:List Value),i≤2∧iv=.int .i64 (i:Int)∧X.length=2∧Hid (RdTo wx gt ks i X)∧Blk wx gt X∧Blk wx w.heap.size [.int .u64 0,.int .u64 0,.int .u64 0,.int .u64 0,.int .u64 0,.int .u64 0,.int .u64 0,.int .u64 0,.int .u64 0,.int .u64 0,.int .u64 0,.int .u64 0]∧Below w.heap.size w wx∧Below w1.heap.size w1 wx) (fun iv _=>2 - (intOf iv).toNat)
 case atStart=>exact ⟨0,_,by omega,rfl,rfl,HTo,Bt,R0,bel,st⟩
 case round =>
  clear R0 KB Bt bel st HTo
  obtain ⟨i,X,hi,rfl,hX,HTo,Bt,R0,bel,st⟩:=hrel
  by_cases hil:i < 2
  ·have g1:(i:Int) < (kn:Int):=by rw [HKn.out];omega
   have g2:(0:Int)≤(i:Int):=by omega
   have g3:(i:Int) < 2:=by omega
   have gi:IntKind.i64.wrap ((i:Int) + 1)=(i:Int) + 1:=by rw [IntKind.wrap_i64];omega
   obtain ⟨k,hkk⟩:=get_kid (show i < ks.length by rw [HK2.out];exact hil)
   obtain ⟨cs5,hcs,hkt⟩:=HKs.out.get hkk
   replace hcs:=hcs.later st
   replace hkt:=hkt.later st
   have hld:=tlv_load hcs hkt.five
   have hld2:=hld
   rw [Nat.mul_comm 5 i] at hld2
   have hz:=zero_tlv.out
   have HS6:Hid (cs5.toArray.size=5):=by show _=_;rw [List.size_toArray];exact hkt.five
   have HO6:Hid (OneC cs5):=hkt.ones
   have HL6:Hid (cs5.length=5):=hkt.five
   have KB:=Blk.new wr cs5 41 wr.heap.size rfl
   replace R0:=R0.alloc (.cells cs5.toArray 41)
   replace Bt:=Bt.alloc (.cells cs5.toArray 41)
   replace bel:=below_alloc (o:=.cells cs5.toArray 41) bel
   replace st:=below_alloc (o:=.cells cs5.toArray 41) st
   replace HTo:Hid (RdTo (wr.alloc (.cells cs5.toArray 41)) gt ks i X):=HTo.out.later ((Below.refl _ _).alloc (Nat.le_refl _) _)
   replace hkt:=hkt.later ((Below.refl _ _).alloc (Nat.le_refl _) (.cells cs5.toArray 41))
   go_upto_region 10 with (first|(refine wpList_load_run (by rfl) (by rfl) (by rfl) hld ?_)|(refine wpList_load_run (by rfl) (by rfl) (by rfl) hld2 ?_)|(refine wpList_store_row rfl 41 _ _ rfl wr.heap.size cs5.toArray rfl rfl 41 _ (heap_alloc_last _ _) (by rw [size_tlv,HS6.out]) (by rw [HS6.out];rfl) HO6.out ?_;rw [World.setRow_alloc_new])|fail)
   clear hz hld hld2 hcs
   obtain ⟨g9,hg9⟩:∃ g9,g9=wr.heap.size:=⟨_,rfl⟩
   rw [← hg9] at KB
   generalize wr.alloc (.cells cs5.toArray 41)=V5 at *
   rw [← hg9]
   clear hg9
   have lk:=KB.lt
   have HKK:Hid (ks[i]?=some k):=hkk
   clear hkk
   obtain ⟨kc0,kt0,km0,kb0,kl0⟩:=k
   obtain ⟨hB0,hL0⟩:=kidC_small HPo.out.2.2.2.1 (by rw [HPo.out.1];exact HPo.out.2.2.2.2) HK2.out HKK.out
   go_wp2_with (first|(refine wpList_load_run (by rfl) (by rfl) (by rfl) (KB.load Tryz.underlying41 rfl size_tlv HL6.out) ?_)|fail)
   refine (c14_numberOf hkt hB0 hL0).mono ?_
   rintro e w6 hN
   clear hkt hB0 hL0 lk
   rcases hN with ⟨nn,v1,hpn,rfl,hbn,hnw,hyn,hln,hgn,hb⟩|⟨hpn,rfl,hb⟩
   ·have HBn:Hid (Bs w6 v1 nn):=hbn
    have HTo6:Hid (RdTo w6 gt ks i X):=HTo.out.later hb
    have HNg:Hid (∀ b m' c',v1=.slice (some b) m' c'→0 < m'→b.block≠gt):=fun b m' c' e h0=>by have:=hnw b m' c' e h0;have:=Bt.lt;omega
    obtain ⟨na,nc,rfl,-,-,-⟩:=hbn
    have HTn:Hid (RdTo (w6.setCell ⟨gt,i,none⟩ (.slice na nn.length nc)) gt ks (i + 1) (X.set i (.slice na nn.length nc))):=HTo6.out.next hX hil HKK.out hpn HBn.out HNg.out hyn hln hgn
    obtain ⟨oa,on,oc,hox⟩:=HTo6.out.1 i hil
    replace Bt:=Bt.later hb
    replace R0:=R0.later hb
    replace bel:=below_step bel hb
    replace st:=below_stepD st hb
    have rd:=RdB.cell (k:=i) Bt (.slice na nn.length nc)
    have x2:=Bt.cell i _ hox
    have fz:=Bt.frozen i
    have lt:=Bt.lt
    have q3:=ne_nilT
    have HRn:Hid (w.heap.size≠gt):=by show _≠_;have:=HRw.out;omega
    clear hb hox hpn hyn hln hgn hnw HTo HTo6 HNg KB
    have R1:=rd.2.1 _ _ HRn.out R0
    have bel1:=rd.2.2.1 _ _ (by have:=HRw.out;omega) bel
    have st1:=rd.2.2.1 _ _ hgt1 st
    have Bt1:=rd.1
    have HLx:Hid ((X.set i (Value.slice na nn.length nc)).length=2):=by show _=_;rw [List.length_set];exact hX
    clear rd
    go_wp2_with fail
    go_roundw
    case rel=>exact ⟨i + 1,_,by omega,by go_num,HLx.out,HTn,Bt1,R1,bel1,st1⟩
    case measure=>simp [intOf];omega
   ·have HN:Hid (sigP (.mk 0 16 true bb ks)=none):=sigC_no HKK.out hpn
    obtain ⟨oa,on,oc,hox⟩:=HTo.out.1 i hil
    replace Bt:=Bt.later hb
    replace R0:=R0.later hb
    replace bel:=below_step bel hb
    have rd:=RdB.cell (k:=i) Bt (.slice none 0 0)
    have x2:=Bt.cell i _ hox
    have fz:=Bt.frozen i
    have lt:=Bt.lt
    have HRn:Hid (w.heap.size≠gt):=by show _≠_;have:=HRw.out;omega
    have R1:=rd.2.1 _ _ HRn.out R0
    have bel1:=rd.2.2.1 _ _ (by have:=HRw.out;omega) bel
    clear hb hox hpn HTo KB rd
    go_upto_region 11 with fail
    clear x2 fz lt R0 bel Bt st
    generalize World.setCell w6 _ _=V6 at *
    have q3:=ne_codeT
    obtain ⟨tR,hR⟩:=R1
    have HR1:Hid _:=hR
    clear hR
    have hz:=zero_s.out
    go_wp2_with (first|(refine wpList_store_row rfl 27 _ _ rfl (w.heap.size) #[.int .u64 0,.int .u64 0,.int .u64 0,.int .u64 0,.int .u64 0,.int .u64 0,.int .u64 0,.int .u64 0,.int .u64 0,.int .u64 0,.int .u64 0,.int .u64 0] rfl rfl tR _ HR1.out (by rw [size_s];rfl) rfl (by simp [Value.oneCell']) ?_)|fail)
    refine bodyPost_ret (results_row_tmp rfl _ _ (w.heap.size) tR #[.int .u64 0,.int .u64 0,.int .u64 0,.int .u64 0,.int .u64 0,.int .u64 0,.int .u64 0,.int .u64 0,.int .u64 0,.int .u64 0,.int .u64 0,.int .u64 0] (0,0) _ rfl (setRow_heap _ _ _ _ _ _ HR1.out) Tryz.underlying27 rfl (by rw [size_s];rfl)) rfl ?_
    exact DecR.form HP.out HN.out (below_setRow bel1 (by omega) _)
  ·obtain rfl:i=2:=by omega
   have g1:¬ ((2:Nat):Int) < (kn:Int):=by rw [HKn.out];omega
   obtain ⟨k0,n0,v0,h01,h02,h03,h04,-,h05,h06,h07⟩:=HTo.out.2 0 (by omega)
   obtain ⟨k1,n1,v1,h11,h12,h13,h14,-,h15,h16,h17⟩:=HTo.out.2 1 (by omega)
   have hks2:=two_kidsC HK2.out h01 h11
   have HSg:Hid (sigP (.mk 0 16 true bb ks)=some (n0,n1)):=by rw [hks2];exact sigC_some h02 h12
   have hx2:=two_cells hX h03 h13
   subst hx2
   have HB0:Hid (Bs wr v0 n0):=h04
   have HB1:Hid (Bs wr v1 n1):=h14
   have HG0:Hid _:=And.intro h05 (And.intro h06 h07)
   have HG1:Hid _:=And.intro h15 (And.intro h16 h17)
   obtain ⟨a0,c0,rfl,-,-,-⟩:=h04
   obtain ⟨a1,c1,rfl,-,-,-⟩:=h14
   clear h01 h02 h03 h05 h06 h07 h11 h12 h13 h15 h16 h17 hks2 hX HTo hil st
   have x0:=Bt.cell 0 _ rfl
   have lt:=Bt.lt
   go_wp2_with fail
   refine (c14_belowN (HG.out.below bel) HB0.out HG0.out.1 HG0.out.2.1 HG0.out.2.2).mono ?_
   rintro e w7 hL
   clear x0 lt
   rcases hL with ⟨hn,rfl,hb⟩|⟨es,hsc,rfl,hu,hb⟩
   ·have HN:Hid (¬ (isSc (beN n0)∧isSc (beN n1))):=fun h=>hn h.1
    clear hn
    replace R0:=R0.later hb
    replace bel:=below_step bel hb
    clear hb
    obtain ⟨zs,hzs⟩:∃ zs:List Value,[.int .u64 0,.int .u64 0,.int .u64 0,.int .u64 0,.int .u64 0,.int .u64 0]=zs:=⟨_,rfl⟩
    have HZs:Hid ([.int .u64 0,.int .u64 0,.int .u64 0,.int .u64 0,.int .u64 0,.int .u64 0]=zs):=hzs
    have hza:#[.int .u64 0,.int .u64 0,.int .u64 0,.int .u64 0,.int .u64 0,.int .u64 0]=zs.toArray:=by rw [← hzs]
    rw [hza]
    clear hza hzs
    have HLh:Hid (zs.length=6):=by rw [← HZs.out];rfl
    have HSh:Hid (zs.toArray.size=6):=by show _=_;rw [List.size_toArray];exact HLh.out
    have HOh:Hid (OneR zs):=by rw [← HZs.out];exact U6.zero.ones
    replace R0:=R0.alloc (.cells zs.toArray 25)
    replace bel:=below_alloc (o:=.cells zs.toArray 25) bel
    have Bh:=Blk.new w7 zs 25 w7.heap.size rfl
    have hz:=zero_u.out
    go_upto_region 15 with (first|(refine wpList_store_row rfl 25 _ _ rfl w7.heap.size zs.toArray rfl rfl 25 _ (heap_alloc_last _ _) (by rw [size_u,HSh.out]) (by rw [HSh.out];rfl) HOh.out ?_;rw [World.setRow_alloc_new])|fail)
    clear hz
    obtain ⟨gh,hgh⟩:∃ g,g=w7.heap.size:=⟨_,rfl⟩
    rw [← hgh] at Bh
    generalize w7.alloc (.cells zs.toArray 25)=Vh at *
    rw [← hgh]
    clear hgh
    have q3:=ne_codeT
    obtain ⟨tR,hR⟩:=R0
    have HR1:Hid _:=hR
    clear hR
    have hz:=zero_s.out
    go_wp2_with (first|(refine wpList_store_row rfl 27 _ _ rfl (w.heap.size) #[.int .u64 0,.int .u64 0,.int .u64 0,.int .u64 0,.int .u64 0,.int .u64 0,.int .u64 0,.int .u64 0,.int .u64 0,.int .u64 0,.int .u64 0,.int .u64 0] rfl rfl tR _ HR1.out (by rw [size_s];rfl) rfl (by simp [Value.oneCell']) ?_)|fail)
    refine bodyPost_ret (results_row_tmp rfl _ _ (w.heap.size) tR #[.int .u64 0,.int .u64 0,.int .u64 0,.int .u64 0,.int .u64 0,.int .u64 0,.int .u64 0,.int .u64 0,.int .u64 0,.int .u64 0,.int .u64 0,.int .u64 0] (0,0) _ rfl (setRow_heap _ _ _ _ _ _ HR1.out) Tryz.underlying27 rfl (by rw [size_s];rfl)) rfl ?_
    exact DecR.range HP.out HSg.out HN.out (below_setRow bel (by omega) _)
   have HU0:Hid (U6 es (beN n0)):=hu
   have HSc0:Hid (isSc (beN n0)):=hsc
   have HB1w:Hid (Bs w7 (.slice a1 n1.length c1) n1):=HB1.out.later hb
   replace R0:=R0.later hb
   replace Bt:=Bt.later hb
   replace bel:=below_step bel hb
   clear hb
   clear hu hsc HB1
   have HB1a:Hid (Bs (w7.alloc (.cells es.toArray 25)) (.slice a1 n1.length c1) n1):=HB1w.out.later ((Below.refl _ _).alloc (Nat.le_refl _) _)
   clear HB1w
   have HLr:Hid (es.length=6):=HU0.out.len
   have HSr:Hid (es.toArray.size=6):=by show _=_;rw [List.size_toArray];exact HLr.out
   have HOr:Hid (OneR es):=HU0.out.ones
   replace R0:=R0.alloc (.cells es.toArray 25)
   replace Bt:=Bt.alloc (.cells es.toArray 25)
   replace bel:=below_alloc (o:=.cells es.toArray 25) bel
   have Br:=Blk.new w7 es 25 w7.heap.size rfl
   have hz:=zero_u.out
   go_upto_region 15 with (first|(refine wpList_store_row rfl 25 _ _ rfl w7.heap.size es.toArray rfl rfl 25 _ (heap_alloc_last _ _) (by rw [size_u,HSr.out]) (by rw [HSr.out];rfl) HOr.out ?_;rw [World.setRow_alloc_new])|fail)
   clear hz
   obtain ⟨gr,hgr⟩:∃ g,g=w7.heap.size:=⟨_,rfl⟩
   rw [← hgr] at Br
   generalize w7.alloc (.cells es.toArray 25)=Vr at *
   rw [← hgr]
   clear hgr
   have q3:=ne_nilT
   have x1:=Bt.cell 1 _ rfl
   have lt:=Bt.lt
   go_wp2_with fail
   refine (c14_belowN (HG.out.below bel) HB1a.out HG1.out.1 HG1.out.2.1 HG1.out.2.2).mono ?_
   rintro e w8 hL
   clear x1 lt q3
   rcases hL with ⟨hn,rfl,hb⟩|⟨fs,hsc,rfl,hu,hb⟩
   ·have HN:Hid (¬ (isSc (beN n0)∧isSc (beN n1))):=fun h=>hn h.2
    clear hn
    replace R0:=R0.later hb
    replace bel:=below_step bel hb
    clear hb
    obtain ⟨zs,hzs⟩:∃ zs:List Value,[.int .u64 0,.int .u64 0,.int .u64 0,.int .u64 0,.int .u64 0,.int .u64 0]=zs:=⟨_,rfl⟩
    have HZs:Hid ([.int .u64 0,.int .u64 0,.int .u64 0,.int .u64 0,.int .u64 0,.int .u64 0]=zs):=hzs
    have hza:#[.int .u64 0,.int .u64 0,.int .u64 0,.int .u64 0,.int .u64 0,.int .u64 0]=zs.toArray:=by rw [← hzs]
    rw [hza]
    clear hza hzs
    have HLh:Hid (zs.length=6):=by rw [← HZs.out];rfl
    have HSh:Hid (zs.toArray.size=6):=by show _=_;rw [List.size_toArray];exact HLh.out
    have HOh:Hid (OneR zs):=by rw [← HZs.out];exact U6.zero.ones
    replace R0:=R0.alloc (.cells zs.toArray 25)
    replace bel:=below_alloc (o:=.cells zs.toArray 25) bel
    have Bh:=Blk.new w8 zs 25 w8.heap.size rfl
    have hz:=zero_u.out
    go_upto_region 18 with (first|(refine wpList_store_row rfl 25 _ _ rfl w8.heap.size zs.toArray rfl rfl 25 _ (heap_alloc_last _ _) (by rw [size_u,HSh.out]) (by rw [HSh.out];rfl) HOh.out ?_;rw [World.setRow_alloc_new])|fail)
    clear hz
    obtain ⟨gh,hgh⟩:∃ g,g=w8.heap.size:=⟨_,rfl⟩
    rw [← hgh] at Bh
    generalize w8.alloc (.cells zs.toArray 25)=Vh at *
    rw [← hgh]
    clear hgh
    have q3:=ne_codeT
    obtain ⟨tR,hR⟩:=R0
    have HR1:Hid _:=hR
    clear hR
    have hz:=zero_s.out
    go_wp2_with (first|(refine wpList_store_row rfl 27 _ _ rfl (w.heap.size) #[.int .u64 0,.int .u64 0,.int .u64 0,.int .u64 0,.int .u64 0,.int .u64 0,.int .u64 0,.int .u64 0,.int .u64 0,.int .u64 0,.int .u64 0,.int .u64 0] rfl rfl tR _ HR1.out (by rw [size_s];rfl) rfl (by simp [Value.oneCell']) ?_)|fail)
    refine bodyPost_ret (results_row_tmp rfl _ _ (w.heap.size) tR #[.int .u64 0,.int .u64 0,.int .u64 0,.int .u64 0,.int .u64 0,.int .u64 0,.int .u64 0,.int .u64 0,.int .u64 0,.int .u64 0,.int .u64 0,.int .u64 0] (0,0) _ rfl (setRow_heap _ _ _ _ _ _ HR1.out) Tryz.underlying27 rfl (by rw [size_s];rfl)) rfl ?_
    exact DecR.range HP.out HSg.out HN.out (below_setRow bel (by omega) _)
   have HU1:Hid (U6 fs (beN n1)):=hu
   have HSc1:Hid (isSc (beN n1)):=hsc
   replace R0:=R0.later hb
   replace Br:=Br.later hb
   replace bel:=below_step bel hb
   clear hb
   clear hu hsc Bt HB1a
   have HLs:Hid (fs.length=6):=HU1.out.len
   have HSs:Hid (fs.toArray.size=6):=by show _=_;rw [List.size_toArray];exact HLs.out
   have HOs:Hid (OneR fs):=HU1.out.ones
   replace R0:=R0.alloc (.cells fs.toArray 25)
   replace Br:=Br.alloc (.cells fs.toArray 25)
   replace bel:=below_alloc (o:=.cells fs.toArray 25) bel
   have BsB:=Blk.new w8 fs 25 w8.heap.size rfl
   have hz:=zero_u.out
   go_upto_region 18 with (first|(refine wpList_store_row rfl 25 _ _ rfl w8.heap.size fs.toArray rfl rfl 25 _ (heap_alloc_last _ _) (by rw [size_u,HSs.out]) (by rw [HSs.out];rfl) HOs.out ?_;rw [World.setRow_alloc_new])|fail)
   clear hz
   obtain ⟨gs,hgs⟩:∃ g,g=w8.heap.size:=⟨_,rfl⟩
   rw [← hgs] at BsB
   generalize w8.alloc (.cells fs.toArray 25)=Vs at *
   rw [← hgs]
   clear hgs
   have q3:=ne_nilT
   have l4:=Br.lt
   have l6:=BsB.lt
   have q7:=build_sig HU0.out HU1.out
   have hu2:∃ us,es++fs=us:=⟨_,rfl⟩
   obtain ⟨us2,hus⟩:=hu2
   have HUs:Hid (es++fs=us2):=hus
   have HSu:Hid (us2.toArray.size=12):=by show _=_;rw [List.size_toArray,← hus,List.length_append,HU0.out.len,HU1.out.len]
   have HOu:Hid (OneR us2):=by rw [← hus];exact HU0.out.ones.app HU1.out.ones
   rw [hus] at q7
   clear hus
   obtain ⟨tR,hR⟩:=R0
   have HR1:Hid _:=hR
   clear hR
   go_wp2_with (first|(refine wpList_build_run (by rfl) (by rfl) (by rfl) (v:=.agg us2.toArray) (q7 _) ?_)|(refine wpList_store_row rfl 27 _ _ rfl w.heap.size us2.toArray rfl rfl tR _ HR1.out (by rw [size_s,HSu.out]) (by rw [HSu.out];rfl) HOu.out ?_)|(refine wpList_load_run (by rfl) (by rfl) (by rfl) (Br.load Tryz.underlying25 rfl size_u HLr.out) ?_)|(refine wpList_load_run (by rfl) (by rfl) (by rfl) (BsB.load Tryz.underlying25 rfl size_u HLs.out) ?_)|fail)
   refine bodyPost_ret (results_row_tmp rfl _ _ w.heap.size tR us2.toArray (0,0) _ rfl (setRow_heap _ _ _ _ _ _ HR1.out) Tryz.underlying27 rfl (by rw [size_s,HSu.out])) rfl ?_
   exact DecR.ok HP.out HSg.out HU0.out HU1.out HSc0.out HSc1.out HUs.out (below_setRow bel (by omega) _)
theorem con_Decode {v:Value} {B:List Int} {w:World} (G:GlsO w) (hv:Bs w v B) (b:byt B) :
  Calls Tryz.prog 83 #[v] w fun e w'=>(∀ c p,parseP B=.error (c,p)→∃ er:Value,e=.returned (.tuple #[.agg #[.int .u64 0,.int .u64 0,.int .u64 0,.int .u64 0,.int .u64 0,.int .u64 0,.int .u64 0,.int .u64 0,.int .u64 0,.int .u64 0,.int .u64 0,.int .u64 0],er])∧ErAt w' c p er∧Below w.heap.size w w')∧(∀ T,parseP B=.ok T→(sigP T=none→e=.returned (.tuple #[.agg #[.int .u64 0,.int .u64 0,.int .u64 0,.int .u64 0,.int .u64 0,.int .u64 0,.int .u64 0,.int .u64 0,.int .u64 0,.int .u64 0,.int .u64 0,.int .u64 0],codeV 7])∧Below w.heap.size w w')∧(∀ x y,sigP T=some (x,y)→(¬ (isSc (beN x)∧isSc (beN y))→e=.returned (.tuple #[.agg #[.int .u64 0,.int .u64 0,.int .u64 0,.int .u64 0,.int .u64 0,.int .u64 0,.int .u64 0,.int .u64 0,.int .u64 0,.int .u64 0,.int .u64 0,.int .u64 0],codeV 3])∧Below w.heap.size w w')∧(isSc (beN x)→isSc (beN y)→∃ rs ss,e=.returned (.tuple #[.agg (rs++ss).toArray,.nilIface])∧U6 rs (beN x)∧U6 ss (beN y)∧Below w.heap.size w w'))):=(c14_Decode G hv b).mono (fun _ _ h=>h)
end Go.Proofs.YtnkipgbnnhahbaaGreatDoor
