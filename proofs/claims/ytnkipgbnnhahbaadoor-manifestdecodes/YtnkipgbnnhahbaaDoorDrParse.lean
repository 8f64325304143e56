/- The document's Parse. -/
import Derived.Test.YtnkipgbnnhahbaaDoorDrElem
import Derived.Test.YtnkipgbnnhahbaaDoorRows
import Derived.Deep.WholeRow
import Derived.Deep.RegionHeld3
import Derived.Deep.DeepCutAuto
import Derived.Deep.DeepFit
namespace Go.Proofs.YtnkipgbnnhahbaaDoor
open Go.RowKit
/-- the place that Parse tells beside an error's number -/
def atP (c p:Nat):Int:=if c=2 then -1 else (p:Int)
theorem results_row_tmp2 {P:Program} {fn:Func} {p u v:Tmp} {ty:TypeId} (h:fn.results=#[.cell p ty,.tmp u,.tmp v]) (tmps:Array Value) (w:World) (g:Nat) (t:TypeId) (cs:Array Value) (fr:Nat × Nat) (d:TypeDesc)
  (hp:tmps.getD p undef=.pointer (some ⟨g,0,none⟩)) (hg:w.heap[g]?=some (.cells cs t fr))
  (hu:P.underlying ty=some d) (hd:(match d with|.struct _|.array _ _=>true|_=>false)=true) (hi:(P.info? ty).map (·.size)=some cs.size) :
  (results fn tmps).run P w=.ok (.tuple #[.agg cs,tmps.getD u undef,tmps.getD v undef]) w:=by
 have hp':tmps[p]?.getD undef=.pointer (some ⟨g,0,none⟩):=by simpa using hp
 simp [results,h,hp',asAddr,run_loadVar_row w g t ty cs fr d hg hu hd hi]
theorem parse_bad {B:List Int} {c p:Nat} (h:parseP B=.error (c,p)):(c=2∧1048576 < B.length)∨c=6∨c=7∨c=8∨c=9:=by
 unfold parseP at h
 split at h
 ·cases h;exact .inl ⟨rfl,by assumption⟩
 ·cases hq:elemP B 16 0 B.length with
  | error e =>
   rw [hq] at h
   obtain ⟨c',p'⟩:=e
   cases h
   rcases elemP_bad hq with h|h|h
   ·exact .inr (.inl h)
   ·exact .inr (.inr (.inl h))
   ·exact .inr (.inr (.inr (.inr h)))
  | ok q =>
   obtain ⟨t,z⟩:=q
   rw [hq] at h
   simp only at h
   split at h
   ·cases h;exact .inr (.inr (.inr (.inl rfl)))
   ·cases h
set_option linter.unusedSimpArgs false in
set_option maxRecDepth 100000 in
set_option maxHeartbeats 2000000 in
theorem r12_Parse {v:Value} {B:List Int} {w:World} (hv:Bs w v B) (b:byt B) :
  Calls Tryd.prog 6 #[v] w fun e w'=>(∀ T,parseP B=.ok T→∃ cs,e=.returned (.tuple #[.agg cs.toArray,.int .i64 0,.int .i64 (-1)])∧Dep (fun b=>w.heap.size≤b) w' T cs∧Below w.heap.size w w')∧(∀ c p,parseP B=.error (c,p)→e=.returned (.tuple #[.agg #[.int .i64 0,.int .i64 0,.bool false,.slice none 0 0,.slice none 0 0],.int .i64 (c:Int),.int .i64 (atP c p)])∧Below w.heap.size w w'):=by
 have HB:Hid (byt B):=b
 have HV:Hid (Bs w v B):=hv
 have hz:=zero_tlv.out
 obtain ⟨ao,cap,rfl,h1,h2,h3⟩:=hv
 clear h3 b
 unfold maxLen at h1
 have R0:=Blk.new w [.int .i64 0,.int .i64 0,.bool false,.slice none 0 0,.slice none 0 0] 32 w.heap.size rfl
 have bel:Below w.heap.size w (w.alloc (.cells #[.int .i64 0,.int .i64 0,.bool false,.slice none 0 0,.slice none 0 0] 32)):=(Below.refl _ _).alloc (Nat.le_refl _) _
 go_enter Tryd.func6,Tryd.ntmps6
 go_upto_region 1 with fail
 generalize w.alloc (.cells #[.int .i64 0,.int .i64 0,.bool false,.slice none 0 0,.slice none 0 0] 32)=W at *
 by_cases c1:1048576 < B.length
 ·have H:Hid (parseP B=.error (2,0)):=by show _=_;unfold parseP;rw [if_pos c1]
  have g1:(1048576:Int) < ((B.length:Nat):Int):=by omega
  obtain ⟨tR,hR⟩:=R0
  have HR1:Hid _:=hR
  clear hR hz
  go_wp2_with (first|(refine wpList_store_row rfl 32 _ _ rfl w.heap.size #[.int .i64 0,.int .i64 0,.bool false,.slice none 0 0,.slice none 0 0] rfl rfl tR _ HR1.out (by rw [size_tlv];rfl) rfl (by simp [Value.oneCell']) ?_)|fail)
  exact bodyPost_ret (results_row_tmp2 rfl _ _ w.heap.size tR #[.int .i64 0,.int .i64 0,.bool false,.slice none 0 0,.slice none 0 0] (0,0) _ rfl (setRow_heap _ _ _ _ _ _ HR1.out) Tryd.underlying32 rfl (by rw [size_tlv];rfl)) rfl ⟨fun T h=>(by rw [H.out] at h;cases h),fun c p h=>(by rw [H.out] at h;cases h;exact ⟨rfl,below_setRow bel (Nat.le_refl _) _⟩)⟩
 have g1:¬ (1048576:Int) < ((B.length:Nat):Int):=by omega
 have HP:Hid (parseP B=match elemP B 16 0 B.length with|.error e=>.error e|.ok (t,z)=>if z < B.length then .error (8,z) else .ok t):=by
  show _=_
  unfold parseP
  rw [if_neg c1]
  rfl
 have RD:=Blk.new W [.slice ao B.length cap,.int .i64 0,.int .i64 0] 47 W.heap.size rfl
 have lR:=R0.lt
 replace R0:=R0.alloc (.cells #[.slice ao B.length cap,.int .i64 0,.int .i64 0] 47)
 have bW:=bel.size
 replace bel:=below_alloc (o:=.cells #[.slice ao B.length cap,.int .i64 0,.int .i64 0] 47) bel
 go_upto_region 4 with fail
 obtain ⟨g,hg⟩:∃ g,g=W.heap.size:=⟨_,rfl⟩
 rw [← hg] at RD lR bW ⊢
 generalize W.alloc (.cells #[.slice ao B.length cap,.int .i64 0,.int .i64 0] 47)=W1 at *
 clear hg
 have hcall:=r12_elem (g:=g) HB.out (by omega) 16 0 B.length 0 W1 (by omega) (by omega) (by omega) RD (HV.out.later bel)
 rw [show 16 - ((16:Nat):Int)=0 from rfl] at hcall
 go_wp2_with fail
 refine hcall.mono ?_
 rintro e w1 ⟨hok,hbad⟩
 clear hcall
 have lg:=RD.lt
 cases hep:elemP B 16 0 B.length with
 | error q =>
  obtain ⟨c,p⟩:=q
  obtain ⟨cs,l5,o5,rfl,hr⟩:=hbad c p hep
  clear hok hbad
  have hcb:=elemP_bad hep
  have H:Hid (parseP B=.error (c,p)):=by show _=_;rw [HP.out,hep]
  have HAt:Hid (atP c p=(p:Int)):=by show _=_;unfold atP;rw [if_neg (by omega)]
  clear hep HP
  have gc:¬ (c:Int)=0:=by omega
  have HO5:Hid (OneC cs):=o5
  have HS5:Hid (cs.toArray.size=5):=by show _=_;rw [List.size_toArray];exact l5
  have R1:=(hr.2.1 _ _ (by omega) R0).alloc (.cells cs.toArray 32)
  have RD1:=hr.1.alloc (.cells cs.toArray 32)
  have bel1:=below_alloc (o:=.cells cs.toArray 32) (hr.2.2.1 _ _ (by omega) bel)
  clear o5 l5 hr R0 RD bel
  go_upto_region 5 with (first|(refine wpList_store_row rfl 32 _ _ rfl w1.heap.size cs.toArray rfl rfl 32 _ (heap_alloc_last _ _) (by rw [size_tlv,HS5.out]) (by rw [HS5.out];rfl) HO5.out ?_;rw [World.setRow_alloc_new])|fail)
  clear hz
  generalize w1.alloc (.cells cs.toArray 32)=w2 at *
  have r1:=RD1.cell 1 _ rfl
  have r2:=RD1.cell 2 _ rfl
  have lr:=RD1.lt
  go_upto_region 6 with fail
  have k0:=R1.cell 0 _ rfl
  have k1:=R1.cell 1 _ rfl
  have k2:=R1.cell 2 _ rfl
  have k3:=R1.cell 3 _ rfl
  have k4:=R1.cell 4 _ rfl
  have z0:=R1.frozen 0
  have z1:=R1.frozen 1
  have z2:=R1.frozen 2
  have z3:=R1.frozen 3
  have z4:=R1.frozen 4
  have lr1:=R1.lt
  go_region
  replace R1:=(((((R1.set 0 (.int .i64 0)).set 1 (.int .i64 0)).set 2 (.bool false)).set 3 (.slice none 0 0)).set 4 (.slice none 0 0)).drew
  replace R1:Blk _ w.heap.size [.int .i64 0,.int .i64 0,.bool false,.slice none 0 0,.slice none 0 0]:=R1
  replace bel1:=(((((bel1.setCell (p:=⟨w.heap.size,0,none⟩) (Nat.le_refl _) (.int .i64 0)).setCell (p:=⟨w.heap.size,1,none⟩) (Nat.le_refl _) (.int .i64 0)).setCell (p:=⟨w.heap.size,2,none⟩) (Nat.le_refl _) (.bool false)).setCell (p:=⟨w.heap.size,3,none⟩) (Nat.le_refl _) (.slice none 0 0)).setCell (p:=⟨w.heap.size,4,none⟩) (Nat.le_refl _) (.slice none 0 0)).drew
  clear k0 k1 k2 k3 k4 z0 z1 z2 z3 z4 lr1 r1 r2 lr RD1
  generalize World.drew _=w9 at *
  obtain ⟨tR,hR⟩:=R1
  have HR1:Hid _:=hR
  clear hR
  go_wp2_with fail
  exact bodyPost_ret (results_row_tmp2 rfl _ _ w.heap.size tR #[.int .i64 0,.int .i64 0,.bool false,.slice none 0 0,.slice none 0 0] (0,0) _ rfl HR1.out Tryd.underlying32 rfl (by rw [size_tlv];rfl)) rfl ⟨fun T h=>(by rw [H.out] at h;cases h),fun c p h=>(by rw [H.out] at h;cases h;exact ⟨by rw [HAt.out];rfl,bel1⟩)⟩
 | ok q =>
  obtain ⟨T,z⟩:=q
  obtain ⟨cs,rfl,hdep,hb⟩:=hok T z hep
  clear hok hbad
  have heo:=elem_ok HB.out 16 0 B.length T z (Nat.le_refl _) hep
  have hz2:z≤B.length:=heo.2
  replace HP:Hid (parseP B=if z < B.length then .error (8,z) else .ok T):=by show _=_;rw [HP.out,hep]
  clear hep heo
  have HO5:Hid (OneC cs):=hdep.now.ones
  have l5:=hdep.now.five
  have HL5:Hid (cs.length=5):=l5
  have HS5:Hid (cs.toArray.size=5):=by show _=_;rw [List.size_toArray];exact l5
  have HDp:Hid _:=hdep
  have KB:=Blk.new w1 cs 32 w1.heap.size rfl
  have R1:=(R0.later hb).alloc (.cells cs.toArray 32)
  have RD1:=(RD.later hb).alloc (.cells cs.toArray 32)
  have bel1:=below_alloc (o:=.cells cs.toArray 32) (below_stepD bel hb)
  have HAg:Hid (Agr (fun b=>W1.heap.size≤b) w1 (w1.alloc (.cells cs.toArray 32))):=Agr.below ((Below.refl _ _).alloc (Nat.le_refl _) _)
  have lW1:=R0.lt
  clear hb hdep l5 R0 RD bel
  go_upto_region 5 with (first|(refine wpList_store_row rfl 32 _ _ rfl w1.heap.size cs.toArray rfl rfl 32 _ (heap_alloc_last _ _) (by rw [size_tlv,HS5.out]) (by rw [HS5.out];rfl) HO5.out ?_;rw [World.setRow_alloc_new])|fail)
  clear hz
  obtain ⟨g1,hg1⟩:∃ g1,g1=w1.heap.size:=⟨_,rfl⟩
  rw [← hg1] at KB
  generalize w1.alloc (.cells cs.toArray 32)=w2 at *
  rw [← hg1]
  clear hg1
  have r1:=RD1.cell 1 _ rfl
  have lr:=RD1.lt
  obtain ⟨tR,hR⟩:=R1
  have HR1:Hid _:=hR
  clear hR
  by_cases c2:z < B.length
  ·have H:Hid (parseP B=.error (8,z)):=by show _=_;rw [HP.out,if_pos c2]
   have g2:(z:Int) < ((B.length:Nat):Int):=by omega
   go_wp2_with (first|(refine wpList_store_row rfl 32 _ _ rfl w.heap.size #[.int .i64 0,.int .i64 0,.bool false,.slice none 0 0,.slice none 0 0] rfl rfl tR _ HR1.out (by rw [size_tlv];rfl) rfl (by simp [Value.oneCell']) ?_)|fail)
   exact bodyPost_ret (results_row_tmp2 rfl _ _ w.heap.size tR #[.int .i64 0,.int .i64 0,.bool false,.slice none 0 0,.slice none 0 0] (0,0) _ rfl (setRow_heap _ _ _ _ _ _ HR1.out) Tryd.underlying32 rfl (by rw [size_tlv];rfl)) rfl ⟨fun T h=>(by rw [H.out] at h;cases h),fun c p h=>(by rw [H.out] at h;cases h;exact ⟨rfl,below_setRow bel1 (Nat.le_refl _) _⟩)⟩
  ·have H:Hid (parseP B=.ok T):=by show _=_;rw [HP.out,if_neg c2]
   have g2:¬ (z:Int) < ((B.length:Nat):Int):=by omega
   have HD2:Hid (Dep (fun b=>w.heap.size≤b) (w2.setRow w.heap.size cs.toArray) T cs):=Dep.next HDp.out (Agr.row HAg.out (by show ¬ W1.heap.size≤w.heap.size;omega)) (fun b hb _=>by show w.heap.size≤b;omega)
   go_wp2_with (first|(refine wpList_load_run (by rfl) (by rfl) (by rfl) (KB.load Tryd.underlying32 rfl size_tlv HL5.out) ?_)|(refine wpList_store_row rfl 32 _ _ rfl w.heap.size cs.toArray rfl rfl tR _ HR1.out (by rw [size_tlv,HS5.out]) (by rw [HS5.out];rfl) HO5.out ?_)|fail)
   exact bodyPost_ret (results_row_tmp2 rfl _ _ w.heap.size tR cs.toArray (0,0) _ rfl (setRow_heap _ _ _ _ _ _ HR1.out) Tryd.underlying32 rfl (by rw [size_tlv,HS5.out])) rfl ⟨fun T h=>(by rw [H.out] at h;cases h;exact ⟨cs,rfl,HD2.out,below_setRow bel1 (Nat.le_refl _) _⟩),fun c p h=>(by rw [H.out] at h;cases h)⟩
end Go.Proofs.YtnkipgbnnhahbaaDoor
