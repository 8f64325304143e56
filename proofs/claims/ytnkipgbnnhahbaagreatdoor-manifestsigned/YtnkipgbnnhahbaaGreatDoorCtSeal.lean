/- The document's Parse. Certificates as they are read, as functions. The document's lists. The document's identifiers. What the document seals. -/
import Derived.Test.YtnkipgbnnhahbaaGreatDoorDrElem
import Derived.Test.YtnkipgbnnhahbaaGreatDoorClWr
import Derived.Test.YtnkipgbnnhahbaaGreatDoorHeld3
import Derived.Test.YtnkipgbnnhahbaaGreatDoorCtPl
import Derived.Test.YtnkipgbnnhahbaaGreatDoorDrDep
import Derived.Test.YtnkipgbnnhahbaaGreatDoorPmOidO
import Derived.Test.YtnkipgbnnhahbaaGreatDoorCtSig
import Derived.Test.YtnkipgbnnhahbaaGreatDoorDrWrite
import Derived.Test.YtnkipgbnnhahbaaGreatDoorRows
import Derived.Deep.WholeRow
import Derived.Deep.RegionHeld3
import Derived.Deep.DeepCutAuto
import Derived.Deep.DeepFit
import Derived.Deep.OwnRows
import Derived.Deep.AppendLies
import Derived.Great.BuildSlice
import Derived.Laws.Rows
import Derived.BigQuiet
namespace Go.Proofs.YtnkipgbnnhahbaaGreatDoor
open Go.RowKit
open Classical
/-- the place that Parse tells beside an error's number -/
def atP (c p:Nat):Int:=if c=2 then -1 else (p:Int)
theorem results_row_tmp2 {P:Program} {fn:Func} {p u v:Tmp} {ty:TypeId} (h:fn.results=#[.cell p ty,.tmp u,.tmp v]) (tmps:Array Value) (w:World) (g:Nat) (t:TypeId) (cs:Array Value) (fr:Nat × Nat) (d:TypeDesc)
  (hp:tmps.getD p undef=.pointer (some ⟨g,0,none⟩)) (hg:w.heap[g]?=some (.cells cs t fr))
  (hu:P.underlying ty=some d) (hd:(match d with|.struct _|.array _ _=>true|_=>false)=true) (hi:(P.info? ty).map (·.size)=some cs.size) :
  (results fn tmps).run P w=.ok (.tuple #[.agg cs,tmps.getD u undef,tmps.getD v undef]) w:=by
 have hp':tmps[p]?.getD undef=.pointer (some ⟨g,0,none⟩):=by simpa using hp
 simp [results,h,hp',asAddr,run_loadVar_row w g t ty cs fr d hg hu hd hi]
theorem parse_bad {B:List Int} {c p:Nat} (h:parseP B=.error (c,p)):(c=2∧1048576 < B.length)∨c=6∨c=7∨c=8∨c=9:=by
 unfold parseP at h
 split at h
 ·cases h;exact .inl ⟨rfl,by assumption⟩
 ·cases hq:elemP B 16 0 B.length with
  | error e =>
   rw [hq] at h
   obtain ⟨c',p'⟩:=e
   cases h
   rcases elemP_bad hq with h|h|h
   ·exact .inr (.inl h)
   ·exact .inr (.inr (.inl h))
   ·exact .inr (.inr (.inr (.inr h)))
  | ok q =>
   obtain ⟨t,z⟩:=q
   rw [hq] at h
   simp only at h
   split at h
   ·cases h;exact .inr (.inr (.inr (.inl rfl)))
   ·cases h
set_option linter.unusedSimpArgs false in
set_option maxRecDepth 100000 in
set_option maxHeartbeats 2000000 in
theorem r12_Parse {v:Value} {B:List Int} {w:World} (hv:Bs w v B) (b:byt B) :
  Calls Tryz.prog 10 #[v] w fun e w'=>(∀ T,parseP B=.ok T→∃ cs,e=.returned (.tuple #[.agg cs.toArray,.int .i64 0,.int .i64 (-1)])∧Dep (fun b=>w.heap.size≤b) w' T cs∧Below w.heap.size w w')∧(∀ c p,parseP B=.error (c,p)→e=.returned (.tuple #[.agg #[.int .i64 0,.int .i64 0,.bool false,.slice none 0 0,.slice none 0 0],.int .i64 (c:Int),.int .i64 (atP c p)])∧Below w.heap.size w w'):=by
 have HB:Hid (byt B):=b
 have HV:Hid (Bs w v B):=hv
 have hz:=zero_tlv.out
 obtain ⟨ao,cap,rfl,h1,h2,h3⟩:=hv
 clear h3 b
 unfold maxLen at h1
 have R0:=Blk.new w [.int .i64 0,.int .i64 0,.bool false,.slice none 0 0,.slice none 0 0] 41 w.heap.size rfl
 have bel:Below w.heap.size w (w.alloc (.cells #[.int .i64 0,.int .i64 0,.bool false,.slice none 0 0,.slice none 0 0] 41)):=(Below.refl _ _).alloc (Nat.le_refl _) _
 go_enter Tryz.func10,Tryz.ntmps10
 go_upto_region 1 with fail
 generalize w.alloc (.cells #[.int .i64 0,.int .i64 0,.bool false,.slice none 0 0,.slice none 0 0] 41)=W at *
 by_cases c1:1048576 < B.length
 ·have H:Hid (parseP B=.error (2,0)):=by show _=_;unfold parseP;rw [if_pos c1]
  have g1:(1048576:Int) < ((B.length:Nat):Int):=by omega
  obtain ⟨tR,hR⟩:=R0
  have HR1:Hid _:=hR
  clear hR hz
  go_wp2_with (first|(refine wpList_store_row rfl 41 _ _ rfl w.heap.size #[.int .i64 0,.int .i64 0,.bool false,.slice none 0 0,.slice none 0 0] rfl rfl tR _ HR1.out (by rw [size_tlv];rfl) rfl (by simp [Value.oneCell']) ?_)|fail)
  exact bodyPost_ret (results_row_tmp2 rfl _ _ w.heap.size tR #[.int .i64 0,.int .i64 0,.bool false,.slice none 0 0,.slice none 0 0] (0,0) _ rfl (setRow_heap _ _ _ _ _ _ HR1.out) Tryz.underlying41 rfl (by rw [size_tlv];rfl)) rfl ⟨fun T h=>(by rw [H.out] at h;cases h),fun c p h=>(by rw [H.out] at h;cases h;exact ⟨rfl,below_setRow bel (Nat.le_refl _) _⟩)⟩
 have g1:¬ (1048576:Int) < ((B.length:Nat):Int):=by omega
 have HP:Hid (parseP B=match elemP B 16 0 B.length with|.error e=>.error e|.ok (t,z)=>if z < B.length then .error (8,z) else .ok t):=by
  show _=_
  unfold parseP
  rw [if_neg c1]
  rfl
 have RD:=Blk.new W [.slice ao B.length cap,.int .i64 0,.int .i64 0] 70 W.heap.size rfl
 have lR:=R0.lt
 replace R0:=R0.alloc (.cells #[.slice ao B.length cap,.int .i64 0,.int .i64 0] 70)
 have bW:=bel.size
 replace bel:=below_alloc (o:=.cells #[.slice ao B.length cap,.int .i64 0,.int .i64 0] 70) bel
 go_upto_region 4 with fail
 obtain ⟨g,hg⟩:∃ g,g=W.heap.size:=⟨_,rfl⟩
 rw [← hg] at RD lR bW ⊢
 generalize W.alloc (.cells #[.slice ao B.length cap,.int .i64 0,.int .i64 0] 70)=W1 at *
 clear hg
 have hcall:=r12_elem (g:=g) HB.out (by omega) 16 0 B.length 0 W1 (by omega) (by omega) (by omega) RD (HV.out.later bel)
 rw [show 16 - ((16:Nat):Int)=0 from rfl] at hcall
 go_wp2_with fail
 refine hcall.mono ?_
 rintro e w1 ⟨hok,hbad⟩
 clear hcall
 have lg:=RD.lt
 cases hep:elemP B 16 0 B.length with
 | error q =>
  obtain ⟨c,p⟩:=q
  obtain ⟨cs,l5,o5,rfl,hr⟩:=hbad c p hep
  clear hok hbad
  have hcb:=elemP_bad hep
  have H:Hid (parseP B=.error (c,p)):=by show _=_;rw [HP.out,hep]
  have HAt:Hid (atP c p=(p:Int)):=by show _=_;unfold atP;rw [if_neg (by omega)]
  clear hep HP
  have gc:¬ (c:Int)=0:=by omega
  have HO5:Hid (OneC cs):=o5
  have HS5:Hid (cs.toArray.size=5):=by show _=_;rw [List.size_toArray];exact l5
  have R1:=(hr.2.1 _ _ (by omega) R0).alloc (.cells cs.toArray 41)
  have RD1:=hr.1.alloc (.cells cs.toArray 41)
  have bel1:=below_alloc (o:=.cells cs.toArray 41) (hr.2.2.1 _ _ (by omega) bel)
  clear o5 l5 hr R0 RD bel
  go_upto_region 5 with (first|(refine wpList_store_row rfl 41 _ _ rfl w1.heap.size cs.toArray rfl rfl 41 _ (heap_alloc_last _ _) (by rw [size_tlv,HS5.out]) (by rw [HS5.out];rfl) HO5.out ?_;rw [World.setRow_alloc_new])|fail)
  clear hz
  generalize w1.alloc (.cells cs.toArray 41)=w2 at *
  have r1:=RD1.cell 1 _ rfl
  have r2:=RD1.cell 2 _ rfl
  have lr:=RD1.lt
  go_upto_region 6 with fail
  have k0:=R1.cell 0 _ rfl
  have k1:=R1.cell 1 _ rfl
  have k2:=R1.cell 2 _ rfl
  have k3:=R1.cell 3 _ rfl
  have k4:=R1.cell 4 _ rfl
  have z0:=R1.frozen 0
  have z1:=R1.frozen 1
  have z2:=R1.frozen 2
  have z3:=R1.frozen 3
  have z4:=R1.frozen 4
  have lr1:=R1.lt
  go_region
  replace R1:=(((((R1.set 0 (.int .i64 0)).set 1 (.int .i64 0)).set 2 (.bool false)).set 3 (.slice none 0 0)).set 4 (.slice none 0 0)).drew
  replace R1:Blk _ w.heap.size [.int .i64 0,.int .i64 0,.bool false,.slice none 0 0,.slice none 0 0]:=R1
  replace bel1:=(((((bel1.setCell (p:=⟨w.heap.size,0,none⟩) (Nat.le_refl _) (.int .i64 0)).setCell (p:=⟨w.heap.size,1,none⟩) (Nat.le_refl _) (.int .i64 0)).setCell (p:=⟨w.heap.size,2,none⟩) (Nat.le_refl _) (.bool false)).setCell (p:=⟨w.heap.size,3,none⟩) (Nat.le_refl _) (.slice none 0 0)).setCell (p:=⟨w.heap.size,4,none⟩) (Nat.le_refl _) (.slice none 0 0)).drew
  clear k0 k1 k2 k3 k4 z0 z1 z2 z3 z4 lr1 r1 r2 lr RD1
  generalize World.drew _=w9 at *
  obtain ⟨tR,hR⟩:=R1
  have HR1:Hid _:=hR
  clear hR
  go_wp2_with fail
  exact bodyPost_ret (results_row_tmp2 rfl _ _ w.heap.size tR #[.int .i64 0,.int .i64 0,.bool false,.slice none 0 0,.slice none 0 0] (0,0) _ rfl HR1.out Tryz.underlying41 rfl (by rw [size_tlv];rfl)) rfl ⟨fun T h=>(by rw [H.out] at h;cases h),fun c p h=>(by rw [H.out] at h;cases h;exact ⟨by rw [HAt.out];rfl,bel1⟩)⟩
 | ok q =>
  obtain ⟨T,z⟩:=q
  obtain ⟨cs,rfl,hdep,hb⟩:=hok T z hep
  clear hok hbad
  have heo:=elem_ok HB.out 16 0 B.length T z (Nat.le_refl _) hep
  have hz2:z≤B.length:=heo.2
  replace HP:Hid (parseP B=if z < B.length then .error (8,z) else .ok T):=by show _=_;rw [HP.out,hep]
  clear hep heo
  have HO5:Hid (OneC cs):=hdep.now.ones
  have l5:=hdep.now.five
  have HL5:Hid (cs.length=5):=l5
  have HS5:Hid (cs.toArray.size=5):=by show _=_;rw [List.size_toArray];exact l5
  have HDp:Hid _:=hdep
  have KB:=Blk.new w1 cs 41 w1.heap.size rfl
  have R1:=(R0.later hb).alloc (.cells cs.toArray 41)
  have RD1:=(RD.later hb).alloc (.cells cs.toArray 41)
  have bel1:=below_alloc (o:=.cells cs.toArray 41) (below_stepD bel hb)
  have HAg:Hid (Agr (fun b=>W1.heap.size≤b) w1 (w1.alloc (.cells cs.toArray 41))):=Agr.below ((Below.refl _ _).alloc (Nat.le_refl _) _)
  have lW1:=R0.lt
  clear hb hdep l5 R0 RD bel
  go_upto_region 5 with (first|(refine wpList_store_row rfl 41 _ _ rfl w1.heap.size cs.toArray rfl rfl 41 _ (heap_alloc_last _ _) (by rw [size_tlv,HS5.out]) (by rw [HS5.out];rfl) HO5.out ?_;rw [World.setRow_alloc_new])|fail)
  clear hz
  obtain ⟨g1,hg1⟩:∃ g1,g1=w1.heap.size:=⟨_,rfl⟩
  rw [← hg1] at KB
  generalize w1.alloc (.cells cs.toArray 41)=w2 at *
  rw [← hg1]
  clear hg1
  have r1:=RD1.cell 1 _ rfl
  have lr:=RD1.lt
  obtain ⟨tR,hR⟩:=R1
  have HR1:Hid _:=hR
  clear hR
  by_cases c2:z < B.length
  ·have H:Hid (parseP B=.error (8,z)):=by show _=_;rw [HP.out,if_pos c2]
   have g2:(z:Int) < ((B.length:Nat):Int):=by omega
   go_wp2_with (first|(refine wpList_store_row rfl 41 _ _ rfl w.heap.size #[.int .i64 0,.int .i64 0,.bool false,.slice none 0 0,.slice none 0 0] rfl rfl tR _ HR1.out (by rw [size_tlv];rfl) rfl (by simp [Value.oneCell']) ?_)|fail)
   exact bodyPost_ret (results_row_tmp2 rfl _ _ w.heap.size tR #[.int .i64 0,.int .i64 0,.bool false,.slice none 0 0,.slice none 0 0] (0,0) _ rfl (setRow_heap _ _ _ _ _ _ HR1.out) Tryz.underlying41 rfl (by rw [size_tlv];rfl)) rfl ⟨fun T h=>(by rw [H.out] at h;cases h),fun c p h=>(by rw [H.out] at h;cases h;exact ⟨rfl,below_setRow bel1 (Nat.le_refl _) _⟩)⟩
  ·have H:Hid (parseP B=.ok T):=by show _=_;rw [HP.out,if_neg c2]
   have g2:¬ (z:Int) < ((B.length:Nat):Int):=by omega
   have HD2:Hid (Dep (fun b=>w.heap.size≤b) (w2.setRow w.heap.size cs.toArray) T cs):=Dep.next HDp.out (Agr.row HAg.out (by show ¬ W1.heap.size≤w.heap.size;omega)) (fun b hb _=>by show w.heap.size≤b;omega)
   go_wp2_with (first|(refine wpList_load_run (by rfl) (by rfl) (by rfl) (KB.load Tryz.underlying41 rfl size_tlv HL5.out) ?_)|(refine wpList_store_row rfl 41 _ _ rfl w.heap.size cs.toArray rfl rfl tR _ HR1.out (by rw [size_tlv,HS5.out]) (by rw [HS5.out];rfl) HO5.out ?_)|fail)
   exact bodyPost_ret (results_row_tmp2 rfl _ _ w.heap.size tR cs.toArray (0,0) _ rfl (setRow_heap _ _ _ _ _ _ HR1.out) Tryz.underlying41 rfl (by rw [size_tlv,HS5.out])) rfl ⟨fun T h=>(by rw [H.out] at h;cases h;exact ⟨cs,rfl,HD2.out,below_setRow bel1 (Nat.le_refl _) _⟩),fun c p h=>(by rw [H.out] at h;cases h)⟩
/-- an answer that is no error -/
def okO {α:Type}:Except Nat α→Option α
 | .ok a=>some a
 | .error _=>none
def smlD:Tl→Option Int
 | .mk c t m b _=>if c=0∧t=2∧m=false then okO (smallP b) else none
def bitD:Tl→Option (List Int)
 | .mk c t m b _=>if c=0∧t=3∧m=false then (match bitsP b with|.ok (x,n)=>if n=0 then some x else none|.error _=>none) else none
def isList:Tl→Bool
 | .mk c t m _ _=>decide (c=0∧t=16∧m=true)
def kidsT:Tl→List Tl
 | .mk _ _ _ _ ks=>ks
set_option linter.unusedSimpArgs false in
set_option maxRecDepth 100000 in
set_option maxHeartbeats 400000 in
theorem r16_List {ka:Option Addr} {n kc:Nat} {w:World}:Calls Tryz.prog 22 #[.slice ka n kc] w fun e w'=>e=.returned (.agg #[.int .i64 0,.int .i64 16,.bool true,.slice none 0 0,.slice ka n kc])∧Below w.heap.size w w':=by
 have R0:=Blk.new w [.int .i64 0,.int .i64 0,.bool false,.slice none 0 0,.slice none 0 0] 41 w.heap.size rfl
 have bel:Below w.heap.size w (w.alloc (.cells #[.int .i64 0,.int .i64 0,.bool false,.slice none 0 0,.slice none 0 0] 41)):=(Below.refl _ _).alloc (Nat.le_refl _) _
 have hz:=zero_tlv.out
 go_enter Tryz.func22,Tryz.ntmps22
 go_upto_region 1 with fail
 have lW:=bel.size
 generalize w.alloc (.cells #[.int .i64 0,.int .i64 0,.bool false,.slice none 0 0,.slice none 0 0] 41)=W at *
 obtain ⟨tR,hR⟩:=R0
 have HR1:Hid _:=hR
 clear hR
 go_wp2_with (first|((with_reducible show wpList _ _ _ ({ dst:=_,op:=.store _ _ _,type:=_,pos:=_,after:=_,guard:=_ } :: _) _ _);refine wpList_store_row rfl 41 _ _ rfl w.heap.size #[.int .i64 0,.int .i64 16,.bool true,.slice none 0 0,.slice ka n kc] rfl rfl tR _ HR1.out (by rw [size_tlv];rfl) rfl (by simp [Value.oneCell']) ?_)|fail)
 refine bodyPost_ret (results_cell_row rfl _ _ w.heap.size tR #[.int .i64 0,.int .i64 16,.bool true,.slice none 0 0,.slice ka n kc] (0,0) _ rfl (setRow_heap _ _ _ _ _ _ HR1.out) Tryz.underlying41 rfl (by rw [size_tlv];rfl)) rfl ?_
 exact ⟨rfl,below_setRow bel (by omega) _⟩
set_option linter.unusedSimpArgs false in
set_option maxRecDepth 100000 in
set_option maxHeartbeats 400000 in
theorem r16_IsList {c t:Int} {m:Bool} {b:List Int} {ks:List Tl} {cs:List Value} {w:World} (h:TlAt w (.mk c t m b ks) cs) :
  Calls Tryz.prog 27 #[.agg cs.toArray] w fun e w'=>e=.returned (.bool (isList (.mk c t m b ks)))∧Below w.heap.size w w':=by
 rw [TlAt] at h
 obtain ⟨bv,ka,kc,rfl,hbv,-,-,-⟩:=h
 obtain ⟨ba,bc,rfl,-,-,-⟩:=hbv
 have B0:=Blk.new w [.int .i64 c,.int .i64 t,.bool m,.slice ba b.length bc,.slice ka ks.length kc] 41 w.heap.size rfl
 have bel:Below w.heap.size w (w.alloc (.cells #[.int .i64 c,.int .i64 t,.bool m,.slice ba b.length bc,.slice ka ks.length kc] 41)):=(Below.refl _ _).alloc (Nat.le_refl _) _
 go_enter Tryz.func27,Tryz.ntmps27
 go_upto_region 1 with fail
 generalize w.alloc (.cells #[.int .i64 c,.int .i64 t,.bool m,.slice ba b.length bc,.slice ka ks.length kc] 41)=W at *
 have e0:=B0.cell 0 _ rfl
 have e1:=B0.cell 1 _ rfl
 have e2:=B0.cell 2 _ rfl
 have lt0:=B0.lt
 by_cases c1:c=0
 rotate_left
 ·have H:Hid (isList (.mk c t m b ks)=false):=decide_eq_false (fun h=>c1 h.1)
  have d1:(c == 0)=false:=by rw [beq_eq_false_iff_ne];exact c1
  clear c1
  go_wp2_with fail
  go_ret
  exact ⟨by rw [H.out];rfl,bel⟩
 subst c1
 by_cases c2:t=16
 rotate_left
 ·have H:Hid (isList (.mk 0 t m b ks)=false):=decide_eq_false (fun h=>c2 h.2.1)
  have d2:(t == 16)=false:=by rw [beq_eq_false_iff_ne];exact c2
  clear c2
  go_wp2_with fail
  go_ret
  exact ⟨by rw [H.out];rfl,bel⟩
 subst c2
 cases m
 all_goals
  go_wp2_with fail
  go_ret
  exact ⟨rfl,bel⟩
set_option linter.unusedSimpArgs false in
set_option maxRecDepth 100000 in
set_option maxHeartbeats 400000 in
theorem r16_Oid {v:Value} {L:List Int} {w:World} (hv:Us w v L) (b:wrd L) :
  Calls Tryz.prog 44 #[v] w fun e w'=>∃ cs:List Value,e=.returned (.agg cs.toArray)∧Dep (fun g=>w.heap.size≤g) w' (oidT L) cs∧Below w.heap.size w w':=by
 have HV:Hid (Us w v L):=hv
 obtain ⟨ao,cap,rfl,-,-,-⟩:=hv
 have R0:=Blk.new w [.int .i64 0,.int .i64 0,.bool false,.slice none 0 0,.slice none 0 0] 41 w.heap.size rfl
 have bel:Below w.heap.size w (w.alloc (.cells #[.int .i64 0,.int .i64 0,.bool false,.slice none 0 0,.slice none 0 0] 41)):=(Below.refl _ _).alloc (Nat.le_refl _) _
 have hz:=zero_tlv.out
 go_enter Tryz.func44,Tryz.ntmps44
 go_upto_region 1 with fail
 have lW:=bel.size
 generalize w.alloc (.cells #[.int .i64 0,.int .i64 0,.bool false,.slice none 0 0,.slice none 0 0] 41)=W at *
 have lR:=R0.lt
 go_wp2_with fail
 refine (r13_OidOfN (HV.out.later bel) b).mono ?_
 rintro e w1 ⟨hok,hbad⟩
 have HX:∃ (ba:Option Addr) (n bc:Nat) (cc:Int),e=.returned (.tuple #[.slice ba n bc,.int .i64 cc])∧Hid (Dep (fun g=>W.heap.size≤g) w1 (oidT L) [.int .i64 0,.int .i64 6,.bool false,.slice ba n bc,.slice none 0 0])∧Below W.heap.size W w1:=by
  cases ho:oidOf L with
  | ok X =>
   obtain ⟨v',rfl,h1,h2,hb⟩:=hok X ho
   have hd:=leaf_new h1 h2 0 6 false
   obtain ⟨ba,bc,rfl,-,-,-⟩:=id h1
   exact ⟨ba,_,bc,0,rfl,by show Dep _ _ _ _;unfold oidT;rw [ho];exact hd,hb⟩
  | error c =>
   obtain ⟨rfl,hb⟩:=hbad c ho
   exact ⟨none,0,0,_,rfl,by show Dep _ _ _ _;unfold oidT;rw [ho];exact leaf_new (b:=[]) ⟨none,0,rfl,Nat.zero_le _,Nat.zero_le _,fun h=>absurd h (Nat.lt_irrefl 0)⟩ (fun a m c e=>by cases e) 0 6 false,hb⟩
 obtain ⟨ba,n,bc,cc,rfl,HD,hb⟩:=HX
 replace R0:=R0.later hb
 replace bel:=below_step bel hb
 clear hok hbad hb
 obtain ⟨tR,hR⟩:=R0
 have HR1:Hid _:=hR
 clear hR
 go_wp2_with (first|((with_reducible show wpList _ _ _ ({ dst:=_,op:=.store _ _ _,type:=_,pos:=_,after:=_,guard:=_ } :: _) _ _);refine wpList_store_row rfl 41 _ _ rfl w.heap.size #[.int .i64 0,.int .i64 6,.bool false,.slice ba n bc,.slice none 0 0] rfl rfl tR _ HR1.out (by rw [size_tlv];rfl) rfl (by simp [Value.oneCell']) ?_)|fail)
 refine bodyPost_ret (results_cell_row rfl _ _ w.heap.size tR #[.int .i64 0,.int .i64 6,.bool false,.slice ba n bc,.slice none 0 0] (0,0) _ rfl (setRow_heap _ _ _ _ _ _ HR1.out) Tryz.underlying41 rfl (by rw [size_tlv];rfl)) rfl ?_
 exact ⟨_,rfl,dep_ret HD.out lR lW,below_setRow bel (by omega) _⟩
set_option linter.unusedSimpArgs false in
set_option maxRecDepth 100000 in
set_option maxHeartbeats 400000 in
theorem r16_Algorithm {w:World}:Calls Tryz.prog 20 #[] w fun e w'=>∃ cs:List Value,e=.returned (.agg cs.toArray)∧Dep (fun g=>w.heap.size≤g) w' algT cs∧Below w.heap.size w w':=by
 have R0:=Blk.new w [.int .i64 0,.int .i64 0,.bool false,.slice none 0 0,.slice none 0 0] 41 w.heap.size rfl
 have bel:Below w.heap.size w (w.alloc (.cells #[.int .i64 0,.int .i64 0,.bool false,.slice none 0 0,.slice none 0 0] 41)):=(Below.refl _ _).alloc (Nat.le_refl _) _
 have hz:=zero_tlv.out
 go_enter Tryz.func20,Tryz.ntmps20
 go_upto_region 1 with fail
 have lW:=bel.size
 generalize w.alloc (.cells #[.int .i64 0,.int .i64 0,.bool false,.slice none 0 0,.slice none 0 0] 41)=W at *
 clear hz
 have lR:=R0.lt
 obtain ⟨N0,hN0⟩:∃ n,n=W.heap.size:=⟨_,rfl⟩
 have st:Below W.heap.size W W:=Below.refl _ _
 rw [← hN0] at lR lW
 obtain ⟨jt,hjt,ht0,ht1,ht2⟩:=info_partsD info_tlv
 have HU1:Hid (Us (W.alloc (.cells #[.int .u64 1,.int .u64 2,.int .u64 840,.int .u64 10045,.int .u64 4,.int .u64 3,.int .u64 3] 23)) (.slice (some ⟨W.heap.size,0,none⟩) 7 7) [1,2,840,10045,4,3,3]):=us_blk (Blk.new W (us [1,2,840,10045,4,3,3]) 23 W.heap.size rfl) rfl (by decide)
 replace R0:=R0.alloc (.cells #[.int .u64 1,.int .u64 2,.int .u64 840,.int .u64 10045,.int .u64 4,.int .u64 3,.int .u64 3] 23)
 replace st:=below_alloc (o:=.cells #[.int .u64 1,.int .u64 2,.int .u64 840,.int .u64 10045,.int .u64 4,.int .u64 3,.int .u64 3] 23) st
 replace bel:=below_alloc (o:=.cells #[.int .u64 1,.int .u64 2,.int .u64 840,.int .u64 10045,.int .u64 4,.int .u64 3,.int .u64 3] 23) bel
 go_wp2_with fail
 refine (r16_Oid HU1.out (wrd_mem (by decide))).mono ?_
 rintro e w1 ⟨cs,rfl,hd1,hb⟩
 have HD1:Hid (Dep (fun g=>N0≤g) w1 (oidT [1,2,840,10045,4,3,3]) cs):=hd1.next (Agr.refl _ _) (fun _ h _=>by rw [hN0];exact Nat.le_trans st.size h)
 have HL1:Hid (cs.length=5):=hd1.now.five
 replace R0:=R0.later hb
 replace st:=below_step st hb
 replace bel:=below_step bel hb
 clear hd1
 have HF:Hid _:=fill_5 HL1.out
 have HT:Hid (Dep (fun g=>N0≤g) (w1.alloc (.cells cs.toArray 41)) algT [.int .i64 0,.int .i64 16,.bool true,.slice none 0 0,.slice (some ⟨w1.heap.size,0,none⟩) 1 1]):=list_dep (ks:=[oidT [1,2,840,10045,4,3,3]]) HL1.out (by rw [hN0];exact st.size) (by decide) (one_kid (P:=Dep (fun g=>N0≤g) w1) HD1.out HL1.out) 0 16 true
 replace R0:=R0.alloc (.cells cs.toArray 41)
 replace bel:=below_alloc (o:=.cells cs.toArray 41) bel
 have hz:=zero_tlv.out
 obtain ⟨tR,hR⟩:=R0
 have HR1:Hid _:=hR
 clear hR
 go_wp2_with (first|((with_reducible show wpList _ _ _ ({ dst:=_,op:=.buildSlice _ _ _,type:=_,pos:=_,after:=_,guard:=_ } :: _) _ _);refine Go.wpList_buildSlice rfl 39 41 1 _ rfl cs.toArray jt _ Tryz.underlying39 hjt ht0 (by rw [ht1];decide) (by rw [ht1];decide) (by rw [ht1];refine (congrArg _ (?_:_=[(0,Value.agg cs.toArray)])).trans HF.out;kernel_rfl) ?_)|((with_reducible show wpList _ _ _ ({ dst:=_,op:=.store _ _ _,type:=_,pos:=_,after:=_,guard:=_ } :: _) _ _);refine wpList_store_row rfl 41 _ _ rfl w.heap.size #[.int .i64 0,.int .i64 16,.bool true,.slice none 0 0,.slice (some ⟨w1.heap.size,0,none⟩) 1 1] rfl rfl tR _ HR1.out (by rw [size_tlv];rfl) rfl (by simp [Value.oneCell']) ?_)|fail)
 refine bodyPost_ret (results_cell_row rfl _ _ w.heap.size tR #[.int .i64 0,.int .i64 16,.bool true,.slice none 0 0,.slice (some ⟨w1.heap.size,0,none⟩) 1 1] (0,0) _ rfl (setRow_heap _ _ _ _ _ _ HR1.out) Tryz.underlying41 rfl (by rw [size_tlv];rfl)) rfl ?_
 exact ⟨_,rfl,dep_ret HT.out lR lW,below_setRow bel (by omega) _⟩
theorem size_sgC:(Tryz.prog.info? 27).map (·.size)=some 12:=by kernel_rfl
/-- what Sealed tells -/
def SealR (w:World) (B:List Int) (r s:Int) (pl:Bool) (e:Ending) (w':World):Prop:=Below w.heap.size w w'∧(∀ c p,parseP B=.error (c,p)→e=.returned (.tuple #[.slice none 0 0,.int .i64 (c:Int),.int .i64 (atP c p)]))∧(∀ T,parseP B=.ok T→¬ (isSc r∧isSc s)→e=.returned (.tuple #[.slice none 0 0,.int .i64 3,.int .i64 (-1)]))∧(∀ T,parseP B=.ok T→isSc r∧isSc s→∃ (v:Value) (X Y x y:List Int),SigB r s X Y x y∧e=.returned (.tuple #[v,.int .i64 ((wrN (sealP pl T (bytesT (sigT x y))):Nat):Int),.int .i64 (-1)])∧Bs w' v (wrB (sealP pl T (bytesT (sigT x y)))))
theorem SealR.bad {w w':World} {B:List Int} {r s:Int} {pl:Bool} {c p:Nat} (h:parseP B=.error (c,p)) (hb:Below w.heap.size w w'):SealR w B r s pl (.returned (.tuple #[.slice none 0 0,.int .i64 (c:Int),.int .i64 (atP c p)])) w':=⟨hb,fun c' p' k=>(by rw [h] at k;cases k;rfl),fun T k=>(by rw [h] at k;cases k),fun T k=>(by rw [h] at k;cases k)⟩
theorem SealR.no {w w':World} {B:List Int} {r s:Int} {pl:Bool} {T:Tl} (h:parseP B=.ok T) (hn:¬ (isSc r∧isSc s)) (hb:Below w.heap.size w w'):SealR w B r s pl (.returned (.tuple #[.slice none 0 0,.int .i64 3,.int .i64 (-1)])) w':=⟨hb,fun c' p' k=>(by rw [h] at k;cases k),fun _ _ _=>rfl,fun _ _ k=>absurd k hn⟩
theorem SealR.yes {w w':World} {B:List Int} {r s:Int} {pl:Bool} {T:Tl} {v:Value} {X Y x y:List Int} (h:parseP B=.ok T) (hn:isSc r∧isSc s) (hx:SigB r s X Y x y) (hv:Bs w' v (wrB (sealP pl T (bytesT (sigT x y))))) (hb:Below w.heap.size w w'):SealR w B r s pl (.returned (.tuple #[v,.int .i64 ((wrN (sealP pl T (bytesT (sigT x y))):Nat):Int),.int .i64 (-1)])) w':=⟨hb,fun c' p' k=>(by rw [h] at k;cases k),fun _ _ k=>absurd hn k,fun T' k _=>(by rw [h] at k;cases k;exact ⟨v,X,Y,x,y,hx,rfl,hv⟩)⟩
set_option linter.unusedSimpArgs false in
set_option maxRecDepth 100000 in
set_option maxHeartbeats 4000000 in
theorem r17_Sealed {v:Value} {B:List Int} {rs ss:List Value} {r s:Int} {pl:Bool} {w:World} (hv:Bs w v B) (b:byt B) (hr:U6 rs r) (hs:U6 ss s) :
  Calls Tryz.prog 7 #[v,.agg (rs++ss).toArray,.bool pl] w (SealR w B r s pl):=by
 have HV:Hid (Bs w v B):=hv
 have HY:Hid (byt B):=b
 obtain ⟨va,vc,rfl,-,-,-⟩:=hv
 obtain ⟨BL,hBL⟩:∃ z,B.length=z:=⟨_,rfl⟩
 rw [hBL] at HV ⊢
 have HR:Hid (U6 rs r):=hr
 have HS:Hid (U6 ss s):=hs
 obtain ⟨ts,hts⟩:∃ ts,rs++ss=ts:=⟨_,rfl⟩
 have HT:Hid (rs++ss=ts):=hts
 have HLt:Hid (ts.length=12):=by show _=_;rw [← hts,List.length_append,hr.len,hs.len]
 rw [hts]
 have B0:=Blk.new w ts 27 w.heap.size rfl
 have bel:Below w.heap.size w (w.alloc (.cells ts.toArray 27)):=(Below.refl _ _).alloc (Nat.le_refl _) _
 go_enter Tryz.func7,Tryz.ntmps7
 go_upto_region 1 with fail
 generalize w.alloc (.cells ts.toArray 27)=W at *
 clear hts hr hs hBL
 obtain ⟨N0,hN0⟩:∃ n,n=W.heap.size:=⟨_,rfl⟩
 have lN:w.heap.size < N0:=by rw [hN0];exact B0.lt
 have hs:N0≤W.heap.size:=by omega
 clear hN0
 obtain ⟨jt,hjt,ht0,ht1,ht2⟩:=info_partsD info_tlv
 go_wp2_with fail
 refine (r12_Parse (HV.out.later bel) HY.out).mono ?_
 rintro e w1 ⟨hok,hbad⟩
 cases hp:parseP B with
 | error q =>
  obtain ⟨c,p⟩:=q
  obtain ⟨rfl,hb⟩:=hbad c p hp
  have H:Hid (parseP B=.error (c,p)):=hp
  have hc0:¬ (c:Int)=0:=by rcases parse_bad hp with k|k|k|k|k<;>omega
  have d1:((c:Int) == 0)=false:=by rw [beq_eq_false_iff_ne];exact hc0
  have d2:((c:Int) != 0)=true:=by rw [bne,d1];rfl
  replace bel:=below_step bel hb
  clear hb hok hbad hp hc0
  obtain ⟨ap,hap⟩:∃ z,atP c p=z:=⟨_,rfl⟩
  have HAp:Hid (atP c p=ap):=hap
  rw [hap]
  clear hap
  have hz:=zero_tlv.out
  replace bel:=below_alloc (o:=.cells #[.int .i64 0,.int .i64 0,.bool false,.slice none 0 0,.slice none 0 0] 41) bel
  go_upto_region 2 with (first|((with_reducible show wpList _ _ _ ({ dst:=_,op:=.store _ _ _,type:=_,pos:=_,after:=_,guard:=_ } :: _) _ _);refine wpList_store_row rfl 41 _ _ rfl w1.heap.size #[.int .i64 0,.int .i64 0,.bool false,.slice none 0 0,.slice none 0 0] rfl rfl 41 _ (heap_alloc_last _ _) (by rw [size_tlv];rfl) rfl (by simp [Value.oneCell']) ?_;rw [World.setRow_alloc_new])|fail)
  generalize w1.alloc (.cells #[.int .i64 0,.int .i64 0,.bool false,.slice none 0 0,.slice none 0 0] 41)=V1 at *
  go_wp2_with fail
  refine bodyPost_ret (results_tmp3 rfl _ _ _) rfl ?_
  rw [← HAp.out]
  exact SealR.bad H.out bel
 | ok T =>
  obtain ⟨ds,rfl,hd,hb⟩:=hok T hp
  have H:Hid (parseP B=.ok T):=hp
  have HD:Hid (Dep (fun g=>N0≤g) w1 T ds):=hd.next (Agr.refl _ _) (fun _ h _=>Nat.le_trans hs h)
  have HL5:Hid (ds.length=5):=HD.out.now.five
  have HO5:Hid (OneC ds):=HD.out.now.ones
  have HS5:Hid (ds.toArray.size=5):=by show _=_;rw [List.size_toArray];exact HL5.out
  replace B0:=B0.later hb
  replace bel:=below_step bel hb
  replace hs:N0≤w1.heap.size:=Nat.le_trans hs hb.size
  clear hb hok hbad hp hd
  have hz:=zero_tlv.out
  have Q1:=Blk.new w1 ds 41 w1.heap.size rfl
  have hb:Below w1.heap.size w1 (w1.alloc (.cells ds.toArray 41)):=(Below.refl _ _).alloc (Nat.le_refl _) _
  replace HD:Hid (Dep (fun g=>N0≤g) (w1.alloc (.cells ds.toArray 41)) T ds):=HD.out.next (Agr.below hb) (fun _ h _=>h)
  replace B0:=B0.later hb
  replace bel:=below_step bel hb
  replace hs:N0≤(w1.alloc (.cells ds.toArray 41)).heap.size:=Nat.le_trans hs hb.size
  clear hb
  go_upto_region 2 with (first|((with_reducible show wpList _ _ _ ({ dst:=_,op:=.store _ _ _,type:=_,pos:=_,after:=_,guard:=_ } :: _) _ _);refine wpList_store_row rfl 41 _ _ rfl w1.heap.size ds.toArray rfl rfl 41 _ (heap_alloc_last _ _) (by rw [size_tlv,HS5.out]) (by rw [HS5.out];rfl) HO5.out ?_;rw [World.setRow_alloc_new])|fail)
  clear hz HS5
  obtain ⟨g1,hg9⟩:∃ g,g=w1.heap.size:=⟨_,rfl⟩
  rw [← hg9] at Q1 ⊢
  generalize w1.alloc (.cells ds.toArray 41)=V1 at *
  clear hg9
  have hld:(loadVar 27 ⟨w.heap.size,0,none⟩).run Tryz.prog V1=.ok (.agg ts.toArray) V1:=B0.load Tryz.underlying27 rfl size_sgC HLt.out
  have l0:=B0.lt
  go_wp2_with (first|((with_reducible show wpList _ _ _ ({ dst:=_,op:=.load _ _,type:=_,pos:=_,after:=_,guard:=_ } :: _) _ _);refine wpList_load_run (by rfl) (by rfl) (by rfl) hld ?_)|fail)
  have cv:=r14_Encode (w:=V1) HR.out HS.out
  rw [HT.out] at cv
  refine cv.mono ?_
  rintro e w3 ⟨hb,hno,hyes⟩
  replace HD:Hid (Dep (fun g=>N0≤g) w3 T ds):=HD.out.next (Agr.below hb) (fun _ h _=>h)
  replace B0:=B0.later hb
  replace Q1:=Q1.later hb
  replace bel:=below_step bel hb
  replace hs:N0≤w3.heap.size:=Nat.le_trans hs hb.size
  clear hb cv hld l0
  by_cases hsc:isSc r∧isSc s
  rotate_left
  ·obtain rfl:=hno hsc
   have Hn:Hid (¬ (isSc r∧isSc s)):=hsc
   clear hno hyes hsc
   go_wp2_with fail
   refine bodyPost_ret (results_tmp3 rfl _ _ _) rfl ?_
   exact SealR.no H.out Hn.out bel
  obtain ⟨sv,X,Y,x,y,hsb,rfl,hsv⟩:=hyes hsc
  have Hsc:Hid (isSc r∧isSc s):=hsc
  have HSB:Hid (SigB r s X Y x y):=hsb
  obtain ⟨sg,hsg⟩:∃ z,bytesT (sigT x y)=z:=⟨_,rfl⟩
  have HSg:Hid (bytesT (sigT x y)=sg):=hsg
  rw [hsg] at hsv
  have HSl:Hid (sg.length≤200):=by
   obtain ⟨hX,hY,hx,hy⟩:=hsb
   obtain ⟨x',e1,l1⟩:=num48 hX.1
   obtain ⟨y',e2,l2⟩:=num48 hY.1
   rw [hx] at e1
   rw [hy] at e2
   cases e1
   cases e2
   rw [← hsg]
   exact sig_len l1 l2
  have HSv:Hid (Bs w3 sv sg):=hsv
  obtain ⟨sa,sc,hvv,-,-,-⟩:=id hsv
  obtain ⟨SL,hSL⟩:∃ z,sg.length=z:=⟨_,rfl⟩
  have HSL:Hid (sg.length=SL):=hSL
  rw [hSL] at hvv
  subst hvv
  clear hno hyes hsc hsb hsg hsv hSL
  have hld:(loadVar 41 ⟨g1,0,none⟩).run Tryz.prog w3=.ok (.agg ds.toArray) w3:=Q1.load Tryz.underlying41 rfl size_tlv HL5.out
  have l0:=Q1.lt
  have HRw:Hid (RwT (w3.alloc (.cells ds.toArray 41)) N0 (.slice (some ⟨w3.heap.size,0,none⟩) 1 1) [T]):=RwT.lit HD.out HL5.out hs
  have HF:Hid _:=fill_5 HL5.out
  have hz:=zero_tlv.out
  have hb:Below w3.heap.size w3 (w3.alloc (.cells ds.toArray 41)):=(Below.refl _ _).alloc (Nat.le_refl _) _
  replace B0:=B0.later hb
  replace bel:=below_step bel hb
  have st3:Below w3.heap.size w3 (w3.alloc (.cells ds.toArray 41)):=hb
  replace hs:N0≤(w3.alloc (.cells ds.toArray 41)).heap.size:=Nat.le_trans hs hb.size
  clear hb HD
  go_upto_region 8 with (first|((with_reducible show wpList _ _ _ ({ dst:=_,op:=.load _ _,type:=_,pos:=_,after:=_,guard:=_ } :: _) _ _);refine wpList_load_run (by rfl) (by rfl) (by rfl) hld ?_)|((with_reducible show wpList _ _ _ ({ dst:=_,op:=.buildSlice _ _ _,type:=_,pos:=_,after:=_,guard:=_ } :: _) _ _);refine Go.wpList_buildSlice rfl 39 41 1 _ rfl ds.toArray jt _ Tryz.underlying39 hjt ht0 (by rw [ht1];decide) (by rw [ht1];decide) (by rw [ht1];refine (congrArg _ (?_:_=[(0,Value.agg ds.toArray)])).trans HF.out;kernel_rfl) ?_)|fail)
  clear hz HF HL5 HO5 hld l0 Q1
  obtain ⟨g3,hg3⟩:∃ g,g=w3.heap.size:=⟨_,rfl⟩
  have hg3l:w3.heap.size≤g3:=by omega
  rw [← hg3] at HRw ⊢
  generalize w3.alloc (.cells ds.toArray 41)=V3 at *
  clear hg3
  cases pl with
  | true =>
   go_upto_region 10 with fail
   have ow0:(V3.alloc (.cells (u8s [0]).toArray 5)).ownsRow V3.heap.size 5 1 (.slice (some ⟨V3.heap.size,0,none⟩) 1 1) 1 (u8s [0]):=own_made V3 (u8s [0]) 5 1 V3.heap.size rfl (Nat.le_refl _) (by decide)
   have HPb2:Hid (Bs (V3.alloc (.cells (u8s [0]).toArray 5)) (.slice sa SL sc) sg):=(HSv.out.later st3).later ((Below.refl _ _).alloc (Nat.le_refl _) _)
   have hz:=zero_tlv.out
   have HKb:Hid (∀ b,(Value.slice (some ⟨g3,0,none⟩) 1 1).ownBlock=some b→b < V3.heap.size):=HRw.out.lt
   have hsl:=HSl.out
   go_wp2_with (first|(at_builtin;refine wpList_append_bs (by rfl) _ _ (by rfl) V3.heap.size _ 1 [0] (by rfl) ow0 _ sg (by rfl) HPb2.out (by omega) (by simp) ?_;intro v8 we own8 hgrow hat;rw [HSL.out] at own8;obtain ⟨fa,fc,hfv⟩:=own_slC own8;subst hfv;have HOw8:Hid _:=own8;have hb:Below V3.heap.size V3 we:=Below.grown ((Below.refl _ _).alloc (Nat.le_refl _) _) hgrow (by simp) (fun k hk=>(own_geK ow0 hk).1);have bel2:=below_step bel hb;have hs2:N0≤we.heap.size:=Nat.le_trans hs hb.size;have hb9:Below we.heap.size we (we.alloc (.cells #[Value.int .i64 0,Value.int .i64 3,Value.bool false,Value.slice fa (1 + SL) fc,Value.slice none 0 0] 41)):=(Below.refl _ _).alloc (Nat.le_refl _) _;have HR9:Hid (RwT (we.alloc (.cells #[Value.int .i64 0,Value.int .i64 3,Value.bool false,Value.slice fa (1 + SL) fc,Value.slice none 0 0] 41)) N0 (Value.slice (some ⟨g3,0,none⟩) 1 1) [T]):=(HRw.out.later hb).later hb9;have B9:=Blk.new we [Value.int .i64 0,Value.int .i64 3,Value.bool false,Value.slice fa (1 + SL) fc,Value.slice none 0 0] 41 we.heap.size rfl;have hDl:Dep (fun b=>V3.heap.size≤b) we (Tl.mk 0 3 false (0 :: sg) []) [Value.int .i64 0,Value.int .i64 3,Value.bool false,Value.slice fa (1 + SL) fc,Value.slice none 0 0]:=leaf_own (S:=fun b=>V3.heap.size≤b) HOw8.out (by rw [List.length_append,HSL.out];rfl) (fun g hg=>(own_geK HOw8.out hg).1) 0 3 false;have HD9:Hid (Dep (fun b=>N0≤b∧(Value.slice (some ⟨g3,0,none⟩) 1 1).ownBlock≠some b) (we.alloc (.cells #[Value.int .i64 0,Value.int .i64 3,Value.bool false,Value.slice fa (1 + SL) fc,Value.slice none 0 0] 41)) (Tl.mk 0 3 false (0 :: sg) []) [Value.int .i64 0,Value.int .i64 3,Value.bool false,Value.slice fa (1 + SL) fc,Value.slice none 0 0]):=hDl.next (Agr.below hb9) (fun b h9 _=>⟨Nat.le_trans hs h9,fun e9=>by have:=HKb.out b e9;omega⟩);have bel3:=below_step bel2 hb9;have hs3:N0≤((we.alloc (.cells #[Value.int .i64 0,Value.int .i64 3,Value.bool false,Value.slice fa (1 + SL) fc,Value.slice none 0 0] 41))).heap.size:=Nat.le_trans hs2 hb9.size;have HF9:Hid _:=fill_5 (cs:=[Value.int .i64 0,Value.int .i64 3,Value.bool false,Value.slice fa (1 + SL) fc,Value.slice none 0 0]) rfl;clear hgrow hat own8 hb hDl)|((with_reducible show wpList _ _ _ ({ dst:=_,op:=.buildSlice _ _ _,type:=_,pos:=_,after:=_,guard:=_ } :: _) _ _);refine Go.wpList_buildSlice rfl 39 41 1 _ rfl #[Value.int .i64 0,Value.int .i64 3,Value.bool false,Value.slice fa (1 + SL) fc,Value.slice none 0 0] jt _ Tryz.underlying39 hjt ht0 (by rw [ht1];decide) (by rw [ht1];decide) (by rw [ht1];refine (congrArg _ (?_:_=[(0,Value.agg #[Value.int .i64 0,Value.int .i64 3,Value.bool false,Value.slice fa (1 + SL) fc,Value.slice none 0 0])])).trans HF9.out;kernel_rfl) ?_)|(at_builtin;refine wpList_append_tlv (by rfl) _ _ (by rfl) N0 (Value.slice (some ⟨g3,0,none⟩) 1 1) [T] (by rfl) HR9.out we.heap.size (by rfl) [Value.int .i64 0,Value.int .i64 3,Value.bool false,Value.slice fa (1 + SL) fc,Value.slice none 0 0] B9 rfl (by simp [OneC,Value.oneCell']) (Tl.mk 0 3 false (0 :: sg) []) HD9.out (by show 1≤1000000;omega) hs3 ?_;intro kv9 w9 hr9 hgrow9 hge9 hat9)|fail)
   have hszb:=bel3.size
   have bel4:=Below.grown bel3 hgrow9 hszb (fun k hk=>by have:=hge9 k hk;omega)
   obtain ⟨ka9,kc9,hkv⟩:=hr9.sl
   subst hkv
   obtain ⟨K9,hK9⟩:∃ z,([T]++[Tl.mk 0 3 false (0 :: sg) []]).length=z:=⟨_,rfl⟩
   have HDl:Hid (Dep (fun g=>N0≤g) w9 (sealP true T sg) [.int .i64 0,.int .i64 16,.bool true,.slice none 0 0,.slice ka9 ([T]++[Tl.mk 0 3 false (0 :: sg) []]).length kc9]):=hr9.dep 0 16 true
   rw [hK9] at HDl ⊢
   clear hgrow9 hge9 hat9 hr9 hK9 HR9 HD9 B9 HF9 hz
   refine r16_List.mono ?_
   rintro e y1 ⟨rfl,hb⟩
   have HT8:Hid (TlAt y1 (sealP true T sg) [.int .i64 0,.int .i64 16,.bool true,.slice none 0 0,.slice ka9 K9 kc9]):=(HDl.out.next (Agr.below hb) (fun _ h _=>h):Dep (fun g=>N0≤g) _ _ _).now
   replace bel4:=below_step bel4 hb
   clear hb HDl
   have HZ:Hid (Sm 1050000 (sealP true T sg)):=sm_seal HY.out H.out HSl.out
   go_wp2_with fail
   refine (r12_Write (by have:=HZ.out.2;omega) (fun _=>by have:=HZ.out.1;omega) HT8.out).mono ?_
   rintro e y2 ⟨v9,rfl,hw,hw2,hb⟩
   have HBd:Hid (Bs y2 v9 (wrB (sealP true T sg))):=by
    show Bs y2 v9 (wrB (sealP true T sg))
    unfold wrB
    by_cases k9:wrN (sealP true T sg)=0
    ·rw [if_pos k9];exact Bs.of_own (hw k9)
    ·rw [if_neg k9,hw2 k9];exact ⟨none,0,rfl,Nat.zero_le _,Nat.zero_le _,fun h=>absurd h (Nat.lt_irrefl 0)⟩
   replace bel4:=below_step bel4 hb
   clear hw hw2 hb HT8 HZ
   go_wp2_with fail
   refine bodyPost_ret (results_tmp3 rfl _ _ _) rfl ?_
   have HW9:Hid (sealP true T (bytesT (sigT x y))=sealP true T sg):=by show _=_;rw [HSg.out]
   rw [← HW9.out]
   exact SealR.yes H.out Hsc.out HSB.out (by rw [HSg.out];exact HBd.out) bel4
  | false =>
   go_wp2_with fail
   refine r16_Algorithm.mono ?_
   rintro e w5 ⟨ds,rfl,hd,hb⟩
   have HD:Hid (Dep (fun g=>V3.heap.size≤g) w5 algT ds):=hd
   have HL5:Hid (ds.length=5):=HD.out.now.five
   have HO5:Hid (OneC ds):=HD.out.now.ones
   have HKa:Hid (∀ b,(Value.slice (some ⟨g3,0,none⟩) 1 1).ownBlock=some b→b < V3.heap.size):=HRw.out.lt
   replace HRw:Hid (RwT w5 N0 (.slice (some ⟨g3,0,none⟩) 1 1) [T]):=HRw.out.later hb
   have hs0:N0≤V3.heap.size:=hs
   replace B0:=B0.later hb
   replace bel:=below_step bel hb
   replace st3:=below_step st3 hb
   have hs1:N0≤w5.heap.size:=Nat.le_trans hs hb.size
   clear hb hd hs
   have HF9:Hid _:=fill_5 HL5.out
   have hz:=zero_tlv.out
   have B9:=Blk.new w5 ds 41 w5.heap.size rfl
   have st9:Below w5.heap.size w5 (w5.alloc (.cells ds.toArray 41)):=(Below.refl _ _).alloc (Nat.le_refl _) _
   have HD9:Hid (Dep (fun b=>N0≤b∧(Value.slice (some ⟨g3,0,none⟩) 1 1).ownBlock≠some b) (w5.alloc (.cells ds.toArray 41)) (algT) ds):=HD.out.next (Agr.below st9) (fun b hb _=>⟨by omega,fun e=>by have:=HKa.out b e;omega⟩)
   have HR9:Hid (RwT (w5.alloc (.cells ds.toArray 41)) N0 (Value.slice (some ⟨g3,0,none⟩) 1 1) [T]):=HRw.out.later st9
   have hs9:N0≤((w5.alloc (.cells ds.toArray 41))).heap.size:=Nat.le_trans hs1 st9.size
   replace B0:=B0.later st9
   replace bel:=below_step bel st9
   replace st3:=below_step st3 st9
   go_upto_region 10 with (first|((with_reducible show wpList _ _ _ ({ dst:=_,op:=.buildSlice _ _ _,type:=_,pos:=_,after:=_,guard:=_ } :: _) _ _);refine Go.wpList_buildSlice rfl 39 41 1 _ rfl ds.toArray jt _ Tryz.underlying39 hjt ht0 (by rw [ht1];decide) (by rw [ht1];decide) (by rw [ht1];refine (congrArg _ (?_:_=[(0,Value.agg ds.toArray)])).trans HF9.out;kernel_rfl) ?_)|(at_builtin;refine wpList_append_tlv (by rfl) _ _ (by rfl) N0 (Value.slice (some ⟨g3,0,none⟩) 1 1) [T] (by rfl) HR9.out w5.heap.size (by rfl) ds B9 HL5.out HO5.out (algT) HD9.out (by show 1≤1000000;omega) hs9 ?_;intro kv8 w8 hr9 hgrow9 hge9 hat9)|fail)
   have hsz9:=bel.size
   replace B0:=B0.grown hgrow9 (fun k hk e=>by have:=hge9 k hk;omega)
   replace bel:=Below.grown bel hgrow9 hsz9 (fun k hk=>by have:=hge9 k hk;omega)
   have hs10:N0≤w8.heap.size:=Nat.le_trans hs9 hgrow9.size
   have hzB:=st3.size
   replace st3:=Below.grown st3 hgrow9 hzB (fun k hk=>by simp only [Value.ownBlock,Option.some.injEq] at hk;omega)
   clear hzB hgrow9 hge9 hat9 hs9 B9 HR9 HD9 HF9 hz hsz9 st9
   obtain ⟨ka8,kc8,hkv⟩:=hr9.sl
   replace hkv:kv8=.slice ka8 2 kc8:=hkv
   subst hkv
   have HRv:Hid (RwT w8 N0 (.slice ka8 2 kc8) [T,algT]):=hr9
   have hs:N0≤w8.heap.size:=hs10
   clear hr9 hs10 HRw HD HL5 HO5 HKa hs0 hs1
   have ow0:(w8.alloc (.cells (u8s [0]).toArray 5)).ownsRow w8.heap.size 5 1 (.slice (some ⟨w8.heap.size,0,none⟩) 1 1) 1 (u8s [0]):=own_made w8 (u8s [0]) 5 1 w8.heap.size rfl (Nat.le_refl _) (by decide)
   have HPb2:Hid (Bs (w8.alloc (.cells (u8s [0]).toArray 5)) (.slice sa SL sc) sg):=(HSv.out.later st3).later ((Below.refl _ _).alloc (Nat.le_refl _) _)
   have hz:=zero_tlv.out
   have HKb:Hid (∀ b,(Value.slice ka8 2 kc8).ownBlock=some b→b < w8.heap.size):=HRv.out.lt
   have hsl:=HSl.out
   go_wp2_with (first|(at_builtin;refine wpList_append_bs (by rfl) _ _ (by rfl) w8.heap.size _ 1 [0] (by rfl) ow0 _ sg (by rfl) HPb2.out (by omega) (by simp) ?_;intro v8 we own8 hgrow hat;rw [HSL.out] at own8;obtain ⟨fa,fc,hfv⟩:=own_slC own8;subst hfv;have HOw8:Hid _:=own8;have hb:Below w8.heap.size w8 we:=Below.grown ((Below.refl _ _).alloc (Nat.le_refl _) _) hgrow (by simp) (fun k hk=>(own_geK ow0 hk).1);have bel2:=below_step bel hb;have hs2:N0≤we.heap.size:=Nat.le_trans hs hb.size;have hb9:Below we.heap.size we (we.alloc (.cells #[Value.int .i64 0,Value.int .i64 3,Value.bool false,Value.slice fa (1 + SL) fc,Value.slice none 0 0] 41)):=(Below.refl _ _).alloc (Nat.le_refl _) _;have HR9:Hid (RwT (we.alloc (.cells #[Value.int .i64 0,Value.int .i64 3,Value.bool false,Value.slice fa (1 + SL) fc,Value.slice none 0 0] 41)) N0 (Value.slice ka8 2 kc8) [T,algT]):=(HRv.out.later hb).later hb9;have B9:=Blk.new we [Value.int .i64 0,Value.int .i64 3,Value.bool false,Value.slice fa (1 + SL) fc,Value.slice none 0 0] 41 we.heap.size rfl;have hDl:Dep (fun b=>w8.heap.size≤b) we (Tl.mk 0 3 false (0 :: sg) []) [Value.int .i64 0,Value.int .i64 3,Value.bool false,Value.slice fa (1 + SL) fc,Value.slice none 0 0]:=leaf_own (S:=fun b=>w8.heap.size≤b) HOw8.out (by rw [List.length_append,HSL.out];rfl) (fun g hg=>(own_geK HOw8.out hg).1) 0 3 false;have HD9:Hid (Dep (fun b=>N0≤b∧(Value.slice ka8 2 kc8).ownBlock≠some b) (we.alloc (.cells #[Value.int .i64 0,Value.int .i64 3,Value.bool false,Value.slice fa (1 + SL) fc,Value.slice none 0 0] 41)) (Tl.mk 0 3 false (0 :: sg) []) [Value.int .i64 0,Value.int .i64 3,Value.bool false,Value.slice fa (1 + SL) fc,Value.slice none 0 0]):=hDl.next (Agr.below hb9) (fun b h9 _=>⟨Nat.le_trans hs h9,fun e9=>by have:=HKb.out b e9;omega⟩);have bel3:=below_step bel2 hb9;have hs3:N0≤((we.alloc (.cells #[Value.int .i64 0,Value.int .i64 3,Value.bool false,Value.slice fa (1 + SL) fc,Value.slice none 0 0] 41))).heap.size:=Nat.le_trans hs2 hb9.size;have HF9:Hid _:=fill_5 (cs:=[Value.int .i64 0,Value.int .i64 3,Value.bool false,Value.slice fa (1 + SL) fc,Value.slice none 0 0]) rfl;clear hgrow hat own8 hb hDl)|((with_reducible show wpList _ _ _ ({ dst:=_,op:=.buildSlice _ _ _,type:=_,pos:=_,after:=_,guard:=_ } :: _) _ _);refine Go.wpList_buildSlice rfl 39 41 1 _ rfl #[Value.int .i64 0,Value.int .i64 3,Value.bool false,Value.slice fa (1 + SL) fc,Value.slice none 0 0] jt _ Tryz.underlying39 hjt ht0 (by rw [ht1];decide) (by rw [ht1];decide) (by rw [ht1];refine (congrArg _ (?_:_=[(0,Value.agg #[Value.int .i64 0,Value.int .i64 3,Value.bool false,Value.slice fa (1 + SL) fc,Value.slice none 0 0])])).trans HF9.out;kernel_rfl) ?_)|(at_builtin;refine wpList_append_tlv (by rfl) _ _ (by rfl) N0 (Value.slice ka8 2 kc8) [T,algT] (by rfl) HR9.out we.heap.size (by rfl) [Value.int .i64 0,Value.int .i64 3,Value.bool false,Value.slice fa (1 + SL) fc,Value.slice none 0 0] B9 rfl (by simp [OneC,Value.oneCell']) (Tl.mk 0 3 false (0 :: sg) []) HD9.out (by show 2≤1000000;omega) hs3 ?_;intro kv9 w9 hr9 hgrow9 hge9 hat9)|fail)
   have hszb:=bel3.size
   have bel4:=Below.grown bel3 hgrow9 hszb (fun k hk=>by have:=hge9 k hk;omega)
   obtain ⟨ka9,kc9,hkv⟩:=hr9.sl
   subst hkv
   obtain ⟨K9,hK9⟩:∃ z,([T,algT]++[Tl.mk 0 3 false (0 :: sg) []]).length=z:=⟨_,rfl⟩
   have HDl:Hid (Dep (fun g=>N0≤g) w9 (sealP false T sg) [.int .i64 0,.int .i64 16,.bool true,.slice none 0 0,.slice ka9 ([T,algT]++[Tl.mk 0 3 false (0 :: sg) []]).length kc9]):=hr9.dep 0 16 true
   rw [hK9] at HDl ⊢
   clear hgrow9 hge9 hat9 hr9 hK9 HR9 HD9 B9 HF9 hz
   refine r16_List.mono ?_
   rintro e y1 ⟨rfl,hb⟩
   have HT8:Hid (TlAt y1 (sealP false T sg) [.int .i64 0,.int .i64 16,.bool true,.slice none 0 0,.slice ka9 K9 kc9]):=(HDl.out.next (Agr.below hb) (fun _ h _=>h):Dep (fun g=>N0≤g) _ _ _).now
   replace bel4:=below_step bel4 hb
   clear hb HDl
   have HZ:Hid (Sm 1050000 (sealP false T sg)):=sm_seal HY.out H.out HSl.out
   go_wp2_with fail
   refine (r12_Write (by have:=HZ.out.2;omega) (fun _=>by have:=HZ.out.1;omega) HT8.out).mono ?_
   rintro e y2 ⟨v9,rfl,hw,hw2,hb⟩
   have HBd:Hid (Bs y2 v9 (wrB (sealP false T sg))):=by
    show Bs y2 v9 (wrB (sealP false T sg))
    unfold wrB
    by_cases k9:wrN (sealP false T sg)=0
    ·rw [if_pos k9];exact Bs.of_own (hw k9)
    ·rw [if_neg k9,hw2 k9];exact ⟨none,0,rfl,Nat.zero_le _,Nat.zero_le _,fun h=>absurd h (Nat.lt_irrefl 0)⟩
   replace bel4:=below_step bel4 hb
   clear hw hw2 hb HT8 HZ
   go_wp2_with fail
   refine bodyPost_ret (results_tmp3 rfl _ _ _) rfl ?_
   have HW9:Hid (sealP false T (bytesT (sigT x y))=sealP false T sg):=by show _=_;rw [HSg.out]
   rw [← HW9.out]
   exact SealR.yes H.out Hsc.out HSB.out (by rw [HSg.out];exact HBd.out) bel4
end Go.Proofs.YtnkipgbnnhahbaaGreatDoor
