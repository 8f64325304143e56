/- What the program's Parse, Write and Size answer. -/
import Derived.Test.YtnkipgbnnhahbaaDoorCtTl
import Derived.Test.YtnkipgbnnhahbaaDoorDcElem
import Derived.Test.YtnkipgbnnhahbaaDoorDrDep
import Derived.Test.YtnkipgbnnhahbaaDoorNmBase
import Derived.Test.YtnkipgbnnhahbaaDoorRwT
import Derived.Test.YtnkipgbnnhahbaaDoorCPt
import Derived.Test.YtnkipgbnnhahbaaDoorRows
import Derived.Deep.OwnRows
import Derived.Deep.AppendLies
import Derived.Great.BuildSlice
import Derived.Deep.WholeRow
import Derived.Deep.RegionHeld3
import Derived.Deep.DeepCutAuto
import Derived.Deep.DeepFit
namespace Go.Proofs.YtnkipgbnnhahbaaDoor
open Go.RowKit
theorem erAt_bad {w w':World} {c p:Nat} {er:Value} (h:BadR w w' (c:Int) (p:Int) er) (hc:¬ c=2):ErAt w' c p er∧ErFresh w.heap.size er:=by
 obtain ⟨g,h1,h2,h3,_⟩:=h
 refine ⟨.inr ⟨hc,g,h1,h3⟩,fun g2 e=>?_⟩
 rw [h1] at e
 simp only [Value.iface.injEq,Value.pointer.injEq,Option.some.injEq,Addr.mk.injEq] at e
 omega
set_option linter.unusedSimpArgs false in
set_option maxRecDepth 100000 in
set_option maxHeartbeats 2000000 in
theorem con_Parse {v:Value} {B:List Int} {w:World} (hv:Bs w v B) (b:byt B) :
  Calls Tryd.prog 11 #[v] w fun e w'=>(∀ T,parseP B=.ok T→∃ cs,e=.returned (.tuple #[.agg cs.toArray,.nilIface])∧Dep (fun b=>w.heap.size≤b) w' T cs∧Below w.heap.size w w')∧(∀ c p,parseP B=.error (c,p)→∃ (cs:List Value) (er:Value),e=.returned (.tuple #[.agg cs.toArray,er])∧TlAt w' (.mk 0 0 false [] []) cs∧ErAt w' c p er∧ErFresh w.heap.size er∧Below w.heap.size w w'):=by
 have HB:Hid (byt B):=b
 have HV:Hid (Bs w v B):=hv
 have hz:=zero_tlv.out
 obtain ⟨ao,cap,rfl,h1,h2,h3⟩:=hv
 clear h3 b
 unfold maxLen at h1
 have R0:=Blk.new w [.int .i64 0,.int .i64 0,.bool false,.slice none 0 0,.slice none 0 0] 32 w.heap.size rfl
 have bel:Below w.heap.size w (w.alloc (.cells #[.int .i64 0,.int .i64 0,.bool false,.slice none 0 0,.slice none 0 0] 32)):=(Below.refl _ _).alloc (Nat.le_refl _) _
 go_enter Tryd.func11,Tryd.ntmps11
 go_upto_region 1 with fail
 generalize w.alloc (.cells #[.int .i64 0,.int .i64 0,.bool false,.slice none 0 0,.slice none 0 0] 32)=W at *
 clear hz
 by_cases c1:1048576 < B.length
 ·have H:Hid (parseP B=.error (2,0)):=by show _=_;unfold parseP;rw [if_pos c1]
  have g1:(1048576:Int) < ((B.length:Nat):Int):=by omega
  obtain ⟨tR,hR⟩:=R0
  have HR1:Hid _:=hR
  clear hR
  go_wp2_with (first|(refine wpList_store_row rfl 32 _ _ rfl w.heap.size #[.int .i64 0,.int .i64 0,.bool false,.slice none 0 0,.slice none 0 0] rfl rfl tR _ HR1.out (by rw [size_tlv];rfl) rfl (by simp [Value.oneCell']) ?_)|fail)
  exact bodyPost_ret (results_row_tmp rfl _ _ w.heap.size tR #[.int .i64 0,.int .i64 0,.bool false,.slice none 0 0,.slice none 0 0] (0,0) _ rfl (setRow_heap _ _ _ _ _ _ HR1.out) Tryd.underlying32 rfl (by rw [size_tlv];rfl)) rfl ⟨fun T h=>(by rw [H.out] at h;cases h),fun c p h=>(by rw [H.out] at h;cases h;exact ⟨[.int .i64 0,.int .i64 0,.bool false,.slice none 0 0,.slice none 0 0],_,rfl,nilT_at _,.inl ⟨rfl,rfl⟩,fun g h=>by simp at h,below_setRow bel (Nat.le_refl _) _⟩)⟩
 have g1:¬ (1048576:Int) < ((B.length:Nat):Int):=by omega
 have HP:Hid (parseP B=match elemP B 16 0 B.length with|.error e=>.error e|.ok (t,z)=>if z < B.length then .error (8,z) else .ok t):=by
  show _=_
  unfold parseP
  rw [if_neg c1]
  rfl
 have lW:=R0.lt
 have hcall:=c12_elem HB.out (by omega) 16 0 B.length (.slice ao B.length cap) W (by omega) (by omega) (by omega) (Cut.of (HV.out.later bel) HB.out)
 rw [show 16 - ((16:Nat):Int)=0 from rfl] at hcall
 go_wp2_with fail
 refine hcall.mono ?_
 rintro e w1 ⟨hok,hbad⟩
 clear hcall
 have hz:=zero_tlv.out
 cases hep:elemP B 16 0 B.length with
 | error q =>
  obtain ⟨c,p⟩:=q
  obtain ⟨er,rfl,hr⟩:=hbad c p hep
  clear hok hbad
  have hcb:=elemP_bad hep
  have H:Hid (parseP B=.error (c,p)):=by show _=_;rw [HP.out,hep]
  clear hep HP
  have R1:=(R0.later hr.below).alloc (.cells #[.int .i64 0,.int .i64 0,.bool false,.slice none 0 0,.slice none 0 0] 32)
  have HBad:Hid (BadR w ((w1.alloc (.cells #[.int .i64 0,.int .i64 0,.bool false,.slice none 0 0,.slice none 0 0] 32)).setRow w.heap.size #[.int .i64 0,.int .i64 0,.bool false,.slice none 0 0,.slice none 0 0]) (c:Int) (p:Int) er):=BadR.row bel (Nat.le_refl _) lW (BadR.more hr _)
  obtain ⟨g9,rfl⟩:=hr.form
  clear hr
  go_upto_region 4 with (first|(refine wpList_store_row rfl 32 _ _ rfl w1.heap.size #[.int .i64 0,.int .i64 0,.bool false,.slice none 0 0,.slice none 0 0] rfl rfl 32 _ (heap_alloc_last _ _) (by rw [size_tlv];rfl) rfl (by simp [Value.oneCell']) ?_;rw [World.setRow_alloc_new])|fail)
  clear hz
  generalize w1.alloc (.cells #[.int .i64 0,.int .i64 0,.bool false,.slice none 0 0,.slice none 0 0] 32)=w2 at *
  obtain ⟨tR,hR⟩:=R1
  have HR1:Hid _:=hR
  clear hR
  go_wp2_with (first|(refine wpList_store_row rfl 32 _ _ rfl w.heap.size #[.int .i64 0,.int .i64 0,.bool false,.slice none 0 0,.slice none 0 0] rfl rfl tR _ HR1.out (by rw [size_tlv];rfl) rfl (by simp [Value.oneCell']) ?_)|fail)
  exact bodyPost_ret (results_row_tmp rfl _ _ w.heap.size tR #[.int .i64 0,.int .i64 0,.bool false,.slice none 0 0,.slice none 0 0] (0,0) _ rfl (setRow_heap _ _ _ _ _ _ HR1.out) Tryd.underlying32 rfl (by rw [size_tlv];rfl)) rfl ⟨fun T h=>(by rw [H.out] at h;cases h),fun c p h=>(by rw [H.out] at h;cases h;have he:=erAt_bad HBad.out (by omega);exact ⟨[.int .i64 0,.int .i64 0,.bool false,.slice none 0 0,.slice none 0 0],_,rfl,nilT_at _,he.1,he.2,HBad.out.below⟩)⟩
 | ok q =>
  obtain ⟨T,z⟩:=q
  obtain ⟨cs,rfl,hdep,hb⟩:=hok T z hep
  clear hok hbad
  have heo:=elem_ok HB.out 16 0 B.length T z (Nat.le_refl _) hep
  have hz2:z≤B.length:=heo.2
  replace HP:Hid (parseP B=if z < B.length then .error (8,z) else .ok T):=by show _=_;rw [HP.out,hep]
  clear hep heo
  have HO5:Hid (OneC cs):=hdep.now.ones
  have l5:=hdep.now.five
  have HL5:Hid (cs.length=5):=l5
  have HS5:Hid (cs.toArray.size=5):=by show _=_;rw [List.size_toArray];exact l5
  have HDp:Hid (Dep (fun b=>W.heap.size≤b) w1 T cs):=hdep
  have KB:=Blk.new w1 cs 32 w1.heap.size rfl
  have R1:=(R0.later hb).alloc (.cells cs.toArray 32)
  have bel1:=below_alloc (o:=.cells cs.toArray 32) (below_stepD bel hb)
  have HAg:Hid (Agr (fun b=>W.heap.size≤b) w1 (w1.alloc (.cells cs.toArray 32))):=Agr.below ((Below.refl _ _).alloc (Nat.le_refl _) _)
  clear hb hdep l5 R0 bel
  go_upto_region 4 with (first|(refine wpList_store_row rfl 32 _ _ rfl w1.heap.size cs.toArray rfl rfl 32 _ (heap_alloc_last _ _) (by rw [size_tlv,HS5.out]) (by rw [HS5.out];rfl) HO5.out ?_;rw [World.setRow_alloc_new])|fail)
  clear hz
  obtain ⟨g1,hg1⟩:∃ g1,g1=w1.heap.size:=⟨_,rfl⟩
  rw [← hg1] at KB
  generalize w1.alloc (.cells cs.toArray 32)=w2 at *
  rw [← hg1]
  clear hg1
  by_cases c2:z < B.length
  ·have H:Hid (parseP B=.error (8,z)):=by show _=_;rw [HP.out,if_pos c2]
   have g2:(z:Int) < ((B.length:Nat):Int):=by omega
   have lw2:=R1.lt
   go_wp2_with fail
   refine (c12_spot (p:=(z:Int)) (c:=8)).mono ?_
   rintro e w3 ⟨er,rfl,hr⟩
   replace R1:=R1.later hr.below
   have HBad:Hid (BadR w (w3.setRow w.heap.size #[.int .i64 0,.int .i64 0,.bool false,.slice none 0 0,.slice none 0 0]) ((8:Nat):Int) (z:Int) er):=BadR.row bel1 (Nat.le_refl _) lw2 hr
   clear hr
   obtain ⟨tR,hR⟩:=R1
   have HR1:Hid _:=hR
   clear hR
   go_wp2_with (first|(refine wpList_store_row rfl 32 _ _ rfl w.heap.size #[.int .i64 0,.int .i64 0,.bool false,.slice none 0 0,.slice none 0 0] rfl rfl tR _ HR1.out (by rw [size_tlv];rfl) rfl (by simp [Value.oneCell']) ?_)|fail)
   exact bodyPost_ret (results_row_tmp rfl _ _ w.heap.size tR #[.int .i64 0,.int .i64 0,.bool false,.slice none 0 0,.slice none 0 0] (0,0) _ rfl (setRow_heap _ _ _ _ _ _ HR1.out) Tryd.underlying32 rfl (by rw [size_tlv];rfl)) rfl ⟨fun T h=>(by rw [H.out] at h;cases h),fun c p h=>(by rw [H.out] at h;cases h;have he:=erAt_bad HBad.out (by decide);exact ⟨[.int .i64 0,.int .i64 0,.bool false,.slice none 0 0,.slice none 0 0],er,rfl,nilT_at _,he.1,he.2,HBad.out.below⟩)⟩
  ·have H:Hid (parseP B=.ok T):=by show _=_;rw [HP.out,if_neg c2]
   have g2:¬ (z:Int) < ((B.length:Nat):Int):=by omega
   have HD2:Hid (Dep (fun b=>w.heap.size≤b) (w2.setRow w.heap.size cs.toArray) T cs):=Dep.next HDp.out (Agr.row HAg.out (by show ¬ W.heap.size≤w.heap.size;omega)) (fun b hb _=>by show w.heap.size≤b;omega)
   obtain ⟨tR,hR⟩:=R1
   have HR1:Hid _:=hR
   clear hR
   go_wp2_with (first|(refine wpList_load_run (by rfl) (by rfl) (by rfl) (KB.load Tryd.underlying32 rfl size_tlv HL5.out) ?_)|(refine wpList_store_row rfl 32 _ _ rfl w.heap.size cs.toArray rfl rfl tR _ HR1.out (by rw [size_tlv,HS5.out]) (by rw [HS5.out];rfl) HO5.out ?_)|fail)
   exact bodyPost_ret (results_row_tmp rfl _ _ w.heap.size tR cs.toArray (0,0) _ rfl (setRow_heap _ _ _ _ _ _ HR1.out) Tryd.underlying32 rfl (by rw [size_tlv,HS5.out])) rfl ⟨fun T h=>(by rw [H.out] at h;cases h;exact ⟨cs,rfl,HD2.out,below_setRow bel1 (Nat.le_refl _) _⟩),fun c p h=>(by rw [H.out] at h;cases h)⟩
end Go.Proofs.YtnkipgbnnhahbaaDoor
