/- The law's small. -/
import Derived.Test.YtohcdbifhnfcbaaGreatDoorKrSpec
import Derived.Test.YtohcdbifhnfcbaaGreatDoorKrGone
import Derived.Test.YtohcdbifhnfcbaaGreatDoorDrTG
import Derived.Test.YtohcdbifhnfcbaaGreatDoorRows
import Derived.Deep.OwnRows
import Derived.Deep.AppendLies
import Derived.Great.BuildSlice
import Derived.Laws.Rows
import Derived.BigQuiet
import Derived.Deep.WholeRow
import Derived.Deep.RegionHeld3
import Derived.Deep.DeepCutAuto
import Derived.Deep.DeepFit
namespace Go.Proofs.YtohcdbifhnfcbaaGreatDoor
open Go.RowKit
/-- few enough parts -/
def SmallR8 (c:Cr):Prop:=c.issuer.length≤100∧c.gone.length≤200∧∀ g∈c.gone,g.1.length≤1000
def SmallRR (w:World) (c:Cr) (e:Ending) (w':World):Prop:=∃ b:Bool,e=.returned (.bool b)∧(b=true↔SmallR8 c)∧Below w.heap.size w w'
theorem SmallRR.no {w w':World} {c:Cr} (h:¬ SmallR8 c) (hb:Below w.heap.size w w'):SmallRR w c (.returned (.bool false)) w':=⟨false,rfl,⟨fun k=>(by cases k),fun k=>absurd k h⟩,hb⟩
theorem SmallRR.yes {w w':World} {c:Cr} (h:SmallR8 c) (hb:Below w.heap.size w w'):SmallRR w c (.returned (.bool true)) w':=⟨true,rfl,⟨fun _=>h,fun _=>rfl⟩,hb⟩
set_option linter.unusedSimpArgs false in
set_option maxRecDepth 100000 in
set_option maxHeartbeats 2000000 in
theorem con_small18 {c:Cr} {cs:List Value} {w:World} (h:CrAt w c cs):Calls Tryz.prog 10 #[.agg cs.toArray] w (SmallRR w c):=by
 obtain ⟨iv,gv,bv,rs,zs,hl,q0,q1,q2,q3,q4,qk,hI,hG,-,-,-⟩:=h.open
 obtain ⟨ia,ic,hie,-,-,-⟩:=hI
 obtain ⟨ga,gc,hge,-,hgm,hgg⟩:=hG
 have HVc:Hid (0 < c.gone.length→∃ b o,ga=some ⟨b,o,none⟩∧b < w.heap.size∧∀ i g,c.gone[i]?=some g→∃ u,w.cell? ⟨b,o + i * 2,none⟩=some u∧Bs w u g.1∧w.cell? ⟨b,o + i * 2 + 1,none⟩=some (.int .i64 g.2)):=hgg
 obtain ⟨IL,hIL⟩:∃ z,c.issuer.length=z:=⟨_,rfl⟩
 obtain ⟨GL,hGL⟩:∃ z,c.gone.length=z:=⟨_,rfl⟩
 have HIL:Hid (c.issuer.length=IL):=hIL
 have HGL:Hid (c.gone.length=GL):=hGL
 rw [hIL] at hie
 rw [hGL] at hge HVc
 subst hie hge
 have HQ0:Hid _:=q0
 have HQ3:Hid _:=q3
 clear hIL hGL q0 q1 q2 q3 q4 qk hgm hgg hl h
 have B0:=Blk.new w cs 33 w.heap.size rfl
 have bel:=bal w (.cells cs.toArray 33)
 go_enter Tryz.func10,Tryz.ntmps10
 go_upto_region 1 with fail
 generalize w.alloc (.cells cs.toArray 33)=W at *
 have e0:=B0.cell 0 _ HQ0.out
 have e3:=B0.cell 3 _ HQ3.out
 have l0:=B0.lt
 by_cases k1:100 < IL
 ·have g1:(100:Int) < (IL:Int):=by omega
  have H:Hid (¬ SmallR8 c):=fun h=>by have:=h.1;rw [HIL.out] at this;omega
  clear k1
  go_wp2_with fail
  go_ret
  exact SmallRR.no H.out bel
 have g1:¬ (100:Int) < (IL:Int):=by omega
 by_cases k2:200 < GL
 ·have g2:(200:Int) < (GL:Int):=by omega
  have H:Hid (¬ SmallR8 c):=fun h=>by have:=h.2.1;rw [HGL.out] at this;omega
  clear k1 k2
  go_wp2_with fail
  go_ret
  exact SmallRR.no H.out bel
 have g2:¬ (200:Int) < (GL:Int):=by omega
 have HK1:Hid (IL≤100∧GL≤200):=⟨by omega,by omega⟩
 clear k1 k2
 go_wp2_with fail
 clear g1 g2 e0 e3 l0
 go_loopw [3] (fun iv wx=>∃ i:Nat,i≤GL∧iv=.int .i64 (i:Int)∧Hid (∀ g∈c.gone.take i,g.1.length≤1000)∧Blk wx w.heap.size cs∧Below w.heap.size w wx) (fun iv _=>GL - (intOf iv).toNat)
 case atStart=>exact ⟨0,by omega,rfl,fun l hl=>by simp at hl,B0,bel⟩
 case round =>
  clear B0 bel
  obtain ⟨i,hi,rfl,HA,B0,bel⟩:=hrel
  have h8:=HK1.out.2
  have e3:=B0.cell 3 _ HQ3.out
  have l0:=B0.lt
  by_cases hil:i < GL
  rotate_left
  ·obtain rfl:i=GL:=by omega
   have g1:¬ (i:Int) < (i:Int):=by omega
   have H:Hid (SmallR8 c):=⟨by rw [HIL.out];exact HK1.out.1,by rw [HGL.out];exact HK1.out.2,by have h:=HA.out;rw [List.take_of_length_le (by rw [HGL.out];omega)] at h;exact h⟩
   clear HA
   go_wp2_with fail
   go_ret
   exact SmallRR.yes H.out bel
  obtain ⟨x,hx⟩:∃ x,c.gone[i]?=some x:=⟨_,List.getElem?_eq_getElem (by rw [HGL.out];exact hil)⟩
  obtain ⟨ub,uo,hua,ult,ucl⟩:=HVc.out (by omega)
  subst hua
  have HX:Hid (c.gone[i]?=some x):=hx
  obtain ⟨y,c0,c1,-⟩:=ucl i x hx
  obtain ⟨ya,yc,hye,-,-,-⟩:=id c1
  obtain ⟨YL,hYL⟩:∃ z,x.1.length=z:=⟨_,rfl⟩
  have HYL:Hid (x.1.length=YL):=hYL
  rw [hYL] at hye
  subst hye
  have x0:=cell_later c0 bel
  have ly:ub < wr.heap.size:=Nat.lt_of_lt_of_le ult bel.size
  clear hx ucl hYL c0 c1 ult
  have g1:(i:Int) < (GL:Int):=by omega
  have g2:(0:Int)≤(i:Int):=by omega
  have gi:IntKind.i64.wrap ((i:Int) + 1)=(i:Int) + 1:=by rw [IntKind.wrap_i64];omega
  by_cases k3:1000 < YL
  ·have g3:(1000:Int) < (YL:Int):=by omega
   have H:Hid (¬ SmallR8 c):=fun h=>by have:=h.2.2 x (List.mem_of_getElem? HX.out);rw [HYL.out] at this;omega
   clear HA k3
   go_wp2_with fail
   go_ret
   exact SmallRR.no H.out bel
  have g3:¬ (1000:Int) < (YL:Int):=by omega
  have HAn:Hid (∀ g∈c.gone.take (i + 1),g.1.length≤1000):=take_mem HA.out HX.out (by rw [HYL.out];omega)
  clear HA k3
  go_wp2_with fail
  clear x0 ly e3 l0
  go_roundw
  case rel=>exact ⟨i + 1,by omega,by go_num,HAn,B0,bel⟩
  case measure=>simp [intOf];omega
end Go.Proofs.YtohcdbifhnfcbaaGreatDoor
