/- The law CrlBodies. -/
import Derived.Test.YtkgjlcdefnpkpaaGreatDoorKrUp
import Derived.Test.YtkgjlcdefnpkpaaGreatDoorKrSmall
import Derived.Test.YtkgjlcdefnpkpaaGreatDoorCtRG
import Derived.Test.YtkgjlcdefnpkpaaGreatDoorErG
import Derived.Test.YtkgjlcdefnpkpaaGreatDoorRows
import Derived.Deep.OwnRows
import Derived.Deep.AppendLies
import Derived.Great.BuildSlice
import Derived.Laws.Rows
import Derived.BigQuiet
import Derived.Deep.WholeRow
import Derived.Deep.RegionHeld3
import Derived.Deep.DeepCutAuto
import Derived.Deep.DeepFit
namespace Go.Proofs.YtkgjlcdefnpkpaaGreatDoor
open Go.RowKit
set_option linter.unusedSimpArgs false in
set_option maxRecDepth 100000 in
set_option maxHeartbeats 2000000 in
theorem law_crlBodies {c:Cr} {cs:List Value} {w:World} (_G:GlsO w) (h:CrAt w c cs) (wf:WfCr c):Calls Tryz.prog 3 #[.agg cs.toArray] w fun e w'=>e=.returned (.bool true)∧Below w.heap.size w w':=by
 have HWf:Hid (WfCr c):=wf
 have HC:Hid (CrAt w c cs):=h
 have HL17:Hid (cs.length=17):=h.len
 clear wf h
 have B0:=Blk.new w cs 32 w.heap.size rfl
 have bel:Below w.heap.size w (w.alloc (.cells cs.toArray 32)):=(Below.refl _ _).alloc (Nat.le_refl _) _
 go_enter Tryz.func3,Tryz.ntmps3
 go_upto_region 1 with fail
 generalize w.alloc (.cells cs.toArray 32)=W at *
 go_wp2_with fail
 refine con_up18.mono ?_
 rintro e w1 ⟨rfl,hb⟩
 replace B0:=B0.later hb
 replace bel:=below_step bel hb
 clear hb
 have HLd:Hid (∀ wx,Blk wx w.heap.size cs→(loadVar 32 ⟨w.heap.size,0,none⟩).run Tryz.prog wx=.ok (.agg cs.toArray) wx):=fun wx h=>h.load Tryz.underlying32 rfl size_crU HL17.out
 have hld:=HLd.out _ B0
 have l0:=B0.lt
 go_wp2_with (first|((with_reducible show wpList _ _ _ ({ dst:=_,op:=.load _ _,type:=_,pos:=_,after:=_,guard:=_ } :: _) _ _);refine wpList_load_run (by rfl) (by rfl) (by rfl) hld ?_)|fail)
 refine (con_small18 (HC.out.later bel)).mono ?_
 rintro e w2 ⟨b,rfl,hbs,hb⟩
 replace B0:=B0.later hb
 replace bel:=below_step bel hb
 clear hb hld l0
 cases b with
 | false =>
  clear hbs
  go_wp2_with fail
  go_ret
  exact ⟨rfl,bel⟩
 | true =>
  have HSm:Hid (SmallR8 c):=hbs.1 rfl
  clear hbs
  have hld:=HLd.out _ B0
  have l0:=B0.lt
  go_wp2_with (first|((with_reducible show wpList _ _ _ ({ dst:=_,op:=.load _ _,type:=_,pos:=_,after:=_,guard:=_ } :: _) _ _);refine wpList_load_run (by rfl) (by rfl) (by rfl) hld ?_)|fail)
  refine (con_KBody (HC.out.later bel) HWf.out (fun g hg=>Nat.le_trans (HSm.out.2.2 g hg) (by omega))).mono ?_
  rintro e w3 ⟨hb,hno,hyes⟩
  replace B0:=B0.later hb
  replace bel:=below_step bel hb
  clear hb hld l0
  by_cases hm:MayR8 c
  rotate_left
  ·obtain rfl:=hno hm
   have H:Hid (¬ MayR8 c):=hm
   clear hno hyes hm
   have hld:=HLd.out _ B0
   have l0:=B0.lt
   go_wp2_with (first|((with_reducible show wpList _ _ _ ({ dst:=_,op:=.load _ _,type:=_,pos:=_,after:=_,guard:=_ } :: _) _ _);refine wpList_load_run (by rfl) (by rfl) (by rfl) hld ?_)|fail)
   refine (r18_Body (HC.out.later bel) HWf.out).mono ?_
   rintro e w4 ⟨hb,dno,dyes⟩
   obtain rfl:=dno H.out
   replace bel:=below_step bel hb
   clear hb dno dyes hld l0 B0
   have sq:((strOfNums []).toList == (strOfNums []).toList)=true:=beq_self_eq_true _
   have x1:=conv_any (w:=w4) (v:=.slice none 0 0) (bs:=[]) ⟨none,0,rfl,Nat.zero_le _,Nat.zero_le _,fun h=>absurd h (Nat.lt_irrefl 0)⟩
   go_wp2_with fail
   refine (con_CodeOf (c:=1) (by omega) (by omega)).mono ?_
   rintro e w5 ⟨rfl,hw5⟩
   rw [hw5]
   clear hw5
   go_wp2_with fail
   go_ret
   exact ⟨rfl,bel⟩
  obtain ⟨v5,rfl,hv5,-⟩:=hyes hm
  have H:Hid (MayR8 c):=hm
  have HV5:Hid (Bs w3 v5 (bytesT (crBody c))):=hv5
  obtain ⟨a5,c5,hve,-,-,-⟩:=id hv5
  obtain ⟨L5,hL5⟩:∃ z,(bytesT (crBody c)).length=z:=⟨_,rfl⟩
  have HL5:Hid ((bytesT (crBody c)).length=L5):=hL5
  rw [hL5] at hve
  subst hve
  clear hno hyes hm hv5 hL5
  have hld:=HLd.out _ B0
  have l0:=B0.lt
  go_wp2_with (first|((with_reducible show wpList _ _ _ ({ dst:=_,op:=.load _ _,type:=_,pos:=_,after:=_,guard:=_ } :: _) _ _);refine wpList_load_run (by rfl) (by rfl) (by rfl) hld ?_)|fail)
  refine (r18_Body (HC.out.later bel) HWf.out).mono ?_
  rintro e w4 ⟨hb,dno,dyes⟩
  obtain ⟨v6,rfl,hv6⟩:=dyes H.out
  have HV6:Hid (Bs w4 v6 (bytesT (crBody c))):=hv6
  replace HV5:Hid (Bs w4 (.slice a5 L5 c5) (bytesT (crBody c))):=HV5.out.later hb
  replace bel:=below_step bel hb
  clear hb dno dyes hld l0 B0
  obtain ⟨a6,c6,hve6,-,-,-⟩:=id hv6
  rw [HL5.out] at hve6
  subst hve6
  clear hv6
  obtain ⟨Z,hZ⟩:∃ z,strOfNums (bytesT (crBody c))=z:=⟨_,rfl⟩
  have x1:=conv_any HV5.out
  have x2:=conv_any HV6.out
  rw [hZ] at x1 x2
  have sq:(Z.toList == Z.toList)=true:=beq_self_eq_true _
  clear hZ
  go_wp2_with fail
  refine con_CodeNil.mono ?_
  rintro e w5 ⟨rfl,hw5⟩
  rw [hw5]
  clear hw5
  go_wp2_with fail
  go_ret
  exact ⟨rfl,bel⟩
end Go.Proofs.YtkgjlcdefnpkpaaGreatDoor
