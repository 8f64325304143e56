/- Proved: the law EciesBack of the program answers true for any arguments (six limbs; six limbs; 32 bytes; an int; a byte), and all stand as they stood; the card ties the listed variables to the program's text. No conditions. -/
import Derived.Test.YtlkljfnenonfgaaGreatDoorLawEciesBack
import Derived.Test.YtlkljfnenonfgaaGreatDoorXTEciesUnwraps
import Derived.Test.YtlkljfnenonfgaaGreatDoorBase
import Derived.Test.YtlkljfnenonfgaaGreatDoorAeNumG
import Derived.Test.YtlkljfnenonfgaaGreatDoorRowG
import Derived.Test.YtlkljfnenonfgaaGreatDoorCards
import Derived.Test.YtlkljfnenonfgaaGreatDoorTie
import Derived.ChangeOld
import Derived.Below
import Derived.ProofKit
import Derived.OpenShut
import Derived.ShutString
import Derived.LaidMore
import Derived.Stop.Joined
import Derived.SevenTiedAt
namespace Go.Proofs.YtlkljfnenonfgaaGreatDoor
open Go.ChangeShapes Go.WideShapes Go.ChangeAt Go.RowKit
theorem own_eciesBack:ownKnob Tryz.prog.godebug=none:=by kernel_rfl
theorem laid_eciesBack:laidOutB Tryz.prog=true:=by kernel_rfl
theorem cells48_eciesBack:Tryz.prog.cellsOf 48=32:=by kernel_rfl
theorem cellb_eciesBack:Tryz.prog.cellsOf 5=1:=by kernel_rfl
theorem door_eciesBack (os:Os) (args:Array Value):laidMetH Tryz.prog Rows.eciesBackRow.laid ((World.doorLaid Tryz.prog 400 os).forCall (fun _ _=>0) ⟨#[],args,[]⟩).memory :=
 laidMetH_of_parts3 (fuel:=8) (laidMet_of_run' 8 (by kernel_rfl) (by kernel_rfl)) (by kernel_rfl) (by kernel_rfl)
set_option maxHeartbeats 1000000 in
set_option maxRecDepth 100000 in
theorem lifted_eciesBack (os:Os) (started:os.Started) (H:Type) (enc:TypeId × Value→H) :
  ReturnsInHanded {} Tryz.checked os 5 .any (fun w args=>(Rows.eciesBackSpec.pre enc Tryz.prog Tryz.f5 [] false w args∧laidMetH Tryz.prog Rows.eciesBackRow.laid w)∧sizedMet enc Tryz.prog Tryz.f5 (OpenSpec.ofChange Rows.eciesBackSpec) false w args)
   (Rows.eciesBackSpec.post enc Tryz.prog Tryz.f5 false true false false):=by
 refine returnsInHanded_of_change_and (C:=Tryz.checked) (X:=fun w _=>laidMetH Tryz.prog Rows.eciesBackRow.laid w) (fun _ _ _ hh h=>h.of_heap hh) own_eciesBack started (by kernel_rfl) Tryz.func5
  (ChangeSpec.witness_shaped (enc:=enc) (C:=Tryz.checked) (os:=os) (X:=fun w _=>laidMetH Tryz.prog Rows.eciesBackRow.laid w) false (World.doorLaid Tryz.prog 400 os) #[.agg #[.int .u64 0,.int .u64 0,.int .u64 0,.int .u64 0,.int .u64 0,.int .u64 0],.agg #[.int .u64 0,.int .u64 0,.int .u64 0,.int .u64 0,.int .u64 0,.int .u64 0],.agg #[.int .u8 0,.int .u8 0,.int .u8 0,.int .u8 0,.int .u8 0,.int .u8 0,.int .u8 0,.int .u8 0,.int .u8 0,.int .u8 0,.int .u8 0,.int .u8 0,.int .u8 0,.int .u8 0,.int .u8 0,.int .u8 0,.int .u8 0,.int .u8 0,.int .u8 0,.int .u8 0,.int .u8 0,.int .u8 0,.int .u8 0,.int .u8 0,.int .u8 0,.int .u8 0,.int .u8 0,.int .u8 0,.int .u8 0,.int .u8 0,.int .u8 0,.int .u8 0],.int .i64 0,.int .u8 0] 8 rfl (World.shaped_of_RefB (by kernel_rfl) (by kernel_rfl)) (by kernel_rfl) (by kernel_rfl) (by kernel_rfl) (door_eciesBack os _)) ?_
 intro W base args ds gs before hval0 hW _ _ hL _
 have hval:∀ (j:Nat) t v,Tryz.f5.params[j]?=some t→args[j]?=some v→Value.okWide Tryz.prog W .any base t v:=hval0
 have hW':=hW
 obtain ⟨p,q,hA0,hV,rfl,_,_⟩:=hW
 have hA:DataW.TrodAll enc Tryz.prog W 0 (fun _=>true) true Tryz.f5.params.toList args.toList ds p:=hA0
 rw [Tryz.params5] at hA hval
 obtain ⟨v0,vs0,d0,ds0,p0,q0,hargs,rfl,rfl,h0,hr0⟩:=trodAll_cons hA
 obtain ⟨v1,vs1,d1,ds1,p1,q1,rfl,rfl,rfl,h1,hr1⟩:=trodAll_cons hr0
 obtain ⟨v2,vs2,d2,ds2,p2,q2,rfl,rfl,rfl,h2,hr2⟩:=trodAll_cons hr1
 obtain ⟨v3,vs3,d3,ds3,p3,q3,rfl,rfl,rfl,h3,hr3⟩:=trodAll_cons hr2
 obtain ⟨v4,vs4,d4,ds4,p4,q4,rfl,rfl,rfl,h4,hr4⟩:=trodAll_cons hr3
 obtain ⟨rfl,rfl,rfl⟩:=trodAll_nil hr4
 obtain rfl:args=#[v0,v1,v2,v3,v4]:=by cases args;simp_all
 obtain ⟨rfl,rfl⟩:=trodVars_none hV
 have hT:=tabs_eciesBack (laidX_eciesBack hL)
 have G:GlsX W:=hT
 obtain ⟨cs0,rfl,_,_⟩:∃ cs,v0=.agg cs∧cs.size=Tryz.prog.cellsOf 24∧Row.okWide Tryz.prog W .any base 24 cs:=by
  have:=hval 0 24 v0 rfl rfl
  simpa [Value.okWide,Tryz.underlying24] using this
 obtain ⟨A0,l0,rfl,rfl,rfl,f0⟩:=open_arr Tryz.underlying24 cells_u384 Tryz.underlying22 cells_u64 h0
 obtain ⟨x0,x1,x2,x3,x4,x5,rfl⟩:=six l0
 obtain ⟨cs1,rfl,_,_⟩:∃ cs,v1=.agg cs∧cs.size=Tryz.prog.cellsOf 24∧Row.okWide Tryz.prog W .any base 24 cs:=by
  have:=hval 1 24 v1 rfl rfl
  simpa [Value.okWide,Tryz.underlying24] using this
 obtain ⟨A1,l1,rfl,rfl,rfl,f1⟩:=open_arr Tryz.underlying24 cells_u384 Tryz.underlying22 cells_u64 h1
 obtain ⟨y0,y1,y2,y3,y4,y5,rfl⟩:=six l1
 obtain ⟨cs2,rfl,_,_⟩:∃ cs,v2=.agg cs∧cs.size=Tryz.prog.cellsOf 48∧Row.okWide Tryz.prog W .any base 48 cs:=by
  have:=hval 2 48 v2 rfl rfl
  simpa [Value.okWide,Tryz.underlying48] using this
 have k2:=h2
 have lt2:∀ x∈p2,x.block < W.heap.size:=by obtain ⟨m,hm⟩:=k2;exact DataW.trod_lt m _ _ _ hm
 obtain ⟨S2,l2,e2,_,_,hbyt2⟩:=open_arrb Tryz.underlying48 cells48_eciesBack Tryz.underlying5 cellb_eciesBack h2
 subst e2
 obtain ⟨i3,rfl,rfl,rfl,w_i3⟩:=open_int Tryz.underlying3 (hval 3 3 v3 rfl rfl) h3
 have f3:=wf_i64.1 w_i3
 obtain ⟨i4,rfl,rfl,rfl,w_i4⟩:=open_int Tryz.underlying5 (hval 4 5 v4 rfl rfl) h4
 have f4:=wf_byte.1 w_i4
 clear hA0 hval0 hval hargs
 refine (law_eciesBack G (U6.mk f0) (U6.mk f1) l2 hbyt2 f3 f4).mono fun e W' ⟨he,bel⟩=>?_
 subst he
 exact ⟨_,rfl,_,_,_,[],_,[],hW',trodAll_mk1 (shut_bool Tryz.underlying4 _),(trodAll_cons_mk (shut_six Tryz.underlying24 cells_u384 Tryz.underlying22 cells_u64 x0 x1 x2 x3 x4 x5 f0) (trodAll_cons_mk (shut_six Tryz.underlying24 cells_u384 Tryz.underlying22 cells_u64 y0 y1 y2 y3 y4 y5 f1) (trodAll_cons_mk (Below.trod laid_eciesBack (by kernel_rfl) (of_decide_eq_true (by kernel_rfl)) k2 bel lt2) (trodAll_cons_mk (shut_int Tryz.underlying3 w_i3) (trodAll_cons_mk (shut_int Tryz.underlying5 w_i4) trodAll_mk0))))),rfl,bel.frame _,fun h=>by cases h⟩
theorem eciesBack_said:Rows.EciesBackSaid :=
 OpenClaim.holds_of_wide 5 Tryz.f5 rfl rfl rfl rfl rfl rfl rfl ⟨rfl,rfl,rfl,rfl,rfl⟩ rfl rfl rfl rfl rfl (by kernel_rfl) Tryz.func5 (by kernel_rfl)
  (of_decide_eq_true (by kernel_rfl)) (by unfold Func.isWrapper;first|(rw [if_pos (by decide +kernel)];kernel_rfl)|(rw [if_neg (by decide +kernel)];exact ⟨rfl,rfl⟩))
  (fun os started H enc _=>lifted_eciesBack os started H enc)
theorem plain_eciesBack (f : FuncId) (fn : Func) (hf : Tryz.pinned.checked.prog.funcNamed "escutcheon/escutcheonlaw15.EciesBack" = some f) (hfn : Tryz.pinned.checked.prog.funcs[f]? = some fn) :
  true=Tryz.pinned.checked.prog.looks []∧∀ (j:Nat) t,fn.params[j]?=some t→Tryz.pinned.checked.prog.wantsStandIn t=false:=by
 obtain rfl : f = 5 := Option.some.inj ((show Tryz.prog.funcNamed "escutcheon/escutcheonlaw15.EciesBack" = some 5 by kernel_rfl).symm.trans hf) |>.symm
 obtain rfl:fn=Tryz.f5:=(Option.some.inj (Tryz.func5.symm.trans hfn)).symm
 refine ⟨by kernel_rfl,fun j t ht=>?_⟩
 rw [Tryz.params5] at ht
 have hm:t∈[24,24,48,3,5]:=by simpa using Array.mem_of_getElem? ht
 have hall:([24,24,48,3,5].all fun u=>!Tryz.prog.wantsStandIn u)=true:=by kernel_rfl
 exact (show Tryz.prog.wantsStandIn t=false by simpa using List.all_eq_true.1 hall t hm)
theorem eciesBack_holds:Rows.EciesBackCardSaid :=
 Claim7.holds_tied_plain_at .later [] _ _ _ _ eciesBack_said (fun _ h=>by cases h) (by kernel_rfl) (fun _ h=>by cases h) eciesBack_row_tie rfl ⟨rfl,rfl⟩ (by kernel_rfl) rfl plain_eciesBack (by kernel_rfl)
#print axioms eciesBack_holds
end Go.Proofs.YtlkljfnenonfgaaGreatDoor
