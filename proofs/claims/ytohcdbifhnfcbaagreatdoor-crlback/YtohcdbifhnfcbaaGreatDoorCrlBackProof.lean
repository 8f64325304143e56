/- Proved: the law CrlBack of the program answers true for any arguments (a list of revoked ones; two numbers of six limbs), and all stand as they stood; the card ties the listed variables to the program's text. No conditions. -/
import Derived.Test.YtohcdbifhnfcbaaGreatDoorLawCrlBack
import Derived.Test.YtohcdbifhnfcbaaGreatDoorXTCrlBack
import Derived.Test.YtohcdbifhnfcbaaGreatDoorLimb
import Derived.Test.YtohcdbifhnfcbaaGreatDoorRowR
import Derived.Test.YtohcdbifhnfcbaaGreatDoorCards
import Derived.Test.YtohcdbifhnfcbaaGreatDoorTie
import Derived.ChangeOld
import Derived.Below
import Derived.ProofKit
import Derived.OpenShut
import Derived.ShutString
import Derived.LaidMore
import Derived.Stop.Joined
import Derived.SevenTiedAt
namespace Go.Proofs.YtohcdbifhnfcbaaGreatDoor
open Go.ChangeShapes Go.WideShapes Go.ChangeAt Go.RowKit
theorem own_crlBack:ownKnob Tryz.prog.godebug=none:=by kernel_rfl
theorem laid_crlBack:laidOutB Tryz.prog=true:=by kernel_rfl
theorem door_crlBack (os:Os) (args:Array Value):laidMetH Tryz.prog Rows.crlBackRow.laid ((World.doorLaid Tryz.prog 400 os).forCall (fun _ _=>0) ⟨#[],args,[]⟩).memory :=
 laidMetH_of_parts3 (fuel:=8) (laidMet_of_run' 8 (by kernel_rfl) (by kernel_rfl)) (by kernel_rfl) (by kernel_rfl)
set_option maxHeartbeats 1000000 in
set_option maxRecDepth 100000 in
theorem lifted_crlBack (os:Os) (started:os.Started) (H:Type) (enc:TypeId × Value→H) :
  ReturnsInHanded {} Tryz.checked os 4 .any (fun w args=>(Rows.crlBackSpec.pre enc Tryz.prog Tryz.f4 [] false w args∧laidMetH Tryz.prog Rows.crlBackRow.laid w)∧sizedMet enc Tryz.prog Tryz.f4 (OpenSpec.ofChange Rows.crlBackSpec) false w args)
   (Rows.crlBackSpec.post enc Tryz.prog Tryz.f4 false true false false):=by
 refine returnsInHanded_of_change_and (C:=Tryz.checked) (X:=fun w _=>laidMetH Tryz.prog Rows.crlBackRow.laid w) (fun _ _ _ hh h=>h.of_heap hh) own_crlBack started (by kernel_rfl) Tryz.func4
  (ChangeSpec.witness_shaped (enc:=enc) (C:=Tryz.checked) (os:=os) (X:=fun w _=>laidMetH Tryz.prog Rows.crlBackRow.laid w) false (World.doorLaid Tryz.prog 400 os) #[.agg #[.slice none 0 0,.int .i64 0,.int .i64 0,.slice none 0 0,.slice none 0 0,.int .u64 0,.int .u64 0,.int .u64 0,.int .u64 0,.int .u64 0,.int .u64 0,.int .u64 0,.int .u64 0,.int .u64 0,.int .u64 0,.int .u64 0,.int .u64 0],.agg #[.int .u64 0,.int .u64 0,.int .u64 0,.int .u64 0,.int .u64 0,.int .u64 0,.int .u64 0,.int .u64 0,.int .u64 0,.int .u64 0,.int .u64 0,.int .u64 0]] 8 rfl (World.shaped_of_RefB (by kernel_rfl) (by kernel_rfl)) (by kernel_rfl) (by kernel_rfl) (by kernel_rfl) (door_crlBack os _)) ?_
 intro W base args ds gs before hval0 hW _ _ hL _
 have hval:∀ (j:Nat) t v,Tryz.f4.params[j]?=some t→args[j]?=some v→Value.okWide Tryz.prog W .any base t v:=hval0
 have hW':=hW
 obtain ⟨p,q,hA0,hV,rfl,_,_⟩:=hW
 have hA:DataW.TrodAll enc Tryz.prog W 0 (fun _=>true) true Tryz.f4.params.toList args.toList ds p:=hA0
 rw [Tryz.params4] at hA hval
 obtain ⟨v0,vs0,d0,ds0,p0,q0,hargs,rfl,rfl,h0,hr0⟩:=trodAll_cons hA
 obtain ⟨v1,vs1,d1,ds1,p1,q1,rfl,rfl,rfl,h1,hr1⟩:=trodAll_cons hr0
 obtain ⟨rfl,rfl,rfl⟩:=trodAll_nil hr1
 obtain rfl:args=#[v0,v1]:=by cases args;simp_all
 obtain ⟨rfl,rfl⟩:=trodVars_none hV
 have hT:=tabs_crlBack (laidX_crlBack hL)
 have GO:GlsO W:=hT
 obtain ⟨cs0,rfl,_,_⟩:∃ cs,v0=.agg cs∧cs.size=Tryz.prog.cellsOf 33∧Row.okWide Tryz.prog W .any base 33 cs:=by
  have:=hval 0 33 v0 rfl rfl
  simpa [Value.okWide,Tryz.underlying33] using this
 have k0:=h0
 have lt0:∀ x∈p0,x.block < W.heap.size:=by obtain ⟨m,hm⟩:=k0;exact DataW.trod_lt m _ _ _ hm
 obtain ⟨cc0,hct0,wfc0⟩:∃ c:Cr,CrAt W c cs0.toList∧WfCr c:=by
  obtain ⟨fuel,hf⟩:=h0
  exact open_crl (by simpa [Value.cells] using hf)
 obtain ⟨ls0,hls0⟩:∃ l:List Value,cs0.toList=l:=⟨_,rfl⟩
 rw [hls0] at hct0
 obtain rfl:cs0=ls0.toArray:=by rw [← hls0]
 clear hls0
 obtain ⟨cs1,rfl,_,_⟩:∃ cs,v1=.agg cs∧cs.size=Tryz.prog.cellsOf 31∧Row.okWide Tryz.prog W .any base 31 cs:=by
  have:=hval 1 31 v1 rfl rfl
  simpa [Value.okWide,Tryz.underlying31] using this
 obtain ⟨y0,y1,y2,y3,y4,y5,yy0,yy1,yy2,yy3,yy4,yy5,rfl,rfl,rfl,f1,g1⟩:=open_sig h1
 clear hA0 hval0 hval hargs
 refine (law_crlBack GO hct0 wfc0 (U6.mk f1) (U6.mk g1)).mono fun e W' ⟨he,bel⟩=>?_
 subst he
 exact ⟨_,rfl,_,_,_,[],_,[],hW',trodAll_mk1 (shut_bool Tryz.underlying4 _),(trodAll_cons_mk (Below.trod laid_crlBack (by kernel_rfl) (of_decide_eq_true (by kernel_rfl)) k0 bel lt0) (trodAll_cons_mk (shut_sig y0 y1 y2 y3 y4 y5 yy0 yy1 yy2 yy3 yy4 yy5 f1 g1) trodAll_mk0)),rfl,bel.frame _,fun h=>by cases h⟩
set_option maxHeartbeats 8000000 in
theorem closed_crlBack:joinedFacts Tryz.pinned.checked.prog 4 Tryz.f4 Rows.crlBackSpec Rows.crlBackRow=true:=by
 simp only [joinedFacts,Bool.and_eq_true]
 repeat' refine And.intro ?_ ?_
 all_goals (as_aux_lemma=>kernel_rfl)
theorem crlBack_said:Rows.CrlBackSaid :=
 OpenClaim.holds_of_wide 4 Tryz.f4 rfl rfl rfl rfl rfl rfl rfl ⟨rfl,rfl,rfl,rfl,rfl⟩ rfl rfl rfl rfl rfl (by kernel_rfl) Tryz.func4 closed_crlBack
  (of_decide_eq_true (by kernel_rfl)) (by unfold Func.isWrapper;first|(rw [if_pos (by decide +kernel)];kernel_rfl)|(rw [if_neg (by decide +kernel)];exact ⟨rfl,rfl⟩))
  (fun os started H enc _=>lifted_crlBack os started H enc)
theorem plain_crlBack (f : FuncId) (fn : Func) (hf : Tryz.pinned.checked.prog.funcNamed "escutcheon/escutcheonlaw18.CrlBack" = some f) (hfn : Tryz.pinned.checked.prog.funcs[f]? = some fn) :
  true=Tryz.pinned.checked.prog.looks []∧∀ (j:Nat) t,fn.params[j]?=some t→Tryz.pinned.checked.prog.wantsStandIn t=false:=by
 obtain rfl : f = 4 := Option.some.inj ((show Tryz.prog.funcNamed "escutcheon/escutcheonlaw18.CrlBack" = some 4 by kernel_rfl).symm.trans hf) |>.symm
 obtain rfl:fn=Tryz.f4:=(Option.some.inj (Tryz.func4.symm.trans hfn)).symm
 refine ⟨by kernel_rfl,fun j t ht=>?_⟩
 rw [Tryz.params4] at ht
 have hm:t∈[33,31]:=by simpa using Array.mem_of_getElem? ht
 have hall:([33,31].all fun u=>!Tryz.prog.wantsStandIn u)=true:=by kernel_rfl
 exact (show Tryz.prog.wantsStandIn t=false by simpa using List.all_eq_true.1 hall t hm)
theorem crlBack_holds:Rows.CrlBackCardSaid :=
 Claim7.holds_tied_plain_at .later [] _ _ _ _ crlBack_said (fun _ h=>by cases h) (by kernel_rfl) (fun _ h=>by cases h) crlBack_row_tie rfl ⟨rfl,rfl⟩ (by kernel_rfl) rfl plain_crlBack (by kernel_rfl)
#print axioms crlBack_holds
end Go.Proofs.YtohcdbifhnfcbaaGreatDoor
