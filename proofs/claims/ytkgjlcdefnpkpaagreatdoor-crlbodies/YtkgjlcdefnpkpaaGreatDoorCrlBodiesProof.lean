/- Proved: the law CrlBodies of the program answers true for any arguments (a list of revoked ones), and all stand as they stood; the card ties the listed variables to the program's text. No conditions. -/
import Derived.Test.YtkgjlcdefnpkpaaGreatDoorLawCrlBodies
import Derived.Test.YtkgjlcdefnpkpaaGreatDoorXTCrlEncodes
import Derived.Test.YtkgjlcdefnpkpaaGreatDoorBase
import Derived.Test.YtkgjlcdefnpkpaaGreatDoorRowR
import Derived.Test.YtkgjlcdefnpkpaaGreatDoorCards
import Derived.Test.YtkgjlcdefnpkpaaGreatDoorTie
import Derived.ChangeOld
import Derived.Below
import Derived.ProofKit
import Derived.OpenShut
import Derived.ShutString
import Derived.LaidMore
import Derived.Stop.Joined
import Derived.SevenTiedAt
namespace Go.Proofs.YtkgjlcdefnpkpaaGreatDoor
open Go.ChangeShapes Go.WideShapes Go.ChangeAt Go.RowKit
theorem own_crlBodies:ownKnob Tryz.prog.godebug=none:=by kernel_rfl
theorem laid_crlBodies:laidOutB Tryz.prog=true:=by kernel_rfl
theorem door_crlBodies (os:Os) (args:Array Value):laidMetH Tryz.prog Rows.crlBodiesRow.laid ((World.doorLaid Tryz.prog 400 os).forCall (fun _ _=>0) ⟨#[],args,[]⟩).memory :=
 laidMetH_of_parts3 (fuel:=8) (laidMet_of_run' 8 (by kernel_rfl) (by kernel_rfl)) (by kernel_rfl) (by kernel_rfl)
set_option maxHeartbeats 1000000 in
set_option maxRecDepth 100000 in
theorem lifted_crlBodies (os:Os) (started:os.Started) (H:Type) (enc:TypeId × Value→H) :
  ReturnsInHanded {} Tryz.checked os 3 .any (fun w args=>(Rows.crlBodiesSpec.pre enc Tryz.prog Tryz.f3 [] false w args∧laidMetH Tryz.prog Rows.crlBodiesRow.laid w)∧sizedMet enc Tryz.prog Tryz.f3 (OpenSpec.ofChange Rows.crlBodiesSpec) false w args)
   (Rows.crlBodiesSpec.post enc Tryz.prog Tryz.f3 false true false false):=by
 refine returnsInHanded_of_change_and (C:=Tryz.checked) (X:=fun w _=>laidMetH Tryz.prog Rows.crlBodiesRow.laid w) (fun _ _ _ hh h=>h.of_heap hh) own_crlBodies started (by kernel_rfl) Tryz.func3
  (ChangeSpec.witness_shaped (enc:=enc) (C:=Tryz.checked) (os:=os) (X:=fun w _=>laidMetH Tryz.prog Rows.crlBodiesRow.laid w) false (World.doorLaid Tryz.prog 400 os) #[.agg #[.slice none 0 0,.int .i64 0,.int .i64 0,.slice none 0 0,.slice none 0 0,.int .u64 0,.int .u64 0,.int .u64 0,.int .u64 0,.int .u64 0,.int .u64 0,.int .u64 0,.int .u64 0,.int .u64 0,.int .u64 0,.int .u64 0,.int .u64 0]] 8 rfl (World.shaped_of_RefB (by kernel_rfl) (by kernel_rfl)) (by kernel_rfl) (by kernel_rfl) (by kernel_rfl) (door_crlBodies os _)) ?_
 intro W base args ds gs before hval0 hW _ _ hL _
 have hval:∀ (j:Nat) t v,Tryz.f3.params[j]?=some t→args[j]?=some v→Value.okWide Tryz.prog W .any base t v:=hval0
 have hW':=hW
 obtain ⟨p,q,hA0,hV,rfl,_,_⟩:=hW
 have hA:DataW.TrodAll enc Tryz.prog W 0 (fun _=>true) true Tryz.f3.params.toList args.toList ds p:=hA0
 rw [Tryz.params3] at hA hval
 obtain ⟨v0,vs0,d0,ds0,p0,q0,hargs,rfl,rfl,h0,hr0⟩:=trodAll_cons hA
 obtain ⟨rfl,rfl,rfl⟩:=trodAll_nil hr0
 obtain rfl:args=#[v0]:=by cases args;simp_all
 obtain ⟨rfl,rfl⟩:=trodVars_none hV
 have hT:=tabs_crlBodies (laidX_crlBodies hL)
 have GO:GlsO W:=hT
 obtain ⟨cs0,rfl,_,_⟩:∃ cs,v0=.agg cs∧cs.size=Tryz.prog.cellsOf 32∧Row.okWide Tryz.prog W .any base 32 cs:=by
  have:=hval 0 32 v0 rfl rfl
  simpa [Value.okWide,Tryz.underlying32] using this
 have k0:=h0
 have lt0:∀ x∈p0,x.block < W.heap.size:=by obtain ⟨m,hm⟩:=k0;exact DataW.trod_lt m _ _ _ hm
 obtain ⟨cc0,hct0,wfc0⟩:∃ c:Cr,CrAt W c cs0.toList∧WfCr c:=by
  obtain ⟨fuel,hf⟩:=h0
  exact open_crl (by simpa [Value.cells] using hf)
 obtain ⟨ls0,hls0⟩:∃ l:List Value,cs0.toList=l:=⟨_,rfl⟩
 rw [hls0] at hct0
 obtain rfl:cs0=ls0.toArray:=by rw [← hls0]
 clear hls0
 clear hA0 hval0 hval hargs
 refine (law_crlBodies GO hct0 wfc0).mono fun e W' ⟨he,bel⟩=>?_
 subst he
 exact ⟨_,rfl,_,_,_,[],_,[],hW',trodAll_mk1 (shut_bool Tryz.underlying4 _),(trodAll_cons_mk (Below.trod laid_crlBodies (by kernel_rfl) (of_decide_eq_true (by kernel_rfl)) k0 bel lt0) trodAll_mk0),rfl,bel.frame _,fun h=>by cases h⟩
set_option maxHeartbeats 8000000 in
theorem closed_crlBodies:joinedFacts Tryz.pinned.checked.prog 3 Tryz.f3 Rows.crlBodiesSpec Rows.crlBodiesRow=true:=by
 simp only [joinedFacts,Bool.and_eq_true]
 repeat' refine And.intro ?_ ?_
 all_goals (as_aux_lemma=>kernel_rfl)
theorem crlBodies_said:Rows.CrlBodiesSaid :=
 OpenClaim.holds_of_wide 3 Tryz.f3 rfl rfl rfl rfl rfl rfl rfl ⟨rfl,rfl,rfl,rfl,rfl⟩ rfl rfl rfl rfl rfl (by kernel_rfl) Tryz.func3 closed_crlBodies
  (of_decide_eq_true (by kernel_rfl)) (by unfold Func.isWrapper;first|(rw [if_pos (by decide +kernel)];kernel_rfl)|(rw [if_neg (by decide +kernel)];exact ⟨rfl,rfl⟩))
  (fun os started H enc _=>lifted_crlBodies os started H enc)
theorem plain_crlBodies (f : FuncId) (fn : Func) (hf : Tryz.pinned.checked.prog.funcNamed "escutcheon/escutcheonlaw18.CrlBodies" = some f) (hfn : Tryz.pinned.checked.prog.funcs[f]? = some fn) :
  true=Tryz.pinned.checked.prog.looks []∧∀ (j:Nat) t,fn.params[j]?=some t→Tryz.pinned.checked.prog.wantsStandIn t=false:=by
 obtain rfl : f = 3 := Option.some.inj ((show Tryz.prog.funcNamed "escutcheon/escutcheonlaw18.CrlBodies" = some 3 by kernel_rfl).symm.trans hf) |>.symm
 obtain rfl:fn=Tryz.f3:=(Option.some.inj (Tryz.func3.symm.trans hfn)).symm
 refine ⟨by kernel_rfl,fun j t ht=>?_⟩
 rw [Tryz.params3] at ht
 have hm:t∈[32]:=by simpa using Array.mem_of_getElem? ht
 have hall:([32].all fun u=>!Tryz.prog.wantsStandIn u)=true:=by kernel_rfl
 exact (show Tryz.prog.wantsStandIn t=false by simpa using List.all_eq_true.1 hall t hm)
theorem crlBodies_holds:Rows.CrlBodiesCardSaid :=
 Claim7.holds_tied_plain_at .later [] _ _ _ _ crlBodies_said (fun _ h=>by cases h) (by kernel_rfl) (fun _ h=>by cases h) crlBodies_row_tie rfl ⟨rfl,rfl⟩ (by kernel_rfl) rfl plain_crlBodies (by kernel_rfl)
#print axioms crlBodies_holds
end Go.Proofs.YtkgjlcdefnpkpaaGreatDoor
