/- Proved: the law EciesUnwraps of the program answers true for any arguments (six limbs; bytes), and all stand as they stood; the card ties the listed variables to the program's text. No conditions. -/
import Derived.Test.YtlkljfnenonfgaaGreatDoorLawEciesUnwraps
import Derived.Test.YtlkljfnenonfgaaGreatDoorXTEciesUnwraps
import Derived.Test.YtlkljfnenonfgaaGreatDoorBase
import Derived.Test.YtlkljfnenonfgaaGreatDoorAeNumG
import Derived.Test.YtlkljfnenonfgaaGreatDoorRowG
import Derived.Test.YtlkljfnenonfgaaGreatDoorCards
import Derived.Test.YtlkljfnenonfgaaGreatDoorTie
import Derived.ChangeOld
import Derived.Below
import Derived.ProofKit
import Derived.OpenShut
import Derived.ShutString
import Derived.LaidMore
import Derived.Stop.Joined
import Derived.SevenTiedAt
namespace Go.Proofs.YtlkljfnenonfgaaGreatDoor
open Go.ChangeShapes Go.WideShapes Go.ChangeAt Go.RowKit
theorem own_eciesUnwraps:ownKnob Tryz.prog.godebug=none:=by kernel_rfl
theorem laid_eciesUnwraps:laidOutB Tryz.prog=true:=by kernel_rfl
theorem door_eciesUnwraps (os:Os) (args:Array Value):laidMetH Tryz.prog Rows.eciesUnwrapsRow.laid ((World.doorLaid Tryz.prog 400 os).forCall (fun _ _=>0) ⟨#[],args,[]⟩).memory :=
 laidMetH_of_parts3 (fuel:=8) (laidMet_of_run' 8 (by kernel_rfl) (by kernel_rfl)) (by kernel_rfl) (by kernel_rfl)
set_option maxHeartbeats 1000000 in
set_option maxRecDepth 100000 in
theorem lifted_eciesUnwraps (os:Os) (started:os.Started) (H:Type) (enc:TypeId × Value→H) :
  ReturnsInHanded {} Tryz.checked os 4 .any (fun w args=>(Rows.eciesUnwrapsSpec.pre enc Tryz.prog Tryz.f4 [] false w args∧laidMetH Tryz.prog Rows.eciesUnwrapsRow.laid w)∧sizedMet enc Tryz.prog Tryz.f4 (OpenSpec.ofChange Rows.eciesUnwrapsSpec) false w args)
   (Rows.eciesUnwrapsSpec.post enc Tryz.prog Tryz.f4 false true false false):=by
 refine returnsInHanded_of_change_and (C:=Tryz.checked) (X:=fun w _=>laidMetH Tryz.prog Rows.eciesUnwrapsRow.laid w) (fun _ _ _ hh h=>h.of_heap hh) own_eciesUnwraps started (by kernel_rfl) Tryz.func4
  (ChangeSpec.witness_shaped (enc:=enc) (C:=Tryz.checked) (os:=os) (X:=fun w _=>laidMetH Tryz.prog Rows.eciesUnwrapsRow.laid w) false (World.doorLaid Tryz.prog 400 os) #[.agg #[.int .u64 0,.int .u64 0,.int .u64 0,.int .u64 0,.int .u64 0,.int .u64 0],.slice none 0 0] 8 rfl (World.shaped_of_RefB (by kernel_rfl) (by kernel_rfl)) (by kernel_rfl) (by kernel_rfl) (by kernel_rfl) (door_eciesUnwraps os _)) ?_
 intro W base args ds gs before hval0 hW _ _ hL _
 have hval:∀ (j:Nat) t v,Tryz.f4.params[j]?=some t→args[j]?=some v→Value.okWide Tryz.prog W .any base t v:=hval0
 have hW':=hW
 obtain ⟨p,q,hA0,hV,rfl,_,_⟩:=hW
 have hA:DataW.TrodAll enc Tryz.prog W 0 (fun _=>true) true Tryz.f4.params.toList args.toList ds p:=hA0
 rw [Tryz.params4] at hA hval
 obtain ⟨v0,vs0,d0,ds0,p0,q0,hargs,rfl,rfl,h0,hr0⟩:=trodAll_cons hA
 obtain ⟨v1,vs1,d1,ds1,p1,q1,rfl,rfl,rfl,h1,hr1⟩:=trodAll_cons hr0
 obtain ⟨rfl,rfl,rfl⟩:=trodAll_nil hr1
 obtain rfl:args=#[v0,v1]:=by cases args;simp_all
 obtain ⟨rfl,rfl⟩:=trodVars_none hV
 have hT:=tabs_eciesUnwraps (laidX_eciesUnwraps hL)
 have G:GlsX W:=hT
 have GE:GlsE W:=errs_eciesUnwraps hL
 obtain ⟨cs0,rfl,_,_⟩:∃ cs,v0=.agg cs∧cs.size=Tryz.prog.cellsOf 24∧Row.okWide Tryz.prog W .any base 24 cs:=by
  have:=hval 0 24 v0 rfl rfl
  simpa [Value.okWide,Tryz.underlying24] using this
 obtain ⟨A0,l0,rfl,rfl,rfl,f0⟩:=open_arr Tryz.underlying24 cells_u384 Tryz.underlying22 cells_u64 h0
 obtain ⟨x0,x1,x2,x3,x4,x5,rfl⟩:=six l0
 obtain ⟨a1,len1,cap1,rfl⟩:=okWide_slice Tryz.underlying27 (hval 1 27 v1 rfl rfl)
 have k1:=h1
 have lt1:∀ x∈p1,x.block < W.heap.size:=by obtain ⟨m,hm⟩:=k1;exact DataW.trod_lt m _ _ _ hm
 obtain ⟨bs1,hbs1,hbyt1⟩:∃ bs,Bs W (.slice a1 len1 cap1) bs∧byt bs:=by
  obtain ⟨fuel,hf⟩:=h1
  rcases open_ints Tryz.underlying27 Tryz.underlying5 (by kernel_rfl) hf with ⟨hcs,_⟩|⟨x,l,c,zs,hcs,_,hl,hm,hz,_,hcell,hwz⟩
  ·simp [Value.cells] at hcs
   obtain ⟨rfl,rfl,rfl⟩:=hcs
   exact ⟨[],⟨none,0,rfl,Nat.zero_le _,Nat.le_refl _,fun h=>absurd h (by simp)⟩,fun j=>by simp⟩
  ·simp [Value.cells] at hcs
   obtain ⟨rfl,rfl,rfl⟩:=hcs
   have:=row_bytes hl hm (by simpa using hz) hcell hwz
   exact ⟨_,this.1,this.2⟩
 clear hA0 hval0 hval hargs
 refine (law_eciesUnwraps G GE (U6.mk f0) hbs1 hbyt1).mono fun e W' ⟨he,bel⟩=>?_
 subst he
 exact ⟨_,rfl,_,_,_,[],_,[],hW',trodAll_mk1 (shut_bool Tryz.underlying4 _),(trodAll_cons_mk (shut_six Tryz.underlying24 cells_u384 Tryz.underlying22 cells_u64 x0 x1 x2 x3 x4 x5 f0) (trodAll_cons_mk (Below.trod laid_eciesUnwraps (by kernel_rfl) (of_decide_eq_true (by kernel_rfl)) k1 bel lt1) trodAll_mk0)),rfl,bel.frame _,fun h=>by cases h⟩
theorem eciesUnwraps_said:Rows.EciesUnwrapsSaid :=
 OpenClaim.holds_of_wide 4 Tryz.f4 rfl rfl rfl rfl rfl rfl rfl ⟨rfl,rfl,rfl,rfl,rfl⟩ rfl rfl rfl rfl rfl (by kernel_rfl) Tryz.func4 (by kernel_rfl)
  (of_decide_eq_true (by kernel_rfl)) (by unfold Func.isWrapper;first|(rw [if_pos (by decide +kernel)];kernel_rfl)|(rw [if_neg (by decide +kernel)];exact ⟨rfl,rfl⟩))
  (fun os started H enc _=>lifted_eciesUnwraps os started H enc)
theorem plain_eciesUnwraps (f : FuncId) (fn : Func) (hf : Tryz.pinned.checked.prog.funcNamed "escutcheon/escutcheonlaw15.EciesUnwraps" = some f) (hfn : Tryz.pinned.checked.prog.funcs[f]? = some fn) :
  true=Tryz.pinned.checked.prog.looks []∧∀ (j:Nat) t,fn.params[j]?=some t→Tryz.pinned.checked.prog.wantsStandIn t=false:=by
 obtain rfl : f = 4 := Option.some.inj ((show Tryz.prog.funcNamed "escutcheon/escutcheonlaw15.EciesUnwraps" = some 4 by kernel_rfl).symm.trans hf) |>.symm
 obtain rfl:fn=Tryz.f4:=(Option.some.inj (Tryz.func4.symm.trans hfn)).symm
 refine ⟨by kernel_rfl,fun j t ht=>?_⟩
 rw [Tryz.params4] at ht
 have hm:t∈[24,27]:=by simpa using Array.mem_of_getElem? ht
 have hall:([24,27].all fun u=>!Tryz.prog.wantsStandIn u)=true:=by kernel_rfl
 exact (show Tryz.prog.wantsStandIn t=false by simpa using List.all_eq_true.1 hall t hm)
theorem eciesUnwraps_holds:Rows.EciesUnwrapsCardSaid :=
 Claim7.holds_tied_plain_at .later [] _ _ _ _ eciesUnwraps_said (fun _ h=>by cases h) (by kernel_rfl) (fun _ h=>by cases h) eciesUnwraps_row_tie rfl ⟨rfl,rfl⟩ (by kernel_rfl) rfl plain_eciesUnwraps (by kernel_rfl)
#print axioms eciesUnwraps_holds
end Go.Proofs.YtlkljfnenonfgaaGreatDoor
