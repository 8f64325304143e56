/- Proved: the law ManifestFits of the program answers true for any arguments (a manifest, an int), and all stand as they stood. No conditions. -/
import Derived.Test.YtnkipgbnnhahbaaLawManifestFits
import Derived.Test.YtnkipgbnnhahbaaRowM
import Derived.Test.YtnkipgbnnhahbaaRows
import Derived.ProofKit
import Derived.OpenShut
import Derived.WalkKit
import Derived.ShutString
import Derived.ChangeOld
import Derived.Below
namespace Go.Proofs.Ytnkipgbnnhahbaa
open Go.ChangeShapes Go.WideShapes Go.ChangeAt Go.RowKit
theorem own_manifestFits:ownKnob Try.prog.godebug=none:=by kernel_rfl
theorem laid_manifestFits:laidOutB Try.prog=true:=by kernel_rfl
theorem wfi_manifestFits {n:Int} (h:(Lit.int .i64 n).wf=true):-9223372036854775808≤n∧n < 9223372036854775808:=by
 have h1:IntKind.i64.min=-9223372036854775808:=rfl
 have h2:IntKind.i64.max=9223372036854775807:=rfl
 simp [Lit.wf,h1,h2] at h
 omega
set_option maxHeartbeats 1000000 in
set_option maxRecDepth 100000 in
theorem lifted_manifestFits (os:Os) (started:os.Started) (H:Type) (enc:TypeId × Value→H) :
  ReturnsInHanded {} Try.checked os 4 .any (Rows.manifestFitsSpec.pre6 enc Try.prog Try.f4 Rows.manifestFitsRow.domain false) (Rows.manifestFitsSpec.post enc Try.prog Try.f4 false true false false):=by
 refine returnsInHanded_of_change (C:=Try.checked) own_manifestFits started (by kernel_rfl) Try.func4
  (ChangeSpec.witness6 (enc:=enc) (C:=Try.checked) false ⟨#[],#[.agg #[.int .i64 0,.int .i64 0,.int .i64 0,.int .i64 0,.slice none 0 0,.slice none 0 0,.slice none 0 0],.int .i64 0],[]⟩ 8 (by kernel_rfl) (by kernel_rfl) (by kernel_rfl) (by kernel_rfl)) ?_
 intro W base args ds gs before hval0 hW _ _
 have hval:∀ (j:Nat) t v,Try.f4.params[j]?=some t→args[j]?=some v→Value.okWide Try.prog W .any base t v:=hval0
 have hW':=hW
 obtain ⟨p,q,hA0,hV,rfl,_,_⟩:=hW
 have hA:DataW.TrodAll enc Try.prog W 0 (fun _=>true) true Try.f4.params.toList args.toList ds p:=hA0
 rw [Try.params4] at hA hval
 obtain ⟨v0,vs0,d0,ds0,p0,q0,hargs,rfl,rfl,h0,hr0⟩:=trodAll_cons hA
 obtain ⟨v1,vs1,d1,ds1,p1,q1,rfl,rfl,rfl,h1,hr1⟩:=trodAll_cons hr0
 obtain ⟨rfl,rfl,rfl⟩:=trodAll_nil hr1
 obtain rfl:args=#[v0,v1]:=by cases args;simp_all
 obtain ⟨rfl,rfl⟩:=trodVars_none hV
 obtain ⟨cs0,rfl,_,_⟩:∃ cs,v0=.agg cs∧cs.size=Try.prog.cellsOf 24∧Row.okWide Try.prog W .any base 24 cs:=by
  have:=hval 0 24 v0 rfl rfl
  simpa [Value.okWide,Try.underlying24] using this
 have k0:=h0
 have lt0:∀ x∈p0,x.block < W.heap.size:=by obtain ⟨m,hm⟩:=k0;exact DataW.trod_lt m _ _ _ hm
 obtain ⟨cc0,hct0,wfc0⟩:∃ m:Mf,MfAt W m cs0.toList∧WfM m:=by
  obtain ⟨fuel,hf⟩:=h0
  exact open_mf (by simpa [Value.cells] using hf)
 obtain ⟨ls0,hls0⟩:∃ l:List Value,cs0.toList=l:=⟨_,rfl⟩
 rw [hls0] at hct0
 obtain rfl:cs0=ls0.toArray:=by rw [← hls0]
 clear hls0
 obtain ⟨x1,rfl,rfl,rfl,w_x1⟩:=open_int Try.underlying3 (hval 1 3 v1 rfl rfl) h1
 have f1:=wfi_manifestFits w_x1
 clear hA0 hval0 hval hargs
 refine (law_manifestFits hct0 wfc0 ⟨f1.1,by have:=f1.2;omega⟩).mono fun e W' ⟨he,bel⟩=>?_
 subst he
 exact ⟨_,rfl,_,_,_,[],_,[],hW',trodAll_mk1 (shut_bool Try.underlying4 _),(trodAll_cons_mk (Below.trod laid_manifestFits (by kernel_rfl) (of_decide_eq_true (by kernel_rfl)) k0 bel lt0) (trodAll_cons_mk (shut_int Try.underlying3 w_x1) trodAll_mk0)),rfl,bel.frame _,fun h=>by cases h⟩
theorem manifestFits_holds:Rows.ManifestFitsSaid :=
 OpenClaim.holds_of_wide 4 Try.f4 rfl rfl rfl rfl rfl rfl rfl ⟨rfl,rfl,rfl,rfl,rfl⟩ rfl rfl rfl rfl rfl (by kernel_rfl) Try.func4 (by kernel_rfl)
  (of_decide_eq_true (by kernel_rfl)) (by unfold Func.isWrapper;first|(rw [if_pos (by decide +kernel)];kernel_rfl)|(rw [if_neg (by decide +kernel)];exact ⟨rfl,rfl⟩))
  (fun os started H enc _=>lifted_manifestFits os started H enc)
#print axioms manifestFits_holds
end Go.Proofs.Ytnkipgbnnhahbaa
