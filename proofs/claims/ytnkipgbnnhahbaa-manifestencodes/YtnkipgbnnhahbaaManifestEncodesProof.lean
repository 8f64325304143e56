/- Proved: the law ManifestEncodes of the program answers true for any arguments (a manifest), and all stand as they stood. No conditions. -/
import Derived.Test.YtnkipgbnnhahbaaLawManifestEncodes
import Derived.Test.YtnkipgbnnhahbaaRowM
import Derived.Test.YtnkipgbnnhahbaaRows
import Derived.ProofKit
import Derived.OpenShut
import Derived.WalkKit
import Derived.ShutString
import Derived.ChangeOld
import Derived.Below
namespace Go.Proofs.Ytnkipgbnnhahbaa
open Go.ChangeShapes Go.WideShapes Go.ChangeAt Go.RowKit
theorem own_manifestEncodes:ownKnob Try.prog.godebug=none:=by kernel_rfl
theorem laid_manifestEncodes:laidOutB Try.prog=true:=by kernel_rfl
set_option maxHeartbeats 1000000 in
set_option maxRecDepth 100000 in
theorem lifted_manifestEncodes (os:Os) (started:os.Started) (H:Type) (enc:TypeId × Value→H) :
  ReturnsInHanded {} Try.checked os 3 .any (Rows.manifestEncodesSpec.pre6 enc Try.prog Try.f3 Rows.manifestEncodesRow.domain false) (Rows.manifestEncodesSpec.post enc Try.prog Try.f3 false true false false):=by
 refine returnsInHanded_of_change (C:=Try.checked) own_manifestEncodes started (by kernel_rfl) Try.func3
  (ChangeSpec.witness6 (enc:=enc) (C:=Try.checked) false ⟨#[],#[.agg #[.int .i64 0,.int .i64 0,.int .i64 0,.int .i64 0,.slice none 0 0,.slice none 0 0,.slice none 0 0]],[]⟩ 8 (by kernel_rfl) (by kernel_rfl) (by kernel_rfl) (by kernel_rfl)) ?_
 intro W base args ds gs before hval0 hW _ _
 have hval:∀ (j:Nat) t v,Try.f3.params[j]?=some t→args[j]?=some v→Value.okWide Try.prog W .any base t v:=hval0
 have hW':=hW
 obtain ⟨p,q,hA0,hV,rfl,_,_⟩:=hW
 have hA:DataW.TrodAll enc Try.prog W 0 (fun _=>true) true Try.f3.params.toList args.toList ds p:=hA0
 rw [Try.params3] at hA hval
 obtain ⟨v0,vs0,d0,ds0,p0,q0,hargs,rfl,rfl,h0,hr0⟩:=trodAll_cons hA
 obtain ⟨rfl,rfl,rfl⟩:=trodAll_nil hr0
 obtain rfl:args=#[v0]:=by cases args;simp_all
 obtain ⟨rfl,rfl⟩:=trodVars_none hV
 obtain ⟨cs0,rfl,_,_⟩:∃ cs,v0=.agg cs∧cs.size=Try.prog.cellsOf 24∧Row.okWide Try.prog W .any base 24 cs:=by
  have:=hval 0 24 v0 rfl rfl
  simpa [Value.okWide,Try.underlying24] using this
 have k0:=h0
 have lt0:∀ x∈p0,x.block < W.heap.size:=by obtain ⟨m,hm⟩:=k0;exact DataW.trod_lt m _ _ _ hm
 obtain ⟨cc0,hct0,wfc0⟩:∃ m:Mf,MfAt W m cs0.toList∧WfM m:=by
  obtain ⟨fuel,hf⟩:=h0
  exact open_mf (by simpa [Value.cells] using hf)
 obtain ⟨ls0,hls0⟩:∃ l:List Value,cs0.toList=l:=⟨_,rfl⟩
 rw [hls0] at hct0
 obtain rfl:cs0=ls0.toArray:=by rw [← hls0]
 clear hls0
 clear hA0 hval0 hval hargs
 refine (law_manifestEncodes hct0 wfc0).mono fun e W' ⟨he,bel⟩=>?_
 subst he
 exact ⟨_,rfl,_,_,_,[],_,[],hW',trodAll_mk1 (shut_bool Try.underlying4 _),(trodAll_cons_mk (Below.trod laid_manifestEncodes (by kernel_rfl) (of_decide_eq_true (by kernel_rfl)) k0 bel lt0) trodAll_mk0),rfl,bel.frame _,fun h=>by cases h⟩
theorem manifestEncodes_holds:Rows.ManifestEncodesSaid :=
 OpenClaim.holds_of_wide 3 Try.f3 rfl rfl rfl rfl rfl rfl rfl ⟨rfl,rfl,rfl,rfl,rfl⟩ rfl rfl rfl rfl rfl (by kernel_rfl) Try.func3 (by kernel_rfl)
  (of_decide_eq_true (by kernel_rfl)) (by unfold Func.isWrapper;first|(rw [if_pos (by decide +kernel)];kernel_rfl)|(rw [if_neg (by decide +kernel)];exact ⟨rfl,rfl⟩))
  (fun os started H enc _=>lifted_manifestEncodes os started H enc)
#print axioms manifestEncodes_holds
end Go.Proofs.Ytnkipgbnnhahbaa
