/- Proved: the law ManifestSigns of the program answers true for any arguments (bytes; two numbers of six limbs), and all stand as they stood; the card ties the listed variables to the program's text. No conditions. -/
import Derived.Test.YtnkipgbnnhahbaaGreatDoorLawManifestSigns
import Derived.Test.YtnkipgbnnhahbaaGreatDoorXTManifestSigns
import Derived.Test.YtnkipgbnnhahbaaGreatDoorXTManifestSigned
import Derived.Test.YtnkipgbnnhahbaaGreatDoorRowB
import Derived.Test.YtnkipgbnnhahbaaGreatDoorCards
import Derived.Test.YtnkipgbnnhahbaaGreatDoorTie
import Derived.ChangeOld
import Derived.Below
import Derived.ProofKit
import Derived.OpenShut
import Derived.ShutString
import Derived.LaidMore
import Derived.Stop.Joined
import Derived.SevenTiedAt
namespace Go.Proofs.YtnkipgbnnhahbaaGreatDoor
open Go.ChangeShapes Go.WideShapes Go.ChangeAt Go.RowKit
theorem own_manifestSigns:ownKnob Tryz.prog.godebug=none:=by kernel_rfl
theorem laid_manifestSigns:laidOutB Tryz.prog=true:=by kernel_rfl
theorem door_manifestSigns (os:Os) (args:Array Value):laidMetH Tryz.prog Rows.manifestSignsRow.laid ((World.doorLaid Tryz.prog 400 os).forCall (fun _ _=>0) ⟨#[],args,[]⟩).memory :=
 laidMetH_of_parts3 (fuel:=8) (laidMet_of_run' 8 (by kernel_rfl) (by kernel_rfl)) (by kernel_rfl) (by kernel_rfl)
set_option maxHeartbeats 1000000 in
set_option maxRecDepth 100000 in
theorem lifted_manifestSigns (os:Os) (started:os.Started) (H:Type) (enc:TypeId × Value→H) :
  ReturnsInHanded {} Tryz.checked os 3 .any (fun w args=>(Rows.manifestSignsSpec.pre enc Tryz.prog Tryz.f3 [] false w args∧laidMetH Tryz.prog Rows.manifestSignsRow.laid w)∧sizedMet enc Tryz.prog Tryz.f3 (OpenSpec.ofChange Rows.manifestSignsSpec) false w args)
   (Rows.manifestSignsSpec.post enc Tryz.prog Tryz.f3 false true false false):=by
 refine returnsInHanded_of_change_and (C:=Tryz.checked) (X:=fun w _=>laidMetH Tryz.prog Rows.manifestSignsRow.laid w) (fun _ _ _ hh h=>h.of_heap hh) own_manifestSigns started (by kernel_rfl) Tryz.func3
  (ChangeSpec.witness_shaped (enc:=enc) (C:=Tryz.checked) (os:=os) (X:=fun w _=>laidMetH Tryz.prog Rows.manifestSignsRow.laid w) false (World.doorLaid Tryz.prog 400 os) #[.slice none 0 0,.agg #[.int .u64 0,.int .u64 0,.int .u64 0,.int .u64 0,.int .u64 0,.int .u64 0,.int .u64 0,.int .u64 0,.int .u64 0,.int .u64 0,.int .u64 0,.int .u64 0]] 8 rfl (World.shaped_of_RefB (by kernel_rfl) (by kernel_rfl)) (by kernel_rfl) (by kernel_rfl) (by kernel_rfl) (door_manifestSigns os _)) ?_
 intro W base args ds gs before hval0 hW _ _ hL _
 have hval:∀ (j:Nat) t v,Tryz.f3.params[j]?=some t→args[j]?=some v→Value.okWide Tryz.prog W .any base t v:=hval0
 have hW':=hW
 obtain ⟨p,q,hA0,hV,rfl,_,_⟩:=hW
 have hA:DataW.TrodAll enc Tryz.prog W 0 (fun _=>true) true Tryz.f3.params.toList args.toList ds p:=hA0
 rw [Tryz.params3] at hA hval
 obtain ⟨v0,vs0,d0,ds0,p0,q0,hargs,rfl,rfl,h0,hr0⟩:=trodAll_cons hA
 obtain ⟨v1,vs1,d1,ds1,p1,q1,rfl,rfl,rfl,h1,hr1⟩:=trodAll_cons hr0
 obtain ⟨rfl,rfl,rfl⟩:=trodAll_nil hr1
 obtain rfl:args=#[v0,v1]:=by cases args;simp_all
 obtain ⟨rfl,rfl⟩:=trodVars_none hV
 have hT:=tabs_manifestSigns (laidX_manifestSigns hL)
 have GO:GlsO W:=hT
 have GE:GlsE W:=errs_manifestSigns hL
 obtain ⟨a0,len0,cap0,rfl⟩:=okWide_slice Tryz.underlying22 (hval 0 22 v0 rfl rfl)
 have k0:=h0
 have lt0:∀ x∈p0,x.block < W.heap.size:=by obtain ⟨m,hm⟩:=k0;exact DataW.trod_lt m _ _ _ hm
 obtain ⟨bs0,hbs0,hbyt0⟩:∃ bs,Bs W (.slice a0 len0 cap0) bs∧byt bs:=by
  obtain ⟨fuel,hf⟩:=h0
  rcases open_ints Tryz.underlying22 Tryz.underlying5 (by kernel_rfl) hf with ⟨hcs,_⟩|⟨x,l,c,zs,hcs,_,hl,hm,hz,_,hcell,hwz⟩
  ·simp [Value.cells] at hcs
   obtain ⟨rfl,rfl,rfl⟩:=hcs
   exact ⟨[],⟨none,0,rfl,Nat.zero_le _,Nat.le_refl _,fun h=>absurd h (by simp)⟩,fun j=>by simp⟩
  ·simp [Value.cells] at hcs
   obtain ⟨rfl,rfl,rfl⟩:=hcs
   have:=row_bytes hl hm (by simpa using hz) hcell hwz
   exact ⟨_,this.1,this.2⟩
 obtain ⟨cs1,rfl,_,_⟩:∃ cs,v1=.agg cs∧cs.size=Tryz.prog.cellsOf 27∧Row.okWide Tryz.prog W .any base 27 cs:=by
  have:=hval 1 27 v1 rfl rfl
  simpa [Value.okWide,Tryz.underlying27] using this
 obtain ⟨y0,y1,y2,y3,y4,y5,yy0,yy1,yy2,yy3,yy4,yy5,rfl,rfl,rfl,f1,g1⟩:=open_sig h1
 clear hA0 hval0 hval hargs
 refine (law_manifestSigns GO GE hbs0 hbyt0 (U6.mk f1) (U6.mk g1)).mono fun e W' ⟨he,bel⟩=>?_
 subst he
 exact ⟨_,rfl,_,_,_,[],_,[],hW',trodAll_mk1 (shut_bool Tryz.underlying4 _),(trodAll_cons_mk (Below.trod laid_manifestSigns (by kernel_rfl) (of_decide_eq_true (by kernel_rfl)) k0 bel lt0) (trodAll_cons_mk (shut_sig y0 y1 y2 y3 y4 y5 yy0 yy1 yy2 yy3 yy4 yy5 f1 g1) trodAll_mk0)),rfl,bel.frame _,fun h=>by cases h⟩
set_option maxHeartbeats 8000000 in
theorem closed_manifestSigns:joinedFacts Tryz.pinned.checked.prog 3 Tryz.f3 Rows.manifestSignsSpec Rows.manifestSignsRow=true:=by
 simp only [joinedFacts,Bool.and_eq_true]
 repeat' refine And.intro ?_ ?_
 all_goals (as_aux_lemma=>kernel_rfl)
theorem manifestSigns_said:Rows.ManifestSignsSaid :=
 OpenClaim.holds_of_wide 3 Tryz.f3 rfl rfl rfl rfl rfl rfl rfl ⟨rfl,rfl,rfl,rfl,rfl⟩ rfl rfl rfl rfl rfl (by kernel_rfl) Tryz.func3 closed_manifestSigns
  (of_decide_eq_true (by kernel_rfl)) (by unfold Func.isWrapper;first|(rw [if_pos (by decide +kernel)];kernel_rfl)|(rw [if_neg (by decide +kernel)];exact ⟨rfl,rfl⟩))
  (fun os started H enc _=>lifted_manifestSigns os started H enc)
theorem plain_manifestSigns (f : FuncId) (fn : Func) (hf : Tryz.pinned.checked.prog.funcNamed "escutcheon/escutcheonlaw20.ManifestSigns" = some f) (hfn : Tryz.pinned.checked.prog.funcs[f]? = some fn) :
  true=Tryz.pinned.checked.prog.looks []∧∀ (j:Nat) t,fn.params[j]?=some t→Tryz.pinned.checked.prog.wantsStandIn t=false:=by
 obtain rfl : f = 3 := Option.some.inj ((show Tryz.prog.funcNamed "escutcheon/escutcheonlaw20.ManifestSigns" = some 3 by kernel_rfl).symm.trans hf) |>.symm
 obtain rfl:fn=Tryz.f3:=(Option.some.inj (Tryz.func3.symm.trans hfn)).symm
 refine ⟨by kernel_rfl,fun j t ht=>?_⟩
 rw [Tryz.params3] at ht
 have hm:t∈[22,27]:=by simpa using Array.mem_of_getElem? ht
 have hall:([22,27].all fun u=>!Tryz.prog.wantsStandIn u)=true:=by kernel_rfl
 exact (show Tryz.prog.wantsStandIn t=false by simpa using List.all_eq_true.1 hall t hm)
theorem manifestSigns_holds:Rows.ManifestSignsCardSaid :=
 Claim7.holds_tied_plain_at .later [] _ _ _ _ manifestSigns_said (fun _ h=>by cases h) (by kernel_rfl) (fun _ h=>by cases h) manifestSigns_row_tie rfl ⟨rfl,rfl⟩ (by kernel_rfl) rfl plain_manifestSigns (by kernel_rfl)
#print axioms manifestSigns_holds
end Go.Proofs.YtnkipgbnnhahbaaGreatDoor
