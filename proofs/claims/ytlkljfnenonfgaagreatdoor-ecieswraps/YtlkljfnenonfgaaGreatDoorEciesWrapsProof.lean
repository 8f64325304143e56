/- Proved: the law EciesWraps of the program answers true for any arguments (limbs and a bool that tell a point, or none; six limbs; bytes), and all stand as they stood; the card ties the listed variables to the program's text. No conditions. -/
import Derived.Test.YtlkljfnenonfgaaGreatDoorLawEciesWraps
import Derived.Test.YtlkljfnenonfgaaGreatDoorXTEciesWraps
import Derived.Test.YtlkljfnenonfgaaGreatDoorBase
import Derived.Test.YtlkljfnenonfgaaGreatDoorAeNumG
import Derived.Test.YtlkljfnenonfgaaGreatDoorRowG
import Derived.Test.YtlkljfnenonfgaaGreatDoorCards
import Derived.Test.YtlkljfnenonfgaaGreatDoorTie
import Derived.ChangeOld
import Derived.Below
import Derived.ProofKit
import Derived.OpenShut
import Derived.ShutString
import Derived.LaidMore
import Derived.Stop.Joined
import Derived.SevenTiedAt
namespace Go.Proofs.YtlkljfnenonfgaaGreatDoor
open Go.ChangeShapes Go.WideShapes Go.ChangeAt Go.RowKit
theorem own_eciesWraps:ownKnob Tryz.prog.godebug=none:=by kernel_rfl
theorem laid_eciesWraps:laidOutB Tryz.prog=true:=by kernel_rfl
theorem door_eciesWraps (os:Os) (args:Array Value):laidMetH Tryz.prog Rows.eciesWrapsRow.laid ((World.doorLaid Tryz.prog 400 os).forCall (fun _ _=>0) ⟨#[],args,[]⟩).memory :=
 laidMetH_of_parts3 (fuel:=8) (laidMet_of_run' 8 (by kernel_rfl) (by kernel_rfl)) (by kernel_rfl) (by kernel_rfl)
set_option maxHeartbeats 1000000 in
set_option maxRecDepth 100000 in
theorem lifted_eciesWraps (os:Os) (started:os.Started) (H:Type) (enc:TypeId × Value→H) :
  ReturnsInHanded {} Tryz.checked os 3 .any (fun w args=>(Rows.eciesWrapsSpec.pre enc Tryz.prog Tryz.f3 [] false w args∧laidMetH Tryz.prog Rows.eciesWrapsRow.laid w)∧sizedMet enc Tryz.prog Tryz.f3 (OpenSpec.ofChange Rows.eciesWrapsSpec) false w args)
   (Rows.eciesWrapsSpec.post enc Tryz.prog Tryz.f3 false true false false):=by
 refine returnsInHanded_of_change_and (C:=Tryz.checked) (X:=fun w _=>laidMetH Tryz.prog Rows.eciesWrapsRow.laid w) (fun _ _ _ hh h=>h.of_heap hh) own_eciesWraps started (by kernel_rfl) Tryz.func3
  (ChangeSpec.witness_shaped (enc:=enc) (C:=Tryz.checked) (os:=os) (X:=fun w _=>laidMetH Tryz.prog Rows.eciesWrapsRow.laid w) false (World.doorLaid Tryz.prog 400 os) #[.agg #[.int .u64 0,.int .u64 0,.int .u64 0,.int .u64 0,.int .u64 0,.int .u64 0,.int .u64 0,.int .u64 0,.int .u64 0,.int .u64 0,.int .u64 0,.int .u64 0,.bool false],.agg #[.int .u64 0,.int .u64 0,.int .u64 0,.int .u64 0,.int .u64 0,.int .u64 0],.slice none 0 0] 8 rfl (World.shaped_of_RefB (by kernel_rfl) (by kernel_rfl)) (by kernel_rfl) (by kernel_rfl) (by kernel_rfl) (door_eciesWraps os _)) ?_
 intro W base args ds gs before hval0 hW _ _ hL _
 have hval:∀ (j:Nat) t v,Tryz.f3.params[j]?=some t→args[j]?=some v→Value.okWide Tryz.prog W .any base t v:=hval0
 have hW':=hW
 obtain ⟨p,q,hA0,hV,rfl,_,_⟩:=hW
 have hA:DataW.TrodAll enc Tryz.prog W 0 (fun _=>true) true Tryz.f3.params.toList args.toList ds p:=hA0
 rw [Tryz.params3] at hA hval
 obtain ⟨v0,vs0,d0,ds0,p0,q0,hargs,rfl,rfl,h0,hr0⟩:=trodAll_cons hA
 obtain ⟨v1,vs1,d1,ds1,p1,q1,rfl,rfl,rfl,h1,hr1⟩:=trodAll_cons hr0
 obtain ⟨v2,vs2,d2,ds2,p2,q2,rfl,rfl,rfl,h2,hr2⟩:=trodAll_cons hr1
 obtain ⟨rfl,rfl,rfl⟩:=trodAll_nil hr2
 obtain rfl:args=#[v0,v1,v2]:=by cases args;simp_all
 obtain ⟨rfl,rfl⟩:=trodVars_none hV
 have hT:=tabs_eciesWraps (laidX_eciesWraps hL)
 have G:GlsX W:=hT
 obtain ⟨cs0,rfl,_,_⟩:∃ cs,v0=.agg cs∧cs.size=Tryz.prog.cellsOf 26∧Row.okWide Tryz.prog W .any base 26 cs:=by
  have:=hval 0 26 v0 rfl rfl
  simpa [Value.okWide,Tryz.underlying26] using this
 obtain ⟨x0,x1,x2,x3,x4,x5,xy0,xy1,xy2,xy3,xy4,xy5,xn,rfl,rfl,rfl,f0,g0⟩:=open_pt h0
 obtain ⟨cs1,rfl,_,_⟩:∃ cs,v1=.agg cs∧cs.size=Tryz.prog.cellsOf 24∧Row.okWide Tryz.prog W .any base 24 cs:=by
  have:=hval 1 24 v1 rfl rfl
  simpa [Value.okWide,Tryz.underlying24] using this
 obtain ⟨A1,l1,rfl,rfl,rfl,f1⟩:=open_arr Tryz.underlying24 cells_u384 Tryz.underlying22 cells_u64 h1
 obtain ⟨y0,y1,y2,y3,y4,y5,rfl⟩:=six l1
 obtain ⟨a2,len2,cap2,rfl⟩:=okWide_slice Tryz.underlying27 (hval 2 27 v2 rfl rfl)
 have k2:=h2
 have lt2:∀ x∈p2,x.block < W.heap.size:=by obtain ⟨m,hm⟩:=k2;exact DataW.trod_lt m _ _ _ hm
 obtain ⟨bs2,hbs2,hbyt2⟩:∃ bs,Bs W (.slice a2 len2 cap2) bs∧byt bs:=by
  obtain ⟨fuel,hf⟩:=h2
  rcases open_ints Tryz.underlying27 Tryz.underlying5 (by kernel_rfl) hf with ⟨hcs,_⟩|⟨x,l,c,zs,hcs,_,hl,hm,hz,_,hcell,hwz⟩
  ·simp [Value.cells] at hcs
   obtain ⟨rfl,rfl,rfl⟩:=hcs
   exact ⟨[],⟨none,0,rfl,Nat.zero_le _,Nat.le_refl _,fun h=>absurd h (by simp)⟩,fun j=>by simp⟩
  ·simp [Value.cells] at hcs
   obtain ⟨rfl,rfl,rfl⟩:=hcs
   have:=row_bytes hl hm (by simpa using hz) hcell hwz
   exact ⟨_,this.1,this.2⟩
 clear hA0 hval0 hval hargs
 refine (law_eciesWraps G (show P13R [.int .u64 x0,.int .u64 x1,.int .u64 x2,.int .u64 x3,.int .u64 x4,.int .u64 x5,.int .u64 xy0,.int .u64 xy1,.int .u64 xy2,.int .u64 xy3,.int .u64 xy4,.int .u64 xy5,.bool xn] _ _ _ from ⟨[.int .u64 x0,.int .u64 x1,.int .u64 x2,.int .u64 x3,.int .u64 x4,.int .u64 x5],[.int .u64 xy0,.int .u64 xy1,.int .u64 xy2,.int .u64 xy3,.int .u64 xy4,.int .u64 xy5],rfl,U6.mk f0,U6.mk g0⟩) (U6.mk f1) hbs2 hbyt2).mono fun e W' ⟨he,bel⟩=>?_
 subst he
 exact ⟨_,rfl,_,_,_,[],_,[],hW',trodAll_mk1 (shut_bool Tryz.underlying4 _),(trodAll_cons_mk (shut_pt x0 x1 x2 x3 x4 x5 xy0 xy1 xy2 xy3 xy4 xy5 xn f0 g0) (trodAll_cons_mk (shut_six Tryz.underlying24 cells_u384 Tryz.underlying22 cells_u64 y0 y1 y2 y3 y4 y5 f1) (trodAll_cons_mk (Below.trod laid_eciesWraps (by kernel_rfl) (of_decide_eq_true (by kernel_rfl)) k2 bel lt2) trodAll_mk0))),rfl,bel.frame _,fun h=>by cases h⟩
theorem eciesWraps_said:Rows.EciesWrapsSaid :=
 OpenClaim.holds_of_wide 3 Tryz.f3 rfl rfl rfl rfl rfl rfl rfl ⟨rfl,rfl,rfl,rfl,rfl⟩ rfl rfl rfl rfl rfl (by kernel_rfl) Tryz.func3 (by kernel_rfl)
  (of_decide_eq_true (by kernel_rfl)) (by unfold Func.isWrapper;first|(rw [if_pos (by decide +kernel)];kernel_rfl)|(rw [if_neg (by decide +kernel)];exact ⟨rfl,rfl⟩))
  (fun os started H enc _=>lifted_eciesWraps os started H enc)
theorem plain_eciesWraps (f : FuncId) (fn : Func) (hf : Tryz.pinned.checked.prog.funcNamed "escutcheon/escutcheonlaw15.EciesWraps" = some f) (hfn : Tryz.pinned.checked.prog.funcs[f]? = some fn) :
  true=Tryz.pinned.checked.prog.looks []∧∀ (j:Nat) t,fn.params[j]?=some t→Tryz.pinned.checked.prog.wantsStandIn t=false:=by
 obtain rfl : f = 3 := Option.some.inj ((show Tryz.prog.funcNamed "escutcheon/escutcheonlaw15.EciesWraps" = some 3 by kernel_rfl).symm.trans hf) |>.symm
 obtain rfl:fn=Tryz.f3:=(Option.some.inj (Tryz.func3.symm.trans hfn)).symm
 refine ⟨by kernel_rfl,fun j t ht=>?_⟩
 rw [Tryz.params3] at ht
 have hm:t∈[26,24,27]:=by simpa using Array.mem_of_getElem? ht
 have hall:([26,24,27].all fun u=>!Tryz.prog.wantsStandIn u)=true:=by kernel_rfl
 exact (show Tryz.prog.wantsStandIn t=false by simpa using List.all_eq_true.1 hall t hm)
theorem eciesWraps_holds:Rows.EciesWrapsCardSaid :=
 Claim7.holds_tied_plain_at .later [] _ _ _ _ eciesWraps_said (fun _ h=>by cases h) (by kernel_rfl) (fun _ h=>by cases h) eciesWraps_row_tie rfl ⟨rfl,rfl⟩ (by kernel_rfl) rfl plain_eciesWraps (by kernel_rfl)
#print axioms eciesWraps_holds
end Go.Proofs.YtlkljfnenonfgaaGreatDoor
