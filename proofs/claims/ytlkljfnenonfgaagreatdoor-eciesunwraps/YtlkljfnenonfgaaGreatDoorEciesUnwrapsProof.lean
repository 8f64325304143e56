/- From the row's list of variables to the tables' cells: EciesUnwraps. Proved: the law EciesUnwraps of the program answers true for any arguments (six limbs; bytes), and all stand as they stood; the card ties the listed variables to the program's text. No conditions. -/
import Derived.Test.YtlkljfnenonfgaaGreatDoorEiUp0
import Derived.Test.YtlkljfnenonfgaaGreatDoorEciesBackProof
import Derived.Test.YtlkljfnenonfgaaGreatDoorErG
import Derived.Test.YtlkljfnenonfgaaGreatDoorLawEciesUnwraps
import Derived.Test.YtlkljfnenonfgaaGreatDoorBase
import Derived.Test.YtlkljfnenonfgaaGreatDoorAeNumG
import Derived.Test.YtlkljfnenonfgaaGreatDoorRows
import Derived.LaidLaws
import Derived.LaidHandle
import Derived.Lib.LaidTab
import Derived.Stop.LaidErr
import Derived.LaidMore
import Derived.ProofKit
import Derived.Test.YtlkljfnenonfgaaGreatDoorCards
import Derived.Test.YtlkljfnenonfgaaGreatDoorTie
import Derived.ChangeOld
import Derived.Below
import Derived.OpenShut
import Derived.ShutString
import Derived.Stop.Joined
import Derived.SevenTiedAt
namespace Go.Proofs.YtlkljfnenonfgaaGreatDoor
open Go.RowKit
open Go.ChangeShapes Go.WideShapes Go.ChangeAt Go.RowKit
theorem tabs_eciesUnwraps {W : World} (h : laidMet Tryz.prog [("escutcheon/field.prime", Rows.laid_escutcheon_field_prime), ("escutcheon/field.squareOfR", Rows.laid_escutcheon_field_squareOfR), ("escutcheon/curve.constant", Rows.laid_escutcheon_curve_constant), ("escutcheon/curve.base", Rows.laid_escutcheon_curve_base), ("escutcheon/order.points", Rows.laid_escutcheon_order_points), ("escutcheon/order.squareOfR", Rows.laid_escutcheon_order_squareOfR), ("escutcheon/sha.constants", Rows.laid_escutcheon_sha_constants), ("escutcheon/sha.atFirst", Rows.laid_escutcheon_sha_atFirst)] W) : GlsX W := by
 have t0:=Lib.tabIs_of_head (k:=.u64) (zs:=[4294967295,18446744069414584320,18446744073709551614,18446744073709551615,18446744073709551615,18446744073709551615]) g_primeC t_primeC Tryz.underlying24 Tryz.underlying22 cells_u64 cells_u384 h
 have t1:=Lib.tabIs_of_head (k:=.u64) (zs:=[18446744065119617025,8589934592,18446744065119617024,8589934592,1,0]) g_squareC t_squareC Tryz.underlying24 Tryz.underlying22 cells_u64 cells_u384 h.tail
 have t2:=Lib.tabIs_of_head (k:=.u64) (zs:=[3064076045283764975,14291673747578343837,221811693264799578,1737717031765098770,10992729701402291481,12912154004749740004]) g_constant t_constant Tryz.underlying24 Tryz.underlying22 cells_u64 cells_u384 h.tail.tail
 have t3:=ptIs_of_head g_base t_base h.tail.tail.tail
 have t4:=Lib.tabIs_of_head (k:=.u64) (zs:=[17072048233947408755,6348401684107011962,14367412456785391071,18446744073709551615,18446744073709551615,18446744073709551615]) g_pointsL t_pointsL Tryz.underlying24 Tryz.underlying22 cells_u64 cells_u384 h.tail.tail.tail.tail
 have t5:=Lib.tabIs_of_head (k:=.u64) (zs:=[3256554584917936553,18391999277541532697,13564358545871743303,15279949475123764421,4589268600508278933,902107514168524577]) g_squareL t_squareL Tryz.underlying24 Tryz.underlying22 cells_u64 cells_u384 h.tail.tail.tail.tail.tail
 have t6:=Lib.tabIs_of_head (k:=.u64) (zs:=KS) g_con t_con Tryz.underlying172 Tryz.underlying22 cells_1s cells_80 h.tail.tail.tail.tail.tail.tail
 have t7:=Lib.tabIs_of_head (k:=.u64) (zs:=HS) g_fir t_fir Tryz.underlying145 Tryz.underlying22 cells_1s cells_8s h.tail.tail.tail.tail.tail.tail.tail
 exact ⟨⟨⟨⟨t0.cell g_primeC 0 (by decide),t0.cell g_primeC 1 (by decide),t0.cell g_primeC 2 (by decide),t0.cell g_primeC 3 (by decide),t0.cell g_primeC 4 (by decide),t0.cell g_primeC 5 (by decide)⟩,⟨t1.cell g_squareC 0 (by decide),t1.cell g_squareC 1 (by decide),t1.cell g_squareC 2 (by decide),t1.cell g_squareC 3 (by decide),t1.cell g_squareC 4 (by decide),t1.cell g_squareC 5 (by decide)⟩⟩,⟨t2.cell g_constant 0 (by decide),t2.cell g_constant 1 (by decide),t2.cell g_constant 2 (by decide),t2.cell g_constant 3 (by decide),t2.cell g_constant 4 (by decide),t2.cell g_constant 5 (by decide)⟩,t3⟩,⟨⟨t4.cell g_pointsL 0 (by decide),t4.cell g_pointsL 1 (by decide),t4.cell g_pointsL 2 (by decide),t4.cell g_pointsL 3 (by decide),t4.cell g_pointsL 4 (by decide),t4.cell g_pointsL 5 (by decide)⟩,⟨t5.cell g_squareL 0 (by decide),t5.cell g_squareL 1 (by decide),t5.cell g_squareL 2 (by decide),t5.cell g_squareL 3 (by decide),t5.cell g_squareL 4 (by decide),t5.cell g_squareL 5 (by decide)⟩⟩,⟨fun j hj=>t6.cell g_con j (by rw [show KS.length=80 from rfl];exact hj),fun j hj=>t7.cell g_fir j hj⟩⟩
theorem laidX_eciesUnwraps {W : World} (h : laidMetH Tryz.prog [("errors.errorType", Rows.laid_errors_errorType), ("escutcheon/field.prime", Rows.laid_escutcheon_field_prime), ("escutcheon/field.squareOfR", Rows.laid_escutcheon_field_squareOfR), ("escutcheon/curve.constant", Rows.laid_escutcheon_curve_constant), ("escutcheon/curve.base", Rows.laid_escutcheon_curve_base), ("escutcheon/order.points", Rows.laid_escutcheon_order_points), ("escutcheon/order.squareOfR", Rows.laid_escutcheon_order_squareOfR), ("escutcheon/sha.constants", Rows.laid_escutcheon_sha_constants), ("escutcheon/sha.atFirst", Rows.laid_escutcheon_sha_atFirst)] W) : laidMet Tryz.prog [("escutcheon/field.prime", Rows.laid_escutcheon_field_prime), ("escutcheon/field.squareOfR", Rows.laid_escutcheon_field_squareOfR), ("escutcheon/curve.constant", Rows.laid_escutcheon_curve_constant), ("escutcheon/curve.base", Rows.laid_escutcheon_curve_base), ("escutcheon/order.points", Rows.laid_escutcheon_order_points), ("escutcheon/order.squareOfR", Rows.laid_escutcheon_order_squareOfR), ("escutcheon/sha.constants", Rows.laid_escutcheon_sha_constants), ("escutcheon/sha.atFirst", Rows.laid_escutcheon_sha_atFirst)] W := by
 have h' : laidMet Tryz.prog [("escutcheon/field.prime", Rows.laid_escutcheon_field_prime), ("escutcheon/field.squareOfR", Rows.laid_escutcheon_field_squareOfR), ("escutcheon/curve.constant", Rows.laid_escutcheon_curve_constant), ("escutcheon/curve.base", Rows.laid_escutcheon_curve_base), ("escutcheon/order.points", Rows.laid_escutcheon_order_points), ("escutcheon/order.squareOfR", Rows.laid_escutcheon_order_squareOfR), ("escutcheon/sha.constants", Rows.laid_escutcheon_sha_constants), ("escutcheon/sha.atFirst", Rows.laid_escutcheon_sha_atFirst)] W ∧ handlesMet Tryz.prog [("errors.errorType", Rows.laid_errors_errorType)] W := h
 exact h'.1
theorem et_eciesUnwraps_global : Tryz.prog.globalNamed "errors.errorType" = some 3 := by kernel_rfl
theorem et_eciesUnwraps_rt : (Tryz.prog.cutTypes.find? (·.1 == "internal/reflectlite.rtype")).map (·.2) = some 126 := by kernel_rfl
theorem et_eciesUnwraps_one:((List.range 212).filter fun t=>Tryz.prog.rowNamed t [101,114,114,111,114])=[30]:=by kernel_rfl
theorem et_eciesUnwraps_size:Tryz.prog.types.size=212:=by kernel_rfl
theorem errs_eciesUnwraps {W : World} (h : laidMetH Tryz.prog [("errors.errorType", Rows.laid_errors_errorType), ("escutcheon/field.prime", Rows.laid_escutcheon_field_prime), ("escutcheon/field.squareOfR", Rows.laid_escutcheon_field_squareOfR), ("escutcheon/curve.constant", Rows.laid_escutcheon_curve_constant), ("escutcheon/curve.base", Rows.laid_escutcheon_curve_base), ("escutcheon/order.points", Rows.laid_escutcheon_order_points), ("escutcheon/order.squareOfR", Rows.laid_escutcheon_order_squareOfR), ("escutcheon/sha.constants", Rows.laid_escutcheon_sha_constants), ("escutcheon/sha.atFirst", Rows.laid_escutcheon_sha_atFirst)] W) : GlsE W := by
 have h' : laidMet Tryz.prog [("escutcheon/field.prime", Rows.laid_escutcheon_field_prime), ("escutcheon/field.squareOfR", Rows.laid_escutcheon_field_squareOfR), ("escutcheon/curve.constant", Rows.laid_escutcheon_curve_constant), ("escutcheon/curve.base", Rows.laid_escutcheon_curve_base), ("escutcheon/order.points", Rows.laid_escutcheon_order_points), ("escutcheon/order.squareOfR", Rows.laid_escutcheon_order_squareOfR), ("escutcheon/sha.constants", Rows.laid_escutcheon_sha_constants), ("escutcheon/sha.atFirst", Rows.laid_escutcheon_sha_atFirst)] W ∧ handlesMet Tryz.prog [("errors.errorType", Rows.laid_errors_errorType)] W := h
 obtain ⟨name,u,ty,e1,e2,e3,e4,e5⟩:=h'.2 _ (List.mem_singleton.2 rfl)
 have en:name=[101,114,114,111,114]:=(Option.some.inj e1).symm
 subst en
 obtain rfl:=Option.some.inj (et_eciesUnwraps_rt.symm.trans e2)
 have hm:ty∈(List.range 212).filter fun t=>Tryz.prog.rowNamed t [101,114,114,111,114]:=List.mem_filter.2 ⟨List.mem_range.2 (by rw [← et_eciesUnwraps_size];exact e3),e4⟩
 rw [et_eciesUnwraps_one] at hm
 obtain rfl:=List.mem_singleton.1 hm
 have hh:typeHandle Tryz.prog 30=.pointer (some ⟨9,30,none⟩):=by kernel_rfl
 rw [hh] at e5
 have hc:W.cell? ⟨3,0,none⟩=some (.iface 126 (.agg #[.pointer (some ⟨9,30,none⟩)])):=by simpa using World.var?_cell et_eciesUnwraps_global e5 0
 refine ⟨hc,?_⟩
 by_cases hlt:3 < W.heap.size
 ·exact hlt
 ·have:W.heap[3]?=none:=Array.getElem?_eq_none (by omega)
  simp [World.cell?,this] at hc
theorem own_eciesUnwraps:ownKnob Tryz.prog.godebug=none:=by kernel_rfl
theorem laid_eciesUnwraps:laidOutB Tryz.prog=true:=by kernel_rfl
theorem door_eciesUnwraps (os:Os) (args:Array Value):laidMetH Tryz.prog Rows.eciesUnwrapsRow.laid ((World.doorLaid Tryz.prog 400 os).forCall (fun _ _=>0) ⟨#[],args,[]⟩).memory :=
 laidMetH_of_parts3 (fuel:=8) (laidMet_of_run' 8 (by kernel_rfl) (by kernel_rfl)) (by kernel_rfl) (by kernel_rfl)
set_option maxHeartbeats 1000000 in
set_option maxRecDepth 100000 in
theorem lifted_eciesUnwraps (os:Os) (started:os.Started) (H:Type) (enc:TypeId × Value→H) :
  ReturnsInHanded {} Tryz.checked os 4 .any (fun w args=>(Rows.eciesUnwrapsSpec.pre enc Tryz.prog Tryz.f4 [] false w args∧laidMetH Tryz.prog Rows.eciesUnwrapsRow.laid w)∧sizedMet enc Tryz.prog Tryz.f4 (OpenSpec.ofChange Rows.eciesUnwrapsSpec) false w args)
   (Rows.eciesUnwrapsSpec.post enc Tryz.prog Tryz.f4 false true false false):=by
 refine returnsInHanded_of_change_and (C:=Tryz.checked) (X:=fun w _=>laidMetH Tryz.prog Rows.eciesUnwrapsRow.laid w) (fun _ _ _ hh h=>h.of_heap hh) own_eciesUnwraps started (by kernel_rfl) Tryz.func4
  (ChangeSpec.witness_shaped (enc:=enc) (C:=Tryz.checked) (os:=os) (X:=fun w _=>laidMetH Tryz.prog Rows.eciesUnwrapsRow.laid w) false (World.doorLaid Tryz.prog 400 os) #[.agg #[.int .u64 0,.int .u64 0,.int .u64 0,.int .u64 0,.int .u64 0,.int .u64 0],.slice none 0 0] 8 rfl (World.shaped_of_RefB (by kernel_rfl) (by kernel_rfl)) (by kernel_rfl) (by kernel_rfl) (by kernel_rfl) (door_eciesUnwraps os _)) ?_
 intro W base args ds gs before hval0 hW _ _ hL _
 have hval:∀ (j:Nat) t v,Tryz.f4.params[j]?=some t→args[j]?=some v→Value.okWide Tryz.prog W .any base t v:=hval0
 have hW':=hW
 obtain ⟨p,q,hA0,hV,rfl,_,_⟩:=hW
 have hA:DataW.TrodAll enc Tryz.prog W 0 (fun _=>true) true Tryz.f4.params.toList args.toList ds p:=hA0
 rw [Tryz.params4] at hA hval
 obtain ⟨v0,vs0,d0,ds0,p0,q0,hargs,rfl,rfl,h0,hr0⟩:=trodAll_cons hA
 obtain ⟨v1,vs1,d1,ds1,p1,q1,rfl,rfl,rfl,h1,hr1⟩:=trodAll_cons hr0
 obtain ⟨rfl,rfl,rfl⟩:=trodAll_nil hr1
 obtain rfl:args=#[v0,v1]:=by cases args;simp_all
 obtain ⟨rfl,rfl⟩:=trodVars_none hV
 have hT:=tabs_eciesUnwraps (laidX_eciesUnwraps hL)
 have G:GlsX W:=hT
 have GE:GlsE W:=errs_eciesUnwraps hL
 obtain ⟨cs0,rfl,_,_⟩:∃ cs,v0=.agg cs∧cs.size=Tryz.prog.cellsOf 24∧Row.okWide Tryz.prog W .any base 24 cs:=by
  have:=hval 0 24 v0 rfl rfl
  simpa [Value.okWide,Tryz.underlying24] using this
 obtain ⟨A0,l0,rfl,rfl,rfl,f0⟩:=open_arr Tryz.underlying24 cells_u384 Tryz.underlying22 cells_u64 h0
 obtain ⟨x0,x1,x2,x3,x4,x5,rfl⟩:=six l0
 obtain ⟨a1,len1,cap1,rfl⟩:=okWide_slice Tryz.underlying27 (hval 1 27 v1 rfl rfl)
 have k1:=h1
 have lt1:∀ x∈p1,x.block < W.heap.size:=by obtain ⟨m,hm⟩:=k1;exact DataW.trod_lt m _ _ _ hm
 obtain ⟨bs1,hbs1,hbyt1⟩:∃ bs,Bs W (.slice a1 len1 cap1) bs∧byt bs:=by
  obtain ⟨fuel,hf⟩:=h1
  rcases open_ints Tryz.underlying27 Tryz.underlying5 (by kernel_rfl) hf with ⟨hcs,_⟩|⟨x,l,c,zs,hcs,_,hl,hm,hz,_,hcell,hwz⟩
  ·simp [Value.cells] at hcs
   obtain ⟨rfl,rfl,rfl⟩:=hcs
   exact ⟨[],⟨none,0,rfl,Nat.zero_le _,Nat.le_refl _,fun h=>absurd h (by simp)⟩,fun j=>by simp⟩
  ·simp [Value.cells] at hcs
   obtain ⟨rfl,rfl,rfl⟩:=hcs
   have:=row_bytes hl hm (by simpa using hz) hcell hwz
   exact ⟨_,this.1,this.2⟩
 clear hA0 hval0 hval hargs
 refine (law_eciesUnwraps G GE (U6.mk f0) hbs1 hbyt1).mono fun e W' ⟨he,bel⟩=>?_
 subst he
 exact ⟨_,rfl,_,_,_,[],_,[],hW',trodAll_mk1 (shut_bool Tryz.underlying4 _),(trodAll_cons_mk (shut_six Tryz.underlying24 cells_u384 Tryz.underlying22 cells_u64 x0 x1 x2 x3 x4 x5 f0) (trodAll_cons_mk (Below.trod laid_eciesUnwraps (by kernel_rfl) (of_decide_eq_true (by kernel_rfl)) k1 bel lt1) trodAll_mk0)),rfl,bel.frame _,fun h=>by cases h⟩
theorem eciesUnwraps_said:Rows.EciesUnwrapsSaid :=
 OpenClaim.holds_of_wide 4 Tryz.f4 rfl rfl rfl rfl rfl rfl rfl ⟨rfl,rfl,rfl,rfl,rfl⟩ rfl rfl rfl rfl rfl (by kernel_rfl) Tryz.func4 (by kernel_rfl)
  (of_decide_eq_true (by kernel_rfl)) (by unfold Func.isWrapper;first|(rw [if_pos (by decide +kernel)];kernel_rfl)|(rw [if_neg (by decide +kernel)];exact ⟨rfl,rfl⟩))
  (fun os started H enc _=>lifted_eciesUnwraps os started H enc)
theorem plain_eciesUnwraps (f : FuncId) (fn : Func) (hf : Tryz.pinned.checked.prog.funcNamed "escutcheon/escutcheonlaw15.EciesUnwraps" = some f) (hfn : Tryz.pinned.checked.prog.funcs[f]? = some fn) :
  true=Tryz.pinned.checked.prog.looks []∧∀ (j:Nat) t,fn.params[j]?=some t→Tryz.pinned.checked.prog.wantsStandIn t=false:=by
 obtain rfl : f = 4 := Option.some.inj ((show Tryz.prog.funcNamed "escutcheon/escutcheonlaw15.EciesUnwraps" = some 4 by kernel_rfl).symm.trans hf) |>.symm
 obtain rfl:fn=Tryz.f4:=(Option.some.inj (Tryz.func4.symm.trans hfn)).symm
 refine ⟨by kernel_rfl,fun j t ht=>?_⟩
 rw [Tryz.params4] at ht
 have hm:t∈[24,27]:=by simpa using Array.mem_of_getElem? ht
 have hall:([24,27].all fun u=>!Tryz.prog.wantsStandIn u)=true:=by kernel_rfl
 exact (show Tryz.prog.wantsStandIn t=false by simpa using List.all_eq_true.1 hall t hm)
theorem eciesUnwraps_holds:Rows.EciesUnwrapsCardSaid :=
 Claim7.holds_tied_plain_at .later [] _ _ _ _ eciesUnwraps_said (fun _ h=>by cases h) (by kernel_rfl) (fun _ h=>by cases h) eciesUnwraps_row_tie rfl ⟨rfl,rfl⟩ (by kernel_rfl) rfl plain_eciesUnwraps (by kernel_rfl)
#print axioms eciesUnwraps_holds
end Go.Proofs.YtlkljfnenonfgaaGreatDoor
