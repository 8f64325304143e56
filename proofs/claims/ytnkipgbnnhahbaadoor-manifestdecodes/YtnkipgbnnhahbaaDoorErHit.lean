/- errors.As: a hit at a *api.Spot; a miss at an api.Code. -/
import Derived.Test.YtnkipgbnnhahbaaDoorCtBase
import Derived.Test.YtnkipgbnnhahbaaDoorErAs
import Derived.Test.YtnkipgbnnhahbaaDoorRows
namespace Go.Proofs.YtnkipgbnnhahbaaDoor
open Go.RowKit Go.Extern.Stop Go.Stop Go.Extern
set_option maxRecDepth 100000 in
set_option maxHeartbeats 4000000 in
theorem as_hit {e t:Addr} {old:Value} {w:World} (G:GlsE w) (ht0:w.cell? t=some old) (hf0:w.frozen? t=false) :
  Calls Tryd.prog 25 #[.iface 66 (.pointer (some e)),.iface 68 (.pointer (some t))] w fun ev w'=>ev=.returned (.bool true)∧∃ W,w'=W.setCell t (.pointer (some e))∧Below w.heap.size w W:=by
 obtain ⟨hg,hone⟩:=G
 have h6:=@run_callFunc_extern Tryd.prog 33 _ (fun args=>ReflectliteValue.unpack (args.getD 0 (.tuple #[]))) Tryd.func33 (by kernel_rfl) (by kernel_rfl) (by kernel_rfl) (by kernel_rfl)
 have h7 := @run_callFunc_extern Tryd.prog 34 _ (ReflectliteValue.methodAny (ReflectliteValue.valueError "reflectlite.Value.Type" 0) (fun t _ _ _ => ReflectliteType.toType t)) Tryd.func34 (by kernel_rfl) (by kernel_rfl) (by kernel_rfl) (by kernel_rfl)
 have h8 := @run_callFunc_extern Tryd.prog 35 _ (ReflectliteValue.method (ReflectliteValue.valueError "reflectlite.Value.IsNil" 0) ReflectliteValue.isNil) Tryd.func35 (by kernel_rfl) (by kernel_rfl) (by kernel_rfl) (by kernel_rfl)
 have h27:=@run_callFunc_extern Tryd.prog 59 _ (ReflectliteType.abiMethod fun t=>do pure (.int .u8 (← Rtype.kind t))) Tryd.func59 (by kernel_rfl) (by kernel_rfl) (by kernel_rfl) (by kernel_rfl)
 have h37:=@run_callFunc_extern Tryd.prog 71 _ (ReflectliteType.method ReflectliteType.elem) Tryd.func71 (by kernel_rfl) (by kernel_rfl) (by kernel_rfl) (by kernel_rfl)
 have h38 := @run_callFunc_extern Tryd.prog 72 _ (ReflectliteType.relation "Implements" ReflectliteType.implements_) Tryd.func72 (by kernel_rfl) (by kernel_rfl) (by kernel_rfl) (by kernel_rfl)
 have h10:=@run_callFunc_extern Tryd.prog 37 _ ReflectliteType.typeOf Tryd.func37 (by kernel_rfl) (by kernel_rfl) (by kernel_rfl) (by kernel_rfl)
 have h35 := @run_callFunc_extern Tryd.prog 69 _ (ReflectliteType.relation "AssignableTo" ReflectliteType.assignableTo) Tryd.func69 (by kernel_rfl) (by kernel_rfl) (by kernel_rfl) (by kernel_rfl)
 have h11 := @run_callFunc_extern Tryd.prog 42 _ (ReflectliteValue.method (ReflectliteValue.valueError "reflectlite.Value.Elem" 0) ReflectliteValue.elem) Tryd.func42 (by kernel_rfl) (by kernel_rfl) (by kernel_rfl) (by kernel_rfl)
 have h12:=@run_callFunc_extern Tryd.prog 43 _ ReflectliteValue.set Tryd.func43 (by kernel_rfl) (by kernel_rfl) (by kernel_rfl) (by kernel_rfl)
 have tO:=rl_typeOf1
 have mA:=rl_methAssign
 have a1:=rl_assign1
 have v1:=rl_valueOf1
 have f6:=rl_valueOf2
 have f7:=rl_type2
 have mK:=rl_methKind
 have mE:=rl_methElem
 have mI:=rl_methImpl
 have k2:=rl_kind2
 have k1:=rl_kind1
 have e2:=rl_elem2
 have i1:=rl_impl1
 have hlt:0 < w.heap.size:=by omega
 have htl:t.block < w.heap.size:=World.block_lt_of_cell? w _ ht0
 have A1:=Blk.new w [.pointer (some t)] 68 w.heap.size rfl
 have n8:=rl_isNil2 ⟨w.heap.size,0,none⟩ t ((w.alloc (.cells #[.pointer (some t)] 68)).alloc (.cells #[.pointer (some ⟨1,68,none⟩),.pointer (some ⟨w.heap.size,0,none⟩),.int .u64 150] 82)) ((A1.alloc _).cell 0 _ rfl)
 have hg2:((w.alloc (.cells #[.pointer (some t)] 68)).alloc (.cells #[.pointer (some ⟨1,68,none⟩),.pointer (some ⟨w.heap.size,0,none⟩),.int .u64 150] 82)).cell? ⟨0,0,none⟩=some (.iface 100 (.agg #[.pointer (some ⟨1,27,none⟩)])):=by
  rw [World.cell?_alloc_lt _ _ ⟨0,0,none⟩ (Nat.lt_of_lt_of_le hlt (by simp)),World.cell?_alloc_lt _ _ ⟨0,0,none⟩ hlt];exact hg
 have el:=rl_elemV2 ⟨w.heap.size,0,none⟩ t (((w.alloc (.cells #[.pointer (some t)] 68)).alloc (.cells #[.pointer (some ⟨1,68,none⟩),.pointer (some ⟨w.heap.size,0,none⟩),.int .u64 150] 82)).alloc (.cells #[.pointer (some ⟨1,68,none⟩),.pointer (some ⟨w.heap.size,0,none⟩),.int .u64 150] 82)) (((A1.alloc _).alloc _).cell 0 _ rfl)
 have D1:=Blk.new (((w.alloc (.cells #[.pointer (some t)] 68)).alloc (.cells #[.pointer (some ⟨1,68,none⟩),.pointer (some ⟨w.heap.size,0,none⟩),.int .u64 150] 82)).alloc (.cells #[.pointer (some ⟨1,68,none⟩),.pointer (some ⟨w.heap.size,0,none⟩),.int .u64 150] 82)) [.pointer (some e)] 66 (w.heap.size + 1 + 1 + 1) (by simp)
 have bel:Below w.heap.size w ((((w.alloc (.cells #[.pointer (some t)] 68)).alloc (.cells #[.pointer (some ⟨1,68,none⟩),.pointer (some ⟨w.heap.size,0,none⟩),.int .u64 150] 82)).alloc (.cells #[.pointer (some ⟨1,68,none⟩),.pointer (some ⟨w.heap.size,0,none⟩),.int .u64 150] 82)).alloc (.cells #[.pointer (some e)] 66)):=((((Below.refl _ _).alloc (Nat.le_refl _) _).alloc (by simp) _).alloc (by simp;omega) _).alloc (by simp;omega) _
 have st:=rl_set1 t ⟨w.heap.size + 1 + 1 + 1,0,none⟩ e old ((((w.alloc (.cells #[.pointer (some t)] 68)).alloc (.cells #[.pointer (some ⟨1,68,none⟩),.pointer (some ⟨w.heap.size,0,none⟩),.int .u64 150] 82)).alloc (.cells #[.pointer (some ⟨1,68,none⟩),.pointer (some ⟨w.heap.size,0,none⟩),.int .u64 150] 82)).alloc (.cells #[.pointer (some e)] 66))
  (D1.cell 0 _ rfl) ((bel.cell htl).trans ht0) ((bel.frozen htl).trans hf0)
 clear A1 D1
 have HB:Hid _:=bel
 clear bel
 go_enter Tryd.func25,Tryd.ntmps25
 go_wp2
 refine wp_loop_rounds 1 ?_
 rw [rounds_succ]
 go_wp2
 go_ret
 exact ⟨rfl,_,rfl,HB.out⟩
end Go.Proofs.YtnkipgbnnhahbaaDoor
