/- The program's lanes: doubles, products, squares, inverses, rotated, substitutes. Whole rows out of known blocks, in drawn regions and in straight code. A row loaded as one step of a drawn region. The program's xored and substituted. -/
import Derived.Test.YtlkljfnenonfgaaGreatDoorAeLaneG
import Derived.Test.YtlkljfnenonfgaaGreatDoorBase
import Derived.Test.YtlkljfnenonfgaaGreatDoorAeNumG
import Derived.Test.YtlkljfnenonfgaaGreatDoorRows
import Derived.BigQuiet
import Derived.Deep.WholeRow
import Derived.Deep.RegionHeld3
import Derived.Deep.DeepCutAuto
import Derived.Deep.DeepFit
import Derived.Laws.Rows
import Derived.Laws.Tables
import Derived.Tactics
namespace Go.Proofs.YtlkljfnenonfgaaGreatDoor
open Go.RowKit
set_option maxRecDepth 100000 in
theorem con_doubles {a:Int} {xs:List Nat} {w:World} (h:Ln a xs) :
  Calls Tryz.prog 119 #[.int .u64 a] w fun e w'=>∃ c,e=.returned (.int .u64 c)∧Ln c (xs.map dL)∧w'=w:=by
 have HD:Hid _:=h.dbl
 go_enter Tryz.func119,Tryz.ntmps119
 go_wp2
 go_ret
 exact ⟨_,rfl,HD.out,rfl⟩
theorem dI_succ (k:Nat) (xs:List Nat):(xs.map fun x=>dI x k).map dL=xs.map fun x=>dI x (k + 1):=by
 rw [List.map_map]
 rfl
set_option maxRecDepth 100000 in
set_option maxHeartbeats 1000000 in
theorem con_products {a b:Int} {xs ys:List Nat} {w:World} (ha:Ln a xs) (hb:Ln b ys) :
  Calls Tryz.prog 137 #[.int .u64 a,.int .u64 b] w fun e w'=>∃ c,e=.returned (.int .u64 c)∧Ln c (List.zipWith pL xs ys)∧w'=w:=by
 have HA:Hid (Ln a xs):=ha
 have HB:Hid (Ln b ys):=hb
 clear ha hb
 go_enter Tryz.func137,Tryz.ntmps137
 go_wp2_with fail
 go_loopw [0,5,7] (fun av sv iv wx=>∃ (k:Nat) (x s:Int),k≤8∧iv=.int .i64 k∧av=.int .u64 x∧sv=.int .u64 s∧Hid (Ln x (xs.map fun x=>dI x k))∧Hid (Ln s (List.zipWith (fun x y=>sI x y k) xs ys))∧wx=w) (fun _ _ iv _=>8 - (intOf iv).toNat)
 case atStart=>exact ⟨0,a,0,by omega,rfl,rfl,rfl,HA.out.congr (by simp [dI]),Ln.nil.congr (sI_zero HA.out.2.1 HB.out.2.1),rfl⟩
 case round =>
  obtain ⟨k,x,s,hk,rfl,rfl,rfl,HX,HS,hw⟩:=hrel
  rw [hw]
  have HW:Hid (wr=w):=hw
  clear hw
  by_cases hlt:k < 8
  ·have g1:(k:Int) < 8:=by omega
   have g2:¬ (k:Int) < 0:=by omega
   have g3:min k 64=k:=by omega
   have HP:Hid _:=Ln.prd (by omega) HX.out HB.out HS.out
   go_wp2_with fail
   refine (con_doubles HX.out).mono ?_
   rintro e w2 ⟨c,rfl,hc,hw2⟩
   rw [hw2]
   clear hw2
   rw [dI_succ] at hc
   have HC:Hid _:=hc
   clear hc
   go_wp2_with fail
   go_roundw
   case rel=>exact ⟨k + 1,_,_,by omega,by go_num,rfl,rfl,HC,HP,trivial⟩
   case measure=>simp [intOf];omega
  ·have HK:Hid (k=8):=by show k=8;omega
   have g1:(8:Int)≤(k:Int):=by omega
   go_wp2_with fail
   go_ret
   exact ⟨_,rfl,by have:=HS.out;rw [HK.out] at this;exact this,rfl⟩
theorem con_productsM {a b:Int} {f g:Nat→Nat} {xs:List Nat} {w:World} (ha:Ln a (xs.map f)) (hb:Ln b (xs.map g)) :
    Calls Tryz.prog 137 #[.int .u64 a,.int .u64 b] w fun e w'=>∃ c,e=.returned (.int .u64 c)∧Ln c (xs.map fun x=>pL (f x) (g x))∧w'=w :=
  (con_products ha hb).mono fun e w' h=>by
    obtain ⟨c,h1,h2,h3⟩:=h
    rw [zip_map] at h2
    exact ⟨c,h1,h2,h3⟩
set_option maxRecDepth 100000 in
theorem con_squares {a:Int} {f:Nat→Nat} {xs:List Nat} {w:World} (h:Ln a (xs.map f)) :
  Calls Tryz.prog 136 #[.int .u64 a] w fun e w'=>∃ c,e=.returned (.int .u64 c)∧Ln c (xs.map fun x=>pL (f x) (f x))∧w'=w:=by
 have HA:Hid _:=h
 clear h
 go_enter Tryz.func136,Tryz.ntmps136
 go_wp2_with fail
 refine (con_productsM HA.out HA.out).mono ?_
 rintro e w2 ⟨c,rfl,hc,rfl⟩
 have HC:Hid _:=hc
 clear hc
 go_wp2_with fail
 go_ret
 exact ⟨_,rfl,HC.out,rfl⟩
set_option maxRecDepth 100000 in
set_option maxHeartbeats 1000000 in
theorem con_inverses {a:Int} {xs:List Nat} {w:World} (h:Ln a xs) :
  Calls Tryz.prog 129 #[.int .u64 a] w fun e w'=>∃ c,e=.returned (.int .u64 c)∧Ln c (xs.map iL)∧w'=w:=by
 have HA:Hid (Ln a (xs.map id)):=h.congr (by simp)
 clear h
 go_enter Tryz.func129,Tryz.ntmps129
 go_wp2_with fail
 refine (con_squares HA.out).mono ?_
 rintro e w1 ⟨c1,rfl,hc,rfl⟩
 have H1:Hid _:=hc
 clear hc
 go_wp2_with fail
 refine (con_productsM H1.out HA.out).mono ?_
 rintro e w2 ⟨c2,rfl,hc,rfl⟩
 have H2:Hid _:=hc
 clear hc
 go_wp2_with fail
 refine (con_squares H2.out).mono ?_
 rintro e w3 ⟨c3,rfl,hc,rfl⟩
 have H3:Hid _:=hc
 clear hc
 go_wp2_with fail
 refine (con_squares H3.out).mono ?_
 rintro e w4 ⟨c4,rfl,hc,rfl⟩
 have H4:Hid _:=hc
 clear hc
 go_wp2_with fail
 refine (con_productsM H4.out H2.out).mono ?_
 rintro e w5 ⟨c5,rfl,hc,rfl⟩
 have H5:Hid _:=hc
 clear hc
 go_wp2_with fail
 refine (con_squares H5.out).mono ?_
 rintro e w6 ⟨c6,rfl,hc,rfl⟩
 have H6:Hid _:=hc
 clear hc
 go_wp2_with fail
 refine (con_squares H6.out).mono ?_
 rintro e w7 ⟨c7,rfl,hc,rfl⟩
 have H7:Hid _:=hc
 clear hc
 go_wp2_with fail
 refine (con_squares H7.out).mono ?_
 rintro e w8 ⟨c8,rfl,hc,rfl⟩
 have H8:Hid _:=hc
 clear hc
 go_wp2_with fail
 refine (con_squares H8.out).mono ?_
 rintro e w9 ⟨c9,rfl,hc,rfl⟩
 have H9:Hid _:=hc
 clear hc
 go_wp2_with fail
 refine (con_productsM H9.out H4.out).mono ?_
 rintro e w10 ⟨c10,rfl,hc,rfl⟩
 have H10:Hid _:=hc
 clear hc
 go_wp2_with fail
 refine (con_productsM H10.out H1.out).mono ?_
 rintro e w11 ⟨c11,rfl,hc,rfl⟩
 have H11:Hid _:=hc
 clear hc
 go_wp2_with fail
 go_ret
 exact ⟨_,rfl,H11.out,rfl⟩
theorem below_stepA {a w w':World} (h:Below a.heap.size a w) (hb:Below w.heap.size w w'):Below a.heap.size a w':=h.trans (hb.mono h.size)
set_option maxRecDepth 100000 in
theorem con_rot4 {a:Int} {xs:List Nat} {w:World} (h:Ln a xs) :
  Calls Tryz.prog 130 #[.int .u64 a,.int .i64 4] w fun e w'=>∃ c,e=.returned (.int .u64 c)∧Ln c (xs.map (rL 4))∧Below w.heap.size w w':=by
 have HA:Hid _:=h.rot4
 clear h
 go_enter Tryz.func130,Tryz.ntmps130
 go_upto_region 2 with fail
 go_quiet (fail)
 go_wp2
 go_ret
 exact ⟨_,rfl,HA.out,below_dN (Below.refl _ _) nq⟩
set_option maxRecDepth 100000 in
theorem con_rot5 {a:Int} {xs:List Nat} {w:World} (h:Ln a xs) :
  Calls Tryz.prog 130 #[.int .u64 a,.int .i64 5] w fun e w'=>∃ c,e=.returned (.int .u64 c)∧Ln c (xs.map (rL 5))∧Below w.heap.size w w':=by
 have HA:Hid _:=h.rot5
 clear h
 go_enter Tryz.func130,Tryz.ntmps130
 go_upto_region 2 with fail
 go_quiet (fail)
 go_wp2
 go_ret
 exact ⟨_,rfl,HA.out,below_dN (Below.refl _ _) nq⟩
set_option maxRecDepth 100000 in
theorem con_rot6 {a:Int} {xs:List Nat} {w:World} (h:Ln a xs) :
  Calls Tryz.prog 130 #[.int .u64 a,.int .i64 6] w fun e w'=>∃ c,e=.returned (.int .u64 c)∧Ln c (xs.map (rL 6))∧Below w.heap.size w w':=by
 have HA:Hid _:=h.rot6
 clear h
 go_enter Tryz.func130,Tryz.ntmps130
 go_upto_region 2 with fail
 go_quiet (fail)
 go_wp2
 go_ret
 exact ⟨_,rfl,HA.out,below_dN (Below.refl _ _) nq⟩
set_option maxRecDepth 100000 in
theorem con_rot7 {a:Int} {xs:List Nat} {w:World} (h:Ln a xs) :
  Calls Tryz.prog 130 #[.int .u64 a,.int .i64 7] w fun e w'=>∃ c,e=.returned (.int .u64 c)∧Ln c (xs.map (rL 7))∧Below w.heap.size w w':=by
 have HA:Hid _:=h.rot7
 clear h
 go_enter Tryz.func130,Tryz.ntmps130
 go_upto_region 2 with fail
 go_quiet (fail)
 go_wp2
 go_ret
 exact ⟨_,rfl,HA.out,below_dN (Below.refl _ _) nq⟩
set_option maxRecDepth 100000 in
set_option maxHeartbeats 1000000 in
theorem con_substitutes {a:Int} {xs:List Nat} {w:World} (h:Ln a xs) :
  Calls Tryz.prog 120 #[.int .u64 a] w fun e w'=>∃ c,e=.returned (.int .u64 c)∧Ln c (xs.map subN)∧Below w.heap.size w w':=by
 have HA:Hid (Ln a xs):=h
 clear h
 go_enter Tryz.func120,Tryz.ntmps120
 go_wp2_with fail
 refine (con_inverses HA.out).mono ?_
 rintro e w0 ⟨v,rfl,hv,rfl⟩
 have HV:Hid _:=hv
 clear hv
 go_wp2_with fail
 refine (con_rot4 HV.out).mono ?_
 rintro e w4 ⟨c4,rfl,hc,hb⟩
 have H4:Hid _:=hc
 have bel:=hb
 clear hc hb
 go_wp2_with fail
 refine (con_rot5 HV.out).mono ?_
 rintro e w5 ⟨c5,rfl,hc,hb⟩
 have H5:Hid _:=hc
 replace bel:=below_stepA bel hb
 clear hc hb
 go_wp2_with fail
 refine (con_rot6 HV.out).mono ?_
 rintro e w6 ⟨c6,rfl,hc,hb⟩
 have H6:Hid _:=hc
 replace bel:=below_stepA bel hb
 clear hc hb
 go_wp2_with fail
 refine (con_rot7 HV.out).mono ?_
 rintro e w7 ⟨c7,rfl,hc,hb⟩
 have H7:Hid _:=hc
 replace bel:=below_stepA bel hb
 clear hc hb
 have HF:Hid _:=Ln.sub HA.out.2.2 HV.out H4.out H5.out H6.out H7.out
 go_wp2_with fail
 go_ret
 exact ⟨_,rfl,HF.out,bel⟩
theorem exec_load {P:Program} {o:Oper} {a:Act} {w:World} {ty:TypeId} {x:Operand} {ad:Addr} {v:Value} (ho:o.op=.load ty x) (hx:a.eval x=.pointer (some ad)) (h:(loadVar ty ad).run P w=.ok v w):(execOp a.eval o).run P w=.ok (.value v) w:=by
 unfold execOp
 simp only [ho,hx,Instr.loadAt,Instr.sureAddr,Sem.run_bind,Sem.run_pure,Result.andThen_ok,h]
/-- a whole array out of a block that is known -/
theorem Blk.load {P:Program} {w:World} {g n:Nat} {F:List Value} {ty:TypeId} {d:TypeDesc} (B:Blk w g F) (hu:P.underlying ty=some d) (hd:(match d with|.struct _|.array _ _=>true|_=>false)=true) (hs:(P.info? ty).map (·.size)=some n) (hn:F.length=n):(loadVar ty ⟨g,0,none⟩).run P w=.ok (.agg F.toArray) w:=by
 obtain ⟨t,ht⟩:=B
 exact run_loadVar_row w g t ty F.toArray (0,0) d ht hu hd (by rw [hs,List.size_toArray,hn])
theorem Blk.setRow {w:World} {g:Nat} {X Y:List Value} (h:Blk w g X):Blk (w.setRow g Y.toArray) g Y:=by
 obtain ⟨t,h⟩:=h
 exact ⟨t,setRow_heap w g _ _ t _ h⟩
/-- a load, guarded or not, whose answer is known -/
theorem wpList_load_run {P:Program} {ops:Array Oper} {rest:List Oper} {o:Oper} {a:Act} {w:World} {Q:Exit→Act→World→Prop} {ty:TypeId} {x:Operand} {ad:Addr} {v:Value} (hw:Region.wanted o (yielded ops a.tmps)=true) (ho:o.op=.load ty x) (hx:a.eval x=.pointer (some ad)) (h:(loadVar ty ad).run P w=.ok v w)
  (k:wpList P ops Q rest (a.put o.dst v) w):wpList P ops Q (o :: rest) a w:=by
 refine wpList_step fun K hK=>?_
 simp only [hw,if_true]
 unfold Oper.wp execOp
 simp only [ho,hx,Instr.loadAt,Instr.sureAddr,Sem.run_bind,Sem.run_pure,Result.andThen_ok,h]
 exact hK _ _ k
/-- a whole array out of cells that are known one by one -/
theorem load_cells {P:Program} {w:World} {g o n:Nat} {F:List Value} {ty:TypeId} {d:TypeDesc} (hc:∀ j v,F[j]?=some v→w.cell? ⟨g,o + j,none⟩=some v) (hn:F.length=n) (hu:P.underlying ty=some d) (hd:(match d with|.struct _|.array _ _=>true|_=>false)=true) (hs:(P.info? ty).map (·.size)=some n):(loadVar ty ⟨g,o,none⟩).run P w=.ok (.agg F.toArray) w:=by
 have hl:(loadCells ⟨g,o,none⟩ F.length).run P w=.ok F.toArray w :=
  run_loadCells_list (P:=P) w ⟨g,o,none⟩ F (fun j v hv=>by
   have hadd:(⟨g,o,none⟩:Addr).add j=⟨g,o + j,none⟩:=by unfold Addr.add;split<;>simp_all
   rw [hadd]
   exact hc j v hv)
 cases hq:P.info? ty with
 | none=>simp [hq] at hs
 | some i =>
  have hz:i.size=F.length:=by simp [hq] at hs;omega
  have hagg:(isAgg ty).run P w=.ok true w:=by
   unfold isAgg
   rw [Sem.run_bind,run_underlying hu w]
   cases d<;>simp_all
  simp [loadVar,Sem.run_bind,hagg,sizeOf,typeInfo,hq,hz,hl]
/-- bytes of a block that is known whole -/
theorem Blk.bs {w:World} {g q:Nat} {P:List Int} (B:Blk w g (u8s P)) (l:P.length=q) (h:q≤maxLen):Bs w (.slice (some ⟨g,0,none⟩) q q) P :=
 ⟨some ⟨g,0,none⟩,q,by rw [l],h,by omega,fun _=>⟨g,0,rfl,B.lt,fun j hj=>by rw [Nat.zero_add];exact B.cell j _ (u8s_get P j hj)⟩⟩
theorem made_zero (n:Nat):madeCells #[.int .u8 0] n=(u8s (List.replicate n 0)).toArray:=by
 apply Array.ext
 ·simp [madeCells]
 ·intro i h1 h2
  simp [madeCells,Nat.mod_one]
theorem wp_load_run {P:Program} {o:Oper} {a:Act} {w:World} {K:Act→World→Prop} {Q:Exit→Act→World→Prop} {ty:TypeId} {x:Operand} {ad:Addr} {v:Value} (ho:o.op=.load ty x) (hx:a.eval x=.pointer (some ad)) (h:(loadVar ty ad).run P w=.ok v w) (k:K (a.put o.dst v) w):o.wp P a w K Q:=by
 unfold Oper.wp execOp
 simp only [ho,hx,Instr.loadAt,Instr.sureAddr,Sem.run_bind,Sem.run_pure,Result.andThen_ok,h]
 exact k
theorem results_row_tmp {P:Program} {fn:Func} {p u:Tmp} {ty:TypeId} (h:fn.results=#[.cell p ty,.tmp u]) (tmps:Array Value) (w:World) (g:Nat) (t:TypeId) (cs:Array Value) (fr:Nat × Nat) (d:TypeDesc)
  (hp:tmps.getD p undef=.pointer (some ⟨g,0,none⟩)) (hg:w.heap[g]?=some (.cells cs t fr))
  (hu:P.underlying ty=some d) (hd:(match d with|.struct _|.array _ _=>true|_=>false)=true) (hi:(P.info? ty).map (·.size)=some cs.size) :
  (results fn tmps).run P w=.ok (.tuple #[.agg cs,tmps.getD u undef]) w:=by
 have hp':tmps[p]?.getD undef=.pointer (some ⟨g,0,none⟩):=by simpa using hp
 simp [results,h,hp',asAddr,run_loadVar_row w g t ty cs fr d hg hu hd hi]
set_option linter.unusedSimpArgs false in
set_option maxRecDepth 100000 in
set_option maxHeartbeats 2000000 in
theorem con_xored {A B : List Int} {w : World} (lA : A.length = 16) (lB : B.length = 16) :
    Calls Tryz.prog 104 #[.agg (u8s A).toArray, .agg (u8s B).toArray] w fun e w' => e = .returned (.agg (u8s (xkN A B)).toArray) ∧ Below w.heap.size w w' := by
  obtain ⟨FB, hFB⟩ : ∃ F, u8s B = F := ⟨_, rfl⟩
  have FBh : Hid (u8s B = FB) := hFB
  have HA : Hid (A.length = 16) := lA
  have HB : Hid (B.length = 16) := lB
  rw [hFB]
  clear hFB lA lB
  have hz := zero_16.out
  have B0 := ((Blk.new w (u8s A) 91 w.heap.size rfl).alloc (.cells FB.toArray 91)).alloc (.cells (u8s (List.replicate 16 0)).toArray 91)
  have B1 := (Blk.new (w.alloc (.cells (u8s A).toArray 91)) FB 91 (w.heap.size + 1) (by simp)).alloc (.cells (u8s (List.replicate 16 0)).toArray 91)
  have R0 := Blk.new ((w.alloc (.cells (u8s A).toArray 91)).alloc (.cells FB.toArray 91)) (u8s (List.replicate 16 0)) 91 (w.heap.size + 1 + 1) (by simp)
  have bel : Below w.heap.size w (((w.alloc (.cells (u8s A).toArray 91)).alloc (.cells FB.toArray 91)).alloc (.cells (u8s (List.replicate 16 0)).toArray 91)) := ((((Below.refl _ _).alloc (Nat.le_refl _) _).alloc (by simp) _).alloc (by simp; omega) _)
  obtain ⟨Z, hZ⟩ : ∃ Z, (u8s (List.replicate 16 0)) = Z := ⟨_, rfl⟩
  have HZl : Hid (Z.length = 16) := by rw [← hZ]; rfl
  rw [hZ] at hz B0 B1 R0 bel
  clear hZ
  generalize hcs : (u8s A).toArray = cs at B0 B1 R0 bel ⊢
  clear hcs
  go_enter Tryz.func104, Tryz.ntmps104
  go_upto_region 1 with fail
  generalize (((w.alloc (.cells cs 91)).alloc (.cells FB.toArray 91)).alloc (.cells Z.toArray 91)) = W at *
  clear hz
  rw [← xkZ_0 (Y := B) HA.out] at B0
  go_wp2_with fail
  go_loopw [6] (fun iv wx => ∃ k : Nat, k ≤ 16 ∧ iv = .int .i64 k ∧ Blk wx w.heap.size (u8s (xkZ A B k)) ∧ Blk wx (w.heap.size + 1) FB ∧ Blk wx (w.heap.size + 1 + 1) Z ∧ Below w.heap.size w wx) (fun iv _ => 16 - (intOf iv).toNat)
  case atStart => exact ⟨0, by omega, rfl, B0, B1, R0, bel⟩
  case round =>
    clear B0 B1 R0 bel
    obtain ⟨k, hk, rfl, B0, B1, R0, bel⟩ := hrel
    by_cases hkl : k < 16
    · have gB : (k : Int) < 16 := by omega
      have g0 : (0 : Int) ≤ (k : Int) := by omega
      have g3 : (k : Int).toNat = k := by omega
      have gk : IntKind.i64.wrap ((k : Int) + 1) = (k : Int) + 1 := by rw [IntKind.wrap_i64]; omega
      have HS : Hid _ := xkZ_set (X := A) (Y := B) (k := k)
      have cA := B0.cell k _ (u8s_get (xkZ A B k) k (by rw [xkZ_len]; exact hkl))
      rw [xkZ_get hkl] at cA
      have cB := B1.cell k _ (by rw [← FBh.out]; exact u8s_get B k (by rw [HB.out]; exact hkl))
      obtain ⟨x, hx⟩ : ∃ x, A.getD k 0 = x := ⟨_, rfl⟩
      obtain ⟨y, hy⟩ : ∃ y, B.getD k 0 = y := ⟨_, rfl⟩
      rw [hx] at cA HS
      rw [hy] at cB HS
      clear hx hy
      have fz := B0.frozen k
      have l0 := B0.lt
      have l1 := B1.lt
      go_upto_region 4 with fail
      go_region
      all_goals go_wp2_with fail
      all_goals go_roundw
      case rel =>
        replace B0 := B0.setb k (bits .xor .u8 x y)
        rw [HS.out] at B0
        exact ⟨k + 1, by omega, by go_num, B0.drew, (B1.other _ _ (by show w.heap.size + 1 ≠ w.heap.size; omega)).drew, (R0.other _ _ (by show w.heap.size + 1 + 1 ≠ w.heap.size; omega)).drew, (bel.setCell (by show w.heap.size ≤ w.heap.size; omega) _).drew⟩
      case measure => simp [intOf]; omega
    · have HK : Hid (k = 16) := by show k = 16; omega
      have gB : ¬ (k : Int) < 16 := by omega
      rw [HK.out] at B0
      obtain ⟨F, hF⟩ : ∃ F, u8s (xkN A B) = F := ⟨_, rfl⟩
      have HF : Hid (u8s (xkN A B) = F) := hF
      have HFl : Hid (F.length = 16) := by rw [← hF, List.length_map]; exact xkZ_len _ _ 16
      have HFo : Hid (F.toArray.all (·.oneCell') = true) := by rw [← hF]; exact u8_ones _
      replace B0 : Blk wr w.heap.size F := by rw [← hF]; exact B0
      clear hF
      obtain ⟨tR, hR⟩ := R0
      have HR : Hid _ := hR
      clear hR
      go_wp2_with (first
        | (refine wpList_load_run (by rfl) (by rfl) (by rfl) (B0.load Tryz.underlying91 rfl size_16 HFl.out) ?_
           refine wpList_store_row rfl 91 _ _ rfl (w.heap.size + 1 + 1) F.toArray rfl rfl tR Z.toArray HR.out (by rw [size_16, List.size_toArray, HFl.out]) (by rw [List.size_toArray, List.size_toArray, HFl.out, HZl.out]) HFo.out ?_)
        | fail)
      exact bodyPost_ret (results_cell_row Tryz.results104 _ _ (w.heap.size + 1 + 1) tR F.toArray (0, 0) _ rfl (setRow_heap _ _ _ _ _ _ HR.out) Tryz.underlying91 rfl (by rw [size_16, List.size_toArray, HFl.out])) rfl ⟨by rw [HF.out], below_setRow bel (by omega) _⟩
theorem con_xoredL {A B:List Int} {F G K:List Value} {w:World} (hF:u8s A=F) (hG:u8s B=G) (hK:u8s (xkN A B)=K) (lA:A.length=16) (lB:B.length=16) :
  Calls Tryz.prog 104 #[.agg F.toArray,.agg G.toArray] w fun e w'=>e=.returned (.agg K.toArray)∧Below w.heap.size w w':=by
 subst hF hG hK
 exact con_xored lA lB
set_option linter.unusedSimpArgs false in
set_option maxRecDepth 100000 in
set_option maxHeartbeats 2000000 in
theorem con_substituted {S : List Int} {w : World} (l : S.length = 16) (b : byt S) :
    Calls Tryz.prog 107 #[.agg (u8s S).toArray] w fun e w' => e = .returned (.agg (u8s (sboxN S)).toArray) ∧ Below w.heap.size w w' := by
  have hz := zero_16.out
  have lS : Hid (S.length = 16) := l
  have HSb : Hid (byt S) := b
  clear l b
  have V0 := (Blk.new w (u8s S) 91 w.heap.size rfl).alloc (.cells (u8s (List.replicate 16 0)).toArray 91)
  have R0 := Blk.new (w.alloc (.cells (u8s S).toArray 91)) (u8s (List.replicate 16 0)) 91 (w.heap.size + 1) (by simp)
  have bel : Below w.heap.size w ((w.alloc (.cells (u8s S).toArray 91)).alloc (.cells (u8s (List.replicate 16 0)).toArray 91)) := (((Below.refl _ _).alloc (Nat.le_refl _) _).alloc (by simp) _)
  generalize (u8s (List.replicate 16 0)).toArray = cs at hz bel R0 V0
  obtain ⟨ds, hds⟩ : ∃ z, (u8s S).toArray = z := ⟨_, rfl⟩
  rw [hds] at R0 V0 bel ⊢
  clear hds
  go_enter Tryz.func107, Tryz.ntmps107
  go_wp2_with fail
  obtain ⟨W, hW⟩ : ∃ z, z = (w.alloc (Obj.cells ds 91)).alloc (Obj.cells cs 91) := ⟨_, rfl⟩
  rw [← hW] at R0 V0 bel ⊢
  clear hW hz
  rw [← sbZ_0 lS.out] at V0
  go_loopw [7] (fun hv wx => ∃ h : Nat, h ≤ 2 ∧ hv = .int .i64 h ∧ Blk wx w.heap.size (u8s (sbZ S (8 * h))) ∧ Blk wx (w.heap.size + 1) (u8s (List.replicate 16 0)) ∧ Below w.heap.size w wx) (fun hv _ => 2 - (intOf hv).toNat)
  case atStart => exact ⟨0, by omega, rfl, V0, R0, bel⟩
  case round =>
    clear V0 R0 bel
    obtain ⟨h, hh, rfl, V0, R0, bel⟩ := hrel
    by_cases hhl : h < 2
    · have g1 : (h : Int) < 2 := by omega
      have i1 : IntKind.i64.wrap (8 * (h : Int)) = 8 * (h : Int) := by rw [IntKind.wrap_i64]; omega
      go_wp2_with fail
      obtain ⟨W1, hW1⟩ : ∃ z, z = wr := ⟨_, rfl⟩
      rw [← hW1] at V0 R0 bel ⊢
      have HV0 : Hid (Blk W1 w.heap.size (u8s (sbZ S (8 * h)))) := V0
      clear hW1
      go_loopw [4, 10] (fun lv iv wx => ∃ (i : Nat) (x : Int), i ≤ 8 ∧ iv = .int .i64 i ∧ lv = .int .u64 x ∧ Hid (x = ((jn (rvN S (8 * h) i) : Nat) : Int)) ∧ wx = W1) (fun _ iv _ => 8 - (intOf iv).toNat)
      case atStart => exact ⟨0, 0, by omega, rfl, rfl, rfl, rfl⟩
      case round =>
        obtain ⟨i, x, hi, rfl, rfl, HX, hw⟩ := hrel
        rw [hw]
        clear hw
        by_cases hil : i < 8
        · have g2 : (i : Int) < 8 := by omega
          have i2 : IntKind.i64.wrap (8 * (h : Int) + (i : Int)) = ((8 * h + i : Nat) : Int) := by rw [IntKind.wrap_i64]; omega
          have l1 : ((8 * h + i : Nat) : Int) < 16 := by omega
          have k1 : (0 : Int) ≤ ((8 * h + i : Nat) : Int) := by omega
          have cv := HV0.out.cell (8 * h + i) _ (u8s_get _ _ (by rw [sbZ_len]; omega))
          rw [sbZ_hi (by omega) (by omega)] at cv
          have yb := HSb.out (8 * h + i)
          have HO : Hid _ := or_low (rvN_bd HSb.out (8 * h) hil) yb
          rw [← HX.out] at HO
          have HN : Hid (((jn (rvN S (8 * h) (i + 1)) : Nat) : Int) = (((S.getD (8 * h + i) 0).toNat + 256 * jn (rvN S (8 * h) i) : Nat) : Int)) := rfl
          obtain ⟨y, hy⟩ : ∃ y, S.getD (8 * h + i) 0 = y := ⟨_, rfl⟩
          obtain ⟨n, hn⟩ : ∃ n, 8 * h + i = n := ⟨_, rfl⟩
          rw [hy] at cv yb HO HN
          rw [hn] at cv i2 l1 k1
          have wy : IntKind.u64.wrap y = y := by rw [IntKind.wrap_u64]; omega
          clear hy hn
          have lv := HV0.out.lt
          go_wp2_with fail
          go_roundw
          case rel => exact ⟨i + 1, _, by omega, by go_num, rfl, by show _ = _; rw [HN.out]; exact HO.out, trivial⟩
          case measure => simp [intOf]; omega
        · have HI : Hid (i = 8) := by show i = 8; omega
          have g2 : (8 : Int) ≤ (i : Int) := by omega
          have HL : Hid (Ln x (rvN S (8 * h) 8)) := ⟨by have := HX.out; rw [HI.out] at this; exact this, rvN_len _ _ _, rvN_lan HSb.out _ _⟩
          clear HX
          go_wp2_with fail
          refine (con_substitutes HL.out).mono ?_
          rintro e w1 ⟨c, rfl, hc, hb⟩
          have HC : Hid _ := hc
          have V1 := HV0.out.later hb
          replace R0 := R0.later hb
          replace bel := below_stepA bel hb
          clear hc hb HV0 V0 HL g2 HI
          go_wp2_with fail
          go_loopw [26] (fun iv wx => ∃ i : Nat, i ≤ 8 ∧ iv = .int .i64 i ∧ Blk wx w.heap.size (u8s (sbZ S (8 * h + i))) ∧ Blk wx (w.heap.size + 1) (u8s (List.replicate 16 0)) ∧ Below w.heap.size w wx) (fun iv _ => 8 - (intOf iv).toNat)
          case atStart => exact ⟨0, by omega, rfl, V1, R0, bel⟩
          case round =>
            clear V1 R0 bel
            obtain ⟨i, hi, rfl, V1, R0, bel⟩ := hrel
            by_cases hil : i < 8
            · have g2 : (i : Int) < 8 := by omega
              have i2 : IntKind.i64.wrap (8 * (h : Int) + (i : Int)) = ((8 * h + i : Nat) : Int) := by rw [IntKind.wrap_i64]; omega
              have l1 : ((8 * h + i : Nat) : Int) < 16 := by omega
              have k1 : (0 : Int) ≤ ((8 * h + i : Nat) : Int) := by omega
              have j1 : IntKind.i64.wrap (8 * (i : Int)) = 8 * (i : Int) := by rw [IntKind.wrap_i64]; omega
              obtain ⟨m, hm⟩ : ∃ m, 56 - 8 * i = m := ⟨_, rfl⟩
              have j2 : IntKind.i64.wrap (56 - 8 * (i : Int)) = (m : Int) := by rw [IntKind.wrap_i64]; omega
              have j3 : ¬ (m : Int) < 0 := by omega
              have j4 : min m 64 = m := by omega
              have z1 := lane_out HC.out hil hm.symm
              have HS : Hid _ := sbZ_set (X := S) (k := 8 * h + i)
              have cv := V1.cell (8 * h + i) _ (u8s_get _ _ (by rw [sbZ_len]; omega))
              have fz := V1.frozen (8 * h + i)
              obtain ⟨z, hz⟩ : ∃ z, sbN (S.getD (8 * h + i) 0) = z := ⟨_, rfl⟩
              rw [hz] at z1 HS
              obtain ⟨n, hn⟩ : ∃ n, 8 * h + i = n := ⟨_, rfl⟩
              rw [hn] at cv fz i2 l1 k1 HS V1
              have HNn : Hid (8 * h + i = n) := hn
              clear hz hm hn
              have lv := V1.lt
              have HV := V1.setb n z
              rw [HS.out] at HV
              replace R0 := R0.other ⟨w.heap.size, n, none⟩ (.int .u8 z) (by show w.heap.size + 1 ≠ w.heap.size; omega)
              replace bel := bel.setCell (p := ⟨w.heap.size, n, none⟩) (Nat.le_refl _) (.int .u8 z)
              clear V1 HS
              go_wp2_with fail
              go_roundw
              case rel => exact ⟨i + 1, by omega, by go_num, by rw [show 8 * h + (i + 1) = n + 1 by have := HNn.out; omega]; exact HV, R0, bel⟩
              case measure => simp [intOf]; omega
            · have HI : Hid (i = 8) := by show i = 8; omega
              have g2 : (8 : Int) ≤ (i : Int) := by omega
              go_wp2_with fail
              go_roundw
              case rel => exact ⟨h + 1, by omega, by go_num, by rw [HI.out, show 8 * h + 8 = 8 * (h + 1) by omega] at V1; exact V1, R0, bel⟩
              case measure => simp [intOf]; omega
    · have HH : Hid (h = 2) := by show h = 2; omega
      have g1 : (2 : Int) ≤ (h : Int) := by omega
      rw [HH.out] at V0
      obtain ⟨F, hF⟩ : ∃ F, u8s (sboxN S) = F := ⟨_, rfl⟩
      have HF : Hid (u8s (sboxN S) = F) := hF
      have HFl : Hid (F.length = 16) := by rw [← hF, List.length_map]; exact sbZ_len S 16
      have HFo : Hid (F.toArray.all (·.oneCell') = true) := by rw [← hF]; exact u8_ones _
      replace V0 : Blk wr w.heap.size F := by rw [← hF]; exact V0
      clear hF
      obtain ⟨tR, hR⟩ := R0
      have HR : Hid _ := hR
      clear hR
      go_wp2_with (first
        | (refine wpList_load_run (by rfl) (by rfl) (by rfl) (V0.load Tryz.underlying91 rfl size_16 HFl.out) ?_
           refine wpList_store_row rfl 91 _ _ rfl (w.heap.size + 1) F.toArray rfl rfl tR _ HR.out (by rw [size_16, List.size_toArray, HFl.out]) (by rw [List.size_toArray, List.size_toArray, HFl.out]; rfl) HFo.out ?_)
        | fail)
      exact bodyPost_ret (results_cell_row Tryz.results107 _ _ (w.heap.size + 1) tR F.toArray (0, 0) _ rfl (setRow_heap _ _ _ _ _ _ HR.out) Tryz.underlying91 rfl (by rw [size_16, List.size_toArray, HFl.out])) rfl ⟨by rw [HF.out], below_setRow bel (by omega) _⟩
end Go.Proofs.YtlkljfnenonfgaaGreatDoor
