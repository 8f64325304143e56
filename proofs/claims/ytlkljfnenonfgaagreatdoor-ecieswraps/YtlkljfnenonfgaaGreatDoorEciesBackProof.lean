/- The tables of field, curve and order. From the row's list to the tables' cells. From the row's list of six variables to the tables' cells. From the row's list of seven variables (errors' own, and the tables) to their cells. From the row's list to the cells of sha's tables. From the row's list of variables to the tables' cells: EciesBack. Bytes that are handed in: from the row's reading to the walk's words. An array of bytes by value, opened as it is read. Proved: the law EciesBack of the program answers true for any arguments (six limbs; six limbs; 32 bytes; an int; a byte), and all stand as they stood; the card ties the listed variables to the program's text. No conditions. -/
import Derived.Test.YtlkljfnenonfgaaGreatDoorCCode
import Derived.Test.YtlkljfnenonfgaaGreatDoorEdG
import Derived.Test.YtlkljfnenonfgaaGreatDoorAeNumG
import Derived.Test.YtlkljfnenonfgaaGreatDoorErG
import Derived.Test.YtlkljfnenonfgaaGreatDoorSCodeD
import Derived.Test.YtlkljfnenonfgaaGreatDoorEiUp0
import Derived.Test.YtlkljfnenonfgaaGreatDoorFrom
import Derived.Test.YtlkljfnenonfgaaGreatDoorLawEciesBack
import Derived.Test.YtlkljfnenonfgaaGreatDoorBase
import Derived.Test.YtlkljfnenonfgaaGreatDoorRows
import Derived.Deep.WholeRow
import Derived.Deep.RegionHeld3
import Derived.Deep.DeepCutAuto
import Derived.Deep.DeepFit
import Derived.Lib.LaidTab
import Derived.Stop.LaidErr
import Derived.LaidMore
import Derived.ProofKit
import Derived.LaidLaws
import Derived.LaidHandle
import Derived.OpenShut
import Derived.ShutString
import Derived.Deep.MidRow
import Derived.Test.YtlkljfnenonfgaaGreatDoorCards
import Derived.Test.YtlkljfnenonfgaaGreatDoorTie
import Derived.ChangeOld
import Derived.Below
import Derived.Stop.Joined
import Derived.SevenTiedAt
namespace Go.Proofs.YtlkljfnenonfgaaGreatDoor
open Go.RowKit
open Go.ChangeShapes Go.WideShapes Go.ChangeAt Go.RowKit
/-- the tables of field, curve and order -/
def GlsL (w:World):Prop:=GlsC w∧GlsO w
theorem GlsL.below {w w':World} (G:GlsL w) (hb:Below w.heap.size w w'):GlsL w':=⟨G.1.below hb,G.2.below hb⟩
theorem g_primeC : Tryz.prog.globalNamed "escutcheon/field.prime" = some 2 := by kernel_rfl
theorem g_squareC : Tryz.prog.globalNamed "escutcheon/field.squareOfR" = some 4 := by kernel_rfl
theorem g_constant : Tryz.prog.globalNamed "escutcheon/curve.constant" = some 0 := by kernel_rfl
theorem g_base : Tryz.prog.globalNamed "escutcheon/curve.base" = some 1 := by kernel_rfl
theorem t_primeC:(Tryz.prog.globals[2]?).map (·.type)=some 24:=by kernel_rfl
theorem t_squareC:(Tryz.prog.globals[4]?).map (·.type)=some 24:=by kernel_rfl
theorem t_constant:(Tryz.prog.globals[0]?).map (·.type)=some 24:=by kernel_rfl
theorem t_base:(Tryz.prog.globals[1]?).map (·.type)=some 26:=by kernel_rfl
theorem g_pointsL : Tryz.prog.globalNamed "escutcheon/order.points" = some 5 := by kernel_rfl
theorem g_squareL : Tryz.prog.globalNamed "escutcheon/order.squareOfR" = some 6 := by kernel_rfl
theorem t_pointsL:(Tryz.prog.globals[5]?).map (·.type)=some 24:=by kernel_rfl
theorem t_squareL:(Tryz.prog.globals[6]?).map (·.type)=some 24:=by kernel_rfl
theorem g_con : Tryz.prog.globalNamed "escutcheon/sha.constants" = some 8 := by kernel_rfl
theorem g_fir : Tryz.prog.globalNamed "escutcheon/sha.atFirst" = some 7 := by kernel_rfl
theorem t_con:(Tryz.prog.globals[8]?).map (·.type)=some 172:=by kernel_rfl
theorem t_fir:(Tryz.prog.globals[7]?).map (·.type)=some 145:=by kernel_rfl
theorem cells_80:Tryz.prog.cellsOf 172=80:=by kernel_rfl
theorem cells_8s:Tryz.prog.cellsOf 145=8:=by kernel_rfl
theorem cells_1s:Tryz.prog.cellsOf 22=1:=by kernel_rfl
theorem tabs_eciesBack {W : World} (h : laidMet Tryz.prog [("escutcheon/field.prime", Rows.laid_escutcheon_field_prime), ("escutcheon/field.squareOfR", Rows.laid_escutcheon_field_squareOfR), ("escutcheon/curve.constant", Rows.laid_escutcheon_curve_constant), ("escutcheon/curve.base", Rows.laid_escutcheon_curve_base), ("escutcheon/order.points", Rows.laid_escutcheon_order_points), ("escutcheon/order.squareOfR", Rows.laid_escutcheon_order_squareOfR), ("escutcheon/sha.constants", Rows.laid_escutcheon_sha_constants), ("escutcheon/sha.atFirst", Rows.laid_escutcheon_sha_atFirst)] W) : GlsX W := by
 have t0:=Lib.tabIs_of_head (k:=.u64) (zs:=[4294967295,18446744069414584320,18446744073709551614,18446744073709551615,18446744073709551615,18446744073709551615]) g_primeC t_primeC Tryz.underlying24 Tryz.underlying22 cells_u64 cells_u384 h
 have t1:=Lib.tabIs_of_head (k:=.u64) (zs:=[18446744065119617025,8589934592,18446744065119617024,8589934592,1,0]) g_squareC t_squareC Tryz.underlying24 Tryz.underlying22 cells_u64 cells_u384 h.tail
 have t2:=Lib.tabIs_of_head (k:=.u64) (zs:=[3064076045283764975,14291673747578343837,221811693264799578,1737717031765098770,10992729701402291481,12912154004749740004]) g_constant t_constant Tryz.underlying24 Tryz.underlying22 cells_u64 cells_u384 h.tail.tail
 have t3:=ptIs_of_head g_base t_base h.tail.tail.tail
 have t4:=Lib.tabIs_of_head (k:=.u64) (zs:=[17072048233947408755,6348401684107011962,14367412456785391071,18446744073709551615,18446744073709551615,18446744073709551615]) g_pointsL t_pointsL Tryz.underlying24 Tryz.underlying22 cells_u64 cells_u384 h.tail.tail.tail.tail
 have t5:=Lib.tabIs_of_head (k:=.u64) (zs:=[3256554584917936553,18391999277541532697,13564358545871743303,15279949475123764421,4589268600508278933,902107514168524577]) g_squareL t_squareL Tryz.underlying24 Tryz.underlying22 cells_u64 cells_u384 h.tail.tail.tail.tail.tail
 have t6:=Lib.tabIs_of_head (k:=.u64) (zs:=KS) g_con t_con Tryz.underlying172 Tryz.underlying22 cells_1s cells_80 h.tail.tail.tail.tail.tail.tail
 have t7:=Lib.tabIs_of_head (k:=.u64) (zs:=HS) g_fir t_fir Tryz.underlying145 Tryz.underlying22 cells_1s cells_8s h.tail.tail.tail.tail.tail.tail.tail
 exact ⟨⟨⟨⟨t0.cell g_primeC 0 (by decide),t0.cell g_primeC 1 (by decide),t0.cell g_primeC 2 (by decide),t0.cell g_primeC 3 (by decide),t0.cell g_primeC 4 (by decide),t0.cell g_primeC 5 (by decide)⟩,⟨t1.cell g_squareC 0 (by decide),t1.cell g_squareC 1 (by decide),t1.cell g_squareC 2 (by decide),t1.cell g_squareC 3 (by decide),t1.cell g_squareC 4 (by decide),t1.cell g_squareC 5 (by decide)⟩⟩,⟨t2.cell g_constant 0 (by decide),t2.cell g_constant 1 (by decide),t2.cell g_constant 2 (by decide),t2.cell g_constant 3 (by decide),t2.cell g_constant 4 (by decide),t2.cell g_constant 5 (by decide)⟩,t3⟩,⟨⟨t4.cell g_pointsL 0 (by decide),t4.cell g_pointsL 1 (by decide),t4.cell g_pointsL 2 (by decide),t4.cell g_pointsL 3 (by decide),t4.cell g_pointsL 4 (by decide),t4.cell g_pointsL 5 (by decide)⟩,⟨t5.cell g_squareL 0 (by decide),t5.cell g_squareL 1 (by decide),t5.cell g_squareL 2 (by decide),t5.cell g_squareL 3 (by decide),t5.cell g_squareL 4 (by decide),t5.cell g_squareL 5 (by decide)⟩⟩,⟨fun j hj=>t6.cell g_con j (by rw [show KS.length=80 from rfl];exact hj),fun j hj=>t7.cell g_fir j hj⟩⟩
theorem laidX_eciesBack {W : World} (h : laidMetH Tryz.prog [("escutcheon/field.prime", Rows.laid_escutcheon_field_prime), ("escutcheon/field.squareOfR", Rows.laid_escutcheon_field_squareOfR), ("escutcheon/curve.constant", Rows.laid_escutcheon_curve_constant), ("escutcheon/curve.base", Rows.laid_escutcheon_curve_base), ("escutcheon/order.points", Rows.laid_escutcheon_order_points), ("escutcheon/order.squareOfR", Rows.laid_escutcheon_order_squareOfR), ("escutcheon/sha.constants", Rows.laid_escutcheon_sha_constants), ("escutcheon/sha.atFirst", Rows.laid_escutcheon_sha_atFirst)] W) : laidMet Tryz.prog [("escutcheon/field.prime", Rows.laid_escutcheon_field_prime), ("escutcheon/field.squareOfR", Rows.laid_escutcheon_field_squareOfR), ("escutcheon/curve.constant", Rows.laid_escutcheon_curve_constant), ("escutcheon/curve.base", Rows.laid_escutcheon_curve_base), ("escutcheon/order.points", Rows.laid_escutcheon_order_points), ("escutcheon/order.squareOfR", Rows.laid_escutcheon_order_squareOfR), ("escutcheon/sha.constants", Rows.laid_escutcheon_sha_constants), ("escutcheon/sha.atFirst", Rows.laid_escutcheon_sha_atFirst)] W := by
 rw [MakeChecks.laidMetH_plain _ _ _ (by kernel_rfl)] at h
 exact h
theorem wf_byte {n:Int}:(Lit.int .u8 n).wf=true↔0≤n∧n < 256:=by
 have h1:IntKind.u8.min=0:=rfl
 have h2:IntKind.u8.max=255:=rfl
 simp [Lit.wf,h1,h2]
 omega
theorem row_bytes {w:World} {x:Addr} {len cap:Nat} {zs:List Int} (hl:len≤cap) (hm:cap≤maxLen) (hz:zs.length=cap) (hc:∀ i,i < zs.length→w.cell? (x.add i)=some (.int .u8 (zs.getD i 0))) (hw:∀ n∈zs,(Lit.int .u8 n).wf=true) :
  Bs w (.slice (some x) len cap) (zs.take len)∧byt (zs.take len):=by
 have ht:(zs.take len).length=len:=by simp;omega
 have hg:∀ j,j < len→(zs.take len).getD j 0=zs.getD j 0:=fun j hj=>by simp [List.getD_eq_getElem?_getD,hj]
 constructor
 ·refine ⟨_,cap,by rw [ht],hm,by omega,fun hp=>?_⟩
  rw [ht] at hp
  obtain ⟨b,o,spot⟩:=x
  have h0:=hc 0 (by omega)
  have hs:spot=none:=by simpa [Addr.add] using World.cell?_spot h0
  subst hs
  have hb:=World.block_lt_of_cell? w _ h0
  refine ⟨b,o,rfl,by simpa [Addr.add] using hb,fun j hj=>?_⟩
  rw [ht] at hj
  rw [hg j hj]
  have hj2:=hc j (by omega)
  rw [Addr.add_mid] at hj2
  exact hj2
 ·apply byt_of
  intro j hj
  rw [ht] at hj
  rw [hg j hj]
  have:zs.getD j 0∈zs:=by
   rw [List.getD_eq_getElem?_getD,List.getElem?_eq_getElem (by omega)]
   exact List.getElem_mem _
  exact wf_byte.1 (hw _ this)


variable {H:Type} {enc:TypeId × Value→H} {P:Program} {w:World} {base:Nat} {spare:Nat→Bool} {held:Bool}
theorem open_arrb {n:Nat} {t e:TypeId} {cs:Array Value} {d:DataW H} {p:List MemPlace} (hu:P.underlying t=some (.array n e)) (hc:P.cellsOf t=n) (hue:P.underlying e=some (.int .u8)) (hce:P.cellsOf e=1)
  (h:DataW.Trod enc P w base spare held t (.agg cs) d p) :
  ∃ A:List Int,A.length=n∧cs=(u8s A).toArray∧d=.agg (A.map fun x=>.lit (.int .u8 x))∧p=[]∧byt A:=by
 obtain ⟨fuel,hf⟩:=h
 obtain ⟨xs,m,_,hx,hl,hn,hi⟩:=DataW.trod_array hu hf
 obtain ⟨l⟩:=cs
 simp only [Value.cells] at hl hi
 rw [hc] at hl
 have step:∀ i,i < n→∃ x:Int,l[i]?=some (.int .u8 x)∧xs[i]?=some (.lit (.int .u8 x),[])∧(Lit.int .u8 x).wf=true:=by
  intro i hin
  have h1:=hi i hin
  rw [hce,Nat.mul_one] at h1
  have h2:(l.drop i).take 1=[l[i]'(by omega)]:=by
   rw [List.drop_eq_getElem_cons (by omega)];rfl
  rw [h2] at h1
  rw [List.getElem?_eq_getElem (show i < xs.length by omega)] at h1
  obtain ⟨x,e1,e2,e3⟩:=DataW.trod_int hue h1
  simp only [List.cons.injEq,and_true] at e1
  exact ⟨x,by rw [List.getElem?_eq_getElem (by omega),e1],by rw [List.getElem?_eq_getElem (by omega),e2],e3⟩
 have hlen:l.length=n:=hl
 refine ⟨l.map intOf,by simpa using hlen,?_,?_,?_,?_⟩
 ·congr 1
  apply List.ext_getElem?
  intro i
  by_cases hin:i < n
  ·obtain ⟨x,e1,_,_⟩:=step i hin
   simp [u8s,e1,intOf]
  ·rw [List.getElem?_eq_none (by omega),List.getElem?_eq_none (by simp;omega)]
 ·simp only [Prod.mk.injEq] at hx
  rw [hx.1]
  congr 1
  apply List.ext_getElem?
  intro i
  by_cases hin:i < n
  ·obtain ⟨x,e1,e2,_⟩:=step i hin
   simp [e1,e2,intOf]
  ·rw [List.getElem?_eq_none (by simp;omega),List.getElem?_eq_none (by simp;omega)]
 ·simp only [Prod.mk.injEq] at hx
  rw [hx.2,List.flatMap_eq_nil_iff]
  intro y hy
  obtain ⟨i,hi1,hi2⟩:=List.getElem_of_mem hy
  obtain ⟨x,_,e2,_⟩:=step i (by omega)
  rw [List.getElem?_eq_getElem hi1,hi2] at e2
  injection e2 with e2
  rw [e2]
 ·apply byt_of
  intro j hj
  simp at hj
  obtain ⟨x,e1,_,e3⟩:=step j (by omega)
  have:(l.map intOf).getD j 0=x:=by simp [List.getD_eq_getElem?_getD,e1,intOf]
  rw [this]
  exact wf_byte.1 e3
theorem own_eciesBack:ownKnob Tryz.prog.godebug=none:=by kernel_rfl
theorem laid_eciesBack:laidOutB Tryz.prog=true:=by kernel_rfl
theorem cells48_eciesBack:Tryz.prog.cellsOf 48=32:=by kernel_rfl
theorem cellb_eciesBack:Tryz.prog.cellsOf 5=1:=by kernel_rfl
theorem door_eciesBack (os:Os) (args:Array Value):laidMetH Tryz.prog Rows.eciesBackRow.laid ((World.doorLaid Tryz.prog 400 os).forCall (fun _ _=>0) ⟨#[],args,[]⟩).memory :=
 laidMetH_of_parts3 (fuel:=8) (laidMet_of_run' 8 (by kernel_rfl) (by kernel_rfl)) (by kernel_rfl) (by kernel_rfl)
set_option maxHeartbeats 1000000 in
set_option maxRecDepth 100000 in
theorem lifted_eciesBack (os:Os) (started:os.Started) (H:Type) (enc:TypeId × Value→H) :
  ReturnsInHanded {} Tryz.checked os 5 .any (fun w args=>(Rows.eciesBackSpec.pre enc Tryz.prog Tryz.f5 [] false w args∧laidMetH Tryz.prog Rows.eciesBackRow.laid w)∧sizedMet enc Tryz.prog Tryz.f5 (OpenSpec.ofChange Rows.eciesBackSpec) false w args)
   (Rows.eciesBackSpec.post enc Tryz.prog Tryz.f5 false true false false):=by
 refine returnsInHanded_of_change_and (C:=Tryz.checked) (X:=fun w _=>laidMetH Tryz.prog Rows.eciesBackRow.laid w) (fun _ _ _ hh h=>h.of_heap hh) own_eciesBack started (by kernel_rfl) Tryz.func5
  (ChangeSpec.witness_shaped (enc:=enc) (C:=Tryz.checked) (os:=os) (X:=fun w _=>laidMetH Tryz.prog Rows.eciesBackRow.laid w) false (World.doorLaid Tryz.prog 400 os) #[.agg #[.int .u64 0,.int .u64 0,.int .u64 0,.int .u64 0,.int .u64 0,.int .u64 0],.agg #[.int .u64 0,.int .u64 0,.int .u64 0,.int .u64 0,.int .u64 0,.int .u64 0],.agg #[.int .u8 0,.int .u8 0,.int .u8 0,.int .u8 0,.int .u8 0,.int .u8 0,.int .u8 0,.int .u8 0,.int .u8 0,.int .u8 0,.int .u8 0,.int .u8 0,.int .u8 0,.int .u8 0,.int .u8 0,.int .u8 0,.int .u8 0,.int .u8 0,.int .u8 0,.int .u8 0,.int .u8 0,.int .u8 0,.int .u8 0,.int .u8 0,.int .u8 0,.int .u8 0,.int .u8 0,.int .u8 0,.int .u8 0,.int .u8 0,.int .u8 0,.int .u8 0],.int .i64 0,.int .u8 0] 8 rfl (World.shaped_of_RefB (by kernel_rfl) (by kernel_rfl)) (by kernel_rfl) (by kernel_rfl) (by kernel_rfl) (door_eciesBack os _)) ?_
 intro W base args ds gs before hval0 hW _ _ hL _
 have hval:∀ (j:Nat) t v,Tryz.f5.params[j]?=some t→args[j]?=some v→Value.okWide Tryz.prog W .any base t v:=hval0
 have hW':=hW
 obtain ⟨p,q,hA0,hV,rfl,_,_⟩:=hW
 have hA:DataW.TrodAll enc Tryz.prog W 0 (fun _=>true) true Tryz.f5.params.toList args.toList ds p:=hA0
 rw [Tryz.params5] at hA hval
 obtain ⟨v0,vs0,d0,ds0,p0,q0,hargs,rfl,rfl,h0,hr0⟩:=trodAll_cons hA
 obtain ⟨v1,vs1,d1,ds1,p1,q1,rfl,rfl,rfl,h1,hr1⟩:=trodAll_cons hr0
 obtain ⟨v2,vs2,d2,ds2,p2,q2,rfl,rfl,rfl,h2,hr2⟩:=trodAll_cons hr1
 obtain ⟨v3,vs3,d3,ds3,p3,q3,rfl,rfl,rfl,h3,hr3⟩:=trodAll_cons hr2
 obtain ⟨v4,vs4,d4,ds4,p4,q4,rfl,rfl,rfl,h4,hr4⟩:=trodAll_cons hr3
 obtain ⟨rfl,rfl,rfl⟩:=trodAll_nil hr4
 obtain rfl:args=#[v0,v1,v2,v3,v4]:=by cases args;simp_all
 obtain ⟨rfl,rfl⟩:=trodVars_none hV
 have hT:=tabs_eciesBack (laidX_eciesBack hL)
 have G:GlsX W:=hT
 obtain ⟨cs0,rfl,_,_⟩:∃ cs,v0=.agg cs∧cs.size=Tryz.prog.cellsOf 24∧Row.okWide Tryz.prog W .any base 24 cs:=by
  have:=hval 0 24 v0 rfl rfl
  simpa [Value.okWide,Tryz.underlying24] using this
 obtain ⟨A0,l0,rfl,rfl,rfl,f0⟩:=open_arr Tryz.underlying24 cells_u384 Tryz.underlying22 cells_u64 h0
 obtain ⟨x0,x1,x2,x3,x4,x5,rfl⟩:=six l0
 obtain ⟨cs1,rfl,_,_⟩:∃ cs,v1=.agg cs∧cs.size=Tryz.prog.cellsOf 24∧Row.okWide Tryz.prog W .any base 24 cs:=by
  have:=hval 1 24 v1 rfl rfl
  simpa [Value.okWide,Tryz.underlying24] using this
 obtain ⟨A1,l1,rfl,rfl,rfl,f1⟩:=open_arr Tryz.underlying24 cells_u384 Tryz.underlying22 cells_u64 h1
 obtain ⟨y0,y1,y2,y3,y4,y5,rfl⟩:=six l1
 obtain ⟨cs2,rfl,_,_⟩:∃ cs,v2=.agg cs∧cs.size=Tryz.prog.cellsOf 48∧Row.okWide Tryz.prog W .any base 48 cs:=by
  have:=hval 2 48 v2 rfl rfl
  simpa [Value.okWide,Tryz.underlying48] using this
 have k2:=h2
 have lt2:∀ x∈p2,x.block < W.heap.size:=by obtain ⟨m,hm⟩:=k2;exact DataW.trod_lt m _ _ _ hm
 obtain ⟨S2,l2,e2,_,_,hbyt2⟩:=open_arrb Tryz.underlying48 cells48_eciesBack Tryz.underlying5 cellb_eciesBack h2
 subst e2
 obtain ⟨i3,rfl,rfl,rfl,w_i3⟩:=open_int Tryz.underlying3 (hval 3 3 v3 rfl rfl) h3
 have f3:=wf_i64.1 w_i3
 obtain ⟨i4,rfl,rfl,rfl,w_i4⟩:=open_int Tryz.underlying5 (hval 4 5 v4 rfl rfl) h4
 have f4:=wf_byte.1 w_i4
 clear hA0 hval0 hval hargs
 refine (law_eciesBack G (U6.mk f0) (U6.mk f1) l2 hbyt2 f3 f4).mono fun e W' ⟨he,bel⟩=>?_
 subst he
 exact ⟨_,rfl,_,_,_,[],_,[],hW',trodAll_mk1 (shut_bool Tryz.underlying4 _),(trodAll_cons_mk (shut_six Tryz.underlying24 cells_u384 Tryz.underlying22 cells_u64 x0 x1 x2 x3 x4 x5 f0) (trodAll_cons_mk (shut_six Tryz.underlying24 cells_u384 Tryz.underlying22 cells_u64 y0 y1 y2 y3 y4 y5 f1) (trodAll_cons_mk (Below.trod laid_eciesBack (by kernel_rfl) (of_decide_eq_true (by kernel_rfl)) k2 bel lt2) (trodAll_cons_mk (shut_int Tryz.underlying3 w_i3) (trodAll_cons_mk (shut_int Tryz.underlying5 w_i4) trodAll_mk0))))),rfl,bel.frame _,fun h=>by cases h⟩
theorem eciesBack_said:Rows.EciesBackSaid :=
 OpenClaim.holds_of_wide 5 Tryz.f5 rfl rfl rfl rfl rfl rfl rfl ⟨rfl,rfl,rfl,rfl,rfl⟩ rfl rfl rfl rfl rfl (by kernel_rfl) Tryz.func5 (by kernel_rfl)
  (of_decide_eq_true (by kernel_rfl)) (by unfold Func.isWrapper;first|(rw [if_pos (by decide +kernel)];kernel_rfl)|(rw [if_neg (by decide +kernel)];exact ⟨rfl,rfl⟩))
  (fun os started H enc _=>lifted_eciesBack os started H enc)
theorem plain_eciesBack (f : FuncId) (fn : Func) (hf : Tryz.pinned.checked.prog.funcNamed "escutcheon/escutcheonlaw15.EciesBack" = some f) (hfn : Tryz.pinned.checked.prog.funcs[f]? = some fn) :
  true=Tryz.pinned.checked.prog.looks []∧∀ (j:Nat) t,fn.params[j]?=some t→Tryz.pinned.checked.prog.wantsStandIn t=false:=by
 obtain rfl : f = 5 := Option.some.inj ((show Tryz.prog.funcNamed "escutcheon/escutcheonlaw15.EciesBack" = some 5 by kernel_rfl).symm.trans hf) |>.symm
 obtain rfl:fn=Tryz.f5:=(Option.some.inj (Tryz.func5.symm.trans hfn)).symm
 refine ⟨by kernel_rfl,fun j t ht=>?_⟩
 rw [Tryz.params5] at ht
 have hm:t∈[24,24,48,3,5]:=by simpa using Array.mem_of_getElem? ht
 have hall:([24,24,48,3,5].all fun u=>!Tryz.prog.wantsStandIn u)=true:=by kernel_rfl
 exact (show Tryz.prog.wantsStandIn t=false by simpa using List.all_eq_true.1 hall t hm)
theorem eciesBack_holds:Rows.EciesBackCardSaid :=
 Claim7.holds_tied_plain_at .later [] _ _ _ _ eciesBack_said (fun _ h=>by cases h) (by kernel_rfl) (fun _ h=>by cases h) eciesBack_row_tie rfl ⟨rfl,rfl⟩ (by kernel_rfl) rfl plain_eciesBack (by kernel_rfl)
#print axioms eciesBack_holds
end Go.Proofs.YtlkljfnenonfgaaGreatDoor
