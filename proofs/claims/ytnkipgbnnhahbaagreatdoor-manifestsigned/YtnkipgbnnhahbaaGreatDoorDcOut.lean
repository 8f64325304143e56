/- The program's size. What is amiss with an element that is to be written. Names and their elements. Errors of Parse as they lie. What the program's Size and Write answer. -/
import Derived.Test.YtnkipgbnnhahbaaGreatDoorDrDep
import Derived.Test.YtnkipgbnnhahbaaGreatDoorDcLen
import Derived.Test.YtnkipgbnnhahbaaGreatDoorDrPar
import Derived.Test.YtnkipgbnnhahbaaGreatDoorCtPl
import Derived.Test.YtnkipgbnnhahbaaGreatDoorDcSound
import Derived.Test.YtnkipgbnnhahbaaGreatDoorDcWrite
import Derived.Test.YtnkipgbnnhahbaaGreatDoorRows
import Derived.Deep.OwnRows
import Derived.Deep.AppendLies
import Derived.Great.BuildSlice
import Derived.Deep.WholeRow
import Derived.Deep.RegionHeld3
import Derived.Deep.DeepCutAuto
import Derived.Deep.DeepFit
namespace Go.Proofs.YtnkipgbnnhahbaaGreatDoor
open Go.RowKit
set_option linter.unusedSimpArgs false in
set_option maxRecDepth 100000 in
set_option maxHeartbeats 4000000 in
theorem c12_size (n:Nat):∀ (T:Tl) (w:World) (cs:List Value),szT T≤n→depT T≤16→SmT T→TlAt w T cs →
  Calls Tryz.prog 67 #[.agg cs.toArray] w fun e w'=>∃ z:Nat,e=.returned (.int .i64 (z:Int))∧SizeOk T z∧Below w.heap.size w w':=by
 induction n with
 | zero=>intro T w cs hz;have:=szT_pos T;omega
 | succ n IH =>
  intro T w cs hz hdp hsm h
  obtain ⟨c,t,m,b,ks⟩:=T
  have h0:=h
  rw [TlAt] at h
  obtain ⟨bv,ao,cap,rfl,hbv,hk1,hk2,hk3⟩:=h
  have HK:Hid (0 < ks.length→∃ g o,ao=some ⟨g,o,none⟩∧KidsAt w ks g o):=hk3
  clear hk3 h0
  unfold maxLen at hk2
  obtain ⟨bao,bcap,rfl,hb1,hb2,hb3⟩:=hbv
  clear hb3
  unfold maxLen at hb1
  have B0:=Blk.new w [.int .i64 c,.int .i64 t,.bool m,.slice bao b.length bcap,.slice ao ks.length cap] 41 w.heap.size rfl
  have bel:Below w.heap.size w (w.alloc (.cells #[.int .i64 c,.int .i64 t,.bool m,.slice bao b.length bcap,.slice ao ks.length cap] 41)):=(Below.refl _ _).alloc (Nat.le_refl _) _
  rw [szT] at hz
  rw [SmT] at hsm
  rw [depT] at hdp
  have hbl:=hsm.1
  have HSm:Hid (SmL ks):=hsm.2
  clear hsm
  have e3:=B0.cell 3 _ rfl
  have e4:=B0.cell 4 _ rfl
  have lt0:=B0.lt
  go_enter Tryz.func67,Tryz.ntmps67
  go_upto_region 1 with fail
  generalize w.alloc (Obj.cells #[.int .i64 c,.int .i64 t,.bool m,.slice bao b.length bcap,.slice ao ks.length cap] 41)=W at *
  go_wp2_with fail
  go_loopw [3,12] (fun xv iv wx=>∃ i x:Nat,i≤ks.length∧iv=.int .i64 i∧xv=.int .i64 (x:Int)∧Hid (x=b.length + (bytesL (ks.take i)).length)∧x≤140737488355328∧Blk wx w.heap.size [.int .i64 c,.int .i64 t,.bool m,.slice bao b.length bcap,.slice ao ks.length cap]∧Below w.heap.size w wx) (fun _ iv _=>ks.length - (intOf iv).toNat)
  case atStart=>exact ⟨0,b.length,by omega,rfl,rfl,by show _=_;rw [List.take_zero,bytesL];simp,hbl,B0,bel⟩
  case round =>
   clear B0 bel lt0 e3 e4
   obtain ⟨i,x,hi,rfl,rfl,HX,hx1,B0,bel⟩:=hrel
   by_cases hil:i < ks.length
   ·have g1:(i:Int) < (ks.length:Int):=by omega
    have g2:(0:Int)≤(i:Int):=by omega
    have gi:IntKind.i64.wrap ((i:Int) + 1)=(i:Int) + 1:=by rw [IntKind.wrap_i64];omega
    obtain ⟨k,hkk⟩:=get_kid hil
    obtain ⟨g,o,hao,hks⟩:=HK.out (by omega)
    obtain ⟨cs,hcs,hkt⟩:=hks.get hkk
    have hsz:=szL_get hkk
    replace hcs:=hcs.later bel
    replace hkt:=hkt.later bel
    have hld:=tlv_load hcs hkt.five
    have hld2:=hld
    rw [Nat.mul_comm 5 i] at hld2
    subst hao
    have hz:=zero_tlv.out
    have HS5:Hid (cs.toArray.size=5):=by show _=_;rw [List.size_toArray];exact hkt.five
    have HO5:Hid (OneC cs):=hkt.ones
    have HL5:Hid (cs.length=5):=hkt.five
    have KB:=Blk.new wr cs 41 wr.heap.size rfl
    replace B0:=B0.alloc (.cells cs.toArray 41)
    replace bel:=below_alloc (o:=.cells cs.toArray 41) bel
    replace hkt:=hkt.later ((Below.refl _ _).alloc (Nat.le_refl _) (.cells cs.toArray 41))
    go_upto_region 5 with (first|(refine wpList_load_run (by rfl) (by rfl) (by rfl) hld ?_)|(refine wpList_load_run (by rfl) (by rfl) (by rfl) hld2 ?_)|(refine wpList_store_row rfl 41 _ _ rfl wr.heap.size cs.toArray rfl rfl 41 _ (heap_alloc_last _ _) (by rw [size_tlv,HS5.out]) (by rw [HS5.out];rfl) HO5.out ?_;rw [World.setRow_alloc_new])|fail)
    clear hz hld hld2 hcs
    obtain ⟨g1,hg1⟩:∃ g1,g1=wr.heap.size:=⟨_,rfl⟩
    rw [← hg1] at KB
    generalize wr.alloc (.cells cs.toArray 41)=W2 at *
    rw [← hg1]
    clear hg1
    have lk:=KB.lt
    have HKK:Hid (ks[i]?=some k):=hkk
    have hdk:=depL_get hkk
    have hsk:=HSm.out.get hkk
    clear hkk
    go_wp2_with (first|(refine wpList_load_run (by rfl) (by rfl) (by rfl) (KB.load Tryz.underlying41 rfl size_tlv HL5.out) ?_)|fail)
    refine (IH k _ _ (by omega) (by omega) hsk hkt).mono ?_
    rintro e w2 ⟨y,rfl,hy,hb2⟩
    replace B0:=B0.later hb2
    replace bel:=below_stepD bel hb2
    clear hb2 hkt lk KB HS5 HO5 HL5
    have hyb:=hy.2.2
    have HY:Hid _:=hy
    clear hy hsk
    obtain ⟨z,hz9⟩:∃ z,x + y=z:=⟨_,rfl⟩
    have g3:IntKind.i64.wrap ((x:Int) + (y:Int))=(z:Int):=by rw [IntKind.wrap_i64];omega
    by_cases hq:1048576 < z
    ·have g4:(1048576:Int) < (z:Int):=by omega
     have HQ:Hid (SizeOk (.mk c t m b ks) z):=by rw [← hz9];exact SizeOk.over HKK.out HX.out hx1 HY.out (by omega)
     go_wp2_with fail
     go_ret
     exact ⟨z,rfl,HQ.out,bel⟩
    ·have g4:¬ (1048576:Int) < (z:Int):=by omega
     have HN:Hid (z=b.length + (bytesL (ks.take (i + 1))).length):=by rw [← hz9];exact SizeOk.next HKK.out HX.out HY.out (by omega)
     go_wp2_with fail
     go_roundw
     case rel=>exact ⟨i + 1,z,by omega,by go_num,rfl,HN,by omega,B0,bel⟩
     case measure=>simp [intOf];omega
   ·have HI:Hid (i=ks.length):=by show i=ks.length;omega
    have g1:¬ (i:Int) < (ks.length:Int):=by omega
    have HE:Hid (b.length + (bytesL ks).length=x):=by show _=_;rw [HX.out,HI.out,List.take_of_length_le (Nat.le_refl _)]
    go_wp2_with fail
    refine (c12_longSize (n:=x) (by omega)).mono ?_
    rintro e w2 ⟨l,rfl,hl,rfl⟩
    have hl8:=hl.1
    have HQ:Hid (SizeOk (.mk c t m b ks) (2 + l + x)):=SizeOk.end HE.out hl hx1
    clear hl
    have w1:IntKind.i64.wrap (2 + (l:Int))=2 + (l:Int):=by rw [IntKind.wrap_i64];omega
    have w2:IntKind.i64.wrap (2 + (l:Int) + (x:Int))=((2 + l + x:Nat):Int):=by rw [IntKind.wrap_i64];omega
    go_wp2_with fail
    go_ret
    exact ⟨_,rfl,HQ.out,bel⟩
/-- what is amiss with an element that is to be written; none: 0 -/
noncomputable def wrN (T:Tl):Nat:=if fineT T=true then (if 16 < depT T then 9 else if 1048576 < (bytesT T).length then 2 else 0) else 1
/-- kinds of parts -/
def kindN (k:Int):Bool:=decide (k=3) || decide (k=6) || decide (k=10) || decide (k=11)
/-- may it be a part? -/
def partN (p:Pn):Bool:=kindN p.1 && (match textP p.2 with|.ok _=>true|.error _=>false)
/-- is it a name? -/
def mayN (n:List Pn):Bool:=decide (n.length≤8) && n.all partN
/-- a part's element, a name's -/
def setN (p:Pn):Tl:=.mk 0 17 true [] [.mk 0 16 true [] [.mk 0 6 false [85,4,p.1] [],.mk 0 12 false p.2 []]]
/-- an element's part -/
def ofSet:Tl→Option Pn
 | .mk c t m _ [.mk c1 t1 m1 _ [.mk c2 t2 m2 [x,y,k] _,.mk c3 t3 m3 b _]]=>if c=0∧t=17∧m=true∧c1=0∧t1=16∧m1=true∧c2=0∧t2=6∧m2=false∧x=85∧y=4∧c3=0∧t3=12∧m3=false∧partN (k,b)=true then some (k,b) else none
 | _=>none
/-- an element's name, or the error's number -/
def readN:Tl→Except Nat (List Pn)
 | .mk c t m _ ks=>if c=0∧t=16∧m=true then (match ks.mapM ofSet with|none=>.error 7|some n=>if 8 < n.length then .error 2 else .ok n) else .error 7
/-- what Element tells: the kids lie in a row of its own, which may be written -/
def ElemR (w:World) (n:List Pn) (e:Ending) (w':World):Prop :=
 (mayN n=false→e=.returned (.tuple #[.agg #[.int .i64 0,.int .i64 0,.bool false,.slice none 0 0,.slice none 0 0],.iface 46 (.int .i64 1)])∧Below w.heap.size w w') ∧
 (mayN n=true→∃ (kv:Value) (xs:List Value),e=.returned (.tuple #[.agg #[.int .i64 0,.int .i64 16,.bool true,.slice none 0 0,kv],.nilIface])∧w'.ownsRow w.heap.size 41 5 kv n.length xs∧(∀ (i:Nat) (t:Tl),(n.map setN)[i]?=some t→Dep (fun b=>w.heap.size≤b∧kv.ownBlock≠some b) w' t ((xs.drop (5 * i)).take 5))∧Below w.heap.size w w')
/-- a name in a row of its own -/
def NmNew (w w':World) (v:Value) (n:List Pn):Prop:=∀ w2,Agr (fun b=>w.heap.size≤b) w' w2→NmAt w2 v n
/-- an error of Parse as it lies: itself, or as a Spot -/
def ErAt (w:World) (c p:Nat) (er:Value):Prop:=(c=2∧er=.iface 46 (.int .i64 2))∨(¬ c=2∧∃ g,er=.iface 98 (.pointer (some ⟨g,0,none⟩))∧Blk w g [.int .i64 (p:Int),.iface 46 (.int .i64 (c:Int))])
/-- a Spot's block is new -/
def ErFresh (n:Nat) (er:Value):Prop:=∀ g,er=.iface 98 (.pointer (some ⟨g,0,none⟩))→n≤g
theorem ErAt.later {w w':World} {c p:Nat} {er:Value} (h:ErAt w c p er) (hb:Below w.heap.size w w'):ErAt w' c p er:=by
 rcases h with h|⟨h1,g,h2,h3⟩
 ·exact .inl h
 ·exact .inr ⟨h1,g,h2,h3.later hb⟩
theorem ErAt.long {w:World} {p:Nat} {er:Value} (h:ErAt w 2 p er):er=.iface 46 (.int .i64 2):=by
 rcases h with ⟨_,h⟩|⟨h,_⟩
 ·exact h
 ·exact absurd rfl h
/-- bytes in a block that was not there before -/
def FreshD (w w':World) (v:Value) (X:List Int):Prop:=∃ g o cap cur,v=.slice (some ⟨g,o,none⟩) X.length cap∧X.length≤cap∧cap≤maxLen∧w.heap.size≤g∧Blk w' g cur∧∀ j,j < X.length→cur[o + j]?=some (.int .u8 (X.getD j 0))
theorem FreshD.bs {w w':World} {v:Value} {X:List Int} (h:FreshD w w' v X):Bs w' v X:=by
 obtain ⟨g,o,cap,cur,rfl,h1,h2,h3,h4,h5⟩:=h
 exact ⟨_,cap,rfl,h2,h1,fun _=>⟨g,o,rfl,h4.lt,fun j hj=>h4.cell _ _ (h5 j hj)⟩⟩
/-- what Write tells -/
def WrAt (w w':World) (T:Tl) (v er:Value):Prop:=(wrN T=0→FreshD w w' v (bytesT T)∧er=.nilIface)∧(¬ wrN T=0→Bs w' v []∧er=.iface 46 (.int .i64 ((wrN T:Nat):Int)))
/-- an element without anything in it -/
def nilT:Tl:=.mk 0 0 false [] []
theorem nilT_at (w:World):TlAt w nilT [.int .i64 0,.int .i64 0,.bool false,.slice none 0 0,.slice none 0 0]:=by
 unfold nilT
 rw [TlAt]
 exact ⟨.slice none 0 0,none,0,rfl,⟨none,0,rfl,by decide,by decide,fun h=>by simp at h⟩,by simp,by decide,fun h=>by simp at h⟩
set_option linter.unusedSimpArgs false in
set_option maxRecDepth 100000 in
set_option maxHeartbeats 2000000 in
theorem c12_Size {T : Tl} {cs : List Value} {w : World} (hs : SmT T) (h : TlAt w T cs) :
    Calls Tryz.prog 37 #[.agg cs.toArray] w fun e w' => ∃ (n : Nat) (er : Value), e = .returned (.tuple #[.int .i64 (n : Int), er]) ∧ (wrN T = 0 → n = (bytesT T).length ∧ er = .nilIface) ∧ (¬ wrN T = 0 → n = 0 ∧ er = .iface 46 (.int .i64 (wrN T : Int))) ∧ Below w.heap.size w w' := by
  obtain ⟨c, t, m, b, ks⟩ := T
  have h0 := h
  rw [TlAt] at h
  obtain ⟨bv, ao, cap, hcs, hbv, hk1, hk2, hk3⟩ := h
  obtain ⟨bao, bcap, rfl, hb1, hb2, hb3⟩ := hbv
  subst hcs
  clear hk1 hk2 hk3 hb1 hb2 hb3
  have B0 := Blk.new w [.int .i64 c, .int .i64 t, .bool m, .slice bao b.length bcap, .slice ao ks.length cap] 41 w.heap.size rfl
  have bel : Below w.heap.size w (w.alloc (.cells #[.int .i64 c, .int .i64 t, .bool m, .slice bao b.length bcap, .slice ao ks.length cap] 41)) := (Below.refl _ _).alloc (Nat.le_refl _) _
  have H0 : Hid (TlAt (w.alloc (.cells #[.int .i64 c, .int .i64 t, .bool m, .slice bao b.length bcap, .slice ao ks.length cap] 41)) (.mk c t m b ks) [.int .i64 c, .int .i64 t, .bool m, .slice bao b.length bcap, .slice ao ks.length cap]) := h0.later bel
  clear h0
  obtain ⟨T, hT⟩ : ∃ T, T = Tl.mk c t m b ks := ⟨_, rfl⟩
  rw [← hT] at H0 hs ⊢
  clear hT
  go_enter Tryz.func37, Tryz.ntmps37
  go_upto_region 1 with fail
  generalize w.alloc (Obj.cells #[.int .i64 c, .int .i64 t, .bool m, .slice bao b.length bcap, .slice ao ks.length cap] 41) = W at *
  have hld := B0.load (P := Tryz.prog) Tryz.underlying41 rfl size_tlv rfl
  have lt0 := B0.lt
  go_wp2_with (first | (refine wpList_load_run (by rfl) (by rfl) (by rfl) hld ?_) | fail)
  refine (c12_sound (szT T) T _ _ (Nat.le_refl _) H0.out).mono ?_
  rintro e w2 ⟨rfl, hb9⟩
  replace B0 := B0.later hb9
  replace H0 : Hid (TlAt w2 T _) := H0.out.later hb9
  replace bel := below_stepD bel hb9
  clear hb9 hld lt0
  by_cases hf : fineT T = true
  rotate_left
  · replace hf : fineT T = false := by cases hq : fineT T with
      | true => exact absurd hq hf
      | false => rfl
    have HW : Hid (wrN T = 1) := by show _ = _; unfold wrN; rw [hf]; rfl
    rw [hf]
    go_wp2_with fail
    refine bodyPost_ret (results_tmp2 rfl _ _ _) rfl ?_
    exact ⟨0, _, rfl, fun h => absurd (HW.out.symm.trans h) (by decide), fun _ => ⟨rfl, by rw [HW.out]; rfl⟩, bel⟩
  have HF : Hid (fineT T = true) := hf
  rw [hf]
  clear hf
  have hld := B0.load (P := Tryz.prog) Tryz.underlying41 rfl size_tlv rfl
  have lt0 := B0.lt
  go_wp2_with (first | (refine wpList_load_run (by rfl) (by rfl) (by rfl) hld ?_) | fail)
  refine (c12_deep (szT T) T 0 _ _ (Nat.le_refl _) (by omega) H0.out).mono ?_
  rintro e w3 ⟨rfl, hb9⟩
  replace B0 := B0.later hb9
  replace H0 : Hid (TlAt w3 T _) := H0.out.later hb9
  replace bel := below_stepD bel hb9
  clear hb9 hld lt0
  rw [Nat.add_zero]
  by_cases hd1 : 16 < depT T
  · rw [decide_eq_true hd1]
    have HW : Hid (wrN T = 9) := by show _ = _; unfold wrN; rw [if_pos HF.out, if_pos hd1]
    go_wp2_with fail
    refine bodyPost_ret (results_tmp2 rfl _ _ _) rfl ?_
    exact ⟨0, _, rfl, fun h => absurd (HW.out.symm.trans h) (by decide), fun _ => ⟨rfl, by rw [HW.out]; rfl⟩, bel⟩
  rw [decide_eq_false hd1]
  have hld := B0.load (P := Tryz.prog) Tryz.underlying41 rfl size_tlv rfl
  have lt0 := B0.lt
  go_wp2_with (first | (refine wpList_load_run (by rfl) (by rfl) (by rfl) hld ?_) | fail)
  refine (c12_size (szT T) T _ _ (Nat.le_refl _) (by omega) hs H0.out).mono ?_
  rintro e w4 ⟨z, rfl, hz, hb9⟩
  replace B0 := B0.later hb9
  replace H0 : Hid (TlAt w4 T _) := H0.out.later hb9
  replace bel := below_stepD bel hb9
  clear hb9 hld lt0
  by_cases hn1 : 1048576 < z
  · have g2 : (1048576 : Int) < (z : Int) := by omega
    have HW : Hid (wrN T = 2) := by
      show _ = _
      unfold wrN
      rw [if_pos HF.out, if_neg hd1, if_pos]
      have := hz.1
      omega
    clear hz
    go_wp2_with fail
    refine bodyPost_ret (results_tmp2 rfl _ _ _) rfl ?_
    exact ⟨0, _, rfl, fun h => absurd (HW.out.symm.trans h) (by decide), fun _ => ⟨rfl, by rw [HW.out]; rfl⟩, bel⟩
  have g2 : ¬ (1048576 : Int) < (z : Int) := by omega
  have HZ : Hid ((bytesT T).length ≤ 1048576 ∧ z = (bytesT T).length) := by
    have h1 := hz.1
    have h2 := hz.2.1
    by_cases q : (bytesT T).length ≤ 1048576
    · exact ⟨q, h1 q⟩
    · have := h2 (by omega)
      omega
  have HW : Hid (wrN T = 0) := by show _ = _; unfold wrN; rw [if_pos HF.out, if_neg hd1, if_neg (by have := HZ.out.1; omega)]
  clear hz
  go_wp2_with fail
  refine bodyPost_ret (results_tmp2 rfl _ _ _) rfl ?_
  exact ⟨z, _, rfl, fun _ => ⟨HZ.out.2, rfl⟩, fun h => absurd HW.out h, bel⟩
theorem freshD_own {w w':World} {v:Value} {X:List Int} (h:w'.ownsRow w.heap.size 5 1 v X.length (u8s X)) (h0:0 < X.length):FreshD w w' v X:=by
 obtain ⟨hl,h⟩:=h
 rcases h with ⟨_,h2⟩|⟨g,cap,cur,rfl,h2,h3,h4,h5,h6,h7⟩
 ·omega
 ·refine ⟨g,0,cap,cur.toList,rfl,h4,h5,h2,⟨_,by simpa using h3⟩,fun j hj=>?_⟩
  have e:=congrArg (·[j]?) h7
  simp only [Nat.mul_one,List.getElem?_take] at e
  rw [if_pos (by omega),u8s_get X j hj] at e
  rw [Nat.zero_add]
  exact e
set_option linter.unusedSimpArgs false in
set_option maxRecDepth 100000 in
set_option maxHeartbeats 2000000 in
theorem c12_Write {T:Tl} {cs:List Value} {w:World} (hs:SmT T) (h:TlAt w T cs) :
  Calls Tryz.prog 16 #[.agg cs.toArray] w fun e w'=>∃ v' er:Value,e=.returned (.tuple #[v',er])∧WrAt w w' T v' er∧Below w.heap.size w w':=by
 obtain ⟨c,t,m,b,ks⟩:=T
 have h0:=h
 rw [TlAt] at h
 obtain ⟨bv,ao,cap,hcs,hbv,hk1,hk2,hk3⟩:=h
 obtain ⟨bao,bcap,rfl,hb1,hb2,hb3⟩:=hbv
 subst hcs
 clear hk1 hk2 hk3 hb1 hb2 hb3
 have B0:=Blk.new w [.int .i64 c,.int .i64 t,.bool m,.slice bao b.length bcap,.slice ao ks.length cap] 41 w.heap.size rfl
 have bel:Below w.heap.size w (w.alloc (.cells #[.int .i64 c,.int .i64 t,.bool m,.slice bao b.length bcap,.slice ao ks.length cap] 41)):=(Below.refl _ _).alloc (Nat.le_refl _) _
 have H0:Hid (TlAt (w.alloc (.cells #[.int .i64 c,.int .i64 t,.bool m,.slice bao b.length bcap,.slice ao ks.length cap] 41)) (.mk c t m b ks) [.int .i64 c,.int .i64 t,.bool m,.slice bao b.length bcap,.slice ao ks.length cap]):=h0.later bel
 clear h0
 obtain ⟨T,hT⟩:∃ T,T=Tl.mk c t m b ks:=⟨_,rfl⟩
 rw [← hT] at H0 hs ⊢
 clear hT
 go_enter Tryz.func16,Tryz.ntmps16
 go_upto_region 1 with fail
 generalize w.alloc (Obj.cells #[.int .i64 c,.int .i64 t,.bool m,.slice bao b.length bcap,.slice ao ks.length cap] 41)=W at *
 have hld:=B0.load (P:=Tryz.prog) Tryz.underlying41 rfl size_tlv rfl
 have lt0:=B0.lt
 go_wp2_with (first|(refine wpList_load_run (by rfl) (by rfl) (by rfl) hld ?_)|fail)
 refine (c12_Size hs H0.out).mono ?_
 rintro e w2 ⟨n,er,rfl,h1,h2,hb9⟩
 replace B0:=B0.later hb9
 replace H0:Hid (TlAt w2 T _):=H0.out.later hb9
 replace bel:=below_stepD bel hb9
 clear hb9 hld lt0
 by_cases hq:wrN T=0
 rotate_left
 ·obtain ⟨rfl,rfl⟩:=h2 hq
  clear h1 h2
  have HQ:Hid (¬ wrN T=0):=hq
  obtain ⟨k,hk⟩:∃ k,(wrN T:Int)=k:=⟨_,rfl⟩
  have HK:Hid ((wrN T:Int)=k):=hk
  rw [hk]
  clear hk hq
  go_wp2_with fail
  refine bodyPost_ret (results_tmp2 rfl _ _ _) rfl ?_
  exact ⟨_,_,rfl,⟨fun h=>absurd h HQ.out,fun _=>⟨⟨none,0,rfl,by decide,by decide,fun h=>by simp at h⟩,by rw [HK.out];rfl⟩⟩,bel⟩
 obtain ⟨rfl,rfl⟩:=h1 hq
 clear h1 h2
 have HQ:Hid (wrN T=0):=hq
 have HF:Hid (fineT T=true∧(bytesT T).length≤1048576):=by
  unfold wrN at hq
  split at hq
  ·split at hq
   ·cases hq
   ·split at hq
    ·cases hq
    ·exact ⟨by assumption,by omega⟩
  ·cases hq
 clear hq
 have hld:=B0.load (P:=Tryz.prog) Tryz.underlying41 rfl size_tlv rfl
 have lt0:=B0.lt
 go_wp2_with (first|(refine wpList_load_run (by rfl) (by rfl) (by rfl) hld ?_)|fail)
 have hsz:=bel.size
 refine (c12_written (szT T) T _ _ (Nat.le_refl _) HF.out.1 HF.out.2 H0.out).mono ?_
 rintro e w3 ⟨v3,rfl,own,hb9⟩
 replace B0:=B0.later hb9
 replace H0:Hid (TlAt w3 T _):=H0.out.later hb9
 replace bel:=below_stepD bel hb9
 clear hb9 hld lt0
 have HO:Hid _:=own_lowerD own hsz
 clear own
 go_wp2_with fail
 refine bodyPost_ret (results_tmp2 rfl _ _ _) rfl ?_
 exact ⟨v3,_,rfl,⟨fun _=>⟨freshD_own HO.out (by have:=bytesT_two T;omega),rfl⟩,fun h=>absurd HQ.out h⟩,bel⟩
theorem con_Write {T:Tl} {cs:List Value} {w:World} (h:TlAt w T cs) (_:WfT T) (_:szT T≤1099511627776) (hl:(bytesT T).length≤1099511627776) :
  Calls Tryz.prog 16 #[.agg cs.toArray] w fun e w'=>∃ v' er:Value,e=.returned (.tuple #[v',er])∧WrAt w w' T v' er∧Below w.heap.size w w':=c12_Write (smT_of_len hl) h
end Go.Proofs.YtnkipgbnnhahbaaGreatDoor
