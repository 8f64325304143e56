/- Errors of Parse as they lie. What the program's Size and Write answer. -/
import Derived.Test.YtnkipgbnnhahbaaDrDep
import Derived.Test.YtnkipgbnnhahbaaClOpt
import Derived.Test.YtnkipgbnnhahbaaDcSound
import Derived.Test.YtnkipgbnnhahbaaDcSize
import Derived.Test.YtnkipgbnnhahbaaDcWrite
import Derived.Test.YtnkipgbnnhahbaaRows
import Derived.Deep.WholeRow
import Derived.Deep.RegionHeld3
import Derived.Deep.DeepCutAuto
import Derived.Deep.DeepFit
import Derived.Deep.OwnRows
import Derived.Deep.AppendLies
import Derived.Great.BuildSlice
namespace Go.Proofs.Ytnkipgbnnhahbaa
open Go.RowKit
/-- an error of Parse as it lies: itself, or as a Spot -/
def ErAt (w:World) (c p:Nat) (er:Value):Prop:=(c=2∧er=.iface 38 (.int .i64 2))∨(¬ c=2∧∃ g,er=.iface 77 (.pointer (some ⟨g,0,none⟩))∧Blk w g [.int .i64 (p:Int),.iface 38 (.int .i64 (c:Int))])
/-- a Spot's block is new -/
def ErFresh (n:Nat) (er:Value):Prop:=∀ g,er=.iface 77 (.pointer (some ⟨g,0,none⟩))→n≤g
theorem ErAt.later {w w':World} {c p:Nat} {er:Value} (h:ErAt w c p er) (hb:Below w.heap.size w w'):ErAt w' c p er:=by
 rcases h with h|⟨h1,g,h2,h3⟩
 ·exact .inl h
 ·exact .inr ⟨h1,g,h2,h3.later hb⟩
theorem ErAt.long {w:World} {p:Nat} {er:Value} (h:ErAt w 2 p er):er=.iface 38 (.int .i64 2):=by
 rcases h with ⟨_,h⟩|⟨h,_⟩
 ·exact h
 ·exact absurd rfl h
/-- bytes in a block that was not there before -/
def FreshD (w w':World) (v:Value) (X:List Int):Prop:=∃ g o cap cur,v=.slice (some ⟨g,o,none⟩) X.length cap∧X.length≤cap∧cap≤maxLen∧w.heap.size≤g∧Blk w' g cur∧∀ j,j < X.length→cur[o + j]?=some (.int .u8 (X.getD j 0))
theorem FreshD.bs {w w':World} {v:Value} {X:List Int} (h:FreshD w w' v X):Bs w' v X:=by
 obtain ⟨g,o,cap,cur,rfl,h1,h2,h3,h4,h5⟩:=h
 exact ⟨_,cap,rfl,h2,h1,fun _=>⟨g,o,rfl,h4.lt,fun j hj=>h4.cell _ _ (h5 j hj)⟩⟩
/-- what Write tells -/
def WrAt (w w':World) (T:Tl) (v er:Value):Prop:=(wrN T=0→FreshD w w' v (bytesT T)∧er=.nilIface)∧(¬ wrN T=0→Bs w' v []∧er=.iface 38 (.int .i64 ((wrN T:Nat):Int)))
/-- an element without anything in it -/
def nilT:Tl:=.mk 0 0 false [] []
theorem nilT_at (w:World):TlAt w nilT [.int .i64 0,.int .i64 0,.bool false,.slice none 0 0,.slice none 0 0]:=by
 unfold nilT
 rw [TlAt]
 exact ⟨.slice none 0 0,none,0,rfl,⟨none,0,rfl,by decide,by decide,fun h=>by simp at h⟩,by simp,by decide,fun h=>by simp at h⟩
set_option linter.unusedSimpArgs false in
set_option maxRecDepth 100000 in
set_option maxHeartbeats 2000000 in
theorem c12_Size {T : Tl} {cs : List Value} {w : World} (hs : SmT T) (h : TlAt w T cs) :
    Calls Try.prog 22 #[.agg cs.toArray] w fun e w' => ∃ (n : Nat) (er : Value), e = .returned (.tuple #[.int .i64 (n : Int), er]) ∧ (wrN T = 0 → n = (bytesT T).length ∧ er = .nilIface) ∧ (¬ wrN T = 0 → n = 0 ∧ er = .iface 38 (.int .i64 (wrN T : Int))) ∧ Below w.heap.size w w' := by
  obtain ⟨c, t, m, b, ks⟩ := T
  have h0 := h
  rw [TlAt] at h
  obtain ⟨bv, ao, cap, hcs, hbv, hk1, hk2, hk3⟩ := h
  obtain ⟨bao, bcap, rfl, hb1, hb2, hb3⟩ := hbv
  subst hcs
  clear hk1 hk2 hk3 hb1 hb2 hb3
  have B0 := Blk.new w [.int .i64 c, .int .i64 t, .bool m, .slice bao b.length bcap, .slice ao ks.length cap] 42 w.heap.size rfl
  have bel : Below w.heap.size w (w.alloc (.cells #[.int .i64 c, .int .i64 t, .bool m, .slice bao b.length bcap, .slice ao ks.length cap] 42)) := (Below.refl _ _).alloc (Nat.le_refl _) _
  have H0 : Hid (TlAt (w.alloc (.cells #[.int .i64 c, .int .i64 t, .bool m, .slice bao b.length bcap, .slice ao ks.length cap] 42)) (.mk c t m b ks) [.int .i64 c, .int .i64 t, .bool m, .slice bao b.length bcap, .slice ao ks.length cap]) := h0.later bel
  clear h0
  obtain ⟨T, hT⟩ : ∃ T, T = Tl.mk c t m b ks := ⟨_, rfl⟩
  rw [← hT] at H0 hs ⊢
  clear hT
  go_enter Try.func22, Try.ntmps22
  go_upto_region 1 with fail
  generalize w.alloc (Obj.cells #[.int .i64 c, .int .i64 t, .bool m, .slice bao b.length bcap, .slice ao ks.length cap] 42) = W at *
  have hld := B0.load (P := Try.prog) Try.underlying42 rfl size_tlv rfl
  have lt0 := B0.lt
  go_wp2_with (first | (refine wpList_load_run (by rfl) (by rfl) (by rfl) hld ?_) | fail)
  refine (c12_sound (szT T) T _ _ (Nat.le_refl _) H0.out).mono ?_
  rintro e w2 ⟨rfl, hb9⟩
  replace B0 := B0.later hb9
  replace H0 : Hid (TlAt w2 T _) := H0.out.later hb9
  replace bel := below_stepD bel hb9
  clear hb9 hld lt0
  by_cases hf : fineT T = true
  rotate_left
  · replace hf : fineT T = false := by cases hq : fineT T with
      | true => exact absurd hq hf
      | false => rfl
    have HW : Hid (wrN T = 1) := by show _ = _; unfold wrN; rw [hf]; rfl
    rw [hf]
    go_wp2_with fail
    refine bodyPost_ret (results_tmp2 rfl _ _ _) rfl ?_
    exact ⟨0, _, rfl, fun h => absurd (HW.out.symm.trans h) (by decide), fun _ => ⟨rfl, by rw [HW.out]; rfl⟩, bel⟩
  have HF : Hid (fineT T = true) := hf
  rw [hf]
  clear hf
  have hld := B0.load (P := Try.prog) Try.underlying42 rfl size_tlv rfl
  have lt0 := B0.lt
  go_wp2_with (first | (refine wpList_load_run (by rfl) (by rfl) (by rfl) hld ?_) | fail)
  refine (c12_deep (szT T) T 0 _ _ (Nat.le_refl _) (by omega) H0.out).mono ?_
  rintro e w3 ⟨rfl, hb9⟩
  replace B0 := B0.later hb9
  replace H0 : Hid (TlAt w3 T _) := H0.out.later hb9
  replace bel := below_stepD bel hb9
  clear hb9 hld lt0
  rw [Nat.add_zero]
  by_cases hd1 : 16 < depT T
  · rw [decide_eq_true hd1]
    have HW : Hid (wrN T = 9) := by show _ = _; unfold wrN; rw [if_pos HF.out, if_pos hd1]
    go_wp2_with fail
    refine bodyPost_ret (results_tmp2 rfl _ _ _) rfl ?_
    exact ⟨0, _, rfl, fun h => absurd (HW.out.symm.trans h) (by decide), fun _ => ⟨rfl, by rw [HW.out]; rfl⟩, bel⟩
  rw [decide_eq_false hd1]
  have hld := B0.load (P := Try.prog) Try.underlying42 rfl size_tlv rfl
  have lt0 := B0.lt
  go_wp2_with (first | (refine wpList_load_run (by rfl) (by rfl) (by rfl) hld ?_) | fail)
  refine (c12_size (szT T) T _ _ (Nat.le_refl _) (by omega) hs H0.out).mono ?_
  rintro e w4 ⟨z, rfl, hz, hb9⟩
  replace B0 := B0.later hb9
  replace H0 : Hid (TlAt w4 T _) := H0.out.later hb9
  replace bel := below_stepD bel hb9
  clear hb9 hld lt0
  by_cases hn1 : 1048576 < z
  · have g2 : (1048576 : Int) < (z : Int) := by omega
    have HW : Hid (wrN T = 2) := by
      show _ = _
      unfold wrN
      rw [if_pos HF.out, if_neg hd1, if_pos]
      have := hz.1
      omega
    clear hz
    go_wp2_with fail
    refine bodyPost_ret (results_tmp2 rfl _ _ _) rfl ?_
    exact ⟨0, _, rfl, fun h => absurd (HW.out.symm.trans h) (by decide), fun _ => ⟨rfl, by rw [HW.out]; rfl⟩, bel⟩
  have g2 : ¬ (1048576 : Int) < (z : Int) := by omega
  have HZ : Hid ((bytesT T).length ≤ 1048576 ∧ z = (bytesT T).length) := by
    have h1 := hz.1
    have h2 := hz.2.1
    by_cases q : (bytesT T).length ≤ 1048576
    · exact ⟨q, h1 q⟩
    · have := h2 (by omega)
      omega
  have HW : Hid (wrN T = 0) := by show _ = _; unfold wrN; rw [if_pos HF.out, if_neg hd1, if_neg (by have := HZ.out.1; omega)]
  clear hz
  go_wp2_with fail
  refine bodyPost_ret (results_tmp2 rfl _ _ _) rfl ?_
  exact ⟨z, _, rfl, fun _ => ⟨HZ.out.2, rfl⟩, fun h => absurd HW.out h, bel⟩
theorem freshD_own {w w':World} {v:Value} {X:List Int} (h:w'.ownsRow w.heap.size 5 1 v X.length (u8s X)) (h0:0 < X.length):FreshD w w' v X:=by
 obtain ⟨hl,h⟩:=h
 rcases h with ⟨_,h2⟩|⟨g,cap,cur,rfl,h2,h3,h4,h5,h6,h7⟩
 ·omega
 ·refine ⟨g,0,cap,cur.toList,rfl,h4,h5,h2,⟨_,by simpa using h3⟩,fun j hj=>?_⟩
  have e:=congrArg (·[j]?) h7
  simp only [Nat.mul_one,List.getElem?_take] at e
  rw [if_pos (by omega),u8s_get X j hj] at e
  rw [Nat.zero_add]
  exact e
set_option linter.unusedSimpArgs false in
set_option maxRecDepth 100000 in
set_option maxHeartbeats 2000000 in
theorem c12_Write {T:Tl} {cs:List Value} {w:World} (hs:SmT T) (h:TlAt w T cs) :
  Calls Try.prog 13 #[.agg cs.toArray] w fun e w'=>∃ v' er:Value,e=.returned (.tuple #[v',er])∧WrAt w w' T v' er∧Below w.heap.size w w':=by
 obtain ⟨c,t,m,b,ks⟩:=T
 have h0:=h
 rw [TlAt] at h
 obtain ⟨bv,ao,cap,hcs,hbv,hk1,hk2,hk3⟩:=h
 obtain ⟨bao,bcap,rfl,hb1,hb2,hb3⟩:=hbv
 subst hcs
 clear hk1 hk2 hk3 hb1 hb2 hb3
 have B0:=Blk.new w [.int .i64 c,.int .i64 t,.bool m,.slice bao b.length bcap,.slice ao ks.length cap] 42 w.heap.size rfl
 have bel:Below w.heap.size w (w.alloc (.cells #[.int .i64 c,.int .i64 t,.bool m,.slice bao b.length bcap,.slice ao ks.length cap] 42)):=(Below.refl _ _).alloc (Nat.le_refl _) _
 have H0:Hid (TlAt (w.alloc (.cells #[.int .i64 c,.int .i64 t,.bool m,.slice bao b.length bcap,.slice ao ks.length cap] 42)) (.mk c t m b ks) [.int .i64 c,.int .i64 t,.bool m,.slice bao b.length bcap,.slice ao ks.length cap]):=h0.later bel
 clear h0
 obtain ⟨T,hT⟩:∃ T,T=Tl.mk c t m b ks:=⟨_,rfl⟩
 rw [← hT] at H0 hs ⊢
 clear hT
 go_enter Try.func13,Try.ntmps13
 go_upto_region 1 with fail
 generalize w.alloc (Obj.cells #[.int .i64 c,.int .i64 t,.bool m,.slice bao b.length bcap,.slice ao ks.length cap] 42)=W at *
 have hld:=B0.load (P:=Try.prog) Try.underlying42 rfl size_tlv rfl
 have lt0:=B0.lt
 go_wp2_with (first|(refine wpList_load_run (by rfl) (by rfl) (by rfl) hld ?_)|fail)
 refine (c12_Size hs H0.out).mono ?_
 rintro e w2 ⟨n,er,rfl,h1,h2,hb9⟩
 replace B0:=B0.later hb9
 replace H0:Hid (TlAt w2 T _):=H0.out.later hb9
 replace bel:=below_stepD bel hb9
 clear hb9 hld lt0
 by_cases hq:wrN T=0
 rotate_left
 ·obtain ⟨rfl,rfl⟩:=h2 hq
  clear h1 h2
  have HQ:Hid (¬ wrN T=0):=hq
  obtain ⟨k,hk⟩:∃ k,(wrN T:Int)=k:=⟨_,rfl⟩
  have HK:Hid ((wrN T:Int)=k):=hk
  rw [hk]
  clear hk hq
  go_wp2_with fail
  refine bodyPost_ret (results_tmp2 rfl _ _ _) rfl ?_
  exact ⟨_,_,rfl,⟨fun h=>absurd h HQ.out,fun _=>⟨⟨none,0,rfl,by decide,by decide,fun h=>by simp at h⟩,by rw [HK.out];rfl⟩⟩,bel⟩
 obtain ⟨rfl,rfl⟩:=h1 hq
 clear h1 h2
 have HQ:Hid (wrN T=0):=hq
 have HF:Hid (fineT T=true∧(bytesT T).length≤1048576):=by
  unfold wrN at hq
  split at hq
  ·split at hq
   ·cases hq
   ·split at hq
    ·cases hq
    ·exact ⟨by assumption,by omega⟩
  ·cases hq
 clear hq
 have hld:=B0.load (P:=Try.prog) Try.underlying42 rfl size_tlv rfl
 have lt0:=B0.lt
 go_wp2_with (first|(refine wpList_load_run (by rfl) (by rfl) (by rfl) hld ?_)|fail)
 have hsz:=bel.size
 refine (c12_written (szT T) T _ _ (Nat.le_refl _) HF.out.1 HF.out.2 H0.out).mono ?_
 rintro e w3 ⟨v3,rfl,own,hb9⟩
 replace B0:=B0.later hb9
 replace H0:Hid (TlAt w3 T _):=H0.out.later hb9
 replace bel:=below_stepD bel hb9
 clear hb9 hld lt0
 have HO:Hid _:=own_lowerD own hsz
 clear own
 go_wp2_with fail
 refine bodyPost_ret (results_tmp2 rfl _ _ _) rfl ?_
 exact ⟨v3,_,rfl,⟨fun _=>⟨freshD_own HO.out (by have:=bytesT_two T;omega),rfl⟩,fun h=>absurd HQ.out h⟩,bel⟩
end Go.Proofs.Ytnkipgbnnhahbaa
