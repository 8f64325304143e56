/- The law DerStays. -/
import Derived.Test.YthbncblhkohomabDoorRows
import Derived.Test.YthbncblhkohomabDoorDrSmall
import Derived.Test.YthbncblhkohomabDoorDrEq
import Derived.Test.YthbncblhkohomabDoorDrTurn
import Derived.Deep.WholeRow
import Derived.Deep.RegionHeld3
import Derived.Deep.DeepCutAuto
import Derived.Deep.DeepFit
namespace Go.Proofs.YthbncblhkohomabDoor
open Go.RowKit

/-- what is read of bytes: the element, or none, and what is amiss -/
noncomputable def resT (B : List Int) : Tl := match parseP B with | .ok T => T | .error _ => nilT
noncomputable def resE (B : List Int) : Option (Nat × Nat) := match parseP B with | .ok _ => none | .error q => some q
def EAt (s : Nat) (w : World) (k : Option (Nat × Nat)) (er : Value) : Prop := match k with | none => er = .nilIface | some q => ErAt w q.1 q.2 er ∧ ErFresh s er
theorem EAt.agr {S : Nat → Prop} {s : Nat} {w w' : World} {k : Option (Nat × Nat)} {er : Value} (h : EAt s w k er) (ha : Agr S w w') (hs : ∀ b, s ≤ b → S b) : EAt s w' k er := by
  cases k with
  | none => exact h
  | some q =>
    obtain ⟨h1, h2⟩ := h
    refine ⟨?_, h2⟩
    rcases h1 with h1 | ⟨h1, g, h3, h4⟩
    · exact .inl h1
    · exact .inr ⟨h1, g, h3, h4.agr ha (hs g (h2 g h3))⟩
theorem EAt.later {s : Nat} {w w' : World} {k : Option (Nat × Nat)} {er : Value} (h : EAt s w k er) (hb : Below w.heap.size w w') : EAt s w' k er := h.agr (S := fun _ => True) (Agr.below hb) (fun _ _ => trivial)
theorem nil_dep {S : Nat → Prop} {w : World} {cs : List Value} (h : TlAt w (.mk 0 0 false [] []) cs) : Dep S w nilT cs := fun w' _ => by
  unfold nilT
  rw [TlAt] at h ⊢
  obtain ⟨bv, ao, cap, h1, ⟨a, c, e, k1, k2, _⟩, h3, h4, _⟩ := h
  exact ⟨bv, ao, cap, h1, ⟨a, c, e, k1, k2, fun h0 => by simp at h0⟩, h3, h4, fun h0 => by simp at h0⟩
theorem res_wf {B : List Int} (b : byt B) : WfT (resT B) := by
  unfold resT
  cases hp : parseP B with
  | ok T => exact (parse_ok b hp).2.2.2.1
  | error q => exact nilT_wf
theorem res_bd {B : List Int} {c p : Nat} (h : resE B = some (c, p)) : 1 ≤ c ∧ c ≤ 21 := by
  unfold resE at h
  cases hp : parseP B with
  | ok T => rw [hp] at h; cases h
  | error q =>
    rw [hp] at h
    simp only [Option.some.injEq] at h
    subst h
    have : c = 2 ∨ c = 6 ∨ c = 7 ∨ c = 8 ∨ c = 9 := by
      unfold parseP at hp
      split at hp
      · cases hp; exact .inl rfl
      · cases hq : elemP B 16 0 B.length with
        | error e =>
          rw [hq] at hp
          obtain ⟨c', p'⟩ := e
          cases hp
          rcases elemP_bad hq with h | h | h
          · exact .inr (.inl h)
          · exact .inr (.inr (.inl h))
          · exact .inr (.inr (.inr (.inr h)))
        | ok q =>
          obtain ⟨t, z⟩ := q
          rw [hq] at hp
          simp only at hp
          split at hp
          · cases hp; exact .inr (.inr (.inr (.inl rfl)))
          · cases hp
    omega
theorem con_ParseR {v : Value} {B : List Int} {w : World} (hv : Bs w v B) (b : byt B) :
    Calls Tryd.prog 6 #[v] w fun e w' => ∃ (cs : List Value) (er : Value), e = .returned (.tuple #[.agg cs.toArray, er]) ∧ Dep (fun b => w.heap.size ≤ b) w' (resT B) cs ∧ EAt w.heap.size w' (resE B) er ∧ Below w.heap.size w w' := by
  refine (con_Parse hv b).mono ?_
  rintro e w' ⟨hok, hbad⟩
  unfold resT resE
  cases hp : parseP B with
  | ok T =>
    obtain ⟨cs, h1, h2, h3⟩ := hok T hp
    exact ⟨cs, _, h1, h2, rfl, h3⟩
  | error q =>
    obtain ⟨c, p⟩ := q
    obtain ⟨cs, er, h1, h2, h3, h4, h5⟩ := hbad c p hp
    exact ⟨cs, er, h1, nil_dep h2, ⟨h3, h4⟩, h5⟩
theorem con_SameR {a b : Value} {B : List Int} {s s' : Nat} {w : World} (G : GlsE w) (ha : EAt s w (resE B) a) (hb : EAt s' w (resE B) b) :
    Calls Tryd.prog 9 #[a, b] w fun ev w' => ev = .returned (.bool true) ∧ Below w.heap.size w w' := by
  cases hk : resE B with
  | none =>
    rw [hk] at ha hb
    have e1 : a = .nilIface := ha
    have e2 : b = .nilIface := hb
    subst e1 e2
    exact con_SameNil.mono (fun e w' h => ⟨h.1, by rw [h.2]; exact Below.refl _ _⟩)
  | some q =>
    obtain ⟨c, p⟩ := q
    have bd := res_bd hk
    rw [hk] at ha hb
    obtain ⟨ha, _⟩ := ha
    obtain ⟨hb, _⟩ := hb
    simp only at ha hb
    by_cases c2 : c = 2
    · subst c2
      obtain rfl := ha.long
      obtain rfl := hb.long
      exact con_SameCode (c := 2) G (by decide) (by decide)
    · obtain ⟨g, rfl, A⟩ := ha.spot c2
      obtain ⟨f, rfl, C⟩ := hb.spot c2
      exact con_SameSpot G A C bd.1 bd.2
theorem own_turn {w w' : World} {lo hi : Nat} {v : Value} {X : List Int} {n : Nat} (h : w.ownsRow lo 5 1 v n (u8s X)) (hb : Below w.heap.size w w') (hn : n ≤ 1099511627776) (hh : w.heap.size ≤ hi) : TurnOk lo hi w' v := by
  by_cases h0 : n = 0
  · subst h0
    obtain ⟨ao, cap, rfl, _, _⟩ := own_slice h
    exact .inl ⟨ao, cap, rfl⟩
  · have hl : X.length = n := by simpa using h.1
    obtain ⟨_, h⟩ := h
    rcases h with ⟨_, h2⟩ | ⟨g, cap, cur, h1, h2, h3, h4, h5, h6, h7⟩
    · exact absurd h2 h0
    · have B : Blk w g cur.toList := ⟨_, by simpa using h3⟩
      refine .inr ⟨g, 0, n, cap, cur.toList, h1, hn, h2, Nat.lt_of_lt_of_le B.lt hh, B.later hb, fun j hj => ⟨X.getD j 0, ?_⟩⟩
      have e1 : (cur.toList.take (n * 1))[j]? = some (.int .u8 (X.getD j 0)) := by rw [h7]; exact u8s_get X j (by omega)
      rw [List.getElem?_take, if_pos (by omega)] at e1
      rw [Nat.zero_add]
      exact e1
theorem wr_turn {w w1 w' : World} {T : Tl} {v er : Value} (h : WrAt w w1 T v er) (hb : Below w1.heap.size w1 w') (hn : (bytesT T).length ≤ 1099511627776) : TurnOk w.heap.size w1.heap.size w' v := by
  by_cases c : wrN T = 0
  · obtain ⟨⟨g, o, cap, cur, rfl, h1, h2, h3, h4, h5⟩, _⟩ := h.1 c
    exact .inr ⟨g, o, _, cap, cur, rfl, hn, h3, h4.lt, h4.later hb, fun j hj => ⟨_, h5 j hj⟩⟩
  · obtain ⟨⟨a, k, rfl, _⟩, _⟩ := h.2 c
    exact .inl ⟨a, k, rfl⟩
set_option linter.unusedSimpArgs false in
set_option maxRecDepth 100000 in
set_option maxHeartbeats 4000000 in
theorem law_derStays (v : Value) (B : List Int) (T : Tl) (cs : List Value) (w : World) (G : GlsE w) (hv : Bs w v B) (b : byt B) (h : TlAt w T cs) (hw : WfT T) :
    Calls Tryd.prog 3 #[v, .agg cs.toArray] w fun e w' => e = .returned (.bool true) ∧ Below w.heap.size w w' := by
  have HW : Hid (WfT T) := hw
  have HL : Hid (cs.length = 5) := h.five
  have HG : Hid (GlsE w) := G
  have HV : Hid (Bs w v B) := hv
  have HB : Hid (byt B) := b
  obtain ⟨ao, cap, rfl, h1, h2, h3⟩ := hv
  clear h3 b
  unfold maxLen at h1
  have B0 := Blk.new w cs 25 w.heap.size rfl
  have bel : Below w.heap.size w (w.alloc (.cells cs.toArray 25)) := (Below.refl _ _).alloc (Nat.le_refl _) _
  have TA := h.later bel
  clear h hw G
  go_enter Tryd.func3, Tryd.ntmps3
  go_upto_region 1 with fail
  generalize w.alloc (.cells cs.toArray 25) = W at *
  go_wp2_with fail
  refine (con_up (HG.out.below bel)).mono ?_
  rintro e w1 ⟨rfl, hb⟩
  replace bel := below_stepD bel hb
  replace TA := TA.later hb
  replace B0 := B0.later hb
  clear hb
  have l0 := B0.lt
  go_wp2_with (first | (refine wpList_load_run (by rfl) (by rfl) (by rfl) (B0.load Tryd.underlying25 rfl size_tlv HL.out) ?_) | fail)
  refine (con_small TA).mono ?_
  rintro e w2 ⟨rfl, hb⟩
  replace bel := below_stepD bel hb
  replace TA := TA.later hb
  replace B0 := B0.later hb
  clear hb l0
  by_cases c0 : 50000 < B.length
  · have g0 : (50000 : Int) < ((B.length : Nat) : Int) := by omega
    go_wp2_with fail
    go_ret
    exact ⟨rfl, bel⟩
  have g0 : ¬ (50000 : Int) < ((B.length : Nat) : Int) := by omega
  by_cases c1 : 0 ≤ litT T 20000 200
  rotate_left
  · rw [decide_eq_false c1]
    go_wp2_with fail
    go_ret
    exact ⟨rfl, bel⟩
  rw [decide_eq_true c1]
  have hln := litT_len T 20000 200 c1
  have hz1 : szT T ≤ 1099511627776 := by omega
  have hz2 : (bytesT T).length ≤ 1099511627776 := by omega
  clear hln c1
  have HS02 : Hid (w.heap.size ≤ w2.heap.size) := bel.size
  have hz := zero_tlv.out
  have own0 := own_lits w2 [] 0 w2.heap.size rfl (Nat.le_refl _) (by decide)
  have hbl : Below w2.heap.size w2 (w2.alloc (.cells #[] 5)) := (Below.refl _ _).alloc (Nat.le_refl _) _
  have bsb := (HV.out.later bel).later hbl
  go_upto_region 6 with (first | (at_builtin; refine wpList_append_bs (by rfl) _ _ (by rfl) w2.heap.size _ 0 [] (by rfl) own0 _ B (by rfl) bsb (by omega) (by simp) ?_; intro v3 w3 own3 hgrow hat) | fail)
  rw [Nat.zero_add, List.nil_append] at own3
  have bp := below_own (base := w2.heap.size) hbl hgrow (by simp) (fun g hg => own_geD own0 hg) (Nat.le_refl _)
  replace bel := below_stepD bel bp
  clear own0 hbl bsb hgrow hat
  have bs3 := Bs.of_own own3
  obtain ⟨a3, k3, rfl, _, _⟩ := own_slice own3
  go_wp2_with fail
  refine (con_ParseR bs3 HB.out).mono ?_
  rintro e w4 ⟨ca, er4, rfl, hdx, hex, hb⟩
  have T4 := hdx.now
  have HOca : Hid (OneC ca) := T4.ones
  have HSca : Hid (ca.toArray.size = 5) := by show _ = _; rw [List.size_toArray]; exact T4.five
  have HLca : Hid (ca.length = 5) := T4.five
  replace bel := below_stepD bel hb
  replace bp := bp.trans (hb.mono bp.size)
  have hto := own_turn (hi := w3.heap.size) own3 hb (by omega) (Nat.le_refl _)
  replace bs3 := bs3.later hb
  have s34 := hb.size
  clear hb own3 T4
  go_upto_region 7 with (first | (refine wpList_store_row rfl 25 _ _ rfl w4.heap.size ca.toArray rfl rfl 25 _ (heap_alloc_last _ _) (by rw [size_tlv, HSca.out]) (by rw [HSca.out]; rfl) HOca.out ?_; rw [World.setRow_alloc_new]) | fail)
  replace bel := below_alloc (o := .cells ca.toArray 25) bel
  have KBca := Blk.new w4 ca 25 w4.heap.size rfl
  obtain ⟨ga, hgga⟩ : ∃ g, g = w4.heap.size := ⟨_, rfl⟩
  rw [← hgga] at KBca s34 ⊢
  have hbx := (Below.refl _ _).alloc (Nat.le_refl _) (.cells ca.toArray 25) (w := w4) (B := w4.heap.size)
  generalize w4.alloc (.cells ca.toArray 25) = w5 at *
  clear hgga
  replace bp := bp.trans (hbx.mono bp.size)
  replace bs3 := bs3.later hbx
  replace hdx := hdx.next (Agr.below hbx) (fun b hb _ => hb)
  replace hex := hex.later hbx
  replace hto := hto.later hbx
  clear hbx
  have bsb := HV.out.later bel
  have cv1 := conv_any bs3
  have cv2 := conv_any bsb
  obtain ⟨S, hS⟩ : ∃ S, strOfNums B = S := ⟨_, rfl⟩
  rw [hS] at cv1 cv2
  have hse : (S.toList == S.toList) = true := by simp
  go_upto_region 8 with fail
  clear cv1 cv2 hse hS bs3 bsb
  have s02 : w.heap.size ≤ w2.heap.size := HS02.out
  go_wp2_with fail
  refine (con_turn hto).mono ?_
  rintro e w6 ⟨rfl, hT⟩
  replace bel := hT.2 _ _ s02 bel
  replace bp := hT.2 _ _ (Nat.le_refl _) bp
  replace hdx := hdx.next hT.1 (fun b hb _ => hb)
  replace hex := hex.agr hT.1 (fun b hb => hb)
  replace KBca := KBca.agr hT.1 s34
  replace TA := TA.later bp
  replace B0 := B0.later bp
  have TX := hdx.now
  clear hto hT bp hdx s34
  go_wp2_with fail
  refine (con_ParseR (HV.out.later bel) HB.out).mono ?_
  rintro e w7 ⟨cb, er7, rfl, hdy, hey, hb⟩
  have TY := hdy.now
  have HOcb : Hid (OneC cb) := TY.ones
  have HScb : Hid (cb.toArray.size = 5) := by show _ = _; rw [List.size_toArray]; exact TY.five
  have HLcb : Hid (cb.length = 5) := TY.five
  replace bel := below_stepD bel hb
  replace TA := TA.later hb
  replace B0 := B0.later hb
  replace KBca := KBca.later hb
  replace TX := TX.later hb
  replace hex := hex.later hb
  clear hb hdy
  go_upto_region 10 with (first | (refine wpList_store_row rfl 25 _ _ rfl w7.heap.size cb.toArray rfl rfl 25 _ (heap_alloc_last _ _) (by rw [size_tlv, HScb.out]) (by rw [HScb.out]; rfl) HOcb.out ?_; rw [World.setRow_alloc_new]) | fail)
  replace bel := below_alloc (o := .cells cb.toArray 25) bel
  have KBcb := Blk.new w7 cb 25 w7.heap.size rfl
  obtain ⟨gb, hggb⟩ : ∃ g, g = w7.heap.size := ⟨_, rfl⟩
  rw [← hggb] at KBcb ⊢
  have hbx := (Below.refl _ _).alloc (Nat.le_refl _) (.cells cb.toArray 25) (w := w7) (B := w7.heap.size)
  generalize w7.alloc (.cells cb.toArray 25) = w8 at *
  clear hggb
  replace TA := TA.later hbx
  replace B0 := B0.later hbx
  replace KBca := KBca.later hbx
  replace TX := TX.later hbx
  replace TY := TY.later hbx
  replace hex := hex.later hbx
  replace hey := hey.later hbx
  clear hbx hz
  have la := KBca.lt
  have lb := KBcb.lt
  go_wp2_with (first | (refine wpList_load_run (by rfl) (by rfl) (by rfl) (KBca.load Tryd.underlying25 rfl size_tlv HLca.out) ?_) | (refine wpList_load_run (by rfl) (by rfl) (by rfl) (KBcb.load Tryd.underlying25 rfl size_tlv HLcb.out) ?_) | fail)
  refine (r12_Same (szT (resT B)) (resT B) (resT B) _ _ _ (Nat.le_refl _) (res_wf HB.out) (res_wf HB.out) TX TY).mono ?_
  rintro e w9 ⟨rfl, hb⟩
  rw [sameT_yes (rfl : resT B = resT B)]
  replace bel := below_stepD bel hb
  replace TA := TA.later hb
  replace B0 := B0.later hb
  replace hex := hex.later hb
  replace hey := hey.later hb
  clear hb TX TY KBca KBcb la lb
  go_wp2_with fail
  refine (con_SameR (HG.out.below bel) hex hey).mono ?_
  rintro e w10 ⟨rfl, hb⟩
  replace bel := below_stepD bel hb
  replace TA := TA.later hb
  replace B0 := B0.later hb
  clear hb hex hey
  have l0 := B0.lt
  go_wp2_with (first | (refine wpList_load_run (by rfl) (by rfl) (by rfl) (B0.load Tryd.underlying25 rfl size_tlv HL.out) ?_) | fail)
  refine (r12_Write (by omega) (fun _ => hz2) TA).mono ?_
  rintro e w11 ⟨v11, rfl, ho, hn, hb⟩
  have HO11 : Hid _ := ho
  have HN11 : Hid _ := hn
  replace bel := below_stepD bel hb
  replace TA := TA.later hb
  replace B0 := B0.later hb
  clear hb l0 ho hn
  have l0 := B0.lt
  go_wp2_with (first | (refine wpList_load_run (by rfl) (by rfl) (by rfl) (B0.load Tryd.underlying25 rfl size_tlv HL.out) ?_) | fail)
  refine (con_Write TA HW.out hz1 hz2).mono ?_
  rintro e w12 ⟨v12, er12, rfl, hwr, hb⟩
  have HWr : Hid (WrAt w11 w12 T v12 er12) := hwr
  have bq := hb
  replace bel := below_stepD bel hb
  clear hwr l0
  have TA2 := TA.later hb
  have B2 := B0.later hb
  have l0 := B2.lt
  clear hb
  go_wp2_with (first | (refine wpList_load_run (by rfl) (by rfl) (by rfl) (B2.load Tryd.underlying25 rfl size_tlv HL.out) ?_) | fail)
  refine (con_Size TA2 HW.out hz1 hz2).mono ?_
  rintro e w13 ⟨n13, er13, rfl, _, _, hb⟩
  replace bel := below_stepD bel hb
  replace bq := bq.trans (hb.mono bq.size)
  have hto := wr_turn HWr.out hb hz2
  clear hb l0 TA2 B2
  have s11 : w.heap.size ≤ w11.heap.size := Nat.le_of_lt B0.lt
  go_wp2_with fail
  refine (con_turn hto).mono ?_
  rintro e w14 ⟨rfl, hT⟩
  replace bel := hT.2 _ _ s11 bel
  replace bq := hT.2 _ _ (Nat.le_refl _) bq
  replace TA := TA.later bq
  replace B0 := B0.later bq
  clear hto hT
  have l0 := B0.lt
  go_wp2_with (first | (refine wpList_load_run (by rfl) (by rfl) (by rfl) (B0.load Tryd.underlying25 rfl size_tlv HL.out) ?_) | fail)
  refine (r12_Write (by omega) (fun _ => hz2) TA).mono ?_
  rintro e w15 ⟨v15, rfl, ho, hn, hb⟩
  have HO15 : Hid _ := ho
  have HN15 : Hid _ := hn
  replace bel := below_stepD bel hb
  replace bq := bq.trans (hb.mono bq.size)
  replace TA := TA.later hb
  replace B0 := B0.later hb
  clear hb l0 ho hn
  have l0 := B0.lt
  go_wp2_with (first | (refine wpList_load_run (by rfl) (by rfl) (by rfl) (B0.load Tryd.underlying25 rfl size_tlv HL.out) ?_) | fail)
  refine (con_Write TA HW.out hz1 hz2).mono ?_
  rintro e w16 ⟨v16, er16, rfl, hwr, hb⟩
  replace bel := below_stepD bel hb
  replace bq := bq.trans (hb.mono bq.size)
  clear l0 TA B0
  by_cases c2 : wrN T = 0
  · obtain ⟨fr, rfl⟩ := hwr.1 c2
    obtain ⟨_, rfl⟩ := HWr.out.1 c2
    have b11 := (Bs.of_own (HO11.out c2)).later bq
    have b15 := (Bs.of_own (HO15.out c2)).later hb
    have cv1 := conv_any b11
    have cv2 := conv_any b15
    have cv3 := conv_any fr.bs
    obtain ⟨S, hS⟩ : ∃ S, strOfNums (bytesT T) = S := ⟨_, rfl⟩
    rw [hS] at cv1 cv2 cv3
    have hse : (S.toList == S.toList) = true := by simp
    clear fr hS b11 b15 hb hwr HWr HO11 HO15 HN11 HN15
    go_wp2_with fail
    refine con_SameNil.mono ?_
    rintro e w17 ⟨rfl, hw17⟩
    rw [hw17]
    clear hw17
    go_wp2_with fail
    go_ret
    exact ⟨rfl, bel⟩
  · obtain ⟨b16, rfl⟩ := hwr.2 c2
    obtain ⟨_, rfl⟩ := HWr.out.2 c2
    obtain rfl := HN11.out c2
    obtain rfl := HN15.out c2
    have cv1 := conv_any (bs_noneD w16)
    have cv3 := conv_any b16
    have hcb : 1 ≤ wrN T ∧ wrN T ≤ 21 := ⟨by omega, by have := wrN_bd T; omega⟩
    obtain ⟨S, hS⟩ : ∃ S, strOfNums [] = S := ⟨_, rfl⟩
    rw [hS] at cv1 cv3
    have hse : (S.toList == S.toList) = true := by simp
    obtain ⟨c, hc⟩ : ∃ c, wrN T = c := ⟨_, rfl⟩
    rw [hc] at hcb ⊢
    clear b16 hS hb hwr HWr HO11 HO15 HN11 HN15 hc c2
    go_wp2_with fail
    refine (con_SameCode (HG.out.below bel) hcb.1 hcb.2).mono ?_
    rintro e w17 ⟨rfl, hb⟩
    replace bel := below_stepD bel hb
    go_wp2_with fail
    go_ret
    exact ⟨rfl, bel⟩
end Go.Proofs.YthbncblhkohomabDoor
