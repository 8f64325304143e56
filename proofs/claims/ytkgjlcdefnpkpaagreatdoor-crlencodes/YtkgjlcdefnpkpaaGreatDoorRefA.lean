/- The reference's Trim. The reference's Of: limbs as digits. The reference's Of6: 6 limbs as digits. The reference's at: a digit, 0 above all. The reference's To6: the lowest six limbs. What sums and differences of the reference's numbers lean on. The reference's Cmp. -/
import Derived.Test.YtkgjlcdefnpkpaaGreatDoorBase
import Derived.Test.YtkgjlcdefnpkpaaGreatDoorRows
import Derived.Deep.RegionHeld3
import Derived.Deep.QuietTactic
import Derived.BigQuiet
namespace Go.Proofs.YtkgjlcdefnpkpaaGreatDoor
open Go.RowKit
/-- v holds D without the noughts at its end -/
def Trimmed (w:World) (D:List Int) (v:Value):Prop:=∃ n,n≤D.length∧Sl w v (D.take n)∧trd (D.take n)∧∀ j,n≤j→D.getD j 0=0
theorem trimmed_mk (w:World) (D:List Int) (b cap k:Nat) (hk:k≤D.length) (hc:D.length≤cap) (hm:cap≤maxLen) (hb:b < w.heap.size) (h5:∀ j,j < D.length→w.cell? ⟨b,j,none⟩=some (.int .u64 (D.getD j 0)))
  (hz:∀ j,k≤j→D.getD j 0=0) (ht:0 < k→D.getD (k - 1) 0≠0):Trimmed w D (.slice (some ⟨b,0,none⟩) k cap):=by
 have hl:(D.take k).length=k:=by simp;omega
 have hg:∀ j,j < k→(D.take k).getD j 0=D.getD j 0:=fun j hj=>by simp [List.getD_eq_getElem?_getD,hj]
 refine ⟨k,hk,.inr ⟨b,cap,by rw [hl],by omega,hm,hb,fun j hj=>?_⟩,?_,hz⟩
 ·rw [hg j (by omega)];exact h5 j (by omega)
 ·intro h
  rw [hl] at h ⊢
  rw [hg _ (by omega)];exact ht h
theorem Trimmed.num {w:World} {D:List Int} {v:Value} (h:Trimmed w D v) (hd:dig D):NumIs w v (v32 D):=by
 obtain ⟨n,_,h2,h3,h4⟩:=h
 exact ⟨D.take n,h2,dig_take hd n,h3,pv_take_zero _ D n h4⟩
set_option maxRecDepth 100000 in
set_option maxHeartbeats 400000 in
theorem trim_any (v:Value) (D:List Int) (w:World) (h:Sl w v D) :
  Calls Tryz.prog 136 #[v] w fun e w'=>∃ v',e=.returned v'∧Trimmed w D v'∧w'=w:=by
 rcases h with ⟨rfl,rfl⟩|⟨b,cap,rfl,h2,h3,h4,h5⟩
 ·have ht:Trimmed w [] (.slice none 0 0):=⟨0,Nat.le_refl _,.inl ⟨rfl,rfl⟩,by simp [trd],fun j _=>by simp⟩
  go_enter Tryz.func136,Tryz.ntmps136
  go_wp2
  go_loop [3] (fun i=>i=.int .i64 0) (fun i=>(intOf i).toNat)
  case atStart=>rfl
  case round =>
   subst hrel
   go_wp2
   go_ret
   exact ⟨_,rfl,ht,rfl⟩
 ·have h3':=h3
  unfold maxLen at h3
  have MK:Hid (∀ k,k≤D.length→(∀ j,k≤j→D.getD j 0=0)→(0 < k→D.getD (k - 1) 0≠0)→Trimmed w D (.slice (some ⟨b,0,none⟩) k cap)):=fun k hk=>trimmed_mk w D b cap k hk h2 h3' h4 h5
  have hend:∀ j,D.length≤j→D.getD j 0=0:=fun j hj=>getD_none D j hj
  clear h3'
  obtain ⟨l,hl⟩:∃ l,D.length=l:=⟨_,rfl⟩
  rw [hl] at h2 h5 MK hend ⊢
  have HE:Hid (∀ j,l≤j→D.getD j 0=0):=hend
  clear hend
  go_enter Tryz.func136,Tryz.ntmps136
  go_wp2
  go_loop [3] (fun i=>∃ k:Nat,k≤l∧i=.int .i64 k∧Hid (∀ j,k≤j→D.getD j 0=0)) (fun i=>(intOf i).toNat)
  case atStart=>exact ⟨l,Nat.le_refl _,rfl,HE⟩
  case round =>
   obtain ⟨k,hk,rfl,HZ⟩:=hrel
   by_cases hk0:k=0
   ·subst hk0
    have MK0:Trimmed w D (.slice (some ⟨b,0,none⟩) 0 cap):=MK.out 0 (by omega) HZ.out (by omega)
    go_wp2
    go_ret
    exact ⟨_,rfl,MK0,rfl⟩
   ·obtain ⟨d,hd⟩:∃ d,D.getD (k - 1) 0=d:=⟨_,rfl⟩
    have hc:=h5 (k - 1) (by omega)
    rw [hd] at hc
    have HD:Hid (D.getD (k - 1) 0=d):=hd
    clear hd
    have g1:(0:Int) < (k:Int):=by omega
    have g2:((k:Int) - 1).toNat=k - 1:=by omega
    by_cases hd0:d=0
    ·subst hd0
     go_wp2
     go_round
     case rel =>
      refine ⟨k - 1,by omega,by congr 1;omega,fun j hj=>?_⟩
      by_cases hjk:j=k - 1
      ·subst hjk;exact HD.out
      ·exact HZ.out j (by omega)
     case measure=>simp [intOf];omega
    ·have g3:(d == 0)=false:=by simpa using hd0
     have MK0:Trimmed w D (.slice (some ⟨b,0,none⟩) k cap):=MK.out k (by omega) HZ.out (fun _=>by rw [HD.out];exact hd0)
     go_wp2
     go_ret
     exact ⟨_,rfl,MK0,rfl⟩
theorem info_num:(Tryz.prog.info? 26).map (fun i=>(i.zero,i.size,i.bytes))=some (some (.int .u64 0),1,8):=by kernel_rfl
theorem own_ge {w:World} {base:Nat} {e:TypeId} {size:Nat} {v:Value} {n:Nat} {xs:List Value} {j:Nat} (h:w.ownsRow base e size v n xs) (hj:v.ownBlock=some j):base≤j:=by
 rcases h.2 with ⟨h1,_⟩|⟨g,c,cur,h1,h2,_⟩
 ·rw [h1] at hj;simp [Value.ownBlock] at hj
 ·rw [h1] at hj;simp [Value.ownBlock] at hj;omega
set_option maxRecDepth 100000 in
set_option maxHeartbeats 1000000 in
theorem of_any (v : Value) (L : List Int) (w : World) (h : Sl w v L) (l0 : 0 < L.length) (l1 : L.length ≤ 12) (hf : fits L) :
    Calls Tryz.prog 102 #[v] w fun e w' => ∃ v', e = .returned v' ∧ NumIs w' v' (v64 L) ∧ Below w.heap.size w w' := by
  rcases h with ⟨rfl, rfl⟩ | ⟨b, cap, rfl, h2, h3, h4, h5⟩
  · simp at l0
  · unfold maxLen at h3
    obtain ⟨i0, hi0, hz0, hz1, hz2⟩ := info_parts info_num
    have hdig := spl_dig L hf
    have hval := spl_val L
    obtain ⟨l, hl⟩ : ∃ l, L.length = l := ⟨_, rfl⟩
    rw [hl] at h2 h5 l0 l1 ⊢
    obtain ⟨N, hN⟩ : ∃ N, v64 L = N := ⟨_, rfl⟩
    rw [hN] at hval ⊢
    have HL : Hid (L.length = l) := hl
    clear hN hl
    go_enter Tryz.func102, Tryz.ntmps102
    go_wp2
    go_loopw [3, 4] (fun o i wr => ∃ k : Nat, k ≤ l ∧ i = .int .i64 k ∧ wr.ownsRow w.heap.size 26 1 o (2 * k) (us (spl (L.take k))) ∧ Below w.heap.size w wr)
      (fun _ i _ => l - (intOf i).toNat)
    case atStart => exact ⟨0, by omega, rfl, World.ownsRow_nil _ _ _ _, Below.refl _ _⟩
    case round =>
      obtain ⟨k, hk, rfl, hown, hbel⟩ := hrel
      by_cases hlt : k < l
      · obtain ⟨a, ha⟩ : ∃ a, L.getD k 0 = a := ⟨_, rfl⟩
        have hfa : 0 ≤ a ∧ a < 18446744073709551616 := ha ▸ hf k
        have hc := (hbel.cell (p := ⟨b, k, none⟩) h4).trans (h5 k hlt)
        rw [ha] at hc
        have hsz := hbel.size
        have hne : some b ≠ Value.ownBlock u3 := by
          rcases hown.2 with ⟨h1, _⟩ | ⟨g, c, cur, h1, h2, _⟩
          · rw [h1]; simp [Value.ownBlock]
          · rw [h1]; simp [Value.ownBlock]; omega
        obtain ⟨p, hp⟩ : ∃ p, a % 4294967296 = p := ⟨_, rfl⟩
        obtain ⟨q, hq⟩ : ∃ q, a / 4294967296 = q := ⟨_, rfl⟩
        have hp' : a.tmod 4294967296 = p := by rw [← hp, Int.tmod_eq_emod_of_nonneg hfa.1]
        have hq' : IntKind.u64.wrap (a.tdiv 4294967296) = q := by rw [Int.tdiv_eq_ediv_of_nonneg hfa.1, IntKind.wrap_u64]; omega
        have HT : Hid (us (spl (L.take k)) ++ [.int .u64 p, .int .u64 q] = us (spl (L.take (k + 1)))) := by
          rw [spl_take L k (by rw [HL.out]; exact hlt), ha, hp, hq]; simp [us, Hid]
        clear ha
        have g0 : (0 : Int) ≤ (k : Int) := by omega
        have g1 : (k : Int) < (l : Int) := by omega
        go_wp2
        go_region_held3 (fun w' => w'.cell? ⟨b, k, none⟩ = some (.int .u64 a))
          (first | exact hc | (rw [World.cell?_drew, World.cell?_alloc_past _ _ _ (by omega)]; exact hc) | (rw [hgrow.cell_far _ (by simp; omega) hne]; assumption))
          ((refine step_append_lies _ (by rfl) _ _ _ (by rfl) w.heap.size 26 i0 _ 1 8 Tryz.underlying120 hi0 hz0 hz1 hz2 rfl (by omega) _ _ _ (by rfl) ((hown.alloc _).drew)
              ⟨wr.heap.size, 0, none⟩ 2 2 [.int .u64 p, .int .u64 q] (by rfl) (by rfl) (World.news_of_block (cs := #[.int .u64 p, .int .u64 q]) (t := 26) (fr := (0, 0)) (heap_alloc_new wr _)) (by simp [Value.oneCell'])
              (by omega) (by unfold maxLen; omega) (by omega) (by simp; omega) (wr.heap.size + 1) (by simp) ?_; intro gg cap1 w1 hown1 hgrow hat hlt1))
        all_goals go_wp2
        go_roundw
        case rel => exact ⟨k + 1, by omega, by go_num, by rw [HT.out] at hown1; exact hown1, hbel.trans (Below.grown ((Below.refl _ _).alloc hsz _).drew hgrow (by simp; omega) (fun j hj => own_ge hown hj))⟩
        case measure => simp [intOf]; omega
      · have g1 : (l : Int) ≤ (k : Int) := by omega
        have hk : k = l := by omega
        subst hk
        rw [List.take_of_length_le (by rw [HL.out]; exact Nat.le_refl _)] at hown
        go_wp2_with fail
        refine (trim_any _ (spl L) _ (Sl.of_own hown)).mono ?_
        rintro e w' ⟨v', rfl, ht, rfl⟩
        have hN := ht.num hdig
        rw [hval] at hN
        go_wp2_with fail
        go_ret
        exact ⟨v', rfl, hN, hbel⟩
set_option maxRecDepth 100000 in
set_option maxHeartbeats 1000000 in
theorem of6_any (A:List Int) (w:World) (lA:A.length=6) (hf:fits A) :
    Calls Tryz.prog 66 #[.agg (us A).toArray] w fun e w'=>∃ v',e=.returned v'∧NumIs w' v' (v64 A)∧Below w.heap.size w w':=by
  obtain ⟨i0,hi0,hz0,hz1,hz2⟩:=info_parts info_num
  have B0:=Blk.new w (us A) 27 w.heap.size rfl
  have bel:Below w.heap.size w (w.alloc (.cells (us A).toArray 27)):=(Below.refl _ _).alloc (Nat.le_refl _) _
  have sz0:(w.alloc (.cells (us A).toArray 27)).heap.size=w.heap.size + 1:=by simp
  go_enter Tryz.func66,Tryz.ntmps66
  go_wp2
  generalize w.alloc (.cells (us A).toArray 27)=W at *
  go_loopw [3,4] (fun o i wr=>∃ k:Nat,k≤6∧i=.int .i64 k∧wr.ownsRow (w.heap.size + 1) 26 1 o k (us (A.take k))∧Below (w.heap.size + 1) W wr)
    (fun _ i _=>6 - (intOf i).toNat)
  case atStart=>exact ⟨0,by omega,rfl,World.ownsRow_nil _ _ _ _,Below.refl _ _⟩
  case round =>
    obtain ⟨k,hk,rfl,hown,hbel⟩:=hrel
    have hsz:=hbel.size
    by_cases hlt:k < 6
    · obtain ⟨a,ha⟩:∃ a,A.getD k 0=a:=⟨_,rfl⟩
      have hc:=(B0.below hbel (by omega)).cell k _ (us_get A k (by omega))
      rw [ha] at hc
      have HT:Hid (us (A.take k)++[.int .u64 a]=us (A.take (k + 1))):=by
        rw [← ha];exact us_take A k (by omega)
      clear ha
      have g0:(0:Int)≤(k:Int):=by omega
      have g1:(k:Int) < 6:=by omega
      go_wp2_with (first
        | (at_builtin;refine wpList_append_lies _ (by rfl) _ _ _ (by rfl) (w.heap.size + 1) 26 i0 _ 1 8 Tryz.underlying102 hi0 hz0 hz1 hz2 rfl (by omega) _ _ _ (by rfl) (hown.alloc _) ⟨wr.heap.size,0,none⟩ 1 1 [.int .u64 a] (by rfl) (by rfl) (World.news_of_block (cs:=#[.int .u64 a]) (t:=26) (fr:=(0,0)) (heap_alloc_new wr _)) (by simp [Value.oneCell']) (by omega) (by unfold maxLen;omega) (by omega) (by simp;omega) (wr.heap.size + 1) (by simp) ?_;intro gg cap1 w1 hown1 hgrow hat hlt1))
      go_roundw
      case rel=>exact ⟨k + 1,by omega,by go_num,by rw [HT.out] at hown1;exact hown1,hbel.trans (Below.grown ((Below.refl _ _).alloc (by omega) _) hgrow (by simp;omega) (fun j hj=>own_ge hown hj))⟩
      case measure=>simp [intOf];omega
    · have g1:(6:Int)≤(k:Int):=by omega
      have hk:k=6:=by omega
      rw [hk,List.take_of_length_le (by omega)] at hown
      go_wp2_with fail
      refine (of_any _ A _ (Sl.of_own hown) (by omega) (by omega) hf).mono ?_
      rintro e w' ⟨v',rfl,ht,hb⟩
      go_wp2_with fail
      go_ret
      exact ⟨v',rfl,ht,(bel.trans (hbel.mono (by omega))).trans (hb.mono (by omega))⟩
set_option maxRecDepth 100000 in
theorem at_any (v:Value) (D:List Int) (i:Nat) (w:World) (h:Sl w v D) :
  Calls Tryz.prog 103 #[v,.int .i64 i] w fun e w'=>e=.returned (.int .u64 (D.getD i 0))∧w'=w:=by
 obtain ⟨ao,cap,rfl,m1,k1,f1⟩:=h.form
 unfold maxLen at m1
 obtain ⟨d,hd⟩:∃ d,D.getD i 0=d:=⟨_,rfl⟩
 by_cases hi:i < D.length
 ·obtain ⟨b,rfl,hb,hc⟩:=f1 (by omega)
  have x:=hc i hi
  rw [hd] at x ⊢
  clear f1 hc hd
  have g1:(i:Int) < (D.length:Int):=by omega
  have g2:(0:Int)≤(i:Int):=by omega
  go_enter Tryz.func103,Tryz.ntmps103
  go_wp2
  go_ret
  exact ⟨rfl,rfl⟩
 ·have e:d=0:=by rw [← hd];exact getD_none D i (by omega)
  rw [hd,e]
  clear f1 hd e
  have g1:¬ (i:Int) < (D.length:Int):=by omega
  go_enter Tryz.func103,Tryz.ntmps103
  go_wp2
  go_ret
  exact ⟨rfl,rfl⟩
def cmpN (X Y:Int):Int:=if X < Y then -1 else if X=Y then 0 else 1
theorem cmpN_lt {X Y:Int} (h:X < Y):(-1:Int)=cmpN X Y:=by simp [cmpN,h]
theorem cmpN_eq {X Y:Int} (h:X=Y):(0:Int)=cmpN X Y:=by simp [cmpN,h]
theorem cmpN_gt {X Y:Int} (h:Y < X):(1:Int)=cmpN X Y:=by
 unfold cmpN;rw [if_neg (by omega),if_neg (by omega)]
set_option maxRecDepth 100000 in
set_option maxHeartbeats 1000000 in
theorem cmp_any (u v:Value) (X Y:Int) (w:World) (hu:NumIs w u X) (hv:NumIs w v Y) :
  Calls Tryz.prog 100 #[u,v] w fun e w'=>e=.returned (.int .i64 (cmpN X Y))∧Below w.heap.size w w':=by
 obtain ⟨D,sD,dD,tD,rfl⟩:=hu
 obtain ⟨E,sE,dE,tE,rfl⟩:=hv
 obtain ⟨ao,c1,rfl,m1,k1,f1⟩:=sD.form
 obtain ⟨bo,c2,rfl,m2,k2,f2⟩:=sE.form
 have sh1:=v32_short D E dD dE tE
 have sh2:=v32_short E D dE dD tD
 obtain ⟨l,hl⟩:∃ l,D.length=l:=⟨_,rfl⟩
 obtain ⟨m,hm⟩:∃ m,E.length=m:=⟨_,rfl⟩
 unfold maxLen at m1 m2
 clear sD sE
 obtain ⟨X,hX⟩:∃ X,v32 D=X:=⟨_,rfl⟩
 obtain ⟨Y,hY⟩:∃ Y,v32 E=Y:=⟨_,rfl⟩
 rw [hX,hY]
 rw [hX,hY] at sh1 sh2
 rw [hl,hm] at sh1
 rw [hm,hl] at sh2
 by_cases hlm:l < m
 ·have H:Hid _:=cmpN_lt (sh1 hlm)
  rw [hl,hm]
  clear sh1 sh2 f1 f2 hX hY
  have g1:((l:Int) != (m:Int))=true:=by simp;omega
  have g2:(l:Int) < (m:Int):=by omega
  go_enter Tryz.func100,Tryz.ntmps100
  go_wp2
  go_ret
  exact ⟨ret_int H.out,Below.refl _ _⟩
 ·by_cases hml:m < l
  ·have H:Hid _:=cmpN_gt (sh2 hml)
   rw [hl,hm]
   clear sh1 sh2 f1 f2 hX hY
   have g1:((l:Int) != (m:Int))=true:=by simp;omega
   have g2:¬ (l:Int) < (m:Int):=by omega
   go_enter Tryz.func100,Tryz.ntmps100
   go_wp2
   go_ret
   exact ⟨ret_int H.out,Below.refl _ _⟩
  ·have hE:m=l:=by omega
   subst hE
   rw [hl] at f1 ⊢
   rw [hm] at f2 ⊢
   clear sh1 sh2
   have g1:((m:Int) != (m:Int))=false:=by simp
   have HL:Hid (D.length=m∧E.length=m):=⟨hl,hm⟩
   have HX:Hid (v32 D=X∧v32 E=Y):=⟨hX,hY⟩
   clear hX hY
   rw [hl] at k1
   rw [hm] at k2
   clear hl hm
   go_enter Tryz.func100,Tryz.ntmps100
   go_wp2
   go_loopw [5] (fun i wr=>∃ k:Nat,k≤m∧i=.int .i64 ((k:Int) - 1)∧Hid (D.drop k=E.drop k)∧∃ n,wr=w.drewN n)
    (fun i _=>(intOf i + 1).toNat)
   case atStart=>exact ⟨m,Nat.le_refl _,rfl,by show _=_;rw [List.drop_of_length_le (by rw [HL.out.1];exact Nat.le_refl _),List.drop_of_length_le (by rw [HL.out.2];exact Nat.le_refl _)],0,rfl⟩
   case round =>
    obtain ⟨k,hk,rfl,HD,n,rfl⟩:=hrel
    by_cases hk0:k=0
    ·have H:Hid _:=cmpN_eq (show X=Y by rw [← HX.out.1,← HX.out.2];have:=HD.out;rw [hk0] at this;simp at this;rw [this])
     have g2:¬ (0:Int)≤(k:Int) - 1:=by omega
     go_wp2
     go_ret
     exact ⟨ret_int H.out,below_dN (Below.refl _ _) _⟩
    ·obtain ⟨b1,rfl,hb1,hc1⟩:=f1 (by omega)
     obtain ⟨b2,rfl,hb2,hc2⟩:=f2 (by omega)
     clear f1 f2
     obtain ⟨d,hd⟩:∃ d,D.getD (k - 1) 0=d:=⟨_,rfl⟩
     obtain ⟨e,he⟩:∃ e,E.getD (k - 1) 0=e:=⟨_,rfl⟩
     have x1:=hc1 (k - 1) (by omega)
     have x2:=hc2 (k - 1) (by omega)
     rw [hd] at x1
     rw [he] at x2
     have hD:Hid (D.drop (k - 1 + 1)=E.drop (k - 1 + 1)):=by rw [show k - 1 + 1=k by omega];exact HD
     have L1:Hid (d < e→X < Y):=fun h=>by rw [← HX.out.1,← HX.out.2];exact v32_less D E (k - 1) dD dE (by rw [HL.out.1];omega) (by rw [HL.out.2];omega) hD.out (by rw [hd,he];exact h)
     have L2:Hid (e < d→Y < X):=fun h=>by rw [← HX.out.1,← HX.out.2];exact v32_less E D (k - 1) dE dD (by rw [HL.out.2];omega) (by rw [HL.out.1];omega) hD.out.symm (by rw [hd,he];exact h)
     have L3:Hid (d=e→D.drop (k - 1)=E.drop (k - 1)):=fun h=>by
      have e1:=List.drop_eq_getElem_cons (l:=D) (i:=k - 1) (by rw [HL.out.1];omega)
      have e2:=List.drop_eq_getElem_cons (l:=E) (i:=k - 1) (by rw [HL.out.2];omega)
      rw [e1,e2,hD.out]
      congr 1
      rw [List.getD_eq_getElem?_getD,List.getElem?_eq_getElem (by rw [HL.out.1];omega)] at hd
      rw [List.getD_eq_getElem?_getD,List.getElem?_eq_getElem (by rw [HL.out.2];omega)] at he
      simp at hd he
      rw [hd,he,h]
     clear hd he hc1 hc2
     have g2:(0:Int)≤(k:Int) - 1:=by omega
     have g3:(k:Int) - 1 < (m:Int):=by omega
     have g4:((k:Int) - 1).toNat=k - 1:=by omega
     by_cases hde:d < e
     ·have H:Hid _:=cmpN_lt (L1.out hde)
      go_wp2
      go_quiet (fail)
      go_wp2
      go_ret
      exact ⟨ret_int H.out,below_dN (below_dN (Below.refl _ _) _) _⟩
     ·by_cases hed:e < d
      ·have H:Hid _:=cmpN_gt (L2.out hed)
       go_wp2
       go_quiet (fail)
       go_wp2
       go_quiet (fail)
       go_wp2
       go_ret
       exact ⟨ret_int H.out,below_dN (below_dN (below_dN (Below.refl _ _) _) _) _⟩
      ·have hq:d=e:=by omega
       go_wp2
       go_quiet (fail)
       go_wp2
       go_quiet (fail)
       go_wp2
       go_roundw
       case rel=>exact ⟨k - 1,by omega,by congr 1;omega,L3.out hq,_,rfl⟩
       case measure=>simp [intOf];omega
end Go.Proofs.YtkgjlcdefnpkpaaGreatDoor
