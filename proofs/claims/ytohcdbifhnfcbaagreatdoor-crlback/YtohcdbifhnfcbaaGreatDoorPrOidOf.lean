/- The program's isOid and OidOf of layer 13. -/
import Derived.Test.YtohcdbifhnfcbaaGreatDoorPrOidB
import Derived.Test.YtohcdbifhnfcbaaGreatDoorClWr
import Derived.Test.YtohcdbifhnfcbaaGreatDoorDrDG
import Derived.Test.YtohcdbifhnfcbaaGreatDoorDcG2
import Derived.Test.YtohcdbifhnfcbaaGreatDoorRows
import Derived.Deep.OwnRows
import Derived.Deep.AppendLies
import Derived.Great.BuildSlice
import Derived.Deep.WholeRow
import Derived.Deep.RegionHeld3
import Derived.Deep.DeepCutAuto
import Derived.Deep.DeepFit
namespace Go.Proofs.YtohcdbifhnfcbaaGreatDoor
open Go.RowKit
/-- whether words are an identifier -/
def RetI (w:World) (L:List Int) (e:Ending) (w':World):Prop:=((oidOf L=.ok (b7s (valsO L))∧2≤L.length∧L.length≤16∧L.getD 0 0≤2∧∀ j,j < L.length→L.getD j 0≤4294967295)∧e=.returned (.bool true)∧w'=w)∨(oidOf L=.error 1∧e=.returned (.bool false)∧w'=w)
theorem RetI.no {w:World} {L:List Int} (h:oidOf L=.error 1):RetI w L (.returned (.bool false)) w:=.inr ⟨h,rfl,rfl⟩
theorem oidOf_a {L:List Int} (h:L.length < 2∨16 < L.length∨2 < L.getD 0 0∨(L.getD 0 0 < 2∧39 < L.getD 1 0)):oidOf L=.error 1:=by unfold oidOf;rw [if_pos h]
theorem oidOf_b {L:List Int} {j:Nat} (h:j < L.length) (hj:4294967295 < L.getD j 0):oidOf L=.error 1:=by
 unfold oidOf
 split
 ·rfl
 ·rw [if_pos ⟨j,h,hj⟩]
theorem RetI.yes {w:World} {L:List Int} (h:¬ (L.length < 2∨16 < L.length∨2 < L.getD 0 0∨(L.getD 0 0 < 2∧39 < L.getD 1 0))) (h2:∀ j,j < L.length→L.getD j 0≤4294967295):RetI w L (.returned (.bool true)) w:=by
 refine .inl ⟨⟨?_,by omega,by omega,by omega,h2⟩,rfl,rfl⟩
 unfold oidOf
 rw [if_neg h,if_neg (by rintro ⟨j,hj,k⟩;have:=h2 j hj;omega)]
set_option linter.unusedSimpArgs false in
set_option maxRecDepth 100000 in
set_option maxHeartbeats 2000000 in
theorem c13_is {v:Value} {L:List Int} {w:World} (hv:Us w v L) (b:wrd L) :
  Calls Tryz.prog 147 #[v] w (RetI w L):=by
 have HB:Hid (wrd L):=b
 have HV:Hid (Us w v L):=hv
 obtain ⟨ao,cap,rfl,h1,h2,h3⟩:=hv
 obtain ⟨N,hN⟩:∃ N,L.length=N:=⟨_,rfl⟩
 have HN:Hid (L.length=N):=hN
 rw [hN] at h2 h3 HV ⊢
 have HC:Hid (∀ j,j < N→∃ g o,ao=some ⟨g,o,none⟩∧w.cell? ⟨g,o + j,none⟩=some (.int .u64 (L.getD j 0))∧g < w.heap.size):=fun j hj=>by
  obtain ⟨g,o,e1,e2,e3⟩:=h3 (by omega)
  exact ⟨g,o,e1,e3 j hj,e2⟩
 unfold maxLen at h1
 clear b h3 hN
 by_cases c0:N < 2
 ·have H:Hid (oidOf L=.error 1):=oidOf_a (.inl (by rw [HN.out];exact c0))
  have g0:(N:Int) < 2:=by omega
  go_enter Tryz.func147,Tryz.ntmps147
  go_wp2_with fail
  go_ret
  exact RetI.no H.out
 by_cases c1:16 < N
 ·have H:Hid (oidOf L=.error 1):=oidOf_a (.inr (.inl (by rw [HN.out];exact c1)))
  have g0:¬ (N:Int) < 2:=by omega
  have g1:(16:Int) < (N:Int):=by omega
  go_enter Tryz.func147,Tryz.ntmps147
  go_wp2_with fail
  go_ret
  exact RetI.no H.out
 have g0:¬ (N:Int) < 2:=by omega
 have g1:¬ (16:Int) < (N:Int):=by omega
 obtain ⟨g,o,rfl,x0,lg⟩:=HC.out 0 (by omega)
 obtain ⟨g',o',e',x1,_⟩:=HC.out 1 (by omega)
 obtain ⟨rfl,rfl⟩:g=g'∧o=o':=by simpa using e'
 clear e'
 rw [Nat.add_zero] at x0
 have y0:=HB.out 0
 have y1:=HB.out 1
 obtain ⟨p,hp⟩:∃ p,L.getD 0 0=p:=⟨_,rfl⟩
 have HP:Hid (L.getD 0 0=p):=hp
 rw [hp] at x0 y0
 obtain ⟨q,hq⟩:∃ q,L.getD 1 0=q:=⟨_,rfl⟩
 have HQ:Hid (L.getD 1 0=q):=hq
 rw [hq] at x1 y1
 clear hp hq
 have gp:(0:Int) < (N:Int):=by omega
 have gq:(1:Int) < (N:Int):=by omega
 by_cases c2:2 < p
 ·have H:Hid (oidOf L=.error 1):=oidOf_a (.inr (.inr (.inl (by rw [HP.out];exact c2))))
  go_enter Tryz.func147,Tryz.ntmps147
  go_wp2_with fail
  go_ret
  exact RetI.no H.out
 by_cases c3:p < 2
 ·by_cases c4:39 < q
  ·have H:Hid (oidOf L=.error 1):=oidOf_a (.inr (.inr (.inr (by rw [HP.out,HQ.out];exact ⟨c3,c4⟩))))
   have g4:(40:Int)≤q:=by omega
   go_enter Tryz.func147,Tryz.ntmps147
   go_wp2_with fail
   go_ret
   exact RetI.no H.out
  ·have g4:¬ (40:Int)≤q:=by omega
   have HY:Hid (¬ (L.length < 2∨16 < L.length∨2 < L.getD 0 0∨(L.getD 0 0 < 2∧39 < L.getD 1 0))):=by
    rw [HN.out,HP.out,HQ.out]
    rintro (k|k|k|⟨k,k2⟩)<;>omega
   go_enter Tryz.func147,Tryz.ntmps147
   go_wp2_with fail
   go_loop [31] (fun iv=>∃ (i:Nat),i≤N∧iv=.int .i64 (i:Int)∧Hid (∀ j,j < i→¬ 4294967295 < L.getD j 0)) (fun iv=>N - (intOf iv).toNat)
   case atStart=>exact ⟨0,by omega,rfl,fun j h=>absurd h (by omega)⟩
   case round =>
    obtain ⟨i,hi,rfl,HE⟩:=hrel
    by_cases hil:i < N
    ·have k1:(i:Int) < (N:Int):=by omega
     have k2:(0:Int)≤(i:Int):=by omega
     have gi:IntKind.i64.wrap ((i:Int) + 1)=(i:Int) + 1:=by rw [IntKind.wrap_i64];omega
     obtain ⟨g',o',e',cy,_⟩:=HC.out i hil
     obtain ⟨rfl,rfl⟩:g=g'∧o=o':=by simpa using e'
     clear e'
     obtain ⟨y,hy⟩:∃ y,L.getD i 0=y:=⟨_,rfl⟩
     have HYi:Hid (L.getD i 0=y):=hy
     rw [hy] at cy
     clear hy
     by_cases d1:4294967295 < y
     ·have H:Hid (oidOf L=.error 1):=oidOf_b (by rw [HN.out];exact hil) (by rw [HYi.out];exact d1)
      go_wp2_with fail
      go_ret
      exact RetI.no H.out
     have HE2:Hid (∀ j,j < i + 1→¬ 4294967295 < L.getD j 0):=fun j hj=>by
      by_cases hji:j < i
      ·exact HE.out j hji
      ·obtain rfl:j=i:=by omega
       rw [HYi.out];exact d1
     go_wp2_with fail
     go_round
     case rel=>exact ⟨i + 1,by omega,by go_num,HE2⟩
     case measure=>simp [intOf];omega
    ·have k1:¬ (i:Int) < (N:Int):=by omega
     have HF:Hid (∀ j,j < L.length→L.getD j 0≤4294967295):=fun j hj=>by have:=HE.out j (by rw [HN.out] at hj;omega);omega
     go_wp2_with fail
     go_ret
     exact RetI.yes HY.out HF.out
 ·have HY:Hid (¬ (L.length < 2∨16 < L.length∨2 < L.getD 0 0∨(L.getD 0 0 < 2∧39 < L.getD 1 0))):=by
   rw [HN.out,HP.out,HQ.out]
   rintro (k|k|k|⟨k,k2⟩)<;>omega
  go_enter Tryz.func147,Tryz.ntmps147
  go_wp2_with fail
  go_loop [31] (fun iv=>∃ (i:Nat),i≤N∧iv=.int .i64 (i:Int)∧Hid (∀ j,j < i→¬ 4294967295 < L.getD j 0)) (fun iv=>N - (intOf iv).toNat)
  case atStart=>exact ⟨0,by omega,rfl,fun j h=>absurd h (by omega)⟩
  case round =>
   obtain ⟨i,hi,rfl,HE⟩:=hrel
   by_cases hil:i < N
   ·have k1:(i:Int) < (N:Int):=by omega
    have k2:(0:Int)≤(i:Int):=by omega
    have gi:IntKind.i64.wrap ((i:Int) + 1)=(i:Int) + 1:=by rw [IntKind.wrap_i64];omega
    obtain ⟨g',o',e',cy,_⟩:=HC.out i hil
    obtain ⟨rfl,rfl⟩:g=g'∧o=o':=by simpa using e'
    clear e'
    obtain ⟨y,hy⟩:∃ y,L.getD i 0=y:=⟨_,rfl⟩
    have HYi:Hid (L.getD i 0=y):=hy
    rw [hy] at cy
    clear hy
    by_cases d1:4294967295 < y
    ·have H:Hid (oidOf L=.error 1):=oidOf_b (by rw [HN.out];exact hil) (by rw [HYi.out];exact d1)
     go_wp2_with fail
     go_ret
     exact RetI.no H.out
    have HE2:Hid (∀ j,j < i + 1→¬ 4294967295 < L.getD j 0):=fun j hj=>by
     by_cases hji:j < i
     ·exact HE.out j hji
     ·obtain rfl:j=i:=by omega
      rw [HYi.out];exact d1
    go_wp2_with fail
    go_round
    case rel=>exact ⟨i + 1,by omega,by go_num,HE2⟩
    case measure=>simp [intOf];omega
   ·have k1:¬ (i:Int) < (N:Int):=by omega
    have HF:Hid (∀ j,j < L.length→L.getD j 0≤4294967295):=fun j hj=>by have:=HE.out j (by rw [HN.out] at hj;omega);omega
    go_wp2_with fail
    go_ret
    exact RetI.yes HY.out HF.out
theorem own_lowP {w':World} {base b2:Nat} {e:TypeId} {v:Value} {n:Nat} {xs:List Value} (h:w'.ownsRow base e 1 v n xs) (hb:b2≤base):w'.ownsRow b2 e 1 v n xs:=by
 obtain ⟨hl,h⟩:=h
 rcases h with h|⟨g,cap,cur,h1,h2,h3⟩
 ·exact ⟨hl,.inl h⟩
 ·exact ⟨hl,.inr ⟨g,cap,cur,h1,Nat.le_trans hb h2,h3⟩⟩
set_option linter.unusedSimpArgs false in
set_option maxRecDepth 100000 in
set_option maxHeartbeats 4000000 in
theorem c13_OidOf {v:Value} {L:List Int} {w:World} (hv:Us w v L) (b:wrd L) :
  Calls Tryz.prog 122 #[v] w (RetB w (oidOf L)):=by
 have HB:Hid (wrd L):=b
 have HV:Hid (Us w v L):=hv
 have his:=c13_is hv b
 obtain ⟨ao,cap,rfl,h1,h2,h3⟩:=hv
 obtain ⟨N,hN⟩:∃ N,L.length=N:=⟨_,rfl⟩
 have HN:Hid (L.length=N):=hN
 rw [hN] at h2 h3 HV his ⊢
 have HC:Hid (∀ j,j < N→∃ g o,ao=some ⟨g,o,none⟩∧w.cell? ⟨g,o + j,none⟩=some (.int .u64 (L.getD j 0))∧g < w.heap.size):=fun j hj=>by
  obtain ⟨g,o,e1,e2,e3⟩:=h3 (by omega)
  exact ⟨g,o,e1,e3 j hj,e2⟩
 unfold maxLen at h1
 clear b h3 hN
 go_enter Tryz.func122,Tryz.ntmps122
 go_wp2_with fail
 refine his.mono ?_
 clear his
 rintro e w1 (⟨⟨hOk,hl2,hl16,hr2,hbd⟩,rfl,rfl⟩|⟨hOk,rfl,rfl⟩)
 rotate_left
 ·have H:Hid (oidOf L=.error 1):=hOk
  clear hOk
  go_wp2_with fail
  refine bodyPost_ret (results_tmp2 rfl _ _ _) rfl ?_
  exact RetB.bad H.out (Below.refl _ _)
 have HOk:Hid _:=hOk
 have HBd:Hid _:=hbd
 rw [HN.out] at hl2 hl16
 clear hOk hbd
 obtain ⟨g,o,rfl,x0,lg⟩:=HC.out 0 (by omega)
 obtain ⟨g',o',e',x1,_⟩:=HC.out 1 (by omega)
 obtain ⟨rfl,rfl⟩:g=g'∧o=o':=by simpa using e'
 clear e'
 rw [Nat.add_zero] at x0
 have y0:=HB.out 0
 have y1:=HB.out 1
 have m1:=HBd.out 1 (by rw [HN.out];omega)
 have HX0:Hid (b7s ((valsO L).take (0 + 1))=b7 (L.getD 1 0 + 40 * L.getD 0 0).toNat):=by
  show b7s [_]=_
  rw [b7s,b7s,List.append_nil]
 obtain ⟨p',hp⟩:∃ p,L.getD 0 0=p:=⟨_,rfl⟩
 rw [hp] at x0 y0 hr2 HX0
 obtain ⟨q',hq⟩:∃ q,L.getD 1 0=q:=⟨_,rfl⟩
 rw [hq] at x1 y1 m1 HX0
 clear hp hq
 obtain ⟨p,rfl⟩:=Int.eq_ofNat_of_zero_le y0.1
 obtain ⟨q,rfl⟩:=Int.eq_ofNat_of_zero_le y1.1
 obtain ⟨pp,hpp⟩:∃ z,40 * p=z:=⟨_,rfl⟩
 have t1:IntKind.u64.wrap ((p:Int) * 40)=(pp:Int):=by rw [IntKind.wrap_u64];omega
 obtain ⟨s,hs⟩:∃ z,pp + q=z:=⟨_,rfl⟩
 have t2:IntKind.u64.wrap ((pp:Int) + (q:Int))=(s:Int):=by rw [IntKind.wrap_u64];omega
 replace HX0:Hid (b7 s=b7s ((valsO L).take (0 + 1))):=by
  show _=_
  rw [HX0.out]
  congr 1
  omega
 have hs2:s≤4294967375:=by omega
 clear hpp hs
 have gp:(0:Int) < (N:Int):=by omega
 have gq:(1:Int) < (N:Int):=by omega
 have gn:0 < N:=by omega
 have gn1:1 < N:=by omega
 have q1:(2:Int)≤(N:Int):=by omega
 have q2:2≤N:=by omega
 have q3:2≤cap:=by omega
 obtain ⟨S1,hS1,KL1,KA1,KD1,KS1,KQ1,KN1,KB1,KM1,KR1⟩:=held3 (w0:=w1) (W:=w1) [] (by intro b X h;simp at h) (Below.refl _ _)
 have cx:∀ wx,Hd S1 wx→wx.cell? ⟨g,o,none⟩=some (.int .u64 (p:Int)):=fun wx h=>cell_later x0 (KB1.out wx h)
 have cz:∀ wx,Hd S1 wx→wx.cell? ⟨g,o + 1,none⟩=some (.int .u64 (q:Int)):=fun wx h=>cell_later x1 (KB1.out wx h)
 have lx:∀ wx,Hd S1 wx→g < wx.heap.size:=fun wx h=>Nat.lt_of_lt_of_le lg (KB1.out wx h).size
 clear KS1 KQ1 KN1 KM1 KR1 KA1 x0 x1
 go_upto_region 3 with fail
 refine wp_region_noPanic ?_
 refine wp_region_held_drew (S:=Hd S1) (by kernel_rfl) (KD1.out _ hS1) (fun hHeld=>?_)
 clear hS1
 generalize World.drew _=wd at *
 refine wpAnyH_take (i:=0) (v:=?_) rfl (by kernel_rfl) (by kernel_rfl) (by kernel_rfl) (fun _ _ _ h=>h) (Or.inl ⟨by rfl,?_⟩) (by assumption) ?_
 rotate_left
 ·intro w hSw
  go_simp
  with_reducible rfl
 refine wpAnyH_take (i:=1) (v:=?_) rfl (by kernel_rfl) (by kernel_rfl) (by kernel_rfl) (fun _ _ _ h=>h) (Or.inl ⟨by rfl,?_⟩) (by assumption) ?_
 rotate_left
 ·intro w hSw
  go_simp
  with_reducible rfl
 refine wpAnyH_take (i:=2) (v:=?_) rfl (by kernel_rfl) (by kernel_rfl) (by kernel_rfl) (fun _ _ _ h=>h) (Or.inl ⟨by rfl,?_⟩) (by assumption) ?_
 rotate_left
 ·intro w hSw
  go_simp
  with_reducible rfl
 refine wpAnyH_take (i:=3) (v:=?_) rfl (by kernel_rfl) (by kernel_rfl) (by kernel_rfl) (fun _ _ _ h=>h) (Or.inl ⟨by rfl,?_⟩) (by assumption) ?_
 rotate_left
 ·intro w hSw
  go_simp
  with_reducible rfl
 refine wpAnyH_take (i:=4) (v:=?_) rfl (by kernel_rfl) (by kernel_rfl) (by kernel_rfl) (fun _ _ _ h=>h) (Or.inl ⟨by rfl,?_⟩) (by assumption) ?_
 rotate_left
 ·intro w hSw
  go_simp
  with_reducible rfl
 refine wpAnyH_take (i:=5) (v:=?_) rfl (by kernel_rfl) (by kernel_rfl) (by kernel_rfl) (fun _ _ _ h=>h) (Or.inl ⟨by rfl,?_⟩) (by assumption) ?_
 rotate_left
 ·intro w hSw
  go_simp
  with_reducible rfl
 refine wpAnyH_take (i:=6) (v:=?_) rfl (by kernel_rfl) (by kernel_rfl) (by kernel_rfl) (fun _ _ _ h=>h) (Or.inl ⟨by rfl,?_⟩) (by assumption) ?_
 rotate_left
 ·intro w hSw
  go_simp
  with_reducible rfl
 refine wpAnyH_take (i:=7) (v:=?_) rfl (by kernel_rfl) (by kernel_rfl) (by kernel_rfl) (fun _ _ _ h=>h) (Or.inl ⟨by rfl,?_⟩) (by assumption) ?_
 rotate_left
 ·intro w hSw
  go_simp
  with_reducible rfl
 have HH0:Hid (Hd S1 wd):=hHeld
 refine wpAnyH_ready (rs:=[8]) (by kernel_rfl) (by simp) ?_
 refine AllReadyH.cons rfl (fun K hK=>?_) ?_
 ·go_simp
  go_fit (c13_nb (v:=s) (by omega))
  rintro e w5 ⟨v5,rfl,own5,hb5⟩
  refine hK.out _ _ ?_ (fun hHeld2=>?_)
  ·exact KL1.out _ _ hHeld hb5
  ·clear hK K hHeld
   have hHeld:=hHeld2
   clear hHeld2
   have bel:=below_step (KB1.out _ HH0.out) hb5
   have own:=own_lowP own5 (KB1.out _ HH0.out).size
   clear hb5 own5
   refine wpAnyH_take (i:=9) (v:=?_) rfl (by kernel_rfl) (by kernel_rfl) (by kernel_rfl) (fun _ _ _ h=>h) (Or.inl ⟨by rfl,?_⟩) (by assumption) ?_
   rotate_left
   ·intro w hSw
    go_simp
    with_reducible rfl
   refine wpAnyH_done (by kernel_rfl) ?_ _
   refine NoPanic.normal ?_
   clear cx cz lx
   by_cases gx:cap=2
   ·go_wp2_with fail
    obtain ⟨W,hW⟩:∃ z,z=w5:=⟨_,rfl⟩
    rw [← hW] at own bel ⊢
    clear hW
    go_loopw [4,23] (fun bv iv wx=>∃ (i:Nat) (X:List Int),i≤N - 2∧iv=.int .i64 (i:Int)∧wx.ownsRow w1.heap.size 5 1 bv X.length (u8s X)∧X.length≤10 * (i + 1)∧Hid (X=b7s ((valsO L).take (i + 1)))∧Below w1.heap.size w1 wx) (fun _ iv _=>N - (intOf iv).toNat)
    case atStart=>exact ⟨0,b7 s,by omega,rfl,own,b7_len s,HX0,bel⟩
    case round =>
     clear own bel HX0
     obtain ⟨i,X,hi,rfl,own,hX,HX,bel⟩:=hrel
     by_cases hil:i < N - 2
     ·exact absurd hil (by omega)
     ·have k1:¬ (i:Int) < ((N - 2:Nat):Int):=by omega
      have H:Hid (oidOf L=.ok X):=by
       show _=_
       rw [HOk.out,HX.out,List.take_of_length_le (by rw [vals_len (by rw [HN.out];omega),HN.out];omega)]
      have HO:Hid _:=own
      clear own HX
      go_wp2_with fail
      refine bodyPost_ret (results_tmp2 rfl _ _ _) rfl ?_
      exact RetB.ok H.out (Bs.of_own HO.out) (newV_own HO.out) bel
   ·go_wp2_with fail
    obtain ⟨W,hW⟩:∃ z,z=w5:=⟨_,rfl⟩
    rw [← hW] at own bel ⊢
    clear hW
    go_loopw [4,23] (fun bv iv wx=>∃ (i:Nat) (X:List Int),i≤N - 2∧iv=.int .i64 (i:Int)∧wx.ownsRow w1.heap.size 5 1 bv X.length (u8s X)∧X.length≤10 * (i + 1)∧Hid (X=b7s ((valsO L).take (i + 1)))∧Below w1.heap.size w1 wx) (fun _ iv _=>N - (intOf iv).toNat)
    case atStart=>exact ⟨0,b7 s,by omega,rfl,own,b7_len s,HX0,bel⟩
    case round =>
     clear own bel HX0
     obtain ⟨i,X,hi,rfl,own,hX,HX,bel⟩:=hrel
     by_cases hil:i < N - 2
     ·have k1:(i:Int) < ((N - 2:Nat):Int):=by omega
      have k2:(0:Int)≤(i:Int):=by omega
      have gi:IntKind.i64.wrap ((i:Int) + 1)=(i:Int) + 1:=by rw [IntKind.wrap_i64];omega
      obtain ⟨g',o',e',cy0,_⟩:=HC.out (2 + i) (by omega)
      obtain ⟨rfl,rfl⟩:g=g'∧o=o':=by simpa using e'
      clear e'
      have cy:=(bel.cell (p:=⟨g,o + (2 + i),none⟩) lg).trans cy0
      have yb:=HB.out (2 + i)
      have ym:=HBd.out (2 + i) (by rw [HN.out];omega)
      have HV1:Hid ((valsO L).getD (i + 1) 0=(L.getD (2 + i) 0).toNat):=by
       have:=vals_at (L:=L) (i:=2 + i) (by omega) (by rw [HN.out];omega)
       rw [if_neg (by omega),show 2 + i - 1=i + 1 by omega] at this
       exact this
      obtain ⟨y',hy⟩:∃ y,L.getD (2 + i) 0=y:=⟨_,rfl⟩
      rw [hy] at cy yb ym HV1
      clear hy cy0
      obtain ⟨y,rfl⟩:=Int.eq_ofNat_of_zero_le yb.1
      rw [Int.toNat_natCast] at HV1
      rw [← Nat.add_assoc] at cy
      have lg2:g < wr.heap.size:=Nat.lt_of_lt_of_le lg bel.size
      have HX2:Hid (X++b7 y=b7s ((valsO L).take (i + 1 + 1))):=by
       show _=_
       rw [b7s_next (by rw [vals_len (by rw [HN.out];omega),HN.out];omega),← HX.out,HV1.out]
      have HO:Hid _:=own
      clear own HX HV1
      go_wp2_with fail
      refine (c13_nb (v:=y) (by omega)).mono ?_
      rintro e w6 ⟨v6,rfl,own6,hb6⟩
      have o0:=own_laterP HO.out hb6
      have b0:=Bs.of_own own6
      have hbl:=below_step bel hb6
      have hsz:w1.heap.size≤w6.heap.size:=hbl.size
      have h10:=b7_len y
      clear HO own6
      go_wp2_with (first|(at_builtin;refine wpList_append_bs (by rfl) _ _ (by rfl) w1.heap.size _ X.length X (by rfl) o0 _ (b7 y) (by rfl) b0 (by omega) hsz ?_;intro v7 w7 own7 hgrow hat)|fail)
      have bel7:=below_own (base:=w1.heap.size) hbl hgrow hsz (fun g hg=>own_geM o0 hg) (Nat.le_refl _)
      go_roundw
      case rel=>exact ⟨i + 1,X++b7 y,by omega,by go_num,by rw [List.length_append];exact own7,by rw [List.length_append];omega,HX2,bel7⟩
      case measure=>simp [intOf];omega
     ·have k1:¬ (i:Int) < ((N - 2:Nat):Int):=by omega
      have H:Hid (oidOf L=.ok X):=by
       show _=_
       rw [HOk.out,HX.out,List.take_of_length_le (by rw [vals_len (by rw [HN.out];omega),HN.out];omega)]
      have HO:Hid _:=own
      clear own HX
      go_wp2_with fail
      refine bodyPost_ret (results_tmp2 rfl _ _ _) rfl ?_
      exact RetB.ok H.out (Bs.of_own HO.out) (newV_own HO.out) bel
 exact AllReadyH.nil
theorem con_OidOf {v:Value} {L:List Int} {w:World} (hv:Us w v L) (b:wrd L) :
  Calls Tryz.prog 122 #[v] w fun e w'=>(∀ n,oidOf L=.ok n→∃ v':Value,e=.returned (.tuple #[v',.nilIface])∧Bs w' v' n∧NewV w v'∧Below w.heap.size w w')∧(∀ c,oidOf L=.error c→∃ (ao:Option Addr) (cap:Nat),e=.returned (.tuple #[.slice ao 0 cap,.iface 46 (.int .i64 (c:Int))])∧Below w.heap.size w w'):=(c13_OidOf hv b).mono (fun _ _ h=>h)
end Go.Proofs.YtohcdbifhnfcbaaGreatDoor
