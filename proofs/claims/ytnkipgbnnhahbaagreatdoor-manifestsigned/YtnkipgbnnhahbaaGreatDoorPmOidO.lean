/- The document's OidOf of layer 13. -/
import Derived.Test.YtnkipgbnnhahbaaGreatDoorHeld3
import Derived.Test.YtnkipgbnnhahbaaGreatDoorCtPl
import Derived.Test.YtnkipgbnnhahbaaGreatDoorClWr
import Derived.Test.YtnkipgbnnhahbaaGreatDoorRows
import Derived.Deep.OwnRows
import Derived.Deep.AppendLies
import Derived.Deep.WholeRow
import Derived.Deep.RegionHeld3
import Derived.Deep.DeepCutAuto
import Derived.Deep.DeepFit
namespace Go.Proofs.YtnkipgbnnhahbaaGreatDoor
open Go.RowKit
theorem own_laterU {w w':World} {base size:Nat} {e:TypeId} {v:Value} {n:Nat} {xs:List Value} (h:w.ownsRow base e size v n xs) (hb:Below w.heap.size w w'):w'.ownsRow base e size v n xs:=by
 obtain ⟨hl,h⟩:=h
 rcases h with h|⟨b,cap,cur,h1,h2,h3,h4⟩
 ·exact ⟨hl,.inl h⟩
 ·exact ⟨hl,.inr ⟨b,cap,cur,h1,h2,by rw [hb.block b (Array.getElem?_eq_some_iff.1 h3).1];exact h3,h4⟩⟩
set_option linter.unusedSimpArgs false in
set_option maxRecDepth 100000 in
set_option maxHeartbeats 2000000 in
theorem r13_OidOfN {v:Value} {L:List Int} {w:World} (hv:Us w v L) (b:wrd L) :
  Calls Tryz.prog 74 #[v] w fun e w'=>(∀ n,oidOf L=.ok n→∃ v':Value,e=.returned (.tuple #[v',.int .i64 0])∧Bs w' v' n∧NewV w v'∧Below w.heap.size w w')∧(∀ c,oidOf L=.error c→e=.returned (.tuple #[.slice none 0 0,.int .i64 (c:Int)])∧Below w.heap.size w w'):=by
 have HB:Hid (wrd L):=b
 clear b
 obtain ⟨ao,cap,rfl,h1,h2,h3⟩:=hv
 obtain ⟨M,hM⟩:∃ M,L.length=M:=⟨_,rfl⟩
 have HM:Hid (L.length=M):=hM
 rw [hM] at h2 h3 ⊢
 clear hM
 unfold maxLen at h1
 by_cases c1:M < 2
 ·have H:Hid (oidOf L=.error 1):=by show _=_;unfold oidOf;rw [HM.out,if_pos (.inl c1)]
  have k1:(M:Int) < 2:=by omega
  clear h3
  go_enter Tryz.func74,Tryz.ntmps74
  go_wp2_with fail
  refine bodyPost_ret (results_tmp2 rfl _ _ _) rfl ?_
  exact ⟨fun n h=>(by rw [H.out] at h;cases h),fun c h=>(by rw [H.out] at h;cases h;exact ⟨rfl,Below.refl _ _⟩)⟩
 have k1:¬ (M:Int) < 2:=by omega
 by_cases c2:16 < M
 ·have H:Hid (oidOf L=.error 1):=by show _=_;unfold oidOf;rw [HM.out,if_pos (.inr (.inl c2))]
  have k2:(16:Int) < (M:Int):=by omega
  clear h3
  go_enter Tryz.func74,Tryz.ntmps74
  go_wp2_with fail
  refine bodyPost_ret (results_tmp2 rfl _ _ _) rfl ?_
  exact ⟨fun n h=>(by rw [H.out] at h;cases h),fun c h=>(by rw [H.out] at h;cases h;exact ⟨rfl,Below.refl _ _⟩)⟩
 have k2:¬ (16:Int) < (M:Int):=by omega
 obtain ⟨g,o,rfl,lg,hc⟩:=h3 (by omega)
 have HC:Hid _:=hc
 clear h3 hc
 have e0:=HC.out 0 (by omega)
 have e1:=HC.out 1 (by omega)
 rw [Nat.add_zero] at e0
 have b0:=HB.out 0
 have b1:=HB.out 1
 obtain ⟨p,hp⟩:∃ p,L.getD 0 0=p:=⟨_,rfl⟩
 obtain ⟨q,hq⟩:∃ q,L.getD 1 0=q:=⟨_,rfl⟩
 have HP:Hid (L.getD 0 0=p):=hp
 have HQ:Hid (L.getD 1 0=q):=hq
 rw [hp] at e0 b0
 rw [hq] at e1 b1
 clear hp hq
 have k3:(1:Int) < (M:Int):=by omega
 have k4:(0:Int) < (M:Int):=by omega
 by_cases c3:2 < p
 ·have H:Hid (oidOf L=.error 1):=by show _=_;unfold oidOf;rw [HM.out,HP.out,if_pos (.inr (.inr (.inl c3)))]
  go_enter Tryz.func74,Tryz.ntmps74
  go_wp2_with fail
  refine bodyPost_ret (results_tmp2 rfl _ _ _) rfl ?_
  exact ⟨fun n h=>(by rw [H.out] at h;cases h),fun c h=>(by rw [H.out] at h;cases h;exact ⟨rfl,Below.refl _ _⟩)⟩
 by_cases c4:p < 2
 ·by_cases c5:39 < q
  ·have H:Hid (oidOf L=.error 1):=by show _=_;unfold oidOf;rw [HM.out,HP.out,HQ.out,if_pos (.inr (.inr (.inr ⟨c4,c5⟩)))]
   go_enter Tryz.func74,Tryz.ntmps74
   go_wp2_with fail
   refine bodyPost_ret (results_tmp2 rfl _ _ _) rfl ?_
   exact ⟨fun n h=>(by rw [H.out] at h;cases h),fun c h=>(by rw [H.out] at h;cases h;exact ⟨rfl,Below.refl _ _⟩)⟩
  ·have HF:Hid (oidOf L=if ∃ j,j < L.length∧4294967295 < L.getD j 0 then .error 1 else .ok (b7s (valsO L))):=by show _=_;unfold oidOf;rw [if_neg (by rw [HM.out,HP.out,HQ.out];omega)]
   go_enter Tryz.func74,Tryz.ntmps74
   go_wp2_with fail
   go_loop [4] (fun iv=>∃ i:Nat,i≤M∧iv=.int .i64 (i:Int)∧Hid (∀ j,j < i→¬ 4294967295 < L.getD j 0)) (fun iv=>M - (intOf iv).toNat)
   case atStart=>exact ⟨0,by omega,rfl,fun j hj=>absurd hj (by omega)⟩
   case round =>
    obtain ⟨i,hi,rfl,HO⟩:=hrel
    by_cases hil:i < M
    ·have g1:(i:Int) < (M:Int):=by omega
     have g2:(0:Int)≤(i:Int):=by omega
     have gi:IntKind.i64.wrap ((i:Int) + 1)=(i:Int) + 1:=by rw [IntKind.wrap_i64];omega
     have cx:=HC.out i hil
     obtain ⟨x,hx⟩:∃ x,L.getD i 0=x:=⟨_,rfl⟩
     have HX:Hid (L.getD i 0=x):=hx
     rw [hx] at cx
     clear hx
     by_cases k:4294967295 < x
     ·have H:Hid (oidOf L=.error 1):=by show _=_;rw [HF.out,if_pos ⟨i,by rw [HM.out];exact hil,by rw [HX.out];exact k⟩]
      go_wp2_with fail
      refine bodyPost_ret (results_tmp2 rfl _ _ _) rfl ?_
      exact ⟨fun n h=>(by rw [H.out] at h;cases h),fun c h=>(by rw [H.out] at h;cases h;exact ⟨rfl,Below.refl _ _⟩)⟩
     ·have HO2:Hid (∀ j,j < i + 1→¬ 4294967295 < L.getD j 0):=fun j hj=>by
       by_cases e:j < i
       ·exact HO.out j e
       ·rw [show j=i by omega,HX.out];exact k
      clear HO
      go_wp2_with fail
      go_round
      case rel=>exact ⟨i + 1,by omega,by go_num,HO2⟩
      case measure=>simp [intOf];omega
    ·have HI9:Hid (i=M):=by show i=M;omega
     have g1:¬ (i:Int) < (M:Int):=by omega
     have HOk:Hid (∀ j,j < M→¬ 4294967295 < L.getD j 0):=fun j hj=>HO.out j (by rw [HI9.out];exact hj)
     have H:Hid (oidOf L=.ok (b7s (valsO L))):=by show _=_;rw [HF.out,if_neg (fun ⟨j,k1,k2⟩=>HOk.out j (by rw [← HM.out];exact k1) k2)]
     clear HF HO HI9
     go_wp2_with fail
     obtain ⟨W,hW⟩:∃ z,z=w:=⟨_,rfl⟩
     have HWw:Hid (W=w):=hW
     rw [← hW]
     clear hW
     go_loopw [5,6] (fun ov iv wx=>∃ k:Nat,k + 1≤M∧iv=.int .i64 ((k + 1:Nat):Int)∧wx.ownsRow w.heap.size 5 1 ov (b7s ((valsO L).take k)).length (u8s (b7s ((valsO L).take k)))∧Below w.heap.size w wx) (fun _ iv _=>M - (intOf iv).toNat)
     case atStart=>exact ⟨0,by omega,rfl,⟨rfl,.inl ⟨rfl,rfl⟩⟩,by rw [HWw.out];exact Below.refl _ _⟩
     case round =>
      clear g1
      obtain ⟨k,hk,rfl,hown,bel⟩:=hrel
      obtain ⟨i,hi1⟩:∃ i,k + 1=i:=⟨_,rfl⟩
      have HKi:Hid (k + 1=i):=hi1
      rw [hi1] at hk ⊢
      by_cases hil:i < M
      ·have g1:(i:Int) < (M:Int):=by omega
       have g2:(0:Int)≤(i:Int):=by omega
       have gi:IntKind.i64.wrap ((i:Int) + 1)=(i:Int) + 1:=by rw [IntKind.wrap_i64];omega
       have cx:=(bel.cell (p:=⟨g,o + i,none⟩) lg).trans (HC.out i hil)
       have f0:=(bel.cell (p:=⟨g,o,none⟩) lg).trans e0
       have lgr:=Nat.lt_of_lt_of_le lg bel.size
       have ok1:=HOk.out i hil
       have ok0:=HOk.out 1 (by omega)
       rw [HQ.out] at ok0
       have xb:=HB.out i
       have HVal:Hid ((valsO L).getD k 0=if i=1 then (q + 40 * p).toNat else (L.getD i 0).toNat):=by
        have:=vals_at (L:=L) (i:=i) (by omega) (by rw [HM.out];exact hil)
        rw [HP.out,HQ.out,show i - 1=k by have:=HKi.out;omega] at this
        exact this
       have HNx:Hid (b7s ((valsO L).take (k + 1))=b7s ((valsO L).take k)++b7 ((valsO L).getD k 0)):=b7s_next (by rw [vals_len (by rw [HM.out];omega),HM.out];have:=HKi.out;omega)
       have HLen:Hid ((b7s ((valsO L).take k)).length≤160):=by
        have h1:=b7s_len ((valsO L).take k)
        rw [List.length_take,vals_len (by rw [HM.out];omega),HM.out] at h1
        show _≤_
        omega
       obtain ⟨T,hT⟩:∃ T,b7s ((valsO L).take k)=T:=⟨_,rfl⟩
       rw [hT] at hown HNx HLen
       clear hT
       obtain ⟨x,hx⟩:∃ x,L.getD i 0=x:=⟨_,rfl⟩
       rw [hx] at cx ok1 xb HVal
       have HX:Hid (L.getD i 0=x):=hx
       clear hx hi1
       obtain ⟨V,hV⟩:∃ V,(valsO L).getD k 0=V:=⟨_,rfl⟩
       rw [hV] at HVal HNx
       clear hV
       by_cases i1:i=1
       ·have ej:x=q:=by rw [← HX.out,i1];exact HQ.out
        have i2:(i:Int)=1:=by omega
        have hVq:(V:Int)=q + 40 * p:=by have:=HVal.out;rw [if_pos i1] at this;omega
        have j1:IntKind.u64.wrap (40 * p)=40 * p:=by rw [IntKind.wrap_u64];omega
        have j2:IntKind.u64.wrap (x + 40 * p)=(V:Int):=by rw [IntKind.wrap_u64];omega
        have Vb:V≤4294967375:=by omega
        clear hVq ej
        subst i1
        generalize wr=wo at *
        have q1:(V:Int).tmod 128=((V % 128:Nat):Int):=by rw [Int.tmod_eq_emod_of_nonneg (by omega)];omega
        have q2:(V:Int).tdiv 128=((V / 128:Nat):Int):=by rw [Int.tdiv_eq_ediv_of_nonneg (by omega)];omega
        have q3:IntKind.u64.wrap ((V / 128:Nat):Int)=((V / 128:Nat):Int):=by rw [IntKind.wrap_u64];omega
        have q4:IntKind.u64.wrap ((V % 128:Nat):Int)=((V % 128:Nat):Int):=by rw [IntKind.wrap_u64];omega
        have q5:IntKind.u8.wrap ((V % 128:Nat):Int)=((V % 128:Nat):Int):=by rw [IntKind.wrap_u8];omega
        obtain ⟨y,hy⟩:∃ y,V % 128=y:=⟨_,rfl⟩
        obtain ⟨d,hd⟩:∃ d,V / 128=d:=⟨_,rfl⟩
        have HB7:Hid (b7 V=b7F 9 d [(y:Int)]):=by show _=_;rw [← hy,← hd];rfl
        have hdb:d≤33554433:=by omega
        have HD9:Hid (d < 128 ^ 9):=by
         have:(128:Nat) ^ 9=9223372036854775808:=by decide
         show _ < _
         omega
        rw [hy] at q1 q4 q5
        rw [hd] at q2 q3
        clear hy hd
        have own4:=own_made wo [.int .u8 (y:Int)] 5 1 wo.heap.size rfl (Nat.le_refl _) (by decide)
        have hbl:Below wo.heap.size wo (wo.alloc (.cells #[.int .u8 (y:Int)] 5)):=(Below.refl _ _).alloc (Nat.le_refl _) _
        have bs4:Bs _ _ [(y:Int)]:=Bs.of_own own4
        clear own4
        go_wp2_with fail
        obtain ⟨wa,hwa⟩:∃ z,z=wo.alloc (.cells #[.int .u8 (y:Int)] 5):=⟨_,rfl⟩
        rw [← hwa] at bs4 hbl ⊢
        clear hwa g1 gi cx f0 lgr q1 q2 q3 q4 q5 j1 j2
        go_loopw [7,8] (fun xv bv wx=>∃ (u f:Nat) (X:List Int),u≤33554433∧f≤9∧xv=.int .u64 (u:Int)∧Bs wx bv X∧X.length + f≤10∧Hid (u < 128 ^ f)∧Hid (b7 V=b7F f u X)∧Below wo.heap.size wo wx) (fun xv _ _=>(intOf xv).toNat)
        case atStart=>exact ⟨d,9,[(y:Int)],hdb,by omega,rfl,bs4,by simp,HD9,HB7,hbl⟩
        case round =>
         clear bs4 hbl hdb HD9 HB7
         obtain ⟨u,f,X,hu,hf,rfl,bs,hXl,HU,HE,hbi⟩:=hrel
         by_cases h0:0 < u
         ·have t1:(0:Int) < (u:Int):=by omega
          have q1:(u:Int).tmod 128=((u % 128:Nat):Int):=by rw [Int.tmod_eq_emod_of_nonneg (by omega)];omega
          have q2:(u:Int).tdiv 128=((u / 128:Nat):Int):=by rw [Int.tdiv_eq_ediv_of_nonneg (by omega)];omega
          have q3:IntKind.u64.wrap ((u / 128:Nat):Int)=((u / 128:Nat):Int):=by rw [IntKind.wrap_u64];omega
          have q4:IntKind.u64.wrap ((u % 128:Nat):Int)=((u % 128:Nat):Int):=by rw [IntKind.wrap_u64];omega
          have q5:IntKind.u64.wrap (128 + ((u % 128:Nat):Int))=((128 + u % 128:Nat):Int):=by rw [IntKind.wrap_u64];omega
          have q6:IntKind.u8.wrap ((128 + u % 128:Nat):Int)=((128 + u % 128:Nat):Int):=by rw [IntKind.wrap_u8];omega
          obtain ⟨f',rfl⟩:∃ f',f=f' + 1:=⟨f - 1,by have:=HU.out;cases f with|zero=>simp at this;omega|succ f=>omega⟩
          have HE2:Hid (b7 V=b7F f' (u / 128) (((128 + u % 128:Nat):Int) :: X)):=by show _=_;rw [HE.out,b7F,if_neg (by omega)]
          have HU2:Hid (u / 128 < 128 ^ f'):=by have:=HU.out;rw [Nat.pow_succ] at this;show _ < _;omega
          have hme:u / 128 < u:=by omega
          obtain ⟨c,hc⟩:∃ c,u % 128=c:=⟨_,rfl⟩
          obtain ⟨e,he⟩:∃ e,u / 128=e:=⟨_,rfl⟩
          rw [hc] at q1 q4 q5 q6 HE2
          rw [he] at q2 q3 HE2 HU2 hme
          obtain ⟨z,hz⟩:∃ z,128 + c=z:=⟨_,rfl⟩
          rw [hz] at q5 q6 HE2
          clear hc he hz HE HU
          have own4:=own_made wr [.int .u8 (z:Int)] 5 1 wr.heap.size rfl (Nat.le_refl _) (by decide)
          have hbl:Below wr.heap.size wr (wr.alloc (.cells #[.int .u8 (z:Int)] 5)):=(Below.refl _ _).alloc (Nat.le_refl _) _
          have bs4:=bs.later hbl
          go_upto_region 19 with (first|(at_builtin;refine wpList_append_bs (by rfl) _ _ (by rfl) wr.heap.size _ 1 [(z:Int)] (by rfl) own4 _ X (by rfl) bs4 (by omega) (by simp) ?_;intro v5 w5 own5 hgrow hat)|fail)
          have hb5:=below_own (base:=wr.heap.size) hbl hgrow (by simp) (fun g hg=>own_geM own4 hg) (Nat.le_refl _)
          have b5:=Bs.of_own own5
          replace hbi:=hbi.trans (hb5.mono hbi.size)
          clear own4 hbl bs4 hgrow hat own5 hb5 bs
          go_wp2_with fail
          go_roundw
          case rel=>exact ⟨e,f',(z:Int) :: X,by omega,by omega,rfl,b5,by rw [List.length_cons];omega,HU2,HE2,hbi⟩
          case measure=>simp [intOf];omega
         ·have t1:¬ (0:Int) < (u:Int):=by omega
          have u0:u=0:=by omega
          subst u0
          have HE2:Hid (b7 V=X):=by show _=_;rw [HE.out,b7F_0]
          have own6:=own_laterU hown hbi
          have bel6:=below_step bel hbi
          have hs6:=bel6.size
          have HXs:Hid (X.length≤10):=by show _≤_;omega
          have gi:IntKind.i64.wrap ((i:Int) + 1)=(i:Int) + 1:=by rw [IntKind.wrap_i64];omega
          go_upto_region 11 with (first|(at_builtin;refine wpList_append_bs (by rfl) _ _ (by rfl) w.heap.size _ T.length T (by rfl) own6 _ X (by rfl) bs (by have:=HXs.out;have:=HLen.out;omega) hs6 ?_;intro v7 w7 own7 hgrow7 hat7)|fail)
          have bel7:=below_own (base:=w.heap.size) bel6 hgrow7 hs6 (fun g hg=>own_geM own6 hg) (Nat.le_refl _)
          rw [← List.length_append,← HE2.out,← HNx.out] at own7
          clear own6 bel6 hs6 hgrow7 hat7 bs hown
          go_wp2_with fail
          go_roundw
          case rel=>exact ⟨k + 1,by have:=HKi.out;omega,congrArg (Value.int .i64) (by have:=HKi.out;omega),own7,bel7⟩
          case measure=>have:=HKi.out;simp [intOf];omega
       ·have i2:¬ (i:Int)=1:=by omega
        have hVx:x=(V:Int):=by have:=HVal.out;rw [if_neg i1] at this;omega
        subst hVx
        have Vb:V≤4294967375:=by omega
        generalize wr=wo at *
        have q1:(V:Int).tmod 128=((V % 128:Nat):Int):=by rw [Int.tmod_eq_emod_of_nonneg (by omega)];omega
        have q2:(V:Int).tdiv 128=((V / 128:Nat):Int):=by rw [Int.tdiv_eq_ediv_of_nonneg (by omega)];omega
        have q3:IntKind.u64.wrap ((V / 128:Nat):Int)=((V / 128:Nat):Int):=by rw [IntKind.wrap_u64];omega
        have q4:IntKind.u64.wrap ((V % 128:Nat):Int)=((V % 128:Nat):Int):=by rw [IntKind.wrap_u64];omega
        have q5:IntKind.u8.wrap ((V % 128:Nat):Int)=((V % 128:Nat):Int):=by rw [IntKind.wrap_u8];omega
        obtain ⟨y,hy⟩:∃ y,V % 128=y:=⟨_,rfl⟩
        obtain ⟨d,hd⟩:∃ d,V / 128=d:=⟨_,rfl⟩
        have HB7:Hid (b7 V=b7F 9 d [(y:Int)]):=by show _=_;rw [← hy,← hd];rfl
        have hdb:d≤33554433:=by omega
        have HD9:Hid (d < 128 ^ 9):=by
         have:(128:Nat) ^ 9=9223372036854775808:=by decide
         show _ < _
         omega
        rw [hy] at q1 q4 q5
        rw [hd] at q2 q3
        clear hy hd
        have own4:=own_made wo [.int .u8 (y:Int)] 5 1 wo.heap.size rfl (Nat.le_refl _) (by decide)
        have hbl:Below wo.heap.size wo (wo.alloc (.cells #[.int .u8 (y:Int)] 5)):=(Below.refl _ _).alloc (Nat.le_refl _) _
        have bs4:Bs _ _ [(y:Int)]:=Bs.of_own own4
        clear own4
        go_wp2_with fail
        obtain ⟨wa,hwa⟩:∃ z,z=wo.alloc (.cells #[.int .u8 (y:Int)] 5):=⟨_,rfl⟩
        rw [← hwa] at bs4 hbl ⊢
        clear hwa g1 gi cx f0 lgr q1 q2 q3 q4 q5
        have ib:((i:Int) == 1)=false:=by simpa using i2
        rw [ib]
        clear ib i2
        go_loopw [7,8] (fun xv bv wx=>∃ (u f:Nat) (X:List Int),u≤33554433∧f≤9∧xv=.int .u64 (u:Int)∧Bs wx bv X∧X.length + f≤10∧Hid (u < 128 ^ f)∧Hid (b7 V=b7F f u X)∧Below wo.heap.size wo wx) (fun xv _ _=>(intOf xv).toNat)
        case atStart=>exact ⟨d,9,[(y:Int)],hdb,by omega,rfl,bs4,by simp,HD9,HB7,hbl⟩
        case round =>
         clear bs4 hbl hdb HD9 HB7
         obtain ⟨u,f,X,hu,hf,rfl,bs,hXl,HU,HE,hbi⟩:=hrel
         by_cases h0:0 < u
         ·have t1:(0:Int) < (u:Int):=by omega
          have q1:(u:Int).tmod 128=((u % 128:Nat):Int):=by rw [Int.tmod_eq_emod_of_nonneg (by omega)];omega
          have q2:(u:Int).tdiv 128=((u / 128:Nat):Int):=by rw [Int.tdiv_eq_ediv_of_nonneg (by omega)];omega
          have q3:IntKind.u64.wrap ((u / 128:Nat):Int)=((u / 128:Nat):Int):=by rw [IntKind.wrap_u64];omega
          have q4:IntKind.u64.wrap ((u % 128:Nat):Int)=((u % 128:Nat):Int):=by rw [IntKind.wrap_u64];omega
          have q5:IntKind.u64.wrap (128 + ((u % 128:Nat):Int))=((128 + u % 128:Nat):Int):=by rw [IntKind.wrap_u64];omega
          have q6:IntKind.u8.wrap ((128 + u % 128:Nat):Int)=((128 + u % 128:Nat):Int):=by rw [IntKind.wrap_u8];omega
          obtain ⟨f',rfl⟩:∃ f',f=f' + 1:=⟨f - 1,by have:=HU.out;cases f with|zero=>simp at this;omega|succ f=>omega⟩
          have HE2:Hid (b7 V=b7F f' (u / 128) (((128 + u % 128:Nat):Int) :: X)):=by show _=_;rw [HE.out,b7F,if_neg (by omega)]
          have HU2:Hid (u / 128 < 128 ^ f'):=by have:=HU.out;rw [Nat.pow_succ] at this;show _ < _;omega
          have hme:u / 128 < u:=by omega
          obtain ⟨c,hc⟩:∃ c,u % 128=c:=⟨_,rfl⟩
          obtain ⟨e,he⟩:∃ e,u / 128=e:=⟨_,rfl⟩
          rw [hc] at q1 q4 q5 q6 HE2
          rw [he] at q2 q3 HE2 HU2 hme
          obtain ⟨z,hz⟩:∃ z,128 + c=z:=⟨_,rfl⟩
          rw [hz] at q5 q6 HE2
          clear hc he hz HE HU
          have own4:=own_made wr [.int .u8 (z:Int)] 5 1 wr.heap.size rfl (Nat.le_refl _) (by decide)
          have hbl:Below wr.heap.size wr (wr.alloc (.cells #[.int .u8 (z:Int)] 5)):=(Below.refl _ _).alloc (Nat.le_refl _) _
          have bs4:=bs.later hbl
          go_upto_region 19 with (first|(at_builtin;refine wpList_append_bs (by rfl) _ _ (by rfl) wr.heap.size _ 1 [(z:Int)] (by rfl) own4 _ X (by rfl) bs4 (by omega) (by simp) ?_;intro v5 w5 own5 hgrow hat)|fail)
          have hb5:=below_own (base:=wr.heap.size) hbl hgrow (by simp) (fun g hg=>own_geM own4 hg) (Nat.le_refl _)
          have b5:=Bs.of_own own5
          replace hbi:=hbi.trans (hb5.mono hbi.size)
          clear own4 hbl bs4 hgrow hat own5 hb5 bs
          go_wp2_with fail
          go_roundw
          case rel=>exact ⟨e,f',(z:Int) :: X,by omega,by omega,rfl,b5,by rw [List.length_cons];omega,HU2,HE2,hbi⟩
          case measure=>simp [intOf];omega
         ·have t1:¬ (0:Int) < (u:Int):=by omega
          have u0:u=0:=by omega
          subst u0
          have HE2:Hid (b7 V=X):=by show _=_;rw [HE.out,b7F_0]
          have own6:=own_laterU hown hbi
          have bel6:=below_step bel hbi
          have hs6:=bel6.size
          have HXs:Hid (X.length≤10):=by show _≤_;omega
          have gi:IntKind.i64.wrap ((i:Int) + 1)=(i:Int) + 1:=by rw [IntKind.wrap_i64];omega
          go_upto_region 11 with (first|(at_builtin;refine wpList_append_bs (by rfl) _ _ (by rfl) w.heap.size _ T.length T (by rfl) own6 _ X (by rfl) bs (by have:=HXs.out;have:=HLen.out;omega) hs6 ?_;intro v7 w7 own7 hgrow7 hat7)|fail)
          have bel7:=below_own (base:=w.heap.size) bel6 hgrow7 hs6 (fun g hg=>own_geM own6 hg) (Nat.le_refl _)
          rw [← List.length_append,← HE2.out,← HNx.out] at own7
          clear own6 bel6 hs6 hgrow7 hat7 bs hown
          go_wp2_with fail
          go_roundw
          case rel=>exact ⟨k + 1,by have:=HKi.out;omega,congrArg (Value.int .i64) (by have:=HKi.out;omega),own7,bel7⟩
          case measure=>have:=HKi.out;simp [intOf];omega
      ·have g1:¬ (i:Int) < (M:Int):=by omega
       have HT:Hid ((valsO L).take k=valsO L):=by
        show _=_
        exact List.take_of_length_le (by rw [vals_len (by rw [HM.out];omega),HM.out];have:=HKi.out;omega)
       rw [HT.out] at hown
       have b9:=Bs.of_own hown
       have n9:=NewV.of_own hown
       clear hown hi1
       go_wp2_with fail
       refine bodyPost_ret (results_tmp2 rfl _ _ _) rfl ?_
       exact ⟨fun n h=>(by rw [H.out] at h;cases h;exact ⟨_,rfl,b9,n9,bel⟩),fun c h=>(by rw [H.out] at h;cases h)⟩
 ·have HF:Hid (oidOf L=if ∃ j,j < L.length∧4294967295 < L.getD j 0 then .error 1 else .ok (b7s (valsO L))):=by show _=_;unfold oidOf;rw [if_neg (by rw [HM.out,HP.out,HQ.out];omega)]
  go_enter Tryz.func74,Tryz.ntmps74
  go_wp2_with fail
  go_loop [4] (fun iv=>∃ i:Nat,i≤M∧iv=.int .i64 (i:Int)∧Hid (∀ j,j < i→¬ 4294967295 < L.getD j 0)) (fun iv=>M - (intOf iv).toNat)
  case atStart=>exact ⟨0,by omega,rfl,fun j hj=>absurd hj (by omega)⟩
  case round =>
   obtain ⟨i,hi,rfl,HO⟩:=hrel
   by_cases hil:i < M
   ·have g1:(i:Int) < (M:Int):=by omega
    have g2:(0:Int)≤(i:Int):=by omega
    have gi:IntKind.i64.wrap ((i:Int) + 1)=(i:Int) + 1:=by rw [IntKind.wrap_i64];omega
    have cx:=HC.out i hil
    obtain ⟨x,hx⟩:∃ x,L.getD i 0=x:=⟨_,rfl⟩
    have HX:Hid (L.getD i 0=x):=hx
    rw [hx] at cx
    clear hx
    by_cases k:4294967295 < x
    ·have H:Hid (oidOf L=.error 1):=by show _=_;rw [HF.out,if_pos ⟨i,by rw [HM.out];exact hil,by rw [HX.out];exact k⟩]
     go_wp2_with fail
     refine bodyPost_ret (results_tmp2 rfl _ _ _) rfl ?_
     exact ⟨fun n h=>(by rw [H.out] at h;cases h),fun c h=>(by rw [H.out] at h;cases h;exact ⟨rfl,Below.refl _ _⟩)⟩
    ·have HO2:Hid (∀ j,j < i + 1→¬ 4294967295 < L.getD j 0):=fun j hj=>by
      by_cases e:j < i
      ·exact HO.out j e
      ·rw [show j=i by omega,HX.out];exact k
     clear HO
     go_wp2_with fail
     go_round
     case rel=>exact ⟨i + 1,by omega,by go_num,HO2⟩
     case measure=>simp [intOf];omega
   ·have HI9:Hid (i=M):=by show i=M;omega
    have g1:¬ (i:Int) < (M:Int):=by omega
    have HOk:Hid (∀ j,j < M→¬ 4294967295 < L.getD j 0):=fun j hj=>HO.out j (by rw [HI9.out];exact hj)
    have H:Hid (oidOf L=.ok (b7s (valsO L))):=by show _=_;rw [HF.out,if_neg (fun ⟨j,k1,k2⟩=>HOk.out j (by rw [← HM.out];exact k1) k2)]
    clear HF HO HI9
    go_wp2_with fail
    obtain ⟨W,hW⟩:∃ z,z=w:=⟨_,rfl⟩
    have HWw:Hid (W=w):=hW
    rw [← hW]
    clear hW
    go_loopw [5,6] (fun ov iv wx=>∃ k:Nat,k + 1≤M∧iv=.int .i64 ((k + 1:Nat):Int)∧wx.ownsRow w.heap.size 5 1 ov (b7s ((valsO L).take k)).length (u8s (b7s ((valsO L).take k)))∧Below w.heap.size w wx) (fun _ iv _=>M - (intOf iv).toNat)
    case atStart=>exact ⟨0,by omega,rfl,⟨rfl,.inl ⟨rfl,rfl⟩⟩,by rw [HWw.out];exact Below.refl _ _⟩
    case round =>
     clear g1
     obtain ⟨k,hk,rfl,hown,bel⟩:=hrel
     obtain ⟨i,hi1⟩:∃ i,k + 1=i:=⟨_,rfl⟩
     have HKi:Hid (k + 1=i):=hi1
     rw [hi1] at hk ⊢
     by_cases hil:i < M
     ·have g1:(i:Int) < (M:Int):=by omega
      have g2:(0:Int)≤(i:Int):=by omega
      have gi:IntKind.i64.wrap ((i:Int) + 1)=(i:Int) + 1:=by rw [IntKind.wrap_i64];omega
      have cx:=(bel.cell (p:=⟨g,o + i,none⟩) lg).trans (HC.out i hil)
      have f0:=(bel.cell (p:=⟨g,o,none⟩) lg).trans e0
      have lgr:=Nat.lt_of_lt_of_le lg bel.size
      have ok1:=HOk.out i hil
      have ok0:=HOk.out 1 (by omega)
      rw [HQ.out] at ok0
      have xb:=HB.out i
      have HVal:Hid ((valsO L).getD k 0=if i=1 then (q + 40 * p).toNat else (L.getD i 0).toNat):=by
       have:=vals_at (L:=L) (i:=i) (by omega) (by rw [HM.out];exact hil)
       rw [HP.out,HQ.out,show i - 1=k by have:=HKi.out;omega] at this
       exact this
      have HNx:Hid (b7s ((valsO L).take (k + 1))=b7s ((valsO L).take k)++b7 ((valsO L).getD k 0)):=b7s_next (by rw [vals_len (by rw [HM.out];omega),HM.out];have:=HKi.out;omega)
      have HLen:Hid ((b7s ((valsO L).take k)).length≤160):=by
       have h1:=b7s_len ((valsO L).take k)
       rw [List.length_take,vals_len (by rw [HM.out];omega),HM.out] at h1
       show _≤_
       omega
      obtain ⟨T,hT⟩:∃ T,b7s ((valsO L).take k)=T:=⟨_,rfl⟩
      rw [hT] at hown HNx HLen
      clear hT
      obtain ⟨x,hx⟩:∃ x,L.getD i 0=x:=⟨_,rfl⟩
      rw [hx] at cx ok1 xb HVal
      have HX:Hid (L.getD i 0=x):=hx
      clear hx hi1
      obtain ⟨V,hV⟩:∃ V,(valsO L).getD k 0=V:=⟨_,rfl⟩
      rw [hV] at HVal HNx
      clear hV
      by_cases i1:i=1
      ·have ej:x=q:=by rw [← HX.out,i1];exact HQ.out
       have i2:(i:Int)=1:=by omega
       have hVq:(V:Int)=q + 40 * p:=by have:=HVal.out;rw [if_pos i1] at this;omega
       have j1:IntKind.u64.wrap (40 * p)=40 * p:=by rw [IntKind.wrap_u64];omega
       have j2:IntKind.u64.wrap (x + 40 * p)=(V:Int):=by rw [IntKind.wrap_u64];omega
       have Vb:V≤4294967375:=by omega
       clear hVq ej
       subst i1
       generalize wr=wo at *
       have q1:(V:Int).tmod 128=((V % 128:Nat):Int):=by rw [Int.tmod_eq_emod_of_nonneg (by omega)];omega
       have q2:(V:Int).tdiv 128=((V / 128:Nat):Int):=by rw [Int.tdiv_eq_ediv_of_nonneg (by omega)];omega
       have q3:IntKind.u64.wrap ((V / 128:Nat):Int)=((V / 128:Nat):Int):=by rw [IntKind.wrap_u64];omega
       have q4:IntKind.u64.wrap ((V % 128:Nat):Int)=((V % 128:Nat):Int):=by rw [IntKind.wrap_u64];omega
       have q5:IntKind.u8.wrap ((V % 128:Nat):Int)=((V % 128:Nat):Int):=by rw [IntKind.wrap_u8];omega
       obtain ⟨y,hy⟩:∃ y,V % 128=y:=⟨_,rfl⟩
       obtain ⟨d,hd⟩:∃ d,V / 128=d:=⟨_,rfl⟩
       have HB7:Hid (b7 V=b7F 9 d [(y:Int)]):=by show _=_;rw [← hy,← hd];rfl
       have hdb:d≤33554433:=by omega
       have HD9:Hid (d < 128 ^ 9):=by
        have:(128:Nat) ^ 9=9223372036854775808:=by decide
        show _ < _
        omega
       rw [hy] at q1 q4 q5
       rw [hd] at q2 q3
       clear hy hd
       have own4:=own_made wo [.int .u8 (y:Int)] 5 1 wo.heap.size rfl (Nat.le_refl _) (by decide)
       have hbl:Below wo.heap.size wo (wo.alloc (.cells #[.int .u8 (y:Int)] 5)):=(Below.refl _ _).alloc (Nat.le_refl _) _
       have bs4:Bs _ _ [(y:Int)]:=Bs.of_own own4
       clear own4
       go_wp2_with fail
       obtain ⟨wa,hwa⟩:∃ z,z=wo.alloc (.cells #[.int .u8 (y:Int)] 5):=⟨_,rfl⟩
       rw [← hwa] at bs4 hbl ⊢
       clear hwa g1 gi cx f0 lgr q1 q2 q3 q4 q5 j1 j2
       go_loopw [7,8] (fun xv bv wx=>∃ (u f:Nat) (X:List Int),u≤33554433∧f≤9∧xv=.int .u64 (u:Int)∧Bs wx bv X∧X.length + f≤10∧Hid (u < 128 ^ f)∧Hid (b7 V=b7F f u X)∧Below wo.heap.size wo wx) (fun xv _ _=>(intOf xv).toNat)
       case atStart=>exact ⟨d,9,[(y:Int)],hdb,by omega,rfl,bs4,by simp,HD9,HB7,hbl⟩
       case round =>
        clear bs4 hbl hdb HD9 HB7
        obtain ⟨u,f,X,hu,hf,rfl,bs,hXl,HU,HE,hbi⟩:=hrel
        by_cases h0:0 < u
        ·have t1:(0:Int) < (u:Int):=by omega
         have q1:(u:Int).tmod 128=((u % 128:Nat):Int):=by rw [Int.tmod_eq_emod_of_nonneg (by omega)];omega
         have q2:(u:Int).tdiv 128=((u / 128:Nat):Int):=by rw [Int.tdiv_eq_ediv_of_nonneg (by omega)];omega
         have q3:IntKind.u64.wrap ((u / 128:Nat):Int)=((u / 128:Nat):Int):=by rw [IntKind.wrap_u64];omega
         have q4:IntKind.u64.wrap ((u % 128:Nat):Int)=((u % 128:Nat):Int):=by rw [IntKind.wrap_u64];omega
         have q5:IntKind.u64.wrap (128 + ((u % 128:Nat):Int))=((128 + u % 128:Nat):Int):=by rw [IntKind.wrap_u64];omega
         have q6:IntKind.u8.wrap ((128 + u % 128:Nat):Int)=((128 + u % 128:Nat):Int):=by rw [IntKind.wrap_u8];omega
         obtain ⟨f',rfl⟩:∃ f',f=f' + 1:=⟨f - 1,by have:=HU.out;cases f with|zero=>simp at this;omega|succ f=>omega⟩
         have HE2:Hid (b7 V=b7F f' (u / 128) (((128 + u % 128:Nat):Int) :: X)):=by show _=_;rw [HE.out,b7F,if_neg (by omega)]
         have HU2:Hid (u / 128 < 128 ^ f'):=by have:=HU.out;rw [Nat.pow_succ] at this;show _ < _;omega
         have hme:u / 128 < u:=by omega
         obtain ⟨c,hc⟩:∃ c,u % 128=c:=⟨_,rfl⟩
         obtain ⟨e,he⟩:∃ e,u / 128=e:=⟨_,rfl⟩
         rw [hc] at q1 q4 q5 q6 HE2
         rw [he] at q2 q3 HE2 HU2 hme
         obtain ⟨z,hz⟩:∃ z,128 + c=z:=⟨_,rfl⟩
         rw [hz] at q5 q6 HE2
         clear hc he hz HE HU
         have own4:=own_made wr [.int .u8 (z:Int)] 5 1 wr.heap.size rfl (Nat.le_refl _) (by decide)
         have hbl:Below wr.heap.size wr (wr.alloc (.cells #[.int .u8 (z:Int)] 5)):=(Below.refl _ _).alloc (Nat.le_refl _) _
         have bs4:=bs.later hbl
         go_upto_region 19 with (first|(at_builtin;refine wpList_append_bs (by rfl) _ _ (by rfl) wr.heap.size _ 1 [(z:Int)] (by rfl) own4 _ X (by rfl) bs4 (by omega) (by simp) ?_;intro v5 w5 own5 hgrow hat)|fail)
         have hb5:=below_own (base:=wr.heap.size) hbl hgrow (by simp) (fun g hg=>own_geM own4 hg) (Nat.le_refl _)
         have b5:=Bs.of_own own5
         replace hbi:=hbi.trans (hb5.mono hbi.size)
         clear own4 hbl bs4 hgrow hat own5 hb5 bs
         go_wp2_with fail
         go_roundw
         case rel=>exact ⟨e,f',(z:Int) :: X,by omega,by omega,rfl,b5,by rw [List.length_cons];omega,HU2,HE2,hbi⟩
         case measure=>simp [intOf];omega
        ·have t1:¬ (0:Int) < (u:Int):=by omega
         have u0:u=0:=by omega
         subst u0
         have HE2:Hid (b7 V=X):=by show _=_;rw [HE.out,b7F_0]
         have own6:=own_laterU hown hbi
         have bel6:=below_step bel hbi
         have hs6:=bel6.size
         have HXs:Hid (X.length≤10):=by show _≤_;omega
         have gi:IntKind.i64.wrap ((i:Int) + 1)=(i:Int) + 1:=by rw [IntKind.wrap_i64];omega
         go_upto_region 11 with (first|(at_builtin;refine wpList_append_bs (by rfl) _ _ (by rfl) w.heap.size _ T.length T (by rfl) own6 _ X (by rfl) bs (by have:=HXs.out;have:=HLen.out;omega) hs6 ?_;intro v7 w7 own7 hgrow7 hat7)|fail)
         have bel7:=below_own (base:=w.heap.size) bel6 hgrow7 hs6 (fun g hg=>own_geM own6 hg) (Nat.le_refl _)
         rw [← List.length_append,← HE2.out,← HNx.out] at own7
         clear own6 bel6 hs6 hgrow7 hat7 bs hown
         go_wp2_with fail
         go_roundw
         case rel=>exact ⟨k + 1,by have:=HKi.out;omega,congrArg (Value.int .i64) (by have:=HKi.out;omega),own7,bel7⟩
         case measure=>have:=HKi.out;simp [intOf];omega
      ·have i2:¬ (i:Int)=1:=by omega
       have hVx:x=(V:Int):=by have:=HVal.out;rw [if_neg i1] at this;omega
       subst hVx
       have Vb:V≤4294967375:=by omega
       generalize wr=wo at *
       have q1:(V:Int).tmod 128=((V % 128:Nat):Int):=by rw [Int.tmod_eq_emod_of_nonneg (by omega)];omega
       have q2:(V:Int).tdiv 128=((V / 128:Nat):Int):=by rw [Int.tdiv_eq_ediv_of_nonneg (by omega)];omega
       have q3:IntKind.u64.wrap ((V / 128:Nat):Int)=((V / 128:Nat):Int):=by rw [IntKind.wrap_u64];omega
       have q4:IntKind.u64.wrap ((V % 128:Nat):Int)=((V % 128:Nat):Int):=by rw [IntKind.wrap_u64];omega
       have q5:IntKind.u8.wrap ((V % 128:Nat):Int)=((V % 128:Nat):Int):=by rw [IntKind.wrap_u8];omega
       obtain ⟨y,hy⟩:∃ y,V % 128=y:=⟨_,rfl⟩
       obtain ⟨d,hd⟩:∃ d,V / 128=d:=⟨_,rfl⟩
       have HB7:Hid (b7 V=b7F 9 d [(y:Int)]):=by show _=_;rw [← hy,← hd];rfl
       have hdb:d≤33554433:=by omega
       have HD9:Hid (d < 128 ^ 9):=by
        have:(128:Nat) ^ 9=9223372036854775808:=by decide
        show _ < _
        omega
       rw [hy] at q1 q4 q5
       rw [hd] at q2 q3
       clear hy hd
       have own4:=own_made wo [.int .u8 (y:Int)] 5 1 wo.heap.size rfl (Nat.le_refl _) (by decide)
       have hbl:Below wo.heap.size wo (wo.alloc (.cells #[.int .u8 (y:Int)] 5)):=(Below.refl _ _).alloc (Nat.le_refl _) _
       have bs4:Bs _ _ [(y:Int)]:=Bs.of_own own4
       clear own4
       go_wp2_with fail
       obtain ⟨wa,hwa⟩:∃ z,z=wo.alloc (.cells #[.int .u8 (y:Int)] 5):=⟨_,rfl⟩
       rw [← hwa] at bs4 hbl ⊢
       clear hwa g1 gi cx f0 lgr q1 q2 q3 q4 q5
       have ib:((i:Int) == 1)=false:=by simpa using i2
       rw [ib]
       clear ib i2
       go_loopw [7,8] (fun xv bv wx=>∃ (u f:Nat) (X:List Int),u≤33554433∧f≤9∧xv=.int .u64 (u:Int)∧Bs wx bv X∧X.length + f≤10∧Hid (u < 128 ^ f)∧Hid (b7 V=b7F f u X)∧Below wo.heap.size wo wx) (fun xv _ _=>(intOf xv).toNat)
       case atStart=>exact ⟨d,9,[(y:Int)],hdb,by omega,rfl,bs4,by simp,HD9,HB7,hbl⟩
       case round =>
        clear bs4 hbl hdb HD9 HB7
        obtain ⟨u,f,X,hu,hf,rfl,bs,hXl,HU,HE,hbi⟩:=hrel
        by_cases h0:0 < u
        ·have t1:(0:Int) < (u:Int):=by omega
         have q1:(u:Int).tmod 128=((u % 128:Nat):Int):=by rw [Int.tmod_eq_emod_of_nonneg (by omega)];omega
         have q2:(u:Int).tdiv 128=((u / 128:Nat):Int):=by rw [Int.tdiv_eq_ediv_of_nonneg (by omega)];omega
         have q3:IntKind.u64.wrap ((u / 128:Nat):Int)=((u / 128:Nat):Int):=by rw [IntKind.wrap_u64];omega
         have q4:IntKind.u64.wrap ((u % 128:Nat):Int)=((u % 128:Nat):Int):=by rw [IntKind.wrap_u64];omega
         have q5:IntKind.u64.wrap (128 + ((u % 128:Nat):Int))=((128 + u % 128:Nat):Int):=by rw [IntKind.wrap_u64];omega
         have q6:IntKind.u8.wrap ((128 + u % 128:Nat):Int)=((128 + u % 128:Nat):Int):=by rw [IntKind.wrap_u8];omega
         obtain ⟨f',rfl⟩:∃ f',f=f' + 1:=⟨f - 1,by have:=HU.out;cases f with|zero=>simp at this;omega|succ f=>omega⟩
         have HE2:Hid (b7 V=b7F f' (u / 128) (((128 + u % 128:Nat):Int) :: X)):=by show _=_;rw [HE.out,b7F,if_neg (by omega)]
         have HU2:Hid (u / 128 < 128 ^ f'):=by have:=HU.out;rw [Nat.pow_succ] at this;show _ < _;omega
         have hme:u / 128 < u:=by omega
         obtain ⟨c,hc⟩:∃ c,u % 128=c:=⟨_,rfl⟩
         obtain ⟨e,he⟩:∃ e,u / 128=e:=⟨_,rfl⟩
         rw [hc] at q1 q4 q5 q6 HE2
         rw [he] at q2 q3 HE2 HU2 hme
         obtain ⟨z,hz⟩:∃ z,128 + c=z:=⟨_,rfl⟩
         rw [hz] at q5 q6 HE2
         clear hc he hz HE HU
         have own4:=own_made wr [.int .u8 (z:Int)] 5 1 wr.heap.size rfl (Nat.le_refl _) (by decide)
         have hbl:Below wr.heap.size wr (wr.alloc (.cells #[.int .u8 (z:Int)] 5)):=(Below.refl _ _).alloc (Nat.le_refl _) _
         have bs4:=bs.later hbl
         go_upto_region 19 with (first|(at_builtin;refine wpList_append_bs (by rfl) _ _ (by rfl) wr.heap.size _ 1 [(z:Int)] (by rfl) own4 _ X (by rfl) bs4 (by omega) (by simp) ?_;intro v5 w5 own5 hgrow hat)|fail)
         have hb5:=below_own (base:=wr.heap.size) hbl hgrow (by simp) (fun g hg=>own_geM own4 hg) (Nat.le_refl _)
         have b5:=Bs.of_own own5
         replace hbi:=hbi.trans (hb5.mono hbi.size)
         clear own4 hbl bs4 hgrow hat own5 hb5 bs
         go_wp2_with fail
         go_roundw
         case rel=>exact ⟨e,f',(z:Int) :: X,by omega,by omega,rfl,b5,by rw [List.length_cons];omega,HU2,HE2,hbi⟩
         case measure=>simp [intOf];omega
        ·have t1:¬ (0:Int) < (u:Int):=by omega
         have u0:u=0:=by omega
         subst u0
         have HE2:Hid (b7 V=X):=by show _=_;rw [HE.out,b7F_0]
         have own6:=own_laterU hown hbi
         have bel6:=below_step bel hbi
         have hs6:=bel6.size
         have HXs:Hid (X.length≤10):=by show _≤_;omega
         have gi:IntKind.i64.wrap ((i:Int) + 1)=(i:Int) + 1:=by rw [IntKind.wrap_i64];omega
         go_upto_region 11 with (first|(at_builtin;refine wpList_append_bs (by rfl) _ _ (by rfl) w.heap.size _ T.length T (by rfl) own6 _ X (by rfl) bs (by have:=HXs.out;have:=HLen.out;omega) hs6 ?_;intro v7 w7 own7 hgrow7 hat7)|fail)
         have bel7:=below_own (base:=w.heap.size) bel6 hgrow7 hs6 (fun g hg=>own_geM own6 hg) (Nat.le_refl _)
         rw [← List.length_append,← HE2.out,← HNx.out] at own7
         clear own6 bel6 hs6 hgrow7 hat7 bs hown
         go_wp2_with fail
         go_roundw
         case rel=>exact ⟨k + 1,by have:=HKi.out;omega,congrArg (Value.int .i64) (by have:=HKi.out;omega),own7,bel7⟩
         case measure=>have:=HKi.out;simp [intOf];omega
     ·have g1:¬ (i:Int) < (M:Int):=by omega
      have HT:Hid ((valsO L).take k=valsO L):=by
       show _=_
       exact List.take_of_length_le (by rw [vals_len (by rw [HM.out];omega),HM.out];have:=HKi.out;omega)
      rw [HT.out] at hown
      have b9:=Bs.of_own hown
      have n9:=NewV.of_own hown
      clear hown hi1
      go_wp2_with fail
      refine bodyPost_ret (results_tmp2 rfl _ _ _) rfl ?_
      exact ⟨fun n h=>(by rw [H.out] at h;cases h;exact ⟨_,rfl,b9,n9,bel⟩),fun c h=>(by rw [H.out] at h;cases h)⟩
end Go.Proofs.YtnkipgbnnhahbaaGreatDoor
