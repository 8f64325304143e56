/- The program's Number of layer 13. -/
import Derived.Test.YtnkipgbnnhahbaaDoorPrLess
import Derived.Test.YtnkipgbnnhahbaaDoorRows
import Derived.Deep.OwnRows
import Derived.Deep.AppendLies
import Derived.Great.BuildSlice
import Derived.Deep.WholeRow
import Derived.Deep.RegionHeld3
import Derived.Deep.DeepCutAuto
import Derived.Deep.DeepFit
namespace Go.Proofs.YtnkipgbnnhahbaaDoor
open Go.RowKit
set_option linter.unusedSimpArgs false in
set_option maxRecDepth 100000 in
set_option maxHeartbeats 2000000 in
theorem c13_Number {v:Value} {B:List Int} {w:World} (hv:Bs w v B) (b:byt B) (hl:B.length≤140737488351232) :
  Calls Tryd.prog 41 #[v] w (RetB w (numP B)):=by
 have HV:Hid (Bs w v B):=hv
 have HB:Hid (byt B):=b
 obtain ⟨ao,cap,rfl,h1,h2,h3⟩:=hv
 obtain ⟨N,hN⟩:∃ N,B.length=N:=⟨_,rfl⟩
 have HN:Hid (B.length=N):=hN
 rw [hN] at h2 h3 hl HV ⊢
 unfold maxLen at h1
 clear b hN
 by_cases c0:N=0
 ·have H:Hid (numP B=.error 7):=by show _=_;unfold numP;rw [if_pos (.inl (by rw [HN.out];exact c0))]
  have g0:(N:Int)=0:=by omega
  clear h3
  go_enter Tryd.func41,Tryd.ntmps41
  go_wp2_with fail
  refine bodyPost_ret (results_tmp2 rfl _ _ _) rfl ?_
  exact RetB.bad H.out (Below.refl _ _)
 have g0:¬ (N:Int)=0:=by omega
 obtain ⟨g,o,rfl,lg,HC'⟩:=h3 (by omega)
 have HC:Hid _:=HC'
 clear HC' h3
 have x0:=HC.out 0 (by omega)
 have y0:=HB.out 0
 rw [Nat.add_zero] at x0
 have gp:(0:Int) < (N:Int):=by omega
 obtain ⟨p,hp⟩:∃ p,B.getD 0 0=p:=⟨_,rfl⟩
 have HP:Hid (B.getD 0 0=p):=hp
 rw [hp] at x0 y0
 clear hp
 by_cases c1:127 < p
 ·have H:Hid (numP B=.error 7):=by show _=_;unfold numP;rw [if_pos (.inr (.inl (by rw [HP.out];exact c1)))]
  have g1:(128:Int)≤p:=by omega
  go_enter Tryd.func41,Tryd.ntmps41
  go_wp2_with fail
  refine bodyPost_ret (results_tmp2 rfl _ _ _) rfl ?_
  exact RetB.bad H.out (Below.refl _ _)
 have g1:¬ (128:Int)≤p:=by omega
 have step:¬ (1 < N∧p=0∧B.getD 1 0 < 128)→Hid (numP B=if 64 < (lessZ B).length then .error 2 else .ok (lessZ B)):=fun h=>num_is (by
  rw [HN.out,HP.out]
  rintro (k|k|k)
  ·exact c0 k
  ·exact c1 k
  ·exact h k)
 have HLl:Hid ((lessZ B).length≤N):=by
  show _≤_
  rw [lessZ_drop,List.length_drop,HN.out]
  omega
 by_cases c2:p=0
 ·by_cases c3:1 < N
  ·have x1:=HC.out 1 (by omega)
   have y1:=HB.out 1
   have gq:(1:Int) < (N:Int):=by omega
   obtain ⟨q,hq⟩:∃ q,B.getD 1 0=q:=⟨_,rfl⟩
   have HQ:Hid (B.getD 1 0=q):=hq
   rw [hq] at x1 y1 step
   clear hq
   subst c2
   by_cases c4:q < 128
   ·have H:Hid (numP B=.error 7):=by show _=_;unfold numP;rw [if_pos (.inr (.inr ⟨by rw [HN.out];exact c3,HP.out,by rw [HQ.out];exact c4⟩))]
    clear step
    go_enter Tryd.func41,Tryd.ntmps41
    go_wp2_with fail
    refine bodyPost_ret (results_tmp2 rfl _ _ _) rfl ?_
    exact RetB.bad H.out (Below.refl _ _)
   ·have HNo:=step (fun h=>c4 h.2.2)
    clear step
    go_enter Tryd.func41,Tryd.ntmps41
    go_wp2_with fail
    refine (c13_less HV.out).mono ?_
    rintro e w1 ⟨v1,rfl,hR,rfl⟩
    obtain ⟨R,hRe⟩:∃ R,lessZ B=R:=⟨_,rfl⟩
    rw [hRe] at hR HNo HLl
    clear hRe
    obtain ⟨M,hM⟩:∃ M,R.length=M:=⟨_,rfl⟩
    have HM:Hid (R.length=M):=hM
    have HR2:Hid (Bs _ _ R):=hR
    obtain ⟨ao2,cap2,rfl,q1,q2,q3⟩:=hR
    unfold maxLen at q1
    rw [hM] at HR2 q2 q3 HNo ⊢
    have hMN:M≤N:=by have:=HLl.out;rw [HM.out] at this;exact this
    clear hM q3
    by_cases z1:64 < M
    ·have H:Hid (numP B=.error 2):=by show _=_;rw [HNo.out,if_pos z1]
     have u1:(64:Int) < (M:Int):=by omega
     go_wp2_with fail
     refine bodyPost_ret (results_tmp2 rfl _ _ _) rfl ?_
     exact RetB.bad H.out (Below.refl _ _)
    ·have H:Hid (numP B=.ok R):=by show _=_;rw [HNo.out,if_neg z1]
     have u1:¬ (64:Int) < (M:Int):=by omega
     go_wp2_with fail
     refine (c13_Clone HR2.out (by rw [HM.out];omega)).mono ?_
     rintro e w2 ⟨v2,rfl,b2,n2,bel⟩
     go_wp2_with fail
     refine bodyPost_ret (results_tmp2 rfl _ _ _) rfl ?_
     exact RetB.ok H.out b2 n2 bel
  ·have HNo:=step (fun h=>c3 h.1)
   have gq:¬ (1:Int) < (N:Int):=by omega
   subst c2
   clear step
   go_enter Tryd.func41,Tryd.ntmps41
   go_wp2_with fail
   refine (c13_less HV.out).mono ?_
   rintro e w1 ⟨v1,rfl,hR,rfl⟩
   obtain ⟨R,hRe⟩:∃ R,lessZ B=R:=⟨_,rfl⟩
   rw [hRe] at hR HNo HLl
   clear hRe
   obtain ⟨M,hM⟩:∃ M,R.length=M:=⟨_,rfl⟩
   have HM:Hid (R.length=M):=hM
   have HR2:Hid (Bs _ _ R):=hR
   obtain ⟨ao2,cap2,rfl,q1,q2,q3⟩:=hR
   unfold maxLen at q1
   rw [hM] at HR2 q2 q3 HNo ⊢
   have hMN:M≤N:=by have:=HLl.out;rw [HM.out] at this;exact this
   clear hM q3
   by_cases z1:64 < M
   ·have H:Hid (numP B=.error 2):=by show _=_;rw [HNo.out,if_pos z1]
    have u1:(64:Int) < (M:Int):=by omega
    go_wp2_with fail
    refine bodyPost_ret (results_tmp2 rfl _ _ _) rfl ?_
    exact RetB.bad H.out (Below.refl _ _)
   ·have H:Hid (numP B=.ok R):=by show _=_;rw [HNo.out,if_neg z1]
    have u1:¬ (64:Int) < (M:Int):=by omega
    go_wp2_with fail
    refine (c13_Clone HR2.out (by rw [HM.out];omega)).mono ?_
    rintro e w2 ⟨v2,rfl,b2,n2,bel⟩
    go_wp2_with fail
    refine bodyPost_ret (results_tmp2 rfl _ _ _) rfl ?_
    exact RetB.ok H.out b2 n2 bel
 ·have HNo:=step (fun h=>c2 h.2.1)
  clear step
  go_enter Tryd.func41,Tryd.ntmps41
  go_wp2_with fail
  refine (c13_less HV.out).mono ?_
  rintro e w1 ⟨v1,rfl,hR,rfl⟩
  obtain ⟨R,hRe⟩:∃ R,lessZ B=R:=⟨_,rfl⟩
  rw [hRe] at hR HNo HLl
  clear hRe
  obtain ⟨M,hM⟩:∃ M,R.length=M:=⟨_,rfl⟩
  have HM:Hid (R.length=M):=hM
  have HR2:Hid (Bs _ _ R):=hR
  obtain ⟨ao2,cap2,rfl,q1,q2,q3⟩:=hR
  unfold maxLen at q1
  rw [hM] at HR2 q2 q3 HNo ⊢
  have hMN:M≤N:=by have:=HLl.out;rw [HM.out] at this;exact this
  clear hM q3
  by_cases z1:64 < M
  ·have H:Hid (numP B=.error 2):=by show _=_;rw [HNo.out,if_pos z1]
   have u1:(64:Int) < (M:Int):=by omega
   go_wp2_with fail
   refine bodyPost_ret (results_tmp2 rfl _ _ _) rfl ?_
   exact RetB.bad H.out (Below.refl _ _)
  ·have H:Hid (numP B=.ok R):=by show _=_;rw [HNo.out,if_neg z1]
   have u1:¬ (64:Int) < (M:Int):=by omega
   go_wp2_with fail
   refine (c13_Clone HR2.out (by rw [HM.out];omega)).mono ?_
   rintro e w2 ⟨v2,rfl,b2,n2,bel⟩
   go_wp2_with fail
   refine bodyPost_ret (results_tmp2 rfl _ _ _) rfl ?_
   exact RetB.ok H.out b2 n2 bel
theorem con_Number {v:Value} {B:List Int} {w:World} (hv:Bs w v B) (b:byt B) (hl:B.length≤140737488351232) :
  Calls Tryd.prog 41 #[v] w fun e w'=>(∀ n,numP B=.ok n→∃ v':Value,e=.returned (.tuple #[v',.nilIface])∧Bs w' v' n∧NewV w v'∧Below w.heap.size w w')∧(∀ c,numP B=.error c→∃ (ao:Option Addr) (cap:Nat),e=.returned (.tuple #[.slice ao 0 cap,.iface 39 (.int .i64 (c:Int))])∧Below w.heap.size w w'):=(c13_Number hv b hl).mono (fun _ _ h=>h)
end Go.Proofs.YtnkipgbnnhahbaaDoor
