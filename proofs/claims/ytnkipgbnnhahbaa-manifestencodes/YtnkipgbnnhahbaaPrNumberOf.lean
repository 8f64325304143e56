/- The program's NumberOf of layer 13. -/
import Derived.Test.YtnkipgbnnhahbaaPrNumber
import Derived.Test.YtnkipgbnnhahbaaRows
import Derived.Deep.OwnRows
import Derived.Deep.AppendLies
import Derived.Great.BuildSlice
import Derived.Deep.WholeRow
import Derived.Deep.RegionHeld3
import Derived.Deep.DeepCutAuto
import Derived.Deep.DeepFit
namespace Go.Proofs.Ytnkipgbnnhahbaa
open Go.RowKit
set_option linter.unusedSimpArgs false in
set_option maxRecDepth 100000 in
set_option maxHeartbeats 2000000 in
theorem c13_NumberOf {v:Value} {B:List Int} {w:World} (hv:Bs w v B) (b:byt B) (hl:B.length≤140737488351232) :
  Calls Try.prog 33 #[v] w (RetB w (numOf B)):=by
 have HB:Hid (byt B):=b
 have HLl:Hid ((lessZ B).length≤B.length):=by
  show _≤_
  rw [lessZ_drop,List.length_drop]
  omega
 have HNo:Hid (numOf B=if 64 < (lessZ B).length then .error 2 else if (lessZ B).length=0∨127 < (lessZ B).getD 0 0 then .ok ((0:Int) :: lessZ B) else .ok (lessZ B)):=rfl
 have HRb:Hid (byt (lessZ B)):=by rw [lessZ_drop];exact byt_dropM b _
 clear b
 go_enter Try.func33,Try.ntmps33
 go_wp2_with fail
 refine (c13_less hv).mono ?_
 rintro e w1 ⟨v1,rfl,hR,rfl⟩
 clear hv
 obtain ⟨R,hRe⟩:∃ R,lessZ B=R:=⟨_,rfl⟩
 rw [hRe] at hR HNo HLl HRb
 clear hRe
 obtain ⟨M,hM⟩:∃ M,R.length=M:=⟨_,rfl⟩
 have HM:Hid (R.length=M):=hM
 have HR2:Hid (Bs _ _ R):=hR
 obtain ⟨ao2,cap2,rfl,q1,q2,q3⟩:=hR
 unfold maxLen at q1
 rw [hM] at HR2 q2 q3 HNo ⊢
 have hMN:M≤140737488351232:=by have:=HLl.out;rw [HM.out] at this;omega
 clear hM
 by_cases z1:64 < M
 ·have H:Hid (numOf B=.error 2):=by show _=_;rw [HNo.out,if_pos z1]
  have u1:(64:Int) < (M:Int):=by omega
  clear q3
  go_wp2_with fail
  refine bodyPost_ret (results_tmp2 rfl _ _ _) rfl ?_
  exact RetB.bad H.out (Below.refl _ _)
 have u1:¬ (64:Int) < (M:Int):=by omega
 rw [if_neg z1] at HNo
 have own4:=own_made w1 [.int .u8 0] 5 1 w1.heap.size rfl (Nat.le_refl _) (by decide)
 have hbl:Below w1.heap.size w1 (w1.alloc (.cells #[.int .u8 0] 5)):=(Below.refl _ _).alloc (Nat.le_refl _) _
 have bs4:=HR2.out.later hbl
 by_cases z2:M=0
 ·have H:Hid (numOf B=.ok ((0:Int) :: R)):=by show _=_;rw [HNo.out,if_pos (.inl z2)]
  have z3:(M:Int)=0:=by omega
  clear q3 z2
  go_wp2_with (first|(at_builtin;refine wpList_append_bs (by rfl) _ _ (by rfl) w1.heap.size _ 1 [0] (by rfl) own4 _ R (by rfl) bs4 (by rw [HM.out];omega) (by simp) ?_;intro v5 w5 own5 hgrow hat)|fail)
  have hb5:=below_own (base:=w1.heap.size) hbl hgrow (by simp) (fun g hg=>own_geM own4 hg) (Nat.le_refl _)
  have b5:=Bs.of_own own5
  have n5:=newV_own own5
  refine bodyPost_ret (results_tmp2 rfl _ _ _) rfl ?_
  exact RetB.ok H.out b5 n5 hb5
 have z3:¬ (M:Int)=0:=by omega
 obtain ⟨g3,o3,rfl,l3,d3⟩:=q3 (by omega)
 have x0:=d3 0 (by omega)
 rw [Nat.add_zero] at x0
 have y0:=HRb.out 0
 have gp:(0:Int) < (M:Int):=by omega
 obtain ⟨p,hp⟩:∃ p,R.getD 0 0=p:=⟨_,rfl⟩
 rw [hp] at x0 y0 HNo
 clear d3 hp
 by_cases z4:127 < p
 ·have H:Hid (numOf B=.ok ((0:Int) :: R)):=by show _=_;rw [HNo.out,if_pos (.inr z4)]
  have z5:(128:Int)≤p:=by omega
  go_wp2_with (first|(at_builtin;refine wpList_append_bs (by rfl) _ _ (by rfl) w1.heap.size _ 1 [0] (by rfl) own4 _ R (by rfl) bs4 (by rw [HM.out];omega) (by simp) ?_;intro v5 w5 own5 hgrow hat)|fail)
  have hb5:=below_own (base:=w1.heap.size) hbl hgrow (by simp) (fun g hg=>own_geM own4 hg) (Nat.le_refl _)
  have b5:=Bs.of_own own5
  have n5:=newV_own own5
  refine bodyPost_ret (results_tmp2 rfl _ _ _) rfl ?_
  exact RetB.ok H.out b5 n5 hb5
 ·have H:Hid (numOf B=.ok R):=by show _=_;rw [HNo.out,if_neg (by rintro (h|h);exact z2 h;exact z4 h)]
  have z5:decide ((128:Int)≤p)=false:=decide_eq_false (by omega)
  have z6:((M:Int) == 0)=false:=by rw [beq_eq_false_iff_ne];omega
  clear own4 hbl bs4
  go_wp2_with fail
  refine (c13_Clone HR2.out (by rw [HM.out];omega)).mono ?_
  rintro e w2 ⟨v2,rfl,b2,n2,bel⟩
  go_wp2_with fail
  refine bodyPost_ret (results_tmp2 rfl _ _ _) rfl ?_
  exact RetB.ok H.out b2 n2 bel
theorem con_NumberOf {v:Value} {B:List Int} {w:World} (hv:Bs w v B) (b:byt B) (hl:B.length≤140737488351232) :
  Calls Try.prog 33 #[v] w fun e w'=>(∀ n,numOf B=.ok n→∃ v':Value,e=.returned (.tuple #[v',.nilIface])∧Bs w' v' n∧NewV w v'∧Below w.heap.size w w')∧(∀ c,numOf B=.error c→∃ (ao:Option Addr) (cap:Nat),e=.returned (.tuple #[.slice ao 0 cap,.iface 38 (.int .i64 (c:Int))])∧Below w.heap.size w w'):=(c13_NumberOf hv b hl).mono (fun _ _ h=>h)
end Go.Proofs.Ytnkipgbnnhahbaa
