/- The program's withoutNoughts of layer 13. -/
import Derived.Test.YtnkipgbnnhahbaaDoorPrBase
import Derived.Test.YtnkipgbnnhahbaaDoorRows
import Derived.Deep.WholeRow
import Derived.Deep.RegionHeld3
namespace Go.Proofs.YtnkipgbnnhahbaaDoor
open Go.RowKit
set_option linter.unusedSimpArgs false in
set_option maxRecDepth 100000 in
set_option maxHeartbeats 1000000 in
theorem c13_less {v:Value} {B:List Int} {w:World} (hv:Bs w v B):Calls Tryd.prog 44 #[v] w fun e w'=>∃ v',e=.returned v'∧Bs w v' (lessZ B)∧w'=w:=by
 have HV:Hid (Bs w v B):=hv
 have HZl:=leadZ_le B
 have HZg:Hid _:=leadZ_get B
 have HZn:Hid _:=leadZ_next B
 have HD:Hid (lessZ B=B.drop (leadZ B)):=lessZ_drop B
 obtain ⟨z,hz⟩:∃ z,leadZ B=z:=⟨_,rfl⟩
 rw [hz] at HZl HZg HZn HD
 clear hz hv
 go_enter Tryd.func44,Tryd.ntmps44
 go_wp2_with fail
 go_loop [0] (fun nv=>∃ i:Nat,i≤z∧Bs w nv (B.drop i)) (fun nv=>lenV nv)
 case atStart=>exact ⟨0,by omega,HV.out⟩
 case round =>
  obtain ⟨i,hi,hbs⟩:=hrel
  have HBs:Hid (Bs w _ (B.drop i)):=hbs
  obtain ⟨ao,cap,rfl,k1,k2,k3⟩:=hbs
  unfold maxLen at k1
  have HLe:Hid ((B.drop i).length=B.length - i):=List.length_drop
  obtain ⟨m,hm⟩:∃ m,(B.drop i).length=m:=⟨_,rfl⟩
  have HM:Hid ((B.drop i).length=m):=hm
  rw [hm] at HBs HLe k2 k3 ⊢
  have hmi:m=B.length - i:=HLe.out
  by_cases c0:m=0
  ·have g0:¬ (0:Int) < (m:Int):=by omega
   have HE:Hid (B.drop i=lessZ B):=by
    show _=_
    rw [HD.out,show i=z by omega]
   clear hm k3 hmi HLe c0
   go_wp2_with fail
   go_ret
   exact ⟨_,rfl,by rw [← HE.out];exact HBs.out,rfl⟩
  ·have g0:(0:Int) < (m:Int):=by omega
   obtain ⟨g,o,rfl,lg,hc⟩:=k3 (by omega)
   have x0:=hc 0 (by omega)
   have HX:Hid ((B.drop i).getD 0 0=B.getD i 0):=by
    show _=_
    rw [List.getD_eq_getElem?_getD,List.getElem?_drop,Nat.add_zero,← List.getD_eq_getElem?_getD]
   rw [Nat.add_zero,HX.out] at x0
   by_cases hil:i < z
   ·rw [HZg.out i hil] at x0
    have HCut:Hid (∀ ad n k,n=m - 1→(0 < n→ad=some ⟨g,o + 1,none⟩)→k=cap - 1→Bs w (.slice ad n k) (B.drop (i + 1))):=fun ad n k h1 h2 h3=>by
     have:=bs_cutM HBs.out HM.out (by omega:1≤m) h1 h2 h3
     rwa [List.drop_drop] at this
    have g1:1≤m:=by omega
    have g2:1≤cap:=by omega
    have g3:(1:Int)≤(m:Int):=by omega
    clear hm hc k3 hmi HLe HBs HM
    go_wp2_with fail
    go_round
    case rel=>exact ⟨i + 1,by omega,HCut.out _ _ _ (by first|rfl|omega) (by intro h0;first|rfl|(rw [if_neg (by omega)])|omega) (by first|rfl|omega)⟩
    case measure=>simp [lenV];omega
   ·have HE:Hid (B.drop i=lessZ B):=by
     show _=_
     rw [HD.out,show i=z by omega]
    have nz:¬ B.getD i 0=0:=by
     have:=HZn.out (by omega)
     rwa [show z=i by omega] at this
    obtain ⟨p,hp⟩:∃ p,B.getD i 0=p:=⟨_,rfl⟩
    rw [hp] at x0 nz
    clear hm hc k3 hmi HLe HX hp
    go_wp2_with fail
    go_ret
    exact ⟨_,rfl,by rw [← HE.out];exact HBs.out,rfl⟩
end Go.Proofs.YtnkipgbnnhahbaaDoor
