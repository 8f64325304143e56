/- The program's Small of layer 13. -/
import Derived.Test.YtnkipgbnnhahbaaDoorPrNumber
import Derived.Test.YtnkipgbnnhahbaaDoorRows
import Derived.Deep.OwnRows
import Derived.Deep.AppendLies
import Derived.Great.BuildSlice
import Derived.Deep.WholeRow
import Derived.Deep.RegionHeld3
import Derived.Deep.DeepCutAuto
import Derived.Deep.DeepFit
namespace Go.Proofs.YtnkipgbnnhahbaaDoor
open Go.RowKit
theorem num_goodP {B n:List Int} (b:byt B) (h:numP B=.ok n):byt n∧n.length≤64:=by
 unfold numP at h
 obtain ⟨R,hR⟩:∃ R,(if B.getD 0 0=0 then B.drop 1 else B)=R:=⟨_,rfl⟩
 rw [hR] at h
 have hb:byt R:=by
  rw [← hR]
  split
  ·exact byt_dropM b 1
  ·exact b
 by_cases g:B.length=0∨127 < B.getD 0 0∨(1 < B.length∧B.getD 0 0=0∧B.getD 1 0 < 128)
 ·rw [if_pos g] at h;cases h
 ·rw [if_neg g] at h
  by_cases g2:64 < R.length
  ·rw [if_pos g2] at h;cases h
  ·rw [if_neg g2] at h;cases h;exact ⟨hb,by omega⟩
theorem drop_nextP {n:List Int} {i:Nat} (h:i < n.length) (v:Int):beW (n.drop i) v=beW (n.drop (i + 1)) (256 * v + n.getD i 0):=by
 rw [List.drop_eq_getElem_cons h,beW]
 congr 2
 simp [List.getD_eq_getElem?_getD,h]
set_option linter.unusedSimpArgs false in
set_option maxRecDepth 100000 in
set_option maxHeartbeats 1000000 in
theorem con_Small {v:Value} {B:List Int} {w:World} (hv:Bs w v B) (b:byt B) (hl:B.length≤140737488351232) :
  Calls Tryd.prog 32 #[v] w fun e w'=>(∀ n,smallP B=.ok n→e=.returned (.tuple #[.int .i64 n,.nilIface])∧Below w.heap.size w w')∧(∀ c,smallP B=.error c→e=.returned (.tuple #[.int .i64 0,.iface 39 (.int .i64 (c:Int))])∧Below w.heap.size w w'):=by
 have HV:Hid (Bs w v B):=hv
 have HB:Hid (byt B):=b
 clear hv b
 go_enter Tryd.func32,Tryd.ntmps32
 go_wp2_with fail
 refine (con_Number HV.out HB.out hl).mono ?_
 rintro e w1 ⟨hok,hbad⟩
 cases hp:numP B with
 | error c =>
  obtain ⟨ao,cap,rfl,bel⟩:=hbad c hp
  have H:Hid (smallP B=.error c):=by show _=_;unfold smallP;rw [hp]
  clear hok hbad hp
  go_wp2_with fail
  refine bodyPost_ret (results_tmp2 rfl _ _ _) rfl ?_
  exact ⟨fun n h=>(by rw [H.out] at h;cases h),fun c h=>(by rw [H.out] at h;cases h;exact ⟨rfl,bel⟩)⟩
 | ok n =>
  obtain ⟨v',rfl,bs,-,bel⟩:=hok n hp
  obtain ⟨hb,hn⟩:=num_goodP HB.out hp
  have H0:Hid (smallP B=if 2147483647 < beW n 0 then .error 3 else .ok (beW n 0)):=by show _=_;unfold smallP;rw [hp]
  have HBn:Hid (byt n):=hb
  obtain ⟨ao,cap,rfl,h1,h2,h3⟩:=bs
  obtain ⟨N,hN⟩:∃ N,n.length=N:=⟨_,rfl⟩
  have HN:Hid (n.length=N):=hN
  rw [hN] at h2 h3 hn ⊢
  have HC:Hid (∀ j,j < N→∃ g o,ao=some ⟨g,o,none⟩∧w1.cell? ⟨g,o + j,none⟩=some (.int .u8 (n.getD j 0))∧g < w1.heap.size):=fun j hj=>by
   obtain ⟨g,o,e1,e2,e3⟩:=h3 (by omega)
   exact ⟨g,o,e1,e3 j hj,e2⟩
  unfold maxLen at h1
  clear hok hbad hp hb h3 hN
  go_wp2_with fail
  go_loop [6,19] (fun xv iv=>∃ (i:Nat) (x:Nat),i≤N∧iv=.int .i64 (i:Int)∧xv=.int .i64 (x:Int)∧x≤2147483647∧Hid (beW n 0=beW (n.drop i) (x:Int))) (fun _ iv=>N - (intOf iv).toNat)
  case atStart=>exact ⟨0,0,by omega,rfl,rfl,by omega,rfl⟩
  case round =>
   obtain ⟨i,x,hi,rfl,rfl,hx,HE⟩:=hrel
   by_cases hil:i < N
   ·have g1:(i:Int) < (N:Int):=by omega
    have g2:(0:Int)≤(i:Int):=by omega
    have gi:IntKind.i64.wrap ((i:Int) + 1)=(i:Int) + 1:=by rw [IntKind.wrap_i64];omega
    obtain ⟨g,o,rfl,cy,lg⟩:=HC.out i hil
    have yb:=HBn.out i
    have HE2:Hid (beW n 0=beW (n.drop (i + 1)) (256 * (x:Int) + n.getD i 0)):=by show _=_;rw [HE.out,drop_nextP (by rw [HN.out];exact hil)]
    obtain ⟨y',hy⟩:∃ y,n.getD i 0=y:=⟨_,rfl⟩
    rw [hy] at cy yb HE2
    clear hy HE
    obtain ⟨y,rfl⟩:=Int.eq_ofNat_of_zero_le yb.1
    by_cases c1:8388607 < x
    ·have H:Hid (smallP B=.error 3):=by
      have:=beW_le (n.drop (i + 1)) (256 * (x:Int) + (y:Int)) (byt_dropM HBn.out _) (by omega)
      show _=_
      rw [H0.out,if_pos (by rw [HE2.out];omega)]
     have g3:(8388607:Int) < (x:Int):=by omega
     go_wp2_with fail
     refine bodyPost_ret (results_tmp2 rfl _ _ _) rfl ?_
     exact ⟨fun n h=>(by rw [H.out] at h;cases h),fun c h=>(by rw [H.out] at h;cases h;exact ⟨rfl,bel⟩)⟩
    ·have g3:¬ (8388607:Int) < (x:Int):=by omega
     have w1':IntKind.i64.wrap (y:Int)=(y:Int):=by rw [IntKind.wrap_i64];omega
     have w3:=or_byteP (n:=x) (x:=y) (by omega) (by omega)
     obtain ⟨m,hm⟩:∃ m,256 * x=m:=⟨_,rfl⟩
     have w2:IntKind.i64.wrap ((x:Int) * 256)=(m:Int):=by rw [IntKind.wrap_i64];omega
     rw [hm] at w3
     obtain ⟨z,hz⟩:∃ z,m + y=z:=⟨_,rfl⟩
     rw [hz] at w3
     have HE3:Hid (beW n 0=beW (n.drop (i + 1)) (z:Int)):=by
      show _=_
      rw [HE2.out]
      congr 1
      omega
     have hz2:z≤2147483647:=by omega
     clear hm hz
     go_wp2_with fail
     go_round
     case rel=>exact ⟨i + 1,z,by omega,by go_num,rfl,hz2,HE3⟩
     case measure=>simp [intOf];omega
   ·have g1:¬ (i:Int) < (N:Int):=by omega
    have H:Hid (smallP B=.ok (x:Int)):=by
     have e:beW n 0=(x:Int):=by
      have:=HE.out
      rw [List.drop_of_length_le (by rw [HN.out];omega),beW] at this
      exact this
     show _=_
     rw [H0.out,e,if_neg (by omega)]
    go_wp2_with fail
    refine bodyPost_ret (results_tmp2 rfl _ _ _) rfl ?_
    exact ⟨fun n h=>(by rw [H.out] at h;cases h;exact ⟨rfl,bel⟩),fun c h=>(by rw [H.out] at h;cases h)⟩
end Go.Proofs.YtnkipgbnnhahbaaDoor
