/- The program's own small helpers of layer 13: noughts ahead are left out, bytes are copied; a byte behind a number. (Plain part.) The program's own small helpers of layer 13: noughts ahead are left out, bytes are copied; a byte behind a number. The program's withoutNoughts of layer 13. The program's Number of layer 13. -/
import Derived.Test.YtnkipgbnnhahbaaGreatDoorClWr
import Derived.Test.YtnkipgbnnhahbaaGreatDoorCtPl
import Derived.Test.YtnkipgbnnhahbaaGreatDoorRows
import Derived.Deep.OwnRows
import Derived.Deep.AppendLies
import Derived.Great.BuildSlice
import Derived.Laws.BitsAllLaws
import Derived.Deep.WholeRow
import Derived.Deep.RegionHeld3
import Derived.Deep.DeepCutAuto
import Derived.Deep.DeepFit
namespace Go.Proofs.YtnkipgbnnhahbaaGreatDoor
open Go.RowKit
/-- a slice's length -/
def lenV:Value→Nat
 | .slice _ n _=>n
 | _=>0
theorem newV_own {w w':World} {e:TypeId} {v:Value} {n:Nat} {xs:List Value} (h:w'.ownsRow w.heap.size e 1 v n xs):NewV w v:=fun a m c hv _=>own_geM (j:=a.block) h (by rw [hv];rfl)
/-- bytes that are answered in a block of their own, or an error's code -/
def RetB (w:World) (r:Except Nat (List Int)) (e:Ending) (w':World):Prop:=(∀ n,r=.ok n→∃ v':Value,e=.returned (.tuple #[v',.nilIface])∧Bs w' v' n∧NewV w v'∧Below w.heap.size w w')∧(∀ c,r=.error c→∃ (ao:Option Addr) (cap:Nat),e=.returned (.tuple #[.slice ao 0 cap,.iface 46 (.int .i64 (c:Int))])∧Below w.heap.size w w')
theorem RetB.ok {w w':World} {r:Except Nat (List Int)} {n:List Int} {v:Value} (h:r=.ok n) (hb:Bs w' v n) (hn:NewV w v) (bel:Below w.heap.size w w'):RetB w r (.returned (.tuple #[v,.nilIface])) w' :=
 ⟨fun m hm=>(by rw [h] at hm;cases hm;exact ⟨v,rfl,hb,hn,bel⟩),fun c hc=>(by rw [h] at hc;cases hc)⟩
theorem RetB.bad {w w':World} {r:Except Nat (List Int)} {c:Nat} {ao:Option Addr} {cap:Nat} (h:r=.error c) (bel:Below w.heap.size w w'):RetB w r (.returned (.tuple #[.slice ao 0 cap,.iface 46 (.int .i64 (c:Int))])) w' :=
 ⟨fun m hm=>(by rw [h] at hm;cases hm),fun c2 hc=>(by rw [h] at hc;cases hc;exact ⟨ao,cap,rfl,bel⟩)⟩
theorem newV_none (w:World) (n c:Nat):NewV w (.slice none n c):=fun a m k h _=>by cases h
theorem NewV.up {w w1:World} {v:Value} (h:NewV w1 v) (hs:w.heap.size≤w1.heap.size):NewV w v:=fun a n c e h0=>Nat.le_trans hs (h a n c e h0)
theorem num_less {B:List Int} (h:¬ (B.length=0∨127 < B.getD 0 0∨(1 < B.length∧B.getD 0 0=0∧B.getD 1 0 < 128))):(if B.getD 0 0=0 then B.drop 1 else B)=lessZ B:=by
 rcases B with _|⟨a,_|⟨c,t⟩⟩
 ·exact absurd (Or.inl rfl) h
 ·show (if a=0 then [] else [a])=lessZ [a]
  rw [lessZ]
  rfl
 ·show (if a=0 then c :: t else a :: c :: t)=lessZ (a :: c :: t)
  rw [lessZ]
  by_cases k:a=0
  ·rw [if_pos k,if_pos k,lessZ,if_neg]
   intro k2
   refine h (.inr (.inr ⟨?_,k,?_⟩))
   ·show 1 < t.length + 1 + 1;omega
   ·show c < 128;omega
  ·rw [if_neg k,if_neg k]
theorem num_is {B:List Int} (h:¬ (B.length=0∨127 < B.getD 0 0∨(1 < B.length∧B.getD 0 0=0∧B.getD 1 0 < 128))):numP B=if 64 < (lessZ B).length then .error 2 else .ok (lessZ B):=by
 unfold numP
 rw [if_neg h,num_less h]
theorem i64_or_natP (a b:Nat) (ha:a < 9223372036854775808) (hb:b < 9223372036854775808):bits .or .i64 (a:Int) (b:Int)=((a ||| b:Nat):Int):=by
 have hx:a ||| b < 2 ^ 63:=Nat.or_lt_two_pow (by omega) (by omega)
 show IntKind.i64.wrap ((BitVec.ofInt 64 (a:Int) ||| BitVec.ofInt 64 (b:Int)).toNat:Int)=_
 rw [BitVec.toNat_or,ofInt_u64 a (by omega),ofInt_u64 b (by omega),IntKind.wrap_i64]
 omega
theorem or_byteP {n x:Nat} (hn:n < 16777216) (hx:x < 256):bits .or .i64 ((256 * n:Nat):Int) (x:Int)=((256 * n + x:Nat):Int):=by
 rw [i64_or_natP _ _ (by omega) (by omega)]
 have:=Nat.two_pow_add_eq_or_of_lt (i:=8) (b:=x) (by omega) n
 rw [show (2:Nat) ^ 8=256 from rfl] at this
 rw [this]
set_option linter.unusedSimpArgs false in
set_option maxRecDepth 100000 in
set_option maxHeartbeats 1000000 in
theorem c13_Clone {v:Value} {X:List Int} {w:World} (hv:Bs w v X) (hl:X.length≤140737488355328):Calls Tryz.prog 61 #[v] w fun e w'=>∃ v',e=.returned v'∧Bs w' v' X∧NewV w v'∧Below w.heap.size w w':=by
 have HV:Hid (Bs w v X):=hv
 obtain ⟨ao,cap,rfl,h1,h2,h3⟩:=hv
 go_enter Tryz.func61,Tryz.ntmps61
 cases ao with
 | none =>
  have hX:X.length=0:=by
   by_cases q:0 < X.length
   ·obtain ⟨_,_,e,_⟩:=h3 q
    cases e
   ·omega
  obtain rfl:X=[]:=List.eq_nil_of_length_eq_zero hX
  clear h3
  have e0:(binOp .eql 22 (.slice none 0 cap) (.slice none 0 0)).run Tryz.prog w=.ok (.bool true) w:=by kernel_rfl
  go_wp2_with fail
  go_ret
  exact ⟨_,rfl,⟨none,0,rfl,by decide,by decide,fun h=>by simp at h⟩,newV_none _ _ _,Below.refl _ _⟩
 | some ad =>
  clear h3
  have e0:(binOp .eql 22 (.slice (some ad) X.length cap) (.slice none 0 0)).run Tryz.prog w=.ok (.bool false) w:=by kernel_rfl
  have own0:=own_nilM w
  have hb0:=HV.out.later ((Below.refl _ _).alloc (Nat.le_refl _) (.cells #[] 5))
  go_wp2_with (first|(at_builtin;refine wpList_append_bs (by rfl) _ _ (by rfl) w.heap.size _ 0 ([]) (by rfl) own0 _ X (by rfl) hb0 (by omega) (by simp) ?_;intro v1 w1 own1 hgrow hat)|fail)
  have hb1:=below_own (base:=w.heap.size) ((Below.refl w.heap.size w).alloc (Nat.le_refl _) (.cells #[] 5)) hgrow (by simp) (fun g hg=>own_geM own0 hg) (Nat.le_refl _)
  rw [Nat.zero_add,List.nil_append] at own1
  go_ret
  exact ⟨v1,rfl,Bs.of_own own1,newV_own own1,hb1⟩
set_option linter.unusedSimpArgs false in
set_option maxRecDepth 100000 in
set_option maxHeartbeats 1000000 in
theorem c13_less {v:Value} {B:List Int} {w:World} (hv:Bs w v B):Calls Tryz.prog 64 #[v] w fun e w'=>∃ v',e=.returned v'∧Bs w v' (lessZ B)∧w'=w:=by
 have HV:Hid (Bs w v B):=hv
 have HZl:=leadZ_le B
 have HZg:Hid _:=leadZ_get B
 have HZn:Hid _:=leadZ_next B
 have HD:Hid (lessZ B=B.drop (leadZ B)):=lessZ_drop B
 obtain ⟨z,hz⟩:∃ z,leadZ B=z:=⟨_,rfl⟩
 rw [hz] at HZl HZg HZn HD
 clear hz hv
 go_enter Tryz.func64,Tryz.ntmps64
 go_wp2_with fail
 go_loop [0] (fun nv=>∃ i:Nat,i≤z∧Bs w nv (B.drop i)) (fun nv=>lenV nv)
 case atStart=>exact ⟨0,by omega,HV.out⟩
 case round =>
  obtain ⟨i,hi,hbs⟩:=hrel
  have HBs:Hid (Bs w _ (B.drop i)):=hbs
  obtain ⟨ao,cap,rfl,k1,k2,k3⟩:=hbs
  unfold maxLen at k1
  have HLe:Hid ((B.drop i).length=B.length - i):=List.length_drop
  obtain ⟨m,hm⟩:∃ m,(B.drop i).length=m:=⟨_,rfl⟩
  have HM:Hid ((B.drop i).length=m):=hm
  rw [hm] at HBs HLe k2 k3 ⊢
  have hmi:m=B.length - i:=HLe.out
  by_cases c0:m=0
  ·have g0:¬ (0:Int) < (m:Int):=by omega
   have HE:Hid (B.drop i=lessZ B):=by
    show _=_
    rw [HD.out,show i=z by omega]
   clear hm k3 hmi HLe c0
   go_wp2_with fail
   go_ret
   exact ⟨_,rfl,by rw [← HE.out];exact HBs.out,rfl⟩
  ·have g0:(0:Int) < (m:Int):=by omega
   obtain ⟨g,o,rfl,lg,hc⟩:=k3 (by omega)
   have x0:=hc 0 (by omega)
   have HX:Hid ((B.drop i).getD 0 0=B.getD i 0):=by
    show _=_
    rw [List.getD_eq_getElem?_getD,List.getElem?_drop,Nat.add_zero,← List.getD_eq_getElem?_getD]
   rw [Nat.add_zero,HX.out] at x0
   by_cases hil:i < z
   ·rw [HZg.out i hil] at x0
    have HCut:Hid (∀ ad n k,n=m - 1→(0 < n→ad=some ⟨g,o + 1,none⟩)→k=cap - 1→Bs w (.slice ad n k) (B.drop (i + 1))):=fun ad n k h1 h2 h3=>by
     have:=bs_cutM HBs.out HM.out (by omega:1≤m) h1 h2 h3
     rwa [List.drop_drop] at this
    have g1:1≤m:=by omega
    have g2:1≤cap:=by omega
    have g3:(1:Int)≤(m:Int):=by omega
    clear hm hc k3 hmi HLe HBs HM
    go_wp2_with fail
    go_round
    case rel=>exact ⟨i + 1,by omega,HCut.out _ _ _ (by first|rfl|omega) (by intro h0;first|rfl|(rw [if_neg (by omega)])|omega) (by first|rfl|omega)⟩
    case measure=>simp [lenV];omega
   ·have HE:Hid (B.drop i=lessZ B):=by
     show _=_
     rw [HD.out,show i=z by omega]
    have nz:¬ B.getD i 0=0:=by
     have:=HZn.out (by omega)
     rwa [show z=i by omega] at this
    obtain ⟨p,hp⟩:∃ p,B.getD i 0=p:=⟨_,rfl⟩
    rw [hp] at x0 nz
    clear hm hc k3 hmi HLe HX hp
    go_wp2_with fail
    go_ret
    exact ⟨_,rfl,by rw [← HE.out];exact HBs.out,rfl⟩
set_option linter.unusedSimpArgs false in
set_option maxRecDepth 100000 in
set_option maxHeartbeats 2000000 in
theorem c13_Number {v:Value} {B:List Int} {w:World} (hv:Bs w v B) (b:byt B) (hl:B.length≤140737488351232) :
  Calls Tryz.prog 96 #[v] w (RetB w (numP B)):=by
 have HV:Hid (Bs w v B):=hv
 have HB:Hid (byt B):=b
 obtain ⟨ao,cap,rfl,h1,h2,h3⟩:=hv
 obtain ⟨N,hN⟩:∃ N,B.length=N:=⟨_,rfl⟩
 have HN:Hid (B.length=N):=hN
 rw [hN] at h2 h3 hl HV ⊢
 unfold maxLen at h1
 clear b hN
 by_cases c0:N=0
 ·have H:Hid (numP B=.error 7):=by show _=_;unfold numP;rw [if_pos (.inl (by rw [HN.out];exact c0))]
  have g0:(N:Int)=0:=by omega
  clear h3
  go_enter Tryz.func96,Tryz.ntmps96
  go_wp2_with fail
  refine bodyPost_ret (results_tmp2 rfl _ _ _) rfl ?_
  exact RetB.bad H.out (Below.refl _ _)
 have g0:¬ (N:Int)=0:=by omega
 obtain ⟨g,o,rfl,lg,HC'⟩:=h3 (by omega)
 have HC:Hid _:=HC'
 clear HC' h3
 have x0:=HC.out 0 (by omega)
 have y0:=HB.out 0
 rw [Nat.add_zero] at x0
 have gp:(0:Int) < (N:Int):=by omega
 obtain ⟨p,hp⟩:∃ p,B.getD 0 0=p:=⟨_,rfl⟩
 have HP:Hid (B.getD 0 0=p):=hp
 rw [hp] at x0 y0
 clear hp
 by_cases c1:127 < p
 ·have H:Hid (numP B=.error 7):=by show _=_;unfold numP;rw [if_pos (.inr (.inl (by rw [HP.out];exact c1)))]
  have g1:(128:Int)≤p:=by omega
  go_enter Tryz.func96,Tryz.ntmps96
  go_wp2_with fail
  refine bodyPost_ret (results_tmp2 rfl _ _ _) rfl ?_
  exact RetB.bad H.out (Below.refl _ _)
 have g1:¬ (128:Int)≤p:=by omega
 have step:¬ (1 < N∧p=0∧B.getD 1 0 < 128)→Hid (numP B=if 64 < (lessZ B).length then .error 2 else .ok (lessZ B)):=fun h=>num_is (by
  rw [HN.out,HP.out]
  rintro (k|k|k)
  ·exact c0 k
  ·exact c1 k
  ·exact h k)
 have HLl:Hid ((lessZ B).length≤N):=by
  show _≤_
  rw [lessZ_drop,List.length_drop,HN.out]
  omega
 by_cases c2:p=0
 ·by_cases c3:1 < N
  ·have x1:=HC.out 1 (by omega)
   have y1:=HB.out 1
   have gq:(1:Int) < (N:Int):=by omega
   obtain ⟨q,hq⟩:∃ q,B.getD 1 0=q:=⟨_,rfl⟩
   have HQ:Hid (B.getD 1 0=q):=hq
   rw [hq] at x1 y1 step
   clear hq
   subst c2
   by_cases c4:q < 128
   ·have H:Hid (numP B=.error 7):=by show _=_;unfold numP;rw [if_pos (.inr (.inr ⟨by rw [HN.out];exact c3,HP.out,by rw [HQ.out];exact c4⟩))]
    clear step
    go_enter Tryz.func96,Tryz.ntmps96
    go_wp2_with fail
    refine bodyPost_ret (results_tmp2 rfl _ _ _) rfl ?_
    exact RetB.bad H.out (Below.refl _ _)
   ·have HNo:=step (fun h=>c4 h.2.2)
    clear step
    go_enter Tryz.func96,Tryz.ntmps96
    go_wp2_with fail
    refine (c13_less HV.out).mono ?_
    rintro e w1 ⟨v1,rfl,hR,rfl⟩
    obtain ⟨R,hRe⟩:∃ R,lessZ B=R:=⟨_,rfl⟩
    rw [hRe] at hR HNo HLl
    clear hRe
    obtain ⟨M,hM⟩:∃ M,R.length=M:=⟨_,rfl⟩
    have HM:Hid (R.length=M):=hM
    have HR2:Hid (Bs _ _ R):=hR
    obtain ⟨ao2,cap2,rfl,q1,q2,q3⟩:=hR
    unfold maxLen at q1
    rw [hM] at HR2 q2 q3 HNo ⊢
    have hMN:M≤N:=by have:=HLl.out;rw [HM.out] at this;exact this
    clear hM q3
    by_cases z1:64 < M
    ·have H:Hid (numP B=.error 2):=by show _=_;rw [HNo.out,if_pos z1]
     have u1:(64:Int) < (M:Int):=by omega
     go_wp2_with fail
     refine bodyPost_ret (results_tmp2 rfl _ _ _) rfl ?_
     exact RetB.bad H.out (Below.refl _ _)
    ·have H:Hid (numP B=.ok R):=by show _=_;rw [HNo.out,if_neg z1]
     have u1:¬ (64:Int) < (M:Int):=by omega
     go_wp2_with fail
     refine (c13_Clone HR2.out (by rw [HM.out];omega)).mono ?_
     rintro e w2 ⟨v2,rfl,b2,n2,bel⟩
     go_wp2_with fail
     refine bodyPost_ret (results_tmp2 rfl _ _ _) rfl ?_
     exact RetB.ok H.out b2 n2 bel
  ·have HNo:=step (fun h=>c3 h.1)
   have gq:¬ (1:Int) < (N:Int):=by omega
   subst c2
   clear step
   go_enter Tryz.func96,Tryz.ntmps96
   go_wp2_with fail
   refine (c13_less HV.out).mono ?_
   rintro e w1 ⟨v1,rfl,hR,rfl⟩
   obtain ⟨R,hRe⟩:∃ R,lessZ B=R:=⟨_,rfl⟩
   rw [hRe] at hR HNo HLl
   clear hRe
   obtain ⟨M,hM⟩:∃ M,R.length=M:=⟨_,rfl⟩
   have HM:Hid (R.length=M):=hM
   have HR2:Hid (Bs _ _ R):=hR
   obtain ⟨ao2,cap2,rfl,q1,q2,q3⟩:=hR
   unfold maxLen at q1
   rw [hM] at HR2 q2 q3 HNo ⊢
   have hMN:M≤N:=by have:=HLl.out;rw [HM.out] at this;exact this
   clear hM q3
   by_cases z1:64 < M
   ·have H:Hid (numP B=.error 2):=by show _=_;rw [HNo.out,if_pos z1]
    have u1:(64:Int) < (M:Int):=by omega
    go_wp2_with fail
    refine bodyPost_ret (results_tmp2 rfl _ _ _) rfl ?_
    exact RetB.bad H.out (Below.refl _ _)
   ·have H:Hid (numP B=.ok R):=by show _=_;rw [HNo.out,if_neg z1]
    have u1:¬ (64:Int) < (M:Int):=by omega
    go_wp2_with fail
    refine (c13_Clone HR2.out (by rw [HM.out];omega)).mono ?_
    rintro e w2 ⟨v2,rfl,b2,n2,bel⟩
    go_wp2_with fail
    refine bodyPost_ret (results_tmp2 rfl _ _ _) rfl ?_
    exact RetB.ok H.out b2 n2 bel
 ·have HNo:=step (fun h=>c2 h.2.1)
  clear step
  go_enter Tryz.func96,Tryz.ntmps96
  go_wp2_with fail
  refine (c13_less HV.out).mono ?_
  rintro e w1 ⟨v1,rfl,hR,rfl⟩
  obtain ⟨R,hRe⟩:∃ R,lessZ B=R:=⟨_,rfl⟩
  rw [hRe] at hR HNo HLl
  clear hRe
  obtain ⟨M,hM⟩:∃ M,R.length=M:=⟨_,rfl⟩
  have HM:Hid (R.length=M):=hM
  have HR2:Hid (Bs _ _ R):=hR
  obtain ⟨ao2,cap2,rfl,q1,q2,q3⟩:=hR
  unfold maxLen at q1
  rw [hM] at HR2 q2 q3 HNo ⊢
  have hMN:M≤N:=by have:=HLl.out;rw [HM.out] at this;exact this
  clear hM q3
  by_cases z1:64 < M
  ·have H:Hid (numP B=.error 2):=by show _=_;rw [HNo.out,if_pos z1]
   have u1:(64:Int) < (M:Int):=by omega
   go_wp2_with fail
   refine bodyPost_ret (results_tmp2 rfl _ _ _) rfl ?_
   exact RetB.bad H.out (Below.refl _ _)
  ·have H:Hid (numP B=.ok R):=by show _=_;rw [HNo.out,if_neg z1]
   have u1:¬ (64:Int) < (M:Int):=by omega
   go_wp2_with fail
   refine (c13_Clone HR2.out (by rw [HM.out];omega)).mono ?_
   rintro e w2 ⟨v2,rfl,b2,n2,bel⟩
   go_wp2_with fail
   refine bodyPost_ret (results_tmp2 rfl _ _ _) rfl ?_
   exact RetB.ok H.out b2 n2 bel
theorem con_Number {v:Value} {B:List Int} {w:World} (hv:Bs w v B) (b:byt B) (hl:B.length≤140737488351232) :
  Calls Tryz.prog 96 #[v] w fun e w'=>(∀ n,numP B=.ok n→∃ v':Value,e=.returned (.tuple #[v',.nilIface])∧Bs w' v' n∧NewV w v'∧Below w.heap.size w w')∧(∀ c,numP B=.error c→∃ (ao:Option Addr) (cap:Nat),e=.returned (.tuple #[.slice ao 0 cap,.iface 46 (.int .i64 (c:Int))])∧Below w.heap.size w w'):=(c13_Number hv b hl).mono (fun _ _ h=>h)
end Go.Proofs.YtnkipgbnnhahbaaGreatDoor
