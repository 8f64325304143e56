/- The program's SmallOf of layer 13. -/
import Derived.Test.YtnkipgbnnhahbaaPrNumberOf
import Derived.Test.YtnkipgbnnhahbaaRows
import Derived.Deep.OwnRows
import Derived.Deep.AppendLies
import Derived.Great.BuildSlice
import Derived.Deep.WholeRow
import Derived.Deep.RegionHeld3
import Derived.Deep.DeepCutAuto
import Derived.Deep.DeepFit
namespace Go.Proofs.Ytnkipgbnnhahbaa
open Go.RowKit
theorem less_dig {n:Nat} (h:n < 4294967296):lessZ [((n / 16777216 % 256:Nat):Int),((n / 65536 % 256:Nat):Int),((n / 256 % 256:Nat):Int),((n % 256:Nat):Int)]=digF 4 n []:=by
 simp only [lessZ,digF]
 have e1:n / 256 / 256=n / 65536:=by omega
 have e2:n / 65536 / 256=n / 16777216:=by omega
 rw [e1,e2]
 by_cases c3:n / 16777216=0
 ·have d3:((n / 16777216 % 256:Nat):Int)=0:=by omega
  rw [if_pos d3,if_pos c3]
  by_cases c2:n / 65536=0
  ·have d2:((n / 65536 % 256:Nat):Int)=0:=by omega
   rw [if_pos d2,if_pos c2]
   by_cases c1:n / 256=0
   ·have d1:((n / 256 % 256:Nat):Int)=0:=by omega
    rw [if_pos d1,if_pos c1]
    by_cases c0:n=0
    ·rw [if_pos (by omega),if_pos c0]
    ·rw [if_neg (by omega),if_neg c0]
   ·rw [if_neg (by omega),if_neg (by omega),if_neg c1]
  ·rw [if_neg (by omega),if_neg (by omega),if_neg (by omega),if_neg c2]
 ·rw [if_neg (by omega),if_neg (by omega),if_neg (by omega),if_neg (by omega),if_neg c3]
theorem numOf_less {X Y:List Int} (h:lessZ X=Y) (hs:lessZ Y=Y):numOf X=numOf Y:=by
 unfold numOf
 rw [h,hs]
theorem small_num {n:Nat} (h:n≤2147483647):smallOf (n:Int)=numOf [((n / 16777216 % 256:Nat):Int),((n / 65536 % 256:Nat):Int),((n / 256 % 256:Nat):Int),((n % 256:Nat):Int)]:=by
 unfold smallOf
 rw [if_neg (by omega),Int.toNat_natCast]
 have hl:n < 256 ^ 4:=by
  have:(256:Nat) ^ 4=4294967296:=by decide
  omega
 refine (numOf_less (less_dig (by omega)) (lessZ_self (fun h0=>?_))).symm
 by_cases z:n=0
 ·rw [z,digF_0] at h0;simp at h0
 ·exact digF_head 4 n [] hl (by omega)
theorem bs_litsP (w:World) (X:List Int) (q:Nat) (hl:X.length=q) (h:q≤maxLen):Bs (w.alloc (.cells (u8s X).toArray 5)) (.slice (some ⟨w.heap.size,0,none⟩) q q) X:=by
 have:=Bs.of_own (own_made w (u8s X) 5 q w.heap.size (by simp [hl]) (Nat.le_refl _) h)
 exact this
set_option linter.unusedSimpArgs false in
set_option maxRecDepth 100000 in
set_option maxHeartbeats 1000000 in
theorem c13_SmallOf {x:Int} {w:World} :
  Calls Try.prog 20 #[.int .i64 x] w (RetB w (smallOf x)):=by
 by_cases c1:x < 0
 ·have H:Hid (smallOf x=.error 3):=by show _=_;unfold smallOf;rw [if_pos (.inl c1)]
  go_enter Try.func20,Try.ntmps20
  go_wp2_with fail
  refine bodyPost_ret (results_tmp2 rfl _ _ _) rfl ?_
  exact RetB.bad H.out (Below.refl _ _)
 by_cases c2:2147483647 < x
 ·have H:Hid (smallOf x=.error 3):=by show _=_;unfold smallOf;rw [if_pos (.inr c2)]
  go_enter Try.func20,Try.ntmps20
  go_wp2_with fail
  refine bodyPost_ret (results_tmp2 rfl _ _ _) rfl ?_
  exact RetB.bad H.out (Below.refl _ _)
 obtain ⟨n,rfl⟩:=Int.eq_ofNat_of_zero_le (by omega:0≤x)
 have H0:Hid _:=small_num (n:=n) (by omega)
 have y3:n / 16777216 % 256 < 256:=by omega
 have y2:n / 65536 % 256 < 256:=by omega
 have y1:n / 256 % 256 < 256:=by omega
 have y0:n % 256 < 256:=by omega
 have e3:IntKind.u8.wrap ((n:Int) / 16777216)=((n / 16777216 % 256:Nat):Int):=by rw [IntKind.wrap_u8];omega
 have e2:IntKind.u8.wrap ((n:Int) / 65536)=((n / 65536 % 256:Nat):Int):=by rw [IntKind.wrap_u8];omega
 have e1:IntKind.u8.wrap ((n:Int) / 256)=((n / 256 % 256:Nat):Int):=by rw [IntKind.wrap_u8];omega
 have e0:IntKind.u8.wrap (n:Int)=((n % 256:Nat):Int):=by rw [IntKind.wrap_u8];omega
 obtain ⟨a3,h3⟩:∃ a,n / 16777216 % 256=a:=⟨_,rfl⟩
 obtain ⟨a2,h2⟩:∃ a,n / 65536 % 256=a:=⟨_,rfl⟩
 obtain ⟨a1,h1⟩:∃ a,n / 256 % 256=a:=⟨_,rfl⟩
 obtain ⟨a0,h0⟩:∃ a,n % 256=a:=⟨_,rfl⟩
 rw [h3] at e3 y3 H0
 rw [h2] at e2 y2 H0
 rw [h1] at e1 y1 H0
 rw [h0] at e0 y0 H0
 clear h0 h1 h2 h3
 have BN:=bs_litsP w [(a3:Int),(a2:Int),(a1:Int),(a0:Int)] 4 rfl (by decide)
 have hbl:Below w.heap.size w (w.alloc (.cells #[.int .u8 (a3:Int),.int .u8 (a2:Int),.int .u8 (a1:Int),.int .u8 (a0:Int)] 5)):=(Below.refl _ _).alloc (Nat.le_refl _) _
 have hby:byt [(a3:Int),(a2:Int),(a1:Int),(a0:Int)]:=byt_of _ (fun j hj=>by
  match j,hj with
  | 0,_=>exact ⟨by show (0:Int)≤(a3:Int);omega,by show (a3:Int) < 256;omega⟩
  | 1,_=>exact ⟨by show (0:Int)≤(a2:Int);omega,by show (a2:Int) < 256;omega⟩
  | 2,_=>exact ⟨by show (0:Int)≤(a1:Int);omega,by show (a1:Int) < 256;omega⟩
  | 3,_=>exact ⟨by show (0:Int)≤(a0:Int);omega,by show (a0:Int) < 256;omega⟩)
 go_enter Try.func20,Try.ntmps20
 go_wp2_with fail
 refine (con_NumberOf BN hby (by show 4≤140737488351232;omega)).mono ?_
 rintro e w6 ⟨hok,hbad⟩
 cases hp:numOf [(a3:Int),(a2:Int),(a1:Int),(a0:Int)] with
 | ok k =>
  obtain ⟨v6,rfl,b6,n6,hb6⟩:=hok k hp
  have H:Hid (smallOf (n:Int)=.ok k):=by show _=_;rw [H0.out,hp]
  have bel:=hbl.trans (hb6.mono hbl.size)
  have n7:NewV w v6:=n6.up hbl.size
  clear hok hbad hp
  go_wp2_with fail
  refine bodyPost_ret (results_tmp2 rfl _ _ _) rfl ?_
  exact RetB.ok H.out b6 n7 bel
 | error k =>
  obtain ⟨ao,cap,rfl,hb6⟩:=hbad k hp
  have H:Hid (smallOf (n:Int)=.error k):=by show _=_;rw [H0.out,hp]
  have bel:=hbl.trans (hb6.mono hbl.size)
  clear hok hbad hp
  go_wp2_with fail
  refine bodyPost_ret (results_tmp2 rfl _ _ _) rfl ?_
  exact RetB.bad H.out (bel)
theorem con_SmallOf {x:Int} {w:World} (_:-9223372036854775808≤x∧x≤9223372036854775807) :
  Calls Try.prog 20 #[.int .i64 x] w fun e w'=>(∀ n,smallOf x=.ok n→∃ v':Value,e=.returned (.tuple #[v',.nilIface])∧Bs w' v' n∧NewV w v'∧Below w.heap.size w w')∧(∀ c,smallOf x=.error c→∃ (ao:Option Addr) (cap:Nat),e=.returned (.tuple #[.slice ao 0 cap,.iface 38 (.int .i64 (c:Int))])∧Below w.heap.size w w'):=(c13_SmallOf ).mono (fun _ _ h=>h)
end Go.Proofs.Ytnkipgbnnhahbaa
