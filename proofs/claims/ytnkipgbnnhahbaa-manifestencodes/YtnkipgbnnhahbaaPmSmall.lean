/- The document's Small and SmallOf of layer 13. -/
import Derived.Test.YtnkipgbnnhahbaaPmNum
import Derived.Test.YtnkipgbnnhahbaaPrOidOf
import Derived.Test.YtnkipgbnnhahbaaRwT
import Derived.Test.YtnkipgbnnhahbaaPmNumO
import Derived.Test.YtnkipgbnnhahbaaRows
import Derived.Deep.OwnRows
import Derived.Deep.AppendLies
import Derived.Deep.WholeRow
import Derived.Deep.RegionHeld3
import Derived.Deep.DeepCutAuto
import Derived.Deep.DeepFit
namespace Go.Proofs.Ytnkipgbnnhahbaa
open Go.RowKit
set_option linter.unusedSimpArgs false in
set_option maxRecDepth 100000 in
set_option maxHeartbeats 1000000 in
theorem r13_SmallOfN {x:Int} {w:World} (hx:-9223372036854775808≤x∧x≤9223372036854775807) :
  Calls Try.prog 14 #[.int .i64 x] w fun e w'=>(∀ n,smallOf x=.ok n→∃ v':Value,e=.returned (.tuple #[v',.int .i64 0])∧Bs w' v' n∧NewV w v'∧Below w.heap.size w w')∧(∀ c,smallOf x=.error c→e=.returned (.tuple #[.slice none 0 0,.int .i64 (c:Int)])∧Below w.heap.size w w'):=by
 by_cases c1:x < 0
 ·have H:Hid (smallOf x=.error 3):=by show _=_;unfold smallOf;rw [if_pos (.inl c1)]
  go_enter Try.func14,Try.ntmps14
  go_wp2_with fail
  refine bodyPost_ret (results_tmp2 rfl _ _ _) rfl ?_
  exact ⟨fun n h=>(by rw [H.out] at h;cases h),fun c h=>(by rw [H.out] at h;cases h;exact ⟨rfl,Below.refl _ _⟩)⟩
 by_cases c2:2147483647 < x
 ·have H:Hid (smallOf x=.error 3):=by show _=_;unfold smallOf;rw [if_pos (.inr c2)]
  go_enter Try.func14,Try.ntmps14
  go_wp2_with fail
  refine bodyPost_ret (results_tmp2 rfl _ _ _) rfl ?_
  exact ⟨fun n h=>(by rw [H.out] at h;cases h),fun c h=>(by rw [H.out] at h;cases h;exact ⟨rfl,Below.refl _ _⟩)⟩
 have H0:Hid (smallOf x=numOf (digF 4 x.toNat [])):=by show _=_;unfold smallOf;rw [if_neg (by omega)]
 obtain ⟨n,rfl⟩:=Int.eq_ofNat_of_zero_le (by omega:0≤x)
 rw [Int.toNat_natCast] at H0
 have hn:n < 256 ^ 4:=by
  have:(256:Nat) ^ 4=4294967296:=by decide
  omega
 have HN:Hid (n < 256 ^ 4):=hn
 clear hn hx
 go_enter Try.func14,Try.ntmps14
 go_wp2_with fail
 obtain ⟨W,hW⟩:∃ z,z=w:=⟨_,rfl⟩
 rw [← hW]
 have HW:Hid (W=w):=hW
 clear hW
 go_loopw [0,4] (fun nv lv wx=>∃ (m f:Nat) (X:List Int),m≤2147483647∧f≤4∧nv=.int .i64 (m:Int)∧Bs wx lv X∧Hid (byt X)∧X.length + f≤4∧Hid (m < 256 ^ f)∧Hid (digF 4 n []=digF f m X)∧Below W.heap.size W wx) (fun nv _ _=>(intOf nv).toNat)
 case atStart=>exact ⟨n,4,[],by omega,by omega,rfl,⟨none,0,rfl,by decide,by decide,fun h=>by simp at h⟩,fun j=>by simp,by simp,HN,rfl,Below.refl _ _⟩
 case round =>
  obtain ⟨m,f,X,hm,hf,rfl,bs,HX,hXl,HM,HE,bel⟩:=hrel
  by_cases h0:0 < m
  ·have g1:(0:Int) < (m:Int):=by omega
   have q1:(m:Int).tmod 256=((m % 256:Nat):Int):=by rw [Int.tmod_eq_emod_of_nonneg (by omega)];omega
   have q2:(m:Int).tdiv 256=((m / 256:Nat):Int):=by rw [Int.tdiv_eq_ediv_of_nonneg (by omega)];omega
   have q3:IntKind.i64.wrap ((m / 256:Nat):Int)=((m / 256:Nat):Int):=by rw [IntKind.wrap_i64];omega
   have q4:IntKind.u8.wrap ((m % 256:Nat):Int)=((m % 256:Nat):Int):=by rw [IntKind.wrap_u8];omega
   obtain ⟨f',rfl⟩:∃ f',f=f' + 1:=⟨f - 1,by have:=HM.out;cases f with|zero=>simp at this;omega|succ f=>omega⟩
   have HE2:Hid (digF 4 n []=digF f' (m / 256) (((m % 256:Nat):Int) :: X)):=by show _=_;rw [HE.out,digF,if_neg (by omega)]
   have HM2:Hid (m / 256 < 256 ^ f'):=by have:=HM.out;rw [Nat.pow_succ] at this;show _ < _;omega
   have hme:m / 256 < m:=by omega
   have yb:m % 256 < 256:=by omega
   obtain ⟨y,hy⟩:∃ y,m % 256=y:=⟨_,rfl⟩
   obtain ⟨d,hd⟩:∃ d,m / 256=d:=⟨_,rfl⟩
   rw [hy] at q1 q4 HE2 yb
   rw [hd] at q2 q3 HE2 HM2 hme
   clear hy hd HE HM
   have own4:=own_made wr [.int .u8 (y:Int)] 5 1 wr.heap.size rfl (Nat.le_refl _) (by decide)
   have hbl:Below wr.heap.size wr (wr.alloc (.cells #[.int .u8 (y:Int)] 5)):=(Below.refl _ _).alloc (Nat.le_refl _) _
   have bs4:=bs.later hbl
   have HX2:Hid (byt ((y:Int) :: X)):=fun j=>by
    cases j with
    | zero=>rw [List.getD_cons_zero];omega
    | succ j=>rw [List.getD_cons_succ];exact HX.out j
   go_upto_region 6 with (first|(at_builtin;refine wpList_append_bs (by rfl) _ _ (by rfl) wr.heap.size _ 1 [(y:Int)] (by rfl) own4 _ X (by rfl) bs4 (by omega) (by simp) ?_;intro v5 w5 own5 hgrow hat)|fail)
   have hb5:=below_own (base:=wr.heap.size) hbl hgrow (by simp) (fun g hg=>own_geM own4 hg) (Nat.le_refl _)
   have b5:=Bs.of_own own5
   replace bel:=bel.trans (hb5.mono bel.size)
   clear own4 hbl bs4 hgrow hat own5 hb5 bs
   go_wp2_with fail
   go_roundw
   case rel=>exact ⟨d,f',(y:Int) :: X,by omega,by omega,rfl,b5,HX2,by rw [List.length_cons];omega,HM2,HE2,bel⟩
   case measure=>simp [intOf];omega
  ·have g1:¬ (0:Int) < (m:Int):=by omega
   have hm0:m=0:=by omega
   subst hm0
   have H1:Hid (smallOf (n:Int)=numOf X):=by show _=_;rw [H0.out,HE.out,digF_0]
   go_wp2_with fail
   refine (r13_NumberOfN bs HX.out (by omega)).mono ?_
   rintro e w6 ⟨hok,hbad⟩
   cases hp:numOf X with
   | ok k =>
    obtain ⟨v6,rfl,b6,hn6,hb6⟩:=hok k hp
    have hs6:=bel.size
    have H:Hid (smallOf (n:Int)=.ok k):=by show _=_;rw [H1.out,hp]
    replace bel:=bel.trans (hb6.mono bel.size)
    go_wp2_with fail
    refine bodyPost_ret (results_tmp2 rfl _ _ _) rfl ?_
    exact ⟨fun n h=>(by rw [H.out] at h;cases h;exact ⟨_,rfl,b6,fun a m c e h0=>(by have:=hn6 a m c e h0;have:=HW.out;subst this;omega),by rw [← HW.out];exact bel⟩),fun c h=>(by rw [H.out] at h;cases h)⟩
   | error k =>
    obtain ⟨rfl,hb6⟩:=hbad k hp
    have H:Hid (smallOf (n:Int)=.error k):=by show _=_;rw [H1.out,hp]
    replace bel:=bel.trans (hb6.mono bel.size)
    go_wp2_with fail
    refine bodyPost_ret (results_tmp2 rfl _ _ _) rfl ?_
    exact ⟨fun n h=>(by rw [H.out] at h;cases h),fun c h=>(by rw [H.out] at h;cases h;exact ⟨rfl,by rw [← HW.out];exact bel⟩)⟩
end Go.Proofs.Ytnkipgbnnhahbaa
