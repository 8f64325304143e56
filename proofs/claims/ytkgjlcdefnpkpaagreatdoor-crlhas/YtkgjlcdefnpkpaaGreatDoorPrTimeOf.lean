/- The program's TimeOf of layer 13. -/
import Derived.Test.YtkgjlcdefnpkpaaGreatDoorPrTimD
import Derived.Test.YtkgjlcdefnpkpaaGreatDoorPrTimE
import Derived.Test.YtkgjlcdefnpkpaaGreatDoorRows
import Derived.Deep.OwnRows
import Derived.Deep.AppendLies
import Derived.Great.BuildSlice
import Derived.Deep.WholeRow
import Derived.Deep.RegionHeld3
import Derived.Deep.DeepCutAuto
import Derived.Deep.DeepFit
namespace Go.Proofs.YtkgjlcdefnpkpaaGreatDoor
open Go.RowKit
/-- a tag and bytes that are answered, or an error's code -/
def RetW (w:World) (r:Except Nat (Int × List Int)) (e:Ending) (w':World):Prop:=(∀ (a:Int) (X:List Int),r=.ok (a,X)→∃ v':Value,e=.returned (.tuple #[.int .i64 a,v',.nilIface])∧Bs w' v' X∧NewV w v'∧Below w.heap.size w w')∧(∀ c,r=.error c→∃ (ao:Option Addr) (cap:Nat),e=.returned (.tuple #[.int .i64 0,.slice ao 0 cap,.iface 56 (.int .i64 (c:Int))])∧Below w.heap.size w w')
theorem RetW.ok {w w':World} {r:Except Nat (Int × List Int)} {a:Int} {X:List Int} {v:Value} (h:r=.ok (a,X)) (hb:Bs w' v X) (hn:NewV w v) (bel:Below w.heap.size w w'):RetW w r (.returned (.tuple #[.int .i64 a,v,.nilIface])) w' :=
 ⟨fun m j hm=>(by rw [h] at hm;cases hm;exact ⟨v,rfl,hb,hn,bel⟩),fun c hc=>(by rw [h] at hc;cases hc)⟩
theorem RetW.bad {w w':World} {r:Except Nat (Int × List Int)} {c:Nat} {ao:Option Addr} {cap:Nat} (h:r=.error c) (bel:Below w.heap.size w w'):RetW w r (.returned (.tuple #[.int .i64 0,.slice ao 0 cap,.iface 56 (.int .i64 (c:Int))])) w' :=
 ⟨fun m j hm=>(by rw [h] at hm;cases hm),fun c2 hc=>(by rw [h] at hc;cases hc;exact ⟨ao,cap,rfl,bel⟩)⟩
theorem timeOf_no {t:Int} (h:t < -631152000∨253402300799 < t):timeOf t=.error 3:=by unfold timeOf;rw [if_pos h]
/-- the pairs that a moment is told by -/
theorem timeOf_mom {t:Int} {y m d c d1 k1 k3 k4:Nat} (h1:¬ t < -631152000) (h2:¬ 253402300799 < t) (hm:MomIs t y m d c) (hk:k1=c / 3600∧k3=c % 3600 / 60∧k4=c % 60∧d1=d + 1):timeOf t=.ok (tagT y,(if 2049 < y then twoN (y / 100) else [])++(twos [y % 100,m,d1,k1,k3,k4]++[90])):=by
 obtain ⟨a1,a2,a3,a4,a5,a6,a7⟩:=hm
 obtain ⟨rfl,rfl,rfl,rfl⟩:=hk
 obtain ⟨hM,hR⟩:=mon_ahead a1 a2 a3 a4 a5 a6 a7
 rw [timeOf_is hM h1 h2,hR]
 unfold bodyT
 obtain ⟨b1,b2,b3,b4⟩:=body_parts (d:=d) a6
 rw [b1,b2,b3,b4]
 simp only [twos,List.append_assoc,List.append_nil]
theorem mom_small {t:Int} {y m d c:Nat} (hm:MomIs t y m d c):d + 1≤31:=by
 obtain ⟨_,_,_,_,a5,_⟩:=hm
 have:=days_le (y:=y) (m:=m)
 omega
set_option linter.unusedSimpArgs false in
set_option maxRecDepth 100000 in
set_option maxHeartbeats 4000000 in
theorem c13_TimeOf {t:Int} {w:World} :
    Calls Tryz.prog 83 #[.int .i64 t] w (RetW w (timeOf t)):=by
  by_cases c1:t < -631152000
  · have H:Hid (timeOf t=.error 3):=timeOf_no (.inl c1)
    go_enter Tryz.func83,Tryz.ntmps83
    go_wp2_with fail
    refine bodyPost_ret (results_tmp3 rfl _ _ _) rfl ?_
    exact RetW.bad H.out (Below.refl _ _)
  by_cases c2:253402300799 < t
  · have H:Hid (timeOf t=.error 3):=timeOf_no (.inr c2)
    go_enter Tryz.func83,Tryz.ntmps83
    go_wp2_with fail
    refine bodyPost_ret (results_tmp3 rfl _ _ _) rfl ?_
    exact RetW.bad H.out (Below.refl _ _)
  go_enter Tryz.func83,Tryz.ntmps83
  go_wp2_with fail
  refine (c13_momentOf (t:=t) (by omega) (by omega)).mono ?_
  rintro e W1 ⟨y,m,d,c,d1,k1,k3,k4,rfl,hM,hK,bel⟩
  have HT:Hid _:=timeOf_mom (by omega) (by omega) hM hK
  have hds:=mom_small hM
  obtain ⟨a1,a2,a3,a4,_,a6,_⟩:=hM
  have b1:k1 < 24:=by omega
  have b3:k3 < 60:=by omega
  have b4:k4 < 60:=by omega
  have b5:d1≤31:=by omega
  clear hK hds
  have t1:(y:Int).tdiv 100=((y / 100:Nat):Int):=by rw [Int.tdiv_eq_ediv_of_nonneg (by omega)];omega
  have t2:(y:Int).tmod 100=((y % 100:Nat):Int):=by rw [Int.tmod_eq_emod_of_nonneg (by omega)];omega
  have t3:(y:Int) / 100=((y / 100:Nat):Int):=by omega
  have t4:(y:Int) % 100=((y % 100:Nat):Int):=by omega
  have hyhb:y / 100≤99:=by omega
  have hylb:y % 100≤99:=by omega
  obtain ⟨yh,hyh⟩:∃ z,y / 100=z:=⟨_,rfl⟩
  obtain ⟨yl,hyl⟩:∃ z,y % 100=z:=⟨_,rfl⟩
  rw [hyh] at t1 t3 hyhb
  rw [hyl] at t2 t4 hylb
  have r1:IntKind.i64.wrap (yh:Int)=(yh:Int):=by rw [IntKind.wrap_i64];omega
  have r2:IntKind.i64.wrap (yl:Int)=(yl:Int):=by rw [IntKind.wrap_i64];omega
  have hz:=zero_moD.out
  replace bel:=below_alloc (o:=.cells #[.int .i64 (y:Int),.int .i64 (m:Int),.int .i64 (d1:Int),.int .i64 (k1:Int),.int .i64 (k3:Int),.int .i64 (k4:Int)] 196) bel
  have BM:=Blk.new W1 [.int .i64 (y:Int),.int .i64 (m:Int),.int .i64 (d1:Int),.int .i64 (k1:Int),.int .i64 (k3:Int),.int .i64 (k4:Int)] 196 W1.heap.size rfl
  go_upto_region 4 with (first|(refine wpList_store_row rfl 196 _ _ rfl W1.heap.size #[.int .i64 (y:Int),.int .i64 (m:Int),.int .i64 (d1:Int),.int .i64 (k1:Int),.int .i64 (k3:Int),.int .i64 (k4:Int)] rfl rfl 196 _ (heap_alloc_last _ _) (by rw [size_moD];rfl) rfl (by simp [Value.oneCell']) ?_;rw [World.setRow_alloc_new])|fail)
  clear hz
  obtain ⟨gm,hgm⟩:∃ z,W1.heap.size=z:=⟨_,rfl⟩
  rw [hgm] at BM ⊢
  clear hgm
  generalize W1.alloc (.cells #[.int .i64 (y:Int),.int .i64 (m:Int),.int .i64 (d1:Int),.int .i64 (k1:Int),.int .i64 (k3:Int),.int .i64 (k4:Int)] 196)=W2 at *
  have f0:=BM.cell 0 _ rfl
  have f1:=BM.cell 1 _ rfl
  have f2:=BM.cell 2 _ rfl
  have f3:=BM.cell 3 _ rfl
  have f4:=BM.cell 4 _ rfl
  have f5:=BM.cell 5 _ rfl
  have lm:=BM.lt
  have HYH:Hid (y / 100=yh):=hyh
  have HYL:Hid (y % 100=yl):=hyl
  clear hyh hyl
  by_cases cy:2049 < y
  · have H:Hid (timeOf t=.ok (24,twos [yh,yl,m,d1,k1,k3,k4]++[90])):=by
      show _=_
      rw [HT.out,HYH.out,HYL.out]
      unfold tagT
      rw [if_pos (by omega),if_pos (by omega)]
      simp only [twos,List.append_assoc,List.append_nil]
    have gy:(2050:Int)≤(y:Int):=by omega
    go_upto_region 7 with fail
    have BA:=own_made W2 (i64s [(yh:Int),(yl:Int),(m:Int),(d1:Int),(k1:Int),(k3:Int),(k4:Int)]) 3 7 W2.heap.size rfl (Nat.le_refl _) (by decide)
    have IA:Is (W2.alloc (.cells #[.int .i64 (yh:Int),.int .i64 (yl:Int),.int .i64 (m:Int),.int .i64 (d1:Int),.int .i64 (k1:Int),.int .i64 (k3:Int),.int .i64 (k4:Int)] 3)) (.slice (some ⟨W2.heap.size,0,none⟩) 7 7) [(yh:Int),(yl:Int),(m:Int),(d1:Int),(k1:Int),(k3:Int),(k4:Int)]:=Is.of_own BA
    have bel3:Below w.heap.size w (W2.alloc (.cells #[.int .i64 (yh:Int),.int .i64 (yl:Int),.int .i64 (m:Int),.int .i64 (d1:Int),.int .i64 (k1:Int),.int .i64 (k3:Int),.int .i64 (k4:Int)] 3)):=below_alloc bel
    have hlw:=bel.size
    clear BA
    go_upto_region 8 with fail
    clear f0 f1 f2 f3 f4 f5 lm BM
    obtain ⟨ga,hga⟩:∃ z,W2.heap.size=z:=⟨_,rfl⟩
    rw [hga] at IA ⊢
    have hga2:w.heap.size≤ga:=by omega
    clear hga
    generalize W2.alloc (.cells #[.int .i64 (yh:Int),.int .i64 (yl:Int),.int .i64 (m:Int),.int .i64 (d1:Int),.int .i64 (k1:Int),.int .i64 (k3:Int),.int .i64 (k4:Int)] 3)=W3 at *
    have IB:Is W3 (.slice (some ⟨ga,0,none⟩) 7 7) (([yh,yl,m,d1,k1,k3,k4]:List Nat).map (fun n:Nat=>(n:Int))):=IA
    have HIB:Hid _:=IB
    clear IB IA
    go_wp2_with fail
    refine c13_under24.mono ?_
    rintro e w5 ⟨rfl,rfl⟩
    have v1:IntKind.i64.wrap (7 - 7)=0:=by decide
    go_wp2_with fail
    refine (c13_pairsBody (l:=[yh,yl,m,d1,k1,k3,k4]) HIB.out (by
      intro j
      match j with
      | 0=>show yh≤99;omega
      | 1=>show yl≤99;omega
      | 2=>show m≤99;omega
      | 3=>show d1≤99;omega
      | 4=>show k1≤99;omega
      | 5=>show k3≤99;omega
      | 6=>show k4≤99;omega
      | (j + 7)=>exact Nat.zero_le _) (by show 7≤7;omega)).mono ?_
    rintro e w6 ⟨v6,rfl,b6,n6,hb6⟩
    have bel6:=bel3.trans (hb6.mono bel3.size)
    have n7:=n6.up bel3.size
    go_wp2_with fail
    refine bodyPost_ret (results_tmp3 rfl _ _ _) rfl ?_
    exact RetW.ok H.out b6 n7 bel6
  · have H:Hid (timeOf t=.ok (23,twos [yl,m,d1,k1,k3,k4]++[90])):=by
      show _=_
      rw [HT.out,HYH.out,HYL.out]
      unfold tagT
      rw [if_neg (by omega),if_neg (by omega)]
      rfl
    have gy:¬ (2050:Int)≤(y:Int):=by omega
    go_upto_region 7 with fail
    have BA:=own_made W2 (i64s [(yh:Int),(yl:Int),(m:Int),(d1:Int),(k1:Int),(k3:Int),(k4:Int)]) 3 7 W2.heap.size rfl (Nat.le_refl _) (by decide)
    have IA:Is (W2.alloc (.cells #[.int .i64 (yh:Int),.int .i64 (yl:Int),.int .i64 (m:Int),.int .i64 (d1:Int),.int .i64 (k1:Int),.int .i64 (k3:Int),.int .i64 (k4:Int)] 3)) (.slice (some ⟨W2.heap.size,0,none⟩) 7 7) [(yh:Int),(yl:Int),(m:Int),(d1:Int),(k1:Int),(k3:Int),(k4:Int)]:=Is.of_own BA
    have bel3:Below w.heap.size w (W2.alloc (.cells #[.int .i64 (yh:Int),.int .i64 (yl:Int),.int .i64 (m:Int),.int .i64 (d1:Int),.int .i64 (k1:Int),.int .i64 (k3:Int),.int .i64 (k4:Int)] 3)):=below_alloc bel
    have hlw:=bel.size
    clear BA
    go_upto_region 8 with fail
    clear f0 f1 f2 f3 f4 f5 lm BM
    obtain ⟨ga,hga⟩:∃ z,W2.heap.size=z:=⟨_,rfl⟩
    rw [hga] at IA ⊢
    have hga2:w.heap.size≤ga:=by omega
    clear hga
    generalize W2.alloc (.cells #[.int .i64 (yh:Int),.int .i64 (yl:Int),.int .i64 (m:Int),.int .i64 (d1:Int),.int .i64 (k1:Int),.int .i64 (k3:Int),.int .i64 (k4:Int)] 3)=W3 at *
    have IB:Is W3 (.slice (some ⟨ga,1,none⟩) 6 6) (([yl,m,d1,k1,k3,k4]:List Nat).map (fun n:Nat=>(n:Int))):=is_cut IA rfl (r:=1) (by omega) rfl (fun _=>rfl) rfl
    have HIB:Hid _:=IB
    clear IB IA
    go_wp2_with fail
    refine c13_under23.mono ?_
    rintro e w5 ⟨rfl,rfl⟩
    have v1:IntKind.i64.wrap (7 - 6)=1:=by decide
    go_wp2_with fail
    refine (c13_pairsBody (l:=[yl,m,d1,k1,k3,k4]) HIB.out (by
      intro j
      match j with
      | 0=>show yl≤99;omega
      | 1=>show m≤99;omega
      | 2=>show d1≤99;omega
      | 3=>show k1≤99;omega
      | 4=>show k3≤99;omega
      | 5=>show k4≤99;omega
      | (j + 6)=>exact Nat.zero_le _) (by show 6≤7;omega)).mono ?_
    rintro e w6 ⟨v6,rfl,b6,n6,hb6⟩
    have bel6:=bel3.trans (hb6.mono bel3.size)
    have n7:=n6.up bel3.size
    go_wp2_with fail
    refine bodyPost_ret (results_tmp3 rfl _ _ _) rfl ?_
    exact RetW.ok H.out b6 n7 bel6
theorem con_TimeOf {x:Int} {w:World} (_:-9223372036854775808≤x∧x≤9223372036854775807) :
  Calls Tryz.prog 83 #[.int .i64 x] w fun e w'=>(∀ (a:Int) (X:List Int),timeOf x=.ok (a,X)→∃ v':Value,e=.returned (.tuple #[.int .i64 a,v',.nilIface])∧Bs w' v' X∧NewV w v'∧Below w.heap.size w w')∧(∀ c,timeOf x=.error c→∃ (ao:Option Addr) (cap:Nat),e=.returned (.tuple #[.int .i64 0,.slice ao 0 cap,.iface 56 (.int .i64 (c:Int))])∧Below w.heap.size w w'):=c13_TimeOf.mono (fun _ _ h=>h)
end Go.Proofs.YtkgjlcdefnpkpaaGreatDoor
