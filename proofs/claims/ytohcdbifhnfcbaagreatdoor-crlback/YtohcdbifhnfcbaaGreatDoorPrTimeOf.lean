/- The program's pairsBody of layer 13. The program's TimeOf of layer 13. -/
import Derived.Test.YtohcdbifhnfcbaaGreatDoorPrG
import Derived.Test.YtohcdbifhnfcbaaGreatDoorPrTimD
import Derived.Test.YtohcdbifhnfcbaaGreatDoorDrDG
import Derived.Test.YtohcdbifhnfcbaaGreatDoorRows
import Derived.Deep.OwnRows
import Derived.Deep.AppendLies
import Derived.Great.BuildSlice
import Derived.Deep.WholeRow
import Derived.Deep.RegionHeld3
import Derived.Deep.DeepCutAuto
import Derived.Deep.DeepFit
namespace Go.Proofs.YtohcdbifhnfcbaaGreatDoor
open Go.RowKit
/-- pairs of digits, one behind the other -/
def twos:List Nat→List Int
 | []=>[]
 | n :: l=>twoN n++twos l
theorem twos_next {l:List Nat} {k:Nat} (h:k < l.length):twos (l.take (k + 1))=twos (l.take k)++twoN (l.getD k 0):=by
 induction l generalizing k with
 | nil=>simp at h
 | cons a l ih =>
  cases k with
  | zero=>simp [twos]
  | succ k =>
   have:=ih (k:=k) (by simpa using h)
   rw [List.take_succ_cons,List.take_succ_cons,twos,twos,this,List.getD_cons_succ,List.append_assoc]
theorem ints_get {l:List Nat} {k:Nat} (h:k < l.length):(l.map (fun n:Nat=>(n:Int))).getD k 0=((l.getD k 0:Nat):Int):=by
 rw [List.getD_eq_getElem?_getD,List.getElem?_map,List.getD_eq_getElem?_getD,List.getElem?_eq_getElem h]
 rfl
set_option linter.unusedSimpArgs false in
set_option maxRecDepth 100000 in
set_option maxHeartbeats 2000000 in
theorem c13_pairsBody {v:Value} {l:List Nat} {w:World} (hv:Is w v (l.map (fun n:Nat=>(n:Int)))) (hb:∀ j,l.getD j 0≤99) (hl:l.length≤7) :
  Calls Tryz.prog 128 #[v] w fun e w'=>∃ v',e=.returned v'∧Bs w' v' (twos l++[90])∧NewV w v'∧Below w.heap.size w w':=by
 obtain ⟨ao,cap,rfl,h1,h2,h3⟩:=hv
 obtain ⟨N,hN⟩:∃ N,l.length=N:=⟨_,rfl⟩
 have HN:Hid (l.length=N):=hN
 rw [List.length_map,hN] at h2 h3 ⊢
 rw [hN] at hl
 have HC:Hid (∀ j,j < N→∃ g o,ao=some ⟨g,o,none⟩∧w.cell? ⟨g,o + j,none⟩=some (.int .i64 ((l.getD j 0:Nat):Int))∧g < w.heap.size):=fun j hj=>by
  obtain ⟨g,o,e1,e2,e3⟩:=h3 (by omega)
  have:=e3 j hj
  rw [ints_get (by rw [HN.out];exact hj)] at this
  exact ⟨g,o,e1,this,e2⟩
 have HBd:Hid _:=hb
 unfold maxLen at h1
 clear hN h3 hb
 go_enter Tryz.func128,Tryz.ntmps128
 go_wp2_with fail
 obtain ⟨W,hW⟩:∃ z,z=w:=⟨_,rfl⟩
 rw [← hW]
 have bel0:Below w.heap.size w W:=by rw [hW];exact Below.refl _ _
 clear hW
 go_loopw [3,8] (fun bv iv wx=>∃ (i:Nat) (X:List Int),i≤N∧iv=.int .i64 (i:Int)∧X.length≤2 * i∧wx.ownsRow w.heap.size 5 1 bv X.length (u8s X)∧Hid (X=twos (l.take i))∧Below w.heap.size w wx) (fun _ iv _=>N - (intOf iv).toNat)
 case atStart=>exact ⟨0,[],by omega,rfl,by show 0≤_;omega,⟨rfl,.inl ⟨rfl,rfl⟩⟩,rfl,bel0⟩
 case round =>
  clear bel0
  obtain ⟨i,X,hi,rfl,hX,own,HX,bel⟩:=hrel
  by_cases hil:i < N
  ·have k1:(i:Int) < (N:Int):=by omega
   have k2:(0:Int)≤(i:Int):=by omega
   have gi:IntKind.i64.wrap ((i:Int) + 1)=(i:Int) + 1:=by rw [IntKind.wrap_i64];omega
   obtain ⟨g,o,rfl,cy0,lg0⟩:=HC.out i hil
   have cy:=(bel.cell (p:=⟨g,o + i,none⟩) lg0).trans cy0
   have lg:g < wr.heap.size:=Nat.lt_of_lt_of_le lg0 bel.size
   have yb:=HBd.out i
   have HX2:Hid (twos (l.take (i + 1))=X++twoN (l.getD i 0)):=by show _=_;rw [twos_next (by rw [HN.out];exact hil),← HX.out]
   obtain ⟨n,hn⟩:∃ n,l.getD i 0=n:=⟨_,rfl⟩
   rw [hn] at cy yb HX2
   clear hn cy0
   have t1:(n:Int).tdiv 10=((n / 10:Nat):Int):=by rw [Int.tdiv_eq_ediv_of_nonneg (by omega)];omega
   have t2:(n:Int).tmod 10=((n % 10:Nat):Int):=by rw [Int.tmod_eq_emod_of_nonneg (by omega)];omega
   have t3:(n:Int) / 10=((n / 10:Nat):Int):=by omega
   have t4:(n:Int) % 10=((n % 10:Nat):Int):=by omega
   have b1:n / 10 < 10:=by omega
   have b2:n % 10 < 10:=by omega
   have HTw:Hid (twoN n=[((48 + n / 10:Nat):Int),((48 + n % 10:Nat):Int)]):=rfl
   obtain ⟨a,ha⟩:∃ a,n / 10=a:=⟨_,rfl⟩
   obtain ⟨c,hc⟩:∃ a,n % 10=a:=⟨_,rfl⟩
   rw [ha] at t1 t3 b1 HTw
   rw [hc] at t2 t4 b2 HTw
   clear ha hc
   obtain ⟨p,hp⟩:∃ p,48 + a=p:=⟨_,rfl⟩
   obtain ⟨q,hq⟩:∃ p,48 + c=p:=⟨_,rfl⟩
   rw [hp,hq] at HTw
   rw [HTw.out] at HX2
   have g1:IntKind.i64.wrap (48 + (a:Int))=(p:Int):=by rw [IntKind.wrap_i64];omega
   have g2:IntKind.i64.wrap (48 + (c:Int))=(q:Int):=by rw [IntKind.wrap_i64];omega
   have g3:IntKind.u8.wrap (p:Int)=(p:Int):=by rw [IntKind.wrap_u8];omega
   have g4:IntKind.u8.wrap (q:Int)=(q:Int):=by rw [IntKind.wrap_u8];omega
   have g5:IntKind.i64.wrap (a:Int)=(a:Int):=by rw [IntKind.wrap_i64];omega
   have g6:IntKind.i64.wrap (c:Int)=(c:Int):=by rw [IntKind.wrap_i64];omega
   clear hp hq HTw HX
   have o0:=own.alloc (.cells #[.int .u8 (p:Int),.int .u8 (q:Int)] 5)
   have b0:=Bs.of_own (own_made wr (u8s [(p:Int),(q:Int)]) 5 2 wr.heap.size rfl (Nat.le_refl _) (by decide))
   have hbl:=below_alloc (o:=.cells #[.int .u8 (p:Int),.int .u8 (q:Int)] 5) bel
   have hsz:w.heap.size≤(wr.alloc (.cells #[.int .u8 (p:Int),.int .u8 (q:Int)] 5)).heap.size:=hbl.size
   clear own
   go_wp2_with (first|(at_builtin;refine wpList_append_bs (by rfl) _ _ (by rfl) w.heap.size _ X.length X (by rfl) o0 _ [(p:Int),(q:Int)] (by rfl) b0 (by show X.length + 2≤_;omega) hsz ?_;intro v5 w5 own5 hgrow hat)|fail)
   have bel5:=below_own (base:=w.heap.size) hbl hgrow hsz (fun g hg=>own_geM o0 hg) (Nat.le_refl _)
   go_roundw
   case rel=>exact ⟨i + 1,X++[(p:Int),(q:Int)],by omega,by go_num,by rw [List.length_append];show X.length + 2≤_;omega,by rw [List.length_append];exact own5,by show _=_;rw [HX2.out],bel5⟩
   case measure=>simp [intOf];omega
  ·have k1:¬ (i:Int) < (N:Int):=by omega
   have HF:Hid (twos l=X):=by
    show _=_
    rw [HX.out,List.take_of_length_le (by rw [HN.out];omega)]
   have o0:=own.alloc (.cells #[.int .u8 90] 5)
   have b0:=bs_one wr 90
   have hbl:=below_alloc (o:=.cells #[.int .u8 90] 5) bel
   have hsz:w.heap.size≤(wr.alloc (.cells #[.int .u8 90] 5)).heap.size:=hbl.size
   clear own HX
   go_wp2_with (first|(at_builtin;refine wpList_append_bs (by rfl) _ _ (by rfl) w.heap.size _ X.length X (by rfl) o0 _ [90] (by rfl) b0 (by show X.length + 1≤_;omega) hsz ?_;intro v5 w5 own5 hgrow hat)|fail)
   have bel5:=below_own (base:=w.heap.size) hbl hgrow hsz (fun g hg=>own_geM o0 hg) (Nat.le_refl _)
   go_ret
   exact ⟨v5,rfl,by rw [HF.out];exact Bs.of_own own5,newV_own own5,bel5⟩
/-- a tag and bytes that are answered, or an error's code -/
def RetW (w:World) (r:Except Nat (Int × List Int)) (e:Ending) (w':World):Prop:=(∀ (a:Int) (X:List Int),r=.ok (a,X)→∃ v':Value,e=.returned (.tuple #[.int .i64 a,v',.nilIface])∧Bs w' v' X∧NewV w v'∧Below w.heap.size w w')∧(∀ c,r=.error c→∃ (ao:Option Addr) (cap:Nat),e=.returned (.tuple #[.int .i64 0,.slice ao 0 cap,.iface 46 (.int .i64 (c:Int))])∧Below w.heap.size w w')
theorem RetW.ok {w w':World} {r:Except Nat (Int × List Int)} {a:Int} {X:List Int} {v:Value} (h:r=.ok (a,X)) (hb:Bs w' v X) (hn:NewV w v) (bel:Below w.heap.size w w'):RetW w r (.returned (.tuple #[.int .i64 a,v,.nilIface])) w' :=
 ⟨fun m j hm=>(by rw [h] at hm;cases hm;exact ⟨v,rfl,hb,hn,bel⟩),fun c hc=>(by rw [h] at hc;cases hc)⟩
theorem RetW.bad {w w':World} {r:Except Nat (Int × List Int)} {c:Nat} {ao:Option Addr} {cap:Nat} (h:r=.error c) (bel:Below w.heap.size w w'):RetW w r (.returned (.tuple #[.int .i64 0,.slice ao 0 cap,.iface 46 (.int .i64 (c:Int))])) w' :=
 ⟨fun m j hm=>(by rw [h] at hm;cases hm),fun c2 hc=>(by rw [h] at hc;cases hc;exact ⟨ao,cap,rfl,bel⟩)⟩
theorem timeOf_no {t:Int} (h:t < -631152000∨253402300799 < t):timeOf t=.error 3:=by unfold timeOf;rw [if_pos h]
/-- the pairs that a moment is told by -/
theorem timeOf_mom {t:Int} {y m d c d1 k1 k3 k4:Nat} (h1:¬ t < -631152000) (h2:¬ 253402300799 < t) (hm:MomIs t y m d c) (hk:k1=c / 3600∧k3=c % 3600 / 60∧k4=c % 60∧d1=d + 1):timeOf t=.ok (tagT y,(if 2049 < y then twoN (y / 100) else [])++(twos [y % 100,m,d1,k1,k3,k4]++[90])):=by
 obtain ⟨a1,a2,a3,a4,a5,a6,a7⟩:=hm
 obtain ⟨rfl,rfl,rfl,rfl⟩:=hk
 obtain ⟨hM,hR⟩:=mon_ahead a1 a2 a3 a4 a5 a6 a7
 rw [timeOf_is hM h1 h2,hR]
 unfold bodyT
 obtain ⟨b1,b2,b3,b4⟩:=body_parts (d:=d) a6
 rw [b1,b2,b3,b4]
 simp only [twos,List.append_assoc,List.append_nil]
theorem mom_small {t:Int} {y m d c:Nat} (hm:MomIs t y m d c):d + 1≤31:=by
 obtain ⟨_,_,_,_,a5,_⟩:=hm
 have:=days_le (y:=y) (m:=m)
 omega
set_option linter.unusedSimpArgs false in
set_option maxRecDepth 100000 in
set_option maxHeartbeats 4000000 in
theorem c13_TimeOf {t:Int} {w:World} :
    Calls Tryz.prog 93 #[.int .i64 t] w (RetW w (timeOf t)):=by
  by_cases c1:t < -631152000
  · have H:Hid (timeOf t=.error 3):=timeOf_no (.inl c1)
    go_enter Tryz.func93,Tryz.ntmps93
    go_wp2_with fail
    refine bodyPost_ret (results_tmp3 rfl _ _ _) rfl ?_
    exact RetW.bad H.out (Below.refl _ _)
  by_cases c2:253402300799 < t
  · have H:Hid (timeOf t=.error 3):=timeOf_no (.inr c2)
    go_enter Tryz.func93,Tryz.ntmps93
    go_wp2_with fail
    refine bodyPost_ret (results_tmp3 rfl _ _ _) rfl ?_
    exact RetW.bad H.out (Below.refl _ _)
  go_enter Tryz.func93,Tryz.ntmps93
  go_wp2_with fail
  refine (c13_momentOf (t:=t) (by omega) (by omega)).mono ?_
  rintro e W1 ⟨y,m,d,c,d1,k1,k3,k4,rfl,hM,hK,bel⟩
  have HT:Hid _:=timeOf_mom (by omega) (by omega) hM hK
  have hds:=mom_small hM
  obtain ⟨a1,a2,a3,a4,_,a6,_⟩:=hM
  have b1:k1 < 24:=by omega
  have b3:k3 < 60:=by omega
  have b4:k4 < 60:=by omega
  have b5:d1≤31:=by omega
  clear hK hds
  have t1:(y:Int).tdiv 100=((y / 100:Nat):Int):=by rw [Int.tdiv_eq_ediv_of_nonneg (by omega)];omega
  have t2:(y:Int).tmod 100=((y % 100:Nat):Int):=by rw [Int.tmod_eq_emod_of_nonneg (by omega)];omega
  have t3:(y:Int) / 100=((y / 100:Nat):Int):=by omega
  have t4:(y:Int) % 100=((y % 100:Nat):Int):=by omega
  have hyhb:y / 100≤99:=by omega
  have hylb:y % 100≤99:=by omega
  obtain ⟨yh,hyh⟩:∃ z,y / 100=z:=⟨_,rfl⟩
  obtain ⟨yl,hyl⟩:∃ z,y % 100=z:=⟨_,rfl⟩
  rw [hyh] at t1 t3 hyhb
  rw [hyl] at t2 t4 hylb
  have r1:IntKind.i64.wrap (yh:Int)=(yh:Int):=by rw [IntKind.wrap_i64];omega
  have r2:IntKind.i64.wrap (yl:Int)=(yl:Int):=by rw [IntKind.wrap_i64];omega
  have hz:=zero_moD.out
  replace bel:=below_alloc (o:=.cells #[.int .i64 (y:Int),.int .i64 (m:Int),.int .i64 (d1:Int),.int .i64 (k1:Int),.int .i64 (k3:Int),.int .i64 (k4:Int)] 211) bel
  have BM:=Blk.new W1 [.int .i64 (y:Int),.int .i64 (m:Int),.int .i64 (d1:Int),.int .i64 (k1:Int),.int .i64 (k3:Int),.int .i64 (k4:Int)] 211 W1.heap.size rfl
  go_upto_region 4 with (first|(refine wpList_store_row rfl 211 _ _ rfl W1.heap.size #[.int .i64 (y:Int),.int .i64 (m:Int),.int .i64 (d1:Int),.int .i64 (k1:Int),.int .i64 (k3:Int),.int .i64 (k4:Int)] rfl rfl 211 _ (heap_alloc_last _ _) (by rw [size_moD];rfl) rfl (by simp [Value.oneCell']) ?_;rw [World.setRow_alloc_new])|fail)
  clear hz
  obtain ⟨gm,hgm⟩:∃ z,W1.heap.size=z:=⟨_,rfl⟩
  rw [hgm] at BM ⊢
  clear hgm
  generalize W1.alloc (.cells #[.int .i64 (y:Int),.int .i64 (m:Int),.int .i64 (d1:Int),.int .i64 (k1:Int),.int .i64 (k3:Int),.int .i64 (k4:Int)] 211)=W2 at *
  have f0:=BM.cell 0 _ rfl
  have f1:=BM.cell 1 _ rfl
  have f2:=BM.cell 2 _ rfl
  have f3:=BM.cell 3 _ rfl
  have f4:=BM.cell 4 _ rfl
  have f5:=BM.cell 5 _ rfl
  have lm:=BM.lt
  have HYH:Hid (y / 100=yh):=hyh
  have HYL:Hid (y % 100=yl):=hyl
  clear hyh hyl
  by_cases cy:2049 < y
  · have H:Hid (timeOf t=.ok (24,twos [yh,yl,m,d1,k1,k3,k4]++[90])):=by
      show _=_
      rw [HT.out,HYH.out,HYL.out]
      unfold tagT
      rw [if_pos (by omega),if_pos (by omega)]
      simp only [twos,List.append_assoc,List.append_nil]
    have gy:(2050:Int)≤(y:Int):=by omega
    go_upto_region 7 with fail
    have BA:=own_made W2 (i64s [(yh:Int),(yl:Int),(m:Int),(d1:Int),(k1:Int),(k3:Int),(k4:Int)]) 3 7 W2.heap.size rfl (Nat.le_refl _) (by decide)
    have IA:Is (W2.alloc (.cells #[.int .i64 (yh:Int),.int .i64 (yl:Int),.int .i64 (m:Int),.int .i64 (d1:Int),.int .i64 (k1:Int),.int .i64 (k3:Int),.int .i64 (k4:Int)] 3)) (.slice (some ⟨W2.heap.size,0,none⟩) 7 7) [(yh:Int),(yl:Int),(m:Int),(d1:Int),(k1:Int),(k3:Int),(k4:Int)]:=Is.of_own BA
    have bel3:Below w.heap.size w (W2.alloc (.cells #[.int .i64 (yh:Int),.int .i64 (yl:Int),.int .i64 (m:Int),.int .i64 (d1:Int),.int .i64 (k1:Int),.int .i64 (k3:Int),.int .i64 (k4:Int)] 3)):=below_alloc bel
    have hlw:=bel.size
    clear BA
    go_upto_region 8 with fail
    clear f0 f1 f2 f3 f4 f5 lm BM
    obtain ⟨ga,hga⟩:∃ z,W2.heap.size=z:=⟨_,rfl⟩
    rw [hga] at IA ⊢
    have hga2:w.heap.size≤ga:=by omega
    clear hga
    generalize W2.alloc (.cells #[.int .i64 (yh:Int),.int .i64 (yl:Int),.int .i64 (m:Int),.int .i64 (d1:Int),.int .i64 (k1:Int),.int .i64 (k3:Int),.int .i64 (k4:Int)] 3)=W3 at *
    have IB:Is W3 (.slice (some ⟨ga,0,none⟩) 7 7) (([yh,yl,m,d1,k1,k3,k4]:List Nat).map (fun n:Nat=>(n:Int))):=IA
    have HIB:Hid _:=IB
    clear IB IA
    go_wp2_with fail
    refine c13_under24.mono ?_
    rintro e w5 ⟨rfl,rfl⟩
    have v1:IntKind.i64.wrap (7 - 7)=0:=by decide
    go_wp2_with fail
    refine (c13_pairsBody (l:=[yh,yl,m,d1,k1,k3,k4]) HIB.out (by
      intro j
      match j with
      | 0=>show yh≤99;omega
      | 1=>show yl≤99;omega
      | 2=>show m≤99;omega
      | 3=>show d1≤99;omega
      | 4=>show k1≤99;omega
      | 5=>show k3≤99;omega
      | 6=>show k4≤99;omega
      | (j + 7)=>exact Nat.zero_le _) (by show 7≤7;omega)).mono ?_
    rintro e w6 ⟨v6,rfl,b6,n6,hb6⟩
    have bel6:=bel3.trans (hb6.mono bel3.size)
    have n7:=n6.up bel3.size
    go_wp2_with fail
    refine bodyPost_ret (results_tmp3 rfl _ _ _) rfl ?_
    exact RetW.ok H.out b6 n7 bel6
  · have H:Hid (timeOf t=.ok (23,twos [yl,m,d1,k1,k3,k4]++[90])):=by
      show _=_
      rw [HT.out,HYH.out,HYL.out]
      unfold tagT
      rw [if_neg (by omega),if_neg (by omega)]
      rfl
    have gy:¬ (2050:Int)≤(y:Int):=by omega
    go_upto_region 7 with fail
    have BA:=own_made W2 (i64s [(yh:Int),(yl:Int),(m:Int),(d1:Int),(k1:Int),(k3:Int),(k4:Int)]) 3 7 W2.heap.size rfl (Nat.le_refl _) (by decide)
    have IA:Is (W2.alloc (.cells #[.int .i64 (yh:Int),.int .i64 (yl:Int),.int .i64 (m:Int),.int .i64 (d1:Int),.int .i64 (k1:Int),.int .i64 (k3:Int),.int .i64 (k4:Int)] 3)) (.slice (some ⟨W2.heap.size,0,none⟩) 7 7) [(yh:Int),(yl:Int),(m:Int),(d1:Int),(k1:Int),(k3:Int),(k4:Int)]:=Is.of_own BA
    have bel3:Below w.heap.size w (W2.alloc (.cells #[.int .i64 (yh:Int),.int .i64 (yl:Int),.int .i64 (m:Int),.int .i64 (d1:Int),.int .i64 (k1:Int),.int .i64 (k3:Int),.int .i64 (k4:Int)] 3)):=below_alloc bel
    have hlw:=bel.size
    clear BA
    go_upto_region 8 with fail
    clear f0 f1 f2 f3 f4 f5 lm BM
    obtain ⟨ga,hga⟩:∃ z,W2.heap.size=z:=⟨_,rfl⟩
    rw [hga] at IA ⊢
    have hga2:w.heap.size≤ga:=by omega
    clear hga
    generalize W2.alloc (.cells #[.int .i64 (yh:Int),.int .i64 (yl:Int),.int .i64 (m:Int),.int .i64 (d1:Int),.int .i64 (k1:Int),.int .i64 (k3:Int),.int .i64 (k4:Int)] 3)=W3 at *
    have IB:Is W3 (.slice (some ⟨ga,1,none⟩) 6 6) (([yl,m,d1,k1,k3,k4]:List Nat).map (fun n:Nat=>(n:Int))):=is_cut IA rfl (r:=1) (by omega) rfl (fun _=>rfl) rfl
    have HIB:Hid _:=IB
    clear IB IA
    go_wp2_with fail
    refine c13_under23.mono ?_
    rintro e w5 ⟨rfl,rfl⟩
    have v1:IntKind.i64.wrap (7 - 6)=1:=by decide
    go_wp2_with fail
    refine (c13_pairsBody (l:=[yl,m,d1,k1,k3,k4]) HIB.out (by
      intro j
      match j with
      | 0=>show yl≤99;omega
      | 1=>show m≤99;omega
      | 2=>show d1≤99;omega
      | 3=>show k1≤99;omega
      | 4=>show k3≤99;omega
      | 5=>show k4≤99;omega
      | (j + 6)=>exact Nat.zero_le _) (by show 6≤7;omega)).mono ?_
    rintro e w6 ⟨v6,rfl,b6,n6,hb6⟩
    have bel6:=bel3.trans (hb6.mono bel3.size)
    have n7:=n6.up bel3.size
    go_wp2_with fail
    refine bodyPost_ret (results_tmp3 rfl _ _ _) rfl ?_
    exact RetW.ok H.out b6 n7 bel6
theorem con_TimeOf {x:Int} {w:World} (_:-9223372036854775808≤x∧x≤9223372036854775807) :
  Calls Tryz.prog 93 #[.int .i64 x] w fun e w'=>(∀ (a:Int) (X:List Int),timeOf x=.ok (a,X)→∃ v':Value,e=.returned (.tuple #[.int .i64 a,v',.nilIface])∧Bs w' v' X∧NewV w v'∧Below w.heap.size w w')∧(∀ c,timeOf x=.error c→∃ (ao:Option Addr) (cap:Nat),e=.returned (.tuple #[.int .i64 0,.slice ao 0 cap,.iface 46 (.int .i64 (c:Int))])∧Below w.heap.size w w'):=c13_TimeOf.mono (fun _ _ h=>h)
end Go.Proofs.YtohcdbifhnfcbaaGreatDoor
