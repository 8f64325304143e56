/- The program's method time of layer 13. The program's momentOf of layer 13. Ints in slices; append of any of them, also of none, to a row of one's own. The program's pairsBody of layer 13. The program's TimeOf of layer 13. -/
import Derived.Test.YtkgjlcdefnpkpaaGreatDoorPrTimA
import Derived.Test.YtkgjlcdefnpkpaaGreatDoorPmNG
import Derived.Test.YtkgjlcdefnpkpaaGreatDoorPrG
import Derived.Test.YtkgjlcdefnpkpaaGreatDoorRows
import Derived.Deep.OwnRows
import Derived.Deep.AppendLies
import Derived.Great.BuildSlice
import Derived.BigQuiet
import Derived.Deep.WholeRow
import Derived.Deep.RegionHeld3
import Derived.Deep.DeepCutAuto
import Derived.Deep.DeepFit
import Derived.Laws.Rows
import Derived.Laws.CopyOwn
namespace Go.Proofs.YtkgjlcdefnpkpaaGreatDoor
open Go.RowKit
theorem c13_ahead70 {w:World}:Calls Tryz.prog 153 #[.int .i64 1970] w fun e w'=>e=.returned (.int .i64 719162)∧w'=w:=by
 have h:=c13_ahead (y:=1970) (w:=w) (by omega)
 rw [aheadZ_pos (by omega),ahead_1970] at h
 exact h
/-- the moment of a time -/
def MomIs (t:Int) (y m d c:Nat):Prop:=1950≤y∧y≤9999∧1≤m∧m≤12∧d < daysN y m∧c < 86400∧t + 719162 * 86400=(ahead y + (msum y (m - 1):Nat) + d) * 86400 + c
theorem zero_moD:Hid (∀ w:World,(zeroValue 196).run Tryz.prog w=.ok (.agg #[.int .i64 0,.int .i64 0,.int .i64 0,.int .i64 0,.int .i64 0,.int .i64 0]) w):=fun w=>by kernel_rfl
theorem size_moD:(Tryz.prog.info? 196).map (·.size)=some 6:=by kernel_rfl
theorem month_in {y m:Nat} {d:Int} (h1:1≤m) (h2:m≤12) (hd:((daysN y m:Nat):Int)≤d) (ht:d + (msum y (m - 1):Nat) < 337 + (daysN y 2:Nat)):m + 1≤12:=by
 by_cases k:m=12
 ·subst k
  have:=msum_12 y
  rw [show (12:Nat)=11 + 1 from rfl,msum] at this
  rw [show 12 - 1=11 from rfl] at ht
  rw [show (11 + 1:Nat)=12 from rfl] at this
  omega
 ·omega
set_option linter.unusedSimpArgs false in
set_option maxRecDepth 100000 in
set_option maxHeartbeats 2000000 in
theorem c13_momentOf {t:Int} {w:World} (ht1:-631152000≤t) (ht2:t≤253402300799) :
  Calls Tryz.prog 126 #[.int .i64 t] w fun e w'=>∃ y m d c d1 k1 k3 k4:Nat,e=.returned (.agg #[.int .i64 (y:Int),.int .i64 (m:Int),.int .i64 (d1:Int),.int .i64 (k1:Int),.int .i64 (k3:Int),.int .i64 (k4:Int)])∧MomIs t y m d c∧(k1=c / 3600∧k3=c % 3600 / 60∧k4=c % 60∧d1=d + 1)∧Below w.heap.size w w':=by
 have hz:=zero_moD.out
 have R0:=Blk.new w #[.int .i64 0,.int .i64 0,.int .i64 0,.int .i64 0,.int .i64 0,.int .i64 0].toList 196 w.heap.size rfl
 have bel:Below w.heap.size w (w.alloc (.cells #[.int .i64 0,.int .i64 0,.int .i64 0,.int .i64 0,.int .i64 0,.int .i64 0] 196)):=(Below.refl _ _).alloc (Nat.le_refl _) _
 have w1:IntKind.i64.wrap (719162 * 86400)=62135596800:=by decide
 obtain ⟨T,hT⟩:∃ T,t + 62135596800=T:=⟨_,rfl⟩
 have w2:IntKind.i64.wrap (t + 62135596800)=T:=by rw [IntKind.wrap_i64];omega
 obtain ⟨T',rfl⟩:=Int.eq_ofNat_of_zero_le (show 0≤T by omega)
 obtain ⟨D0,hD0⟩:∃ d,T' / 86400=d:=⟨_,rfl⟩
 obtain ⟨c,hc⟩:∃ c,T' % 86400=c:=⟨_,rfl⟩
 have t1:(T':Int).tdiv 86400=(D0:Int):=by rw [Int.tdiv_eq_ediv_of_nonneg (by omega)];omega
 have t2:(T':Int).tmod 86400=(c:Int):=by rw [Int.tmod_eq_emod_of_nonneg (by omega)];omega
 have t3:(T':Int) / 86400=(D0:Int):=by omega
 have t4:(T':Int) % 86400=(c:Int):=by omega
 have hc2:c < 86400:=by omega
 have HTt:Hid (t + 719162 * 86400=(D0:Int) * 86400 + (c:Int)):=by show _=_;omega
 have hDb:D0≤3652059:=by omega
 have w3:IntKind.i64.wrap (D0:Int)=(D0:Int):=by rw [IntKind.wrap_i64];omega
 obtain ⟨n0,hn0⟩:∃ n,D0 / 366=n:=⟨_,rfl⟩
 have t5:(D0:Int).tdiv 366=(n0:Int):=by rw [Int.tdiv_eq_ediv_of_nonneg (by omega)];omega
 have t6:(D0:Int) / 366=(n0:Int):=by omega
 obtain ⟨y0,hy0⟩:∃ y,n0 + 1=y:=⟨_,rfl⟩
 have w4:IntKind.i64.wrap (1 + (n0:Int))=(y0:Int):=by rw [IntKind.wrap_i64];omega
 have w5:IntKind.i64.wrap (n0:Int)=(n0:Int):=by rw [IntKind.wrap_i64];omega
 have w6:IntKind.i64.wrap (c:Int)=(c:Int):=by rw [IntKind.wrap_i64];omega
 have HA0:Hid (ahead y0≤(D0:Int)):=by
  have:=ahead_366 n0
  rw [hy0] at this
  show _≤_
  omega
 have hy01:1≤y0:=by omega
 have HHi:Hid (∀ y:Nat,ahead y≤(D0:Int)→y≤9999):=fun y h=>year_hi ht2 (by omega) HTt.out h
 have HLo:Hid (∀ y:Nat,(D0:Int) < ahead (y + 1)→1950≤y):=fun y h=>year_lo ht1 (by omega) HTt.out h
 clear hT hD0 hc hn0 hy0
 go_enter Tryz.func126,Tryz.ntmps126
 go_upto_region 1 with fail
 clear hz
 generalize w.alloc (.cells #[.int .i64 0,.int .i64 0,.int .i64 0,.int .i64 0,.int .i64 0,.int .i64 0] 196)=W at *
 go_wp2_with fail
 refine c13_ahead70.mono ?_
 rintro e w1 ⟨rfl,rfl⟩
 go_wp2_with fail
 go_loop [5] (fun yv=>∃ y:Nat,1≤y∧yv=.int .i64 (y:Int)∧Hid (ahead y≤(D0:Int))) (fun yv=>10000 - (intOf yv).toNat)
 case atStart=>exact ⟨y0,hy01,rfl,HA0⟩
 case round =>
  clear HA0 hy01 w4 t5 t6
  obtain ⟨y,hy1,rfl,HA⟩:=hrel
  have hy9:=HHi.out y HA.out
  obtain ⟨y2,hy2⟩:∃ z,y + 1=z:=⟨_,rfl⟩
  have v1:IntKind.i64.wrap ((y:Int) + 1)=(y2:Int):=by rw [IntKind.wrap_i64];omega
  go_wp2_with fail
  refine (c13_ahead (y:=y2) (by omega)).mono ?_
  rintro e w1 ⟨rfl,rfl⟩
  rw [aheadZ_pos (by omega)]
  by_cases cl:ahead y2≤(D0:Int)
  ·have HA2:Hid (ahead y2≤(D0:Int)):=cl
   obtain ⟨z,hz⟩:∃ z,ahead y2=z:=⟨_,rfl⟩
   rw [hz] at cl ⊢
   clear hz
   have hy29:=HHi.out y2 HA2.out
   go_wp2_with fail
   go_round
   case rel=>exact ⟨y2,by omega,rfl,HA2⟩
   case measure=>simp [intOf];omega
  ·have HYl:Hid (1950≤y):=HLo.out y (by rw [hy2];omega)
   have HYn:Hid ((D0:Int) < ahead y + 337 + (daysN y 2:Nat)):=by
    have:=ahead_next y
    rw [hy2] at this
    show _ < _
    omega
   have ha0:=ahead_nonneg hy1
   obtain ⟨z,hz⟩:∃ z,ahead y2=z:=⟨_,rfl⟩
   rw [hz] at cl ⊢
   clear hz hy2
   go_wp2_with fail
   refine (c13_ahead (y:=y) (by omega)).mono ?_
   rintro e w1 ⟨rfl,rfl⟩
   rw [aheadZ_pos hy1]
   have hal:=HA.out
   obtain ⟨a,ha⟩:∃ z,ahead y=z:=⟨_,rfl⟩
   have HAe:Hid (ahead y=a):=ha
   rw [ha] at ha0 hal HYn ⊢
   clear ha HA
   obtain ⟨e0,he0⟩:∃ z,(D0:Int) - a=z:=⟨_,rfl⟩
   have v2:IntKind.i64.wrap ((D0:Int) - a)=e0:=by rw [IntKind.wrap_i64];omega
   obtain ⟨d0,rfl⟩:=Int.eq_ofNat_of_zero_le (show 0≤e0 by omega)
   have HDe:Hid ((D0:Int)=a + (d0:Int)):=by show _=_;omega
   have hd0:d0≤400:=by
    have:=HYn.out
    have:=(feb_28 y).2
    omega
   have HDl:Hid ((d0:Int) < 337 + (daysN y 2:Nat)):=by
    have:=HYn.out
    show _ < _
    omega
   clear he0 HYn cl
   go_wp2_with fail
   go_loop [3,6] (fun dv mv=>∃ m d:Nat,1≤m∧m≤12∧d≤400∧dv=.int .i64 (d:Int)∧mv=.int .i64 (m:Int)∧Hid (d0=msum y (m - 1) + d)) (fun _ mv=>13 - (intOf mv).toNat)
   case atStart=>exact ⟨1,d0,by omega,by omega,hd0,rfl,rfl,by show _=_;rw [show 1 - 1=0 from rfl,msum];omega⟩
   case round =>
    obtain ⟨m,d,hm1,hm2,hd4,rfl,rfl,HM⟩:=hrel
    go_wp2_with fail
    refine (c13_mdays (y:=y) (m:=m) (by omega) hm1 hm2).mono ?_
    rintro e w1 ⟨rfl,rfl⟩
    rw [mdZ_pos hy1]
    by_cases cd:daysN y m≤d
    ·have HMn:Hid (m + 1≤12):=month_in (y:=y) (d:=(d:Int)) hm1 hm2 (by omega) (by have:=HM.out;have:=HDl.out;omega)
     have HM2:Hid (d0=msum y (m + 1 - 1) + (d - daysN y m)):=by show _=_;rw [msum_next hm1,HM.out];omega
     have gm:IntKind.i64.wrap ((m:Int) + 1)=(m:Int) + 1:=by rw [IntKind.wrap_i64];omega
     have hfun:=fun w:World=>c13_mdays (y:=y) (m:=m) (w:=w) (by omega) hm1 hm2
     rw [mdZ_pos hy1] at hfun
     have HF:Hid _:=hfun
     clear hfun
     obtain ⟨x,hx⟩:∃ x,daysN y m=x:=⟨_,rfl⟩
     rw [hx] at cd HM2 HF ⊢
     clear hx
     have gx:(x:Int)≤(d:Int):=by omega
     go_wp2_with fail
     refine (HF.out _).mono ?_
     rintro e w1 ⟨rfl,rfl⟩
     have gd:IntKind.i64.wrap ((d:Int) - (x:Int))=((d - x:Nat):Int):=by rw [IntKind.wrap_i64];omega
     have hm12:=HMn.out
     clear HF
     go_wp2_with fail
     go_round
     case rel=>exact ⟨m + 1,d - x,by omega,by omega,by omega,rfl,by go_num,HM2⟩
     case measure=>simp [intOf];omega
    ·have HI:Hid (MomIs t y m d c):=by
      refine ⟨HYl.out,by omega,hm1,hm2,by omega,hc2,?_⟩
      rw [HTt.out,HDe.out,HAe.out,HM.out]
      congr 2
      omega
     obtain ⟨x,hx⟩:∃ x,daysN y m=x:=⟨_,rfl⟩
     rw [hx] at cd ⊢
     clear hx
     have gx:¬ (x:Int)≤(d:Int):=by omega
     obtain ⟨d1,hd1⟩:∃ z,d + 1=z:=⟨_,rfl⟩
     have gd:IntKind.i64.wrap ((d:Int) + 1)=(d1:Int):=by rw [IntKind.wrap_i64];omega
     have q1:(c:Int).tdiv 3600=((c / 3600:Nat):Int):=by rw [Int.tdiv_eq_ediv_of_nonneg (by omega)];omega
     have q2:(c:Int).tmod 3600=((c % 3600:Nat):Int):=by rw [Int.tmod_eq_emod_of_nonneg (by omega)];omega
     have q3:((c % 3600:Nat):Int).tdiv 60=((c % 3600 / 60:Nat):Int):=by rw [Int.tdiv_eq_ediv_of_nonneg (by omega)];omega
     have q4:(c:Int).tmod 60=((c % 60:Nat):Int):=by rw [Int.tmod_eq_emod_of_nonneg (by omega)];omega
     have q5:(c:Int) / 3600=((c / 3600:Nat):Int):=by omega
     have q6:(c:Int) % 3600=((c % 3600:Nat):Int):=by omega
     have q7:((c % 3600:Nat):Int) / 60=((c % 3600 / 60:Nat):Int):=by omega
     have q8:(c:Int) % 60=((c % 60:Nat):Int):=by omega
     have b1:c / 3600 < 24:=by omega
     have b2:c % 3600 < 3600:=by omega
     have b3:c % 3600 / 60 < 60:=by omega
     have b4:c % 60 < 60:=by omega
     obtain ⟨k1,hk1⟩:∃ z,c / 3600=z:=⟨_,rfl⟩
     obtain ⟨k2,hk2⟩:∃ z,c % 3600=z:=⟨_,rfl⟩
     rw [hk2] at q2 q3 q6 q7 b2 b3
     obtain ⟨k3,hk3⟩:∃ z,k2 / 60=z:=⟨_,rfl⟩
     obtain ⟨k4,hk4⟩:∃ z,c % 60=z:=⟨_,rfl⟩
     rw [hk1] at q1 q5 b1
     rw [hk3] at q3 q7 b3
     rw [hk4] at q4 q8 b4
     have r1:IntKind.i64.wrap (k1:Int)=(k1:Int):=by rw [IntKind.wrap_i64];omega
     have r2:IntKind.i64.wrap (k2:Int)=(k2:Int):=by rw [IntKind.wrap_i64];omega
     have r3:IntKind.i64.wrap (k3:Int)=(k3:Int):=by rw [IntKind.wrap_i64];omega
     have r4:IntKind.i64.wrap (k4:Int)=(k4:Int):=by rw [IntKind.wrap_i64];omega
     have HK:Hid (k1=c / 3600∧k3=c % 3600 / 60∧k4=c % 60∧d1=d + 1):=⟨hk1.symm,by rw [hk2,hk3],hk4.symm,hd1.symm⟩
     clear hk1 hk2 hk3 hk4 hd1 HM cd
     obtain ⟨tR,hR⟩:=R0
     have HR:Hid _:=hR
     clear hR
     go_wp2_with (first|(refine wpList_store_row rfl 196 _ _ rfl w.heap.size #[.int .i64 (y:Int),.int .i64 (m:Int),.int .i64 (d1:Int),.int .i64 (k1:Int),.int .i64 (k3:Int),.int .i64 (k4:Int)] rfl rfl tR _ HR.out (by rw [size_moD];rfl) rfl (by simp [Value.oneCell']) ?_)|fail)
     exact bodyPost_ret (results_cell_row rfl _ _ w.heap.size tR #[.int .i64 (y:Int),.int .i64 (m:Int),.int .i64 (d1:Int),.int .i64 (k1:Int),.int .i64 (k3:Int),.int .i64 (k4:Int)] (0,0) _ rfl (setRow_heap _ _ _ _ _ _ HR.out) Tryz.underlying196 rfl (by rw [size_moD];rfl)) rfl ⟨y,m,d,c,d1,k1,k3,k4,rfl,HI.out,HK.out,below_setRow bel (Nat.le_refl _) _⟩
abbrev i64s (A:List Int):List Value:=A.map (Value.int .i64)
theorem i64s_get (A:List Int) (j:Nat) (h:j < A.length):(i64s A)[j]?=some (.int .i64 (A.getD j 0)):=by
 simp [i64s,h]
/-- the slice value v, in the world w, holds the ints L -/
def Is (w:World) (v:Value) (L:List Int):Prop :=
 ∃ ao cap,v=.slice ao L.length cap∧cap≤maxLen∧L.length≤cap∧(0 < L.length→∃ b o,ao=some ⟨b,o,none⟩∧b < w.heap.size∧∀ j,j < L.length→w.cell? ⟨b,o + j,none⟩=some (.int .i64 (L.getD j 0)))
theorem Is.later {w w':World} {v:Value} {L:List Int} (h:Is w v L) (hb:Below w.heap.size w w'):Is w' v L:=by
 obtain ⟨ao,cap,h1,h2,h3,h4⟩:=h
 refine ⟨ao,cap,h1,h2,h3,fun hp=>?_⟩
 obtain ⟨b,o,e1,e2,e3⟩:=h4 hp
 exact ⟨b,o,e1,Nat.lt_of_lt_of_le e2 hb.size,fun j hj=>(hb.cell e2).trans (e3 j hj)⟩
theorem Is.of_own {w:World} {base:Nat} {e:TypeId} {v:Value} {n:Nat} {D:List Int} (h:w.ownsRow base e 1 v n (i64s D)):Is w v D:=by
 obtain ⟨hl,h⟩:=h
 have hn:D.length=n:=by simpa using hl
 rcases h with ⟨h1,h2⟩|⟨g,cap,cur,h1,h2,h3,h4,h5,h6,h7⟩
 ·exact ⟨none,0,by rw [h1,hn,h2],Nat.zero_le _,by omega,fun h=>by omega⟩
 ·refine ⟨_,cap,by rw [hn];exact h1,h5,by omega,fun _=>⟨g,0,rfl,(Array.getElem?_eq_some_iff.1 h3).1,fun j hj=>?_⟩⟩
  have e1:(cur.toList.take (n * 1))[j]?=some (.int .i64 (D.getD j 0)):=by rw [h7];exact i64s_get D j hj
  rw [List.getElem?_take,if_pos (by omega)] at e1
  rw [Nat.zero_add]
  simp only [World.cell?,h3,Option.isSome_none,Bool.false_eq_true,if_false]
  simpa using e1
theorem is_cut {w:World} {g o n cap r m k:Nat} {ad:Option Addr} {B:List Int} (h:Is w (.slice (some ⟨g,o,none⟩) n cap) B) (hn:B.length=n) (hr:r≤n) (hm:m=n - r) (ha:0 < m→ad=some ⟨g,o + r,none⟩) (hk:k=cap - r):Is w (.slice ad m k) (B.drop r):=by
 obtain ⟨a,c,e,h1,h2,h3⟩:=h
 obtain ⟨rfl,_,rfl⟩:some ⟨g,o,none⟩=a∧n=B.length∧cap=c:=by simpa using e
 have el:(B.drop r).length=m:=by rw [List.length_drop,hn,hm]
 refine ⟨ad,k,by rw [el],by rw [hk];exact Nat.le_trans (Nat.sub_le _ _) h1,by rw [el,hm,hk];exact Nat.sub_le_sub_right (by rw [← hn];exact h2) r,fun h0=>?_⟩
 rw [el] at h0 ⊢
 obtain ⟨b',o',e',k1,k2⟩:=h3 (by rw [hn];exact Nat.lt_of_lt_of_le h0 (by rw [hm];exact Nat.sub_le _ _))
 simp only [Option.some.injEq,Addr.mk.injEq] at e'
 obtain ⟨rfl,rfl,-⟩:=e'
 refine ⟨g,o + r,ha h0,k1,fun j hj=>?_⟩
 rw [Nat.add_assoc,k2 (r + j) (by omega),List.getD_eq_getElem?_getD,List.getD_eq_getElem?_getD,List.getElem?_drop]
/-- pairs of digits, one behind the other -/
def twos:List Nat→List Int
 | []=>[]
 | n :: l=>twoN n++twos l
theorem twos_next {l:List Nat} {k:Nat} (h:k < l.length):twos (l.take (k + 1))=twos (l.take k)++twoN (l.getD k 0):=by
 induction l generalizing k with
 | nil=>simp at h
 | cons a l ih =>
  cases k with
  | zero=>simp [twos]
  | succ k =>
   have:=ih (k:=k) (by simpa using h)
   rw [List.take_succ_cons,List.take_succ_cons,twos,twos,this,List.getD_cons_succ,List.append_assoc]
theorem ints_get {l:List Nat} {k:Nat} (h:k < l.length):(l.map (fun n:Nat=>(n:Int))).getD k 0=((l.getD k 0:Nat):Int):=by
 rw [List.getD_eq_getElem?_getD,List.getElem?_map,List.getD_eq_getElem?_getD,List.getElem?_eq_getElem h]
 rfl
set_option linter.unusedSimpArgs false in
set_option maxRecDepth 100000 in
set_option maxHeartbeats 2000000 in
theorem c13_pairsBody {v:Value} {l:List Nat} {w:World} (hv:Is w v (l.map (fun n:Nat=>(n:Int)))) (hb:∀ j,l.getD j 0≤99) (hl:l.length≤7) :
  Calls Tryz.prog 127 #[v] w fun e w'=>∃ v',e=.returned v'∧Bs w' v' (twos l++[90])∧NewV w v'∧Below w.heap.size w w':=by
 obtain ⟨ao,cap,rfl,h1,h2,h3⟩:=hv
 obtain ⟨N,hN⟩:∃ N,l.length=N:=⟨_,rfl⟩
 have HN:Hid (l.length=N):=hN
 rw [List.length_map,hN] at h2 h3 ⊢
 rw [hN] at hl
 have HC:Hid (∀ j,j < N→∃ g o,ao=some ⟨g,o,none⟩∧w.cell? ⟨g,o + j,none⟩=some (.int .i64 ((l.getD j 0:Nat):Int))∧g < w.heap.size):=fun j hj=>by
  obtain ⟨g,o,e1,e2,e3⟩:=h3 (by omega)
  have:=e3 j hj
  rw [ints_get (by rw [HN.out];exact hj)] at this
  exact ⟨g,o,e1,this,e2⟩
 have HBd:Hid _:=hb
 unfold maxLen at h1
 clear hN h3 hb
 go_enter Tryz.func127,Tryz.ntmps127
 go_wp2_with fail
 obtain ⟨W,hW⟩:∃ z,z=w:=⟨_,rfl⟩
 rw [← hW]
 have bel0:Below w.heap.size w W:=by rw [hW];exact Below.refl _ _
 clear hW
 go_loopw [3,8] (fun bv iv wx=>∃ (i:Nat) (X:List Int),i≤N∧iv=.int .i64 (i:Int)∧X.length≤2 * i∧wx.ownsRow w.heap.size 5 1 bv X.length (u8s X)∧Hid (X=twos (l.take i))∧Below w.heap.size w wx) (fun _ iv _=>N - (intOf iv).toNat)
 case atStart=>exact ⟨0,[],by omega,rfl,by show 0≤_;omega,⟨rfl,.inl ⟨rfl,rfl⟩⟩,rfl,bel0⟩
 case round =>
  clear bel0
  obtain ⟨i,X,hi,rfl,hX,own,HX,bel⟩:=hrel
  by_cases hil:i < N
  ·have k1:(i:Int) < (N:Int):=by omega
   have k2:(0:Int)≤(i:Int):=by omega
   have gi:IntKind.i64.wrap ((i:Int) + 1)=(i:Int) + 1:=by rw [IntKind.wrap_i64];omega
   obtain ⟨g,o,rfl,cy0,lg0⟩:=HC.out i hil
   have cy:=(bel.cell (p:=⟨g,o + i,none⟩) lg0).trans cy0
   have lg:g < wr.heap.size:=Nat.lt_of_lt_of_le lg0 bel.size
   have yb:=HBd.out i
   have HX2:Hid (twos (l.take (i + 1))=X++twoN (l.getD i 0)):=by show _=_;rw [twos_next (by rw [HN.out];exact hil),← HX.out]
   obtain ⟨n,hn⟩:∃ n,l.getD i 0=n:=⟨_,rfl⟩
   rw [hn] at cy yb HX2
   clear hn cy0
   have t1:(n:Int).tdiv 10=((n / 10:Nat):Int):=by rw [Int.tdiv_eq_ediv_of_nonneg (by omega)];omega
   have t2:(n:Int).tmod 10=((n % 10:Nat):Int):=by rw [Int.tmod_eq_emod_of_nonneg (by omega)];omega
   have t3:(n:Int) / 10=((n / 10:Nat):Int):=by omega
   have t4:(n:Int) % 10=((n % 10:Nat):Int):=by omega
   have b1:n / 10 < 10:=by omega
   have b2:n % 10 < 10:=by omega
   have HTw:Hid (twoN n=[((48 + n / 10:Nat):Int),((48 + n % 10:Nat):Int)]):=rfl
   obtain ⟨a,ha⟩:∃ a,n / 10=a:=⟨_,rfl⟩
   obtain ⟨c,hc⟩:∃ a,n % 10=a:=⟨_,rfl⟩
   rw [ha] at t1 t3 b1 HTw
   rw [hc] at t2 t4 b2 HTw
   clear ha hc
   obtain ⟨p,hp⟩:∃ p,48 + a=p:=⟨_,rfl⟩
   obtain ⟨q,hq⟩:∃ p,48 + c=p:=⟨_,rfl⟩
   rw [hp,hq] at HTw
   rw [HTw.out] at HX2
   have g1:IntKind.i64.wrap (48 + (a:Int))=(p:Int):=by rw [IntKind.wrap_i64];omega
   have g2:IntKind.i64.wrap (48 + (c:Int))=(q:Int):=by rw [IntKind.wrap_i64];omega
   have g3:IntKind.u8.wrap (p:Int)=(p:Int):=by rw [IntKind.wrap_u8];omega
   have g4:IntKind.u8.wrap (q:Int)=(q:Int):=by rw [IntKind.wrap_u8];omega
   have g5:IntKind.i64.wrap (a:Int)=(a:Int):=by rw [IntKind.wrap_i64];omega
   have g6:IntKind.i64.wrap (c:Int)=(c:Int):=by rw [IntKind.wrap_i64];omega
   clear hp hq HTw HX
   have o0:=own.alloc (.cells #[.int .u8 (p:Int),.int .u8 (q:Int)] 5)
   have b0:=Bs.of_own (own_made wr (u8s [(p:Int),(q:Int)]) 5 2 wr.heap.size rfl (Nat.le_refl _) (by decide))
   have hbl:=below_alloc (o:=.cells #[.int .u8 (p:Int),.int .u8 (q:Int)] 5) bel
   have hsz:w.heap.size≤(wr.alloc (.cells #[.int .u8 (p:Int),.int .u8 (q:Int)] 5)).heap.size:=hbl.size
   clear own
   go_wp2_with (first|(at_builtin;refine wpList_append_bs (by rfl) _ _ (by rfl) w.heap.size _ X.length X (by rfl) o0 _ [(p:Int),(q:Int)] (by rfl) b0 (by show X.length + 2≤_;omega) hsz ?_;intro v5 w5 own5 hgrow hat)|fail)
   have bel5:=below_own (base:=w.heap.size) hbl hgrow hsz (fun g hg=>own_geM o0 hg) (Nat.le_refl _)
   go_roundw
   case rel=>exact ⟨i + 1,X++[(p:Int),(q:Int)],by omega,by go_num,by rw [List.length_append];show X.length + 2≤_;omega,by rw [List.length_append];exact own5,by show _=_;rw [HX2.out],bel5⟩
   case measure=>simp [intOf];omega
  ·have k1:¬ (i:Int) < (N:Int):=by omega
   have HF:Hid (twos l=X):=by
    show _=_
    rw [HX.out,List.take_of_length_le (by rw [HN.out];omega)]
   have o0:=own.alloc (.cells #[.int .u8 90] 5)
   have b0:=bs_one wr 90
   have hbl:=below_alloc (o:=.cells #[.int .u8 90] 5) bel
   have hsz:w.heap.size≤(wr.alloc (.cells #[.int .u8 90] 5)).heap.size:=hbl.size
   clear own HX
   go_wp2_with (first|(at_builtin;refine wpList_append_bs (by rfl) _ _ (by rfl) w.heap.size _ X.length X (by rfl) o0 _ [90] (by rfl) b0 (by show X.length + 1≤_;omega) hsz ?_;intro v5 w5 own5 hgrow hat)|fail)
   have bel5:=below_own (base:=w.heap.size) hbl hgrow hsz (fun g hg=>own_geM o0 hg) (Nat.le_refl _)
   go_ret
   exact ⟨v5,rfl,by rw [HF.out];exact Bs.of_own own5,newV_own own5,bel5⟩
/-- a tag and bytes that are answered, or an error's code -/
def RetW (w:World) (r:Except Nat (Int × List Int)) (e:Ending) (w':World):Prop:=(∀ (a:Int) (X:List Int),r=.ok (a,X)→∃ v':Value,e=.returned (.tuple #[.int .i64 a,v',.nilIface])∧Bs w' v' X∧NewV w v'∧Below w.heap.size w w')∧(∀ c,r=.error c→∃ (ao:Option Addr) (cap:Nat),e=.returned (.tuple #[.int .i64 0,.slice ao 0 cap,.iface 56 (.int .i64 (c:Int))])∧Below w.heap.size w w')
theorem RetW.ok {w w':World} {r:Except Nat (Int × List Int)} {a:Int} {X:List Int} {v:Value} (h:r=.ok (a,X)) (hb:Bs w' v X) (hn:NewV w v) (bel:Below w.heap.size w w'):RetW w r (.returned (.tuple #[.int .i64 a,v,.nilIface])) w' :=
 ⟨fun m j hm=>(by rw [h] at hm;cases hm;exact ⟨v,rfl,hb,hn,bel⟩),fun c hc=>(by rw [h] at hc;cases hc)⟩
theorem RetW.bad {w w':World} {r:Except Nat (Int × List Int)} {c:Nat} {ao:Option Addr} {cap:Nat} (h:r=.error c) (bel:Below w.heap.size w w'):RetW w r (.returned (.tuple #[.int .i64 0,.slice ao 0 cap,.iface 56 (.int .i64 (c:Int))])) w' :=
 ⟨fun m j hm=>(by rw [h] at hm;cases hm),fun c2 hc=>(by rw [h] at hc;cases hc;exact ⟨ao,cap,rfl,bel⟩)⟩
theorem timeOf_no {t:Int} (h:t < -631152000∨253402300799 < t):timeOf t=.error 3:=by unfold timeOf;rw [if_pos h]
/-- the pairs that a moment is told by -/
theorem timeOf_mom {t:Int} {y m d c d1 k1 k3 k4:Nat} (h1:¬ t < -631152000) (h2:¬ 253402300799 < t) (hm:MomIs t y m d c) (hk:k1=c / 3600∧k3=c % 3600 / 60∧k4=c % 60∧d1=d + 1):timeOf t=.ok (tagT y,(if 2049 < y then twoN (y / 100) else [])++(twos [y % 100,m,d1,k1,k3,k4]++[90])):=by
 obtain ⟨a1,a2,a3,a4,a5,a6,a7⟩:=hm
 obtain ⟨rfl,rfl,rfl,rfl⟩:=hk
 obtain ⟨hM,hR⟩:=mon_ahead a1 a2 a3 a4 a5 a6 a7
 rw [timeOf_is hM h1 h2,hR]
 unfold bodyT
 obtain ⟨b1,b2,b3,b4⟩:=body_parts (d:=d) a6
 rw [b1,b2,b3,b4]
 simp only [twos,List.append_assoc,List.append_nil]
theorem mom_small {t:Int} {y m d c:Nat} (hm:MomIs t y m d c):d + 1≤31:=by
 obtain ⟨_,_,_,_,a5,_⟩:=hm
 have:=days_le (y:=y) (m:=m)
 omega
set_option linter.unusedSimpArgs false in
set_option maxRecDepth 100000 in
set_option maxHeartbeats 4000000 in
theorem c13_TimeOf {t:Int} {w:World} :
    Calls Tryz.prog 83 #[.int .i64 t] w (RetW w (timeOf t)):=by
  by_cases c1:t < -631152000
  · have H:Hid (timeOf t=.error 3):=timeOf_no (.inl c1)
    go_enter Tryz.func83,Tryz.ntmps83
    go_wp2_with fail
    refine bodyPost_ret (results_tmp3 rfl _ _ _) rfl ?_
    exact RetW.bad H.out (Below.refl _ _)
  by_cases c2:253402300799 < t
  · have H:Hid (timeOf t=.error 3):=timeOf_no (.inr c2)
    go_enter Tryz.func83,Tryz.ntmps83
    go_wp2_with fail
    refine bodyPost_ret (results_tmp3 rfl _ _ _) rfl ?_
    exact RetW.bad H.out (Below.refl _ _)
  go_enter Tryz.func83,Tryz.ntmps83
  go_wp2_with fail
  refine (c13_momentOf (t:=t) (by omega) (by omega)).mono ?_
  rintro e W1 ⟨y,m,d,c,d1,k1,k3,k4,rfl,hM,hK,bel⟩
  have HT:Hid _:=timeOf_mom (by omega) (by omega) hM hK
  have hds:=mom_small hM
  obtain ⟨a1,a2,a3,a4,_,a6,_⟩:=hM
  have b1:k1 < 24:=by omega
  have b3:k3 < 60:=by omega
  have b4:k4 < 60:=by omega
  have b5:d1≤31:=by omega
  clear hK hds
  have t1:(y:Int).tdiv 100=((y / 100:Nat):Int):=by rw [Int.tdiv_eq_ediv_of_nonneg (by omega)];omega
  have t2:(y:Int).tmod 100=((y % 100:Nat):Int):=by rw [Int.tmod_eq_emod_of_nonneg (by omega)];omega
  have t3:(y:Int) / 100=((y / 100:Nat):Int):=by omega
  have t4:(y:Int) % 100=((y % 100:Nat):Int):=by omega
  have hyhb:y / 100≤99:=by omega
  have hylb:y % 100≤99:=by omega
  obtain ⟨yh,hyh⟩:∃ z,y / 100=z:=⟨_,rfl⟩
  obtain ⟨yl,hyl⟩:∃ z,y % 100=z:=⟨_,rfl⟩
  rw [hyh] at t1 t3 hyhb
  rw [hyl] at t2 t4 hylb
  have r1:IntKind.i64.wrap (yh:Int)=(yh:Int):=by rw [IntKind.wrap_i64];omega
  have r2:IntKind.i64.wrap (yl:Int)=(yl:Int):=by rw [IntKind.wrap_i64];omega
  have hz:=zero_moD.out
  replace bel:=below_alloc (o:=.cells #[.int .i64 (y:Int),.int .i64 (m:Int),.int .i64 (d1:Int),.int .i64 (k1:Int),.int .i64 (k3:Int),.int .i64 (k4:Int)] 196) bel
  have BM:=Blk.new W1 [.int .i64 (y:Int),.int .i64 (m:Int),.int .i64 (d1:Int),.int .i64 (k1:Int),.int .i64 (k3:Int),.int .i64 (k4:Int)] 196 W1.heap.size rfl
  go_upto_region 4 with (first|(refine wpList_store_row rfl 196 _ _ rfl W1.heap.size #[.int .i64 (y:Int),.int .i64 (m:Int),.int .i64 (d1:Int),.int .i64 (k1:Int),.int .i64 (k3:Int),.int .i64 (k4:Int)] rfl rfl 196 _ (heap_alloc_last _ _) (by rw [size_moD];rfl) rfl (by simp [Value.oneCell']) ?_;rw [World.setRow_alloc_new])|fail)
  clear hz
  obtain ⟨gm,hgm⟩:∃ z,W1.heap.size=z:=⟨_,rfl⟩
  rw [hgm] at BM ⊢
  clear hgm
  generalize W1.alloc (.cells #[.int .i64 (y:Int),.int .i64 (m:Int),.int .i64 (d1:Int),.int .i64 (k1:Int),.int .i64 (k3:Int),.int .i64 (k4:Int)] 196)=W2 at *
  have f0:=BM.cell 0 _ rfl
  have f1:=BM.cell 1 _ rfl
  have f2:=BM.cell 2 _ rfl
  have f3:=BM.cell 3 _ rfl
  have f4:=BM.cell 4 _ rfl
  have f5:=BM.cell 5 _ rfl
  have lm:=BM.lt
  have HYH:Hid (y / 100=yh):=hyh
  have HYL:Hid (y % 100=yl):=hyl
  clear hyh hyl
  by_cases cy:2049 < y
  · have H:Hid (timeOf t=.ok (24,twos [yh,yl,m,d1,k1,k3,k4]++[90])):=by
      show _=_
      rw [HT.out,HYH.out,HYL.out]
      unfold tagT
      rw [if_pos (by omega),if_pos (by omega)]
      simp only [twos,List.append_assoc,List.append_nil]
    have gy:(2050:Int)≤(y:Int):=by omega
    go_upto_region 7 with fail
    have BA:=own_made W2 (i64s [(yh:Int),(yl:Int),(m:Int),(d1:Int),(k1:Int),(k3:Int),(k4:Int)]) 3 7 W2.heap.size rfl (Nat.le_refl _) (by decide)
    have IA:Is (W2.alloc (.cells #[.int .i64 (yh:Int),.int .i64 (yl:Int),.int .i64 (m:Int),.int .i64 (d1:Int),.int .i64 (k1:Int),.int .i64 (k3:Int),.int .i64 (k4:Int)] 3)) (.slice (some ⟨W2.heap.size,0,none⟩) 7 7) [(yh:Int),(yl:Int),(m:Int),(d1:Int),(k1:Int),(k3:Int),(k4:Int)]:=Is.of_own BA
    have bel3:Below w.heap.size w (W2.alloc (.cells #[.int .i64 (yh:Int),.int .i64 (yl:Int),.int .i64 (m:Int),.int .i64 (d1:Int),.int .i64 (k1:Int),.int .i64 (k3:Int),.int .i64 (k4:Int)] 3)):=below_alloc bel
    have hlw:=bel.size
    clear BA
    go_upto_region 8 with fail
    clear f0 f1 f2 f3 f4 f5 lm BM
    obtain ⟨ga,hga⟩:∃ z,W2.heap.size=z:=⟨_,rfl⟩
    rw [hga] at IA ⊢
    have hga2:w.heap.size≤ga:=by omega
    clear hga
    generalize W2.alloc (.cells #[.int .i64 (yh:Int),.int .i64 (yl:Int),.int .i64 (m:Int),.int .i64 (d1:Int),.int .i64 (k1:Int),.int .i64 (k3:Int),.int .i64 (k4:Int)] 3)=W3 at *
    have IB:Is W3 (.slice (some ⟨ga,0,none⟩) 7 7) (([yh,yl,m,d1,k1,k3,k4]:List Nat).map (fun n:Nat=>(n:Int))):=IA
    have HIB:Hid _:=IB
    clear IB IA
    go_wp2_with fail
    refine c13_under24.mono ?_
    rintro e w5 ⟨rfl,rfl⟩
    have v1:IntKind.i64.wrap (7 - 7)=0:=by decide
    go_wp2_with fail
    refine (c13_pairsBody (l:=[yh,yl,m,d1,k1,k3,k4]) HIB.out (by
      intro j
      match j with
      | 0=>show yh≤99;omega
      | 1=>show yl≤99;omega
      | 2=>show m≤99;omega
      | 3=>show d1≤99;omega
      | 4=>show k1≤99;omega
      | 5=>show k3≤99;omega
      | 6=>show k4≤99;omega
      | (j + 7)=>exact Nat.zero_le _) (by show 7≤7;omega)).mono ?_
    rintro e w6 ⟨v6,rfl,b6,n6,hb6⟩
    have bel6:=bel3.trans (hb6.mono bel3.size)
    have n7:=n6.up bel3.size
    go_wp2_with fail
    refine bodyPost_ret (results_tmp3 rfl _ _ _) rfl ?_
    exact RetW.ok H.out b6 n7 bel6
  · have H:Hid (timeOf t=.ok (23,twos [yl,m,d1,k1,k3,k4]++[90])):=by
      show _=_
      rw [HT.out,HYH.out,HYL.out]
      unfold tagT
      rw [if_neg (by omega),if_neg (by omega)]
      rfl
    have gy:¬ (2050:Int)≤(y:Int):=by omega
    go_upto_region 7 with fail
    have BA:=own_made W2 (i64s [(yh:Int),(yl:Int),(m:Int),(d1:Int),(k1:Int),(k3:Int),(k4:Int)]) 3 7 W2.heap.size rfl (Nat.le_refl _) (by decide)
    have IA:Is (W2.alloc (.cells #[.int .i64 (yh:Int),.int .i64 (yl:Int),.int .i64 (m:Int),.int .i64 (d1:Int),.int .i64 (k1:Int),.int .i64 (k3:Int),.int .i64 (k4:Int)] 3)) (.slice (some ⟨W2.heap.size,0,none⟩) 7 7) [(yh:Int),(yl:Int),(m:Int),(d1:Int),(k1:Int),(k3:Int),(k4:Int)]:=Is.of_own BA
    have bel3:Below w.heap.size w (W2.alloc (.cells #[.int .i64 (yh:Int),.int .i64 (yl:Int),.int .i64 (m:Int),.int .i64 (d1:Int),.int .i64 (k1:Int),.int .i64 (k3:Int),.int .i64 (k4:Int)] 3)):=below_alloc bel
    have hlw:=bel.size
    clear BA
    go_upto_region 8 with fail
    clear f0 f1 f2 f3 f4 f5 lm BM
    obtain ⟨ga,hga⟩:∃ z,W2.heap.size=z:=⟨_,rfl⟩
    rw [hga] at IA ⊢
    have hga2:w.heap.size≤ga:=by omega
    clear hga
    generalize W2.alloc (.cells #[.int .i64 (yh:Int),.int .i64 (yl:Int),.int .i64 (m:Int),.int .i64 (d1:Int),.int .i64 (k1:Int),.int .i64 (k3:Int),.int .i64 (k4:Int)] 3)=W3 at *
    have IB:Is W3 (.slice (some ⟨ga,1,none⟩) 6 6) (([yl,m,d1,k1,k3,k4]:List Nat).map (fun n:Nat=>(n:Int))):=is_cut IA rfl (r:=1) (by omega) rfl (fun _=>rfl) rfl
    have HIB:Hid _:=IB
    clear IB IA
    go_wp2_with fail
    refine c13_under23.mono ?_
    rintro e w5 ⟨rfl,rfl⟩
    have v1:IntKind.i64.wrap (7 - 6)=1:=by decide
    go_wp2_with fail
    refine (c13_pairsBody (l:=[yl,m,d1,k1,k3,k4]) HIB.out (by
      intro j
      match j with
      | 0=>show yl≤99;omega
      | 1=>show m≤99;omega
      | 2=>show d1≤99;omega
      | 3=>show k1≤99;omega
      | 4=>show k3≤99;omega
      | 5=>show k4≤99;omega
      | (j + 6)=>exact Nat.zero_le _) (by show 6≤7;omega)).mono ?_
    rintro e w6 ⟨v6,rfl,b6,n6,hb6⟩
    have bel6:=bel3.trans (hb6.mono bel3.size)
    have n7:=n6.up bel3.size
    go_wp2_with fail
    refine bodyPost_ret (results_tmp3 rfl _ _ _) rfl ?_
    exact RetW.ok H.out b6 n7 bel6
theorem con_TimeOf {x:Int} {w:World} (_:-9223372036854775808≤x∧x≤9223372036854775807) :
  Calls Tryz.prog 83 #[.int .i64 x] w fun e w'=>(∀ (a:Int) (X:List Int),timeOf x=.ok (a,X)→∃ v':Value,e=.returned (.tuple #[.int .i64 a,v',.nilIface])∧Bs w' v' X∧NewV w v'∧Below w.heap.size w w')∧(∀ c,timeOf x=.error c→∃ (ao:Option Addr) (cap:Nat),e=.returned (.tuple #[.int .i64 0,.slice ao 0 cap,.iface 56 (.int .i64 (c:Int))])∧Below w.heap.size w w'):=c13_TimeOf.mono (fun _ _ h=>h)
end Go.Proofs.YtkgjlcdefnpkpaaGreatDoor
