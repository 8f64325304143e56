/- The program's centuryOf, exists of layer 13. The program's Time of layer 13. -/
import Derived.Test.YtohcdbifhnfcbaaGreatDoorPrTimD
import Derived.Test.YtohcdbifhnfcbaaGreatDoorPrTimP
import Derived.Test.YtohcdbifhnfcbaaGreatDoorRows
import Derived.Deep.OwnRows
import Derived.Deep.AppendLies
import Derived.Great.BuildSlice
import Derived.BigQuiet
import Derived.Deep.WholeRow
import Derived.Deep.RegionHeld3
import Derived.Deep.DeepCutAuto
import Derived.Deep.DeepFit
namespace Go.Proofs.YtohcdbifhnfcbaaGreatDoor
open Go.RowKit
set_option linter.unusedSimpArgs false
set_option maxRecDepth 100000
set_option maxHeartbeats 4000000
theorem c13_century {y:Nat} {w:World}:Calls Tryz.prog 138 #[.int .i64 (y:Int)] w fun e w'=>e=.returned (.int .i64 ((if y < 50 then 20 else 19:Nat):Int))∧w'=w:=by
 by_cases c:y < 50
 ·have g:(y:Int) < 50:=by omega
  have HE:Hid ((if y < 50 then 20 else 19:Nat)=20):=if_pos c
  rw [HE.out]
  clear HE c
  go_enter Tryz.func138,Tryz.ntmps138
  go_wp2_with fail
  go_ret
  exact ⟨rfl,rfl⟩
 ·have g:¬ (y:Int) < 50:=by omega
  have HE:Hid ((if y < 50 then 20 else 19:Nat)=19):=if_neg c
  rw [HE.out]
  clear HE c
  go_enter Tryz.func138,Tryz.ntmps138
  go_wp2_with fail
  go_ret
  exact ⟨rfl,rfl⟩
theorem c13_exists {y m d h i s:Nat} {w:World} (hy:y≤99999) :
  Calls Tryz.prog 139 #[.agg #[.int .i64 (y:Int),.int .i64 (m:Int),.int .i64 (d:Int),.int .i64 (h:Int),.int .i64 (i:Int),.int .i64 (s:Int)]] w fun e w'=>e=.returned (.bool (exZ y m d h i s))∧Below w.heap.size w w':=by
 have B0:=Blk.new w [.int .i64 (y:Int),.int .i64 (m:Int),.int .i64 (d:Int),.int .i64 (h:Int),.int .i64 (i:Int),.int .i64 (s:Int)] 211 w.heap.size rfl
 have bel:=bal w (.cells #[.int .i64 (y:Int),.int .i64 (m:Int),.int .i64 (d:Int),.int .i64 (h:Int),.int .i64 (i:Int),.int .i64 (s:Int)] 211)
 have e0:=B0.cell 0 _ rfl
 have e1:=B0.cell 1 _ rfl
 have e2:=B0.cell 2 _ rfl
 have e3:=B0.cell 3 _ rfl
 have e4:=B0.cell 4 _ rfl
 have e5:=B0.cell 5 _ rfl
 have lt0:=B0.lt
 clear B0
 by_cases c1:1≤m
 rotate_left
 ·have HE:Hid (exZ y m d h i s=false):=decide_eq_false (fun z=>c1 z.1)
  have g1:decide ((1:Int)≤(m:Int))=false:=decide_eq_false (by omega)
  go_enter Tryz.func139,Tryz.ntmps139
  go_upto_region 1 with fail
  go_quiet (fail)
  go_wp2_with fail
  go_ret
  exact ⟨by rw [HE.out];rfl,below_dN bel _⟩
 have g1:decide ((1:Int)≤(m:Int))=true:=decide_eq_true (by omega)
 by_cases c2:m≤12
 rotate_left
 ·have HE:Hid (exZ y m d h i s=false):=decide_eq_false (fun z=>c2 z.2.1)
  have g2:decide ((m:Int)≤12)=false:=decide_eq_false (by omega)
  go_enter Tryz.func139,Tryz.ntmps139
  go_upto_region 1 with fail
  go_quiet (fail)
  go_wp2_with fail
  go_ret
  exact ⟨by rw [HE.out];rfl,below_dN bel _⟩
 have g2:decide ((m:Int)≤12)=true:=decide_eq_true (by omega)
 by_cases c3:1≤d
 rotate_left
 ·have HE:Hid (exZ y m d h i s=false):=decide_eq_false (fun z=>c3 z.2.2.1)
  have g3:decide ((1:Int)≤(d:Int))=false:=decide_eq_false (by omega)
  go_enter Tryz.func139,Tryz.ntmps139
  go_upto_region 1 with fail
  go_quiet (fail)
  go_wp2_with fail
  go_ret
  exact ⟨by rw [HE.out];rfl,below_dN bel _⟩
 have g3:decide ((1:Int)≤(d:Int))=true:=decide_eq_true (by omega)
 by_cases c4:(d:Int)≤mdZ y m
 rotate_left
 ·have HE:Hid (exZ y m d h i s=false):=decide_eq_false (fun z=>c4 z.2.2.2.1)
  have g4:decide ((d:Int)≤mdZ y m)=false:=decide_eq_false (by omega)
  go_enter Tryz.func139,Tryz.ntmps139
  go_upto_region 1 with fail
  go_quiet (((go_at_call 150;exact Calls.quiet_of_same (c13_mdays hy c1 c2))))
  go_wp2_with fail
  go_ret
  exact ⟨by rw [HE.out];rfl,below_dN bel _⟩
 have g4:decide ((d:Int)≤mdZ y m)=true:=decide_eq_true (by omega)
 by_cases c5:h < 24
 rotate_left
 ·have HE:Hid (exZ y m d h i s=false):=decide_eq_false (fun z=>c5 z.2.2.2.2.1)
  have g5:decide ((h:Int) < 24)=false:=decide_eq_false (by omega)
  go_enter Tryz.func139,Tryz.ntmps139
  go_upto_region 1 with fail
  go_quiet (((go_at_call 150;exact Calls.quiet_of_same (c13_mdays hy c1 c2))))
  go_wp2_with fail
  go_ret
  exact ⟨by rw [HE.out];rfl,below_dN bel _⟩
 have g5:decide ((h:Int) < 24)=true:=decide_eq_true (by omega)
 by_cases c6:i < 60
 rotate_left
 ·have HE:Hid (exZ y m d h i s=false):=decide_eq_false (fun z=>c6 z.2.2.2.2.2.1)
  have g6:decide ((i:Int) < 60)=false:=decide_eq_false (by omega)
  go_enter Tryz.func139,Tryz.ntmps139
  go_upto_region 1 with fail
  go_quiet (((go_at_call 150;exact Calls.quiet_of_same (c13_mdays hy c1 c2))))
  go_wp2_with fail
  go_ret
  exact ⟨by rw [HE.out];rfl,below_dN bel _⟩
 have g6:decide ((i:Int) < 60)=true:=decide_eq_true (by omega)
 by_cases c7:s < 60
 rotate_left
 ·have HE:Hid (exZ y m d h i s=false):=decide_eq_false (fun z=>c7 z.2.2.2.2.2.2)
  have g7:decide ((s:Int) < 60)=false:=decide_eq_false (by omega)
  go_enter Tryz.func139,Tryz.ntmps139
  go_upto_region 1 with fail
  go_quiet (((go_at_call 150;exact Calls.quiet_of_same (c13_mdays hy c1 c2))))
  go_wp2_with fail
  go_ret
  exact ⟨by rw [HE.out];rfl,below_dN bel _⟩
 have g7:decide ((s:Int) < 60)=true:=decide_eq_true (by omega)
 have HE:Hid (exZ y m d h i s=true):=decide_eq_true ⟨c1,c2,c3,c4,c5,c6,c7⟩
 go_enter Tryz.func139,Tryz.ntmps139
 go_upto_region 1 with fail
 go_quiet (((go_at_call 150;exact Calls.quiet_of_same (c13_mdays hy c1 c2))))
 go_wp2_with fail
 go_ret
 exact ⟨by rw [HE.out];rfl,below_dN bel _⟩
/-- a number that is answered, or an error's code -/
def RetN (w:World) (r:Except Nat Int) (e:Ending) (w':World):Prop:=(∀ n,r=.ok n→e=.returned (.tuple #[.int .i64 n,.nilIface])∧Below w.heap.size w w')∧(∀ c,r=.error c→e=.returned (.tuple #[.int .i64 0,.iface 46 (.int .i64 (c:Int))])∧Below w.heap.size w w')
theorem RetN.ok {w w':World} {r:Except Nat Int} {n:Int} (h:r=.ok n) (bel:Below w.heap.size w w'):RetN w r (.returned (.tuple #[.int .i64 n,.nilIface])) w' :=
 ⟨fun m hm=>(by rw [h] at hm;cases hm;exact ⟨rfl,bel⟩),fun c hc=>(by rw [h] at hc;cases hc)⟩
theorem RetN.bad {w w':World} {r:Except Nat Int} {c:Nat} (h:r=.error c) (bel:Below w.heap.size w w'):RetN w r (.returned (.tuple #[.int .i64 0,.iface 46 (.int .i64 (c:Int))])) w' :=
 ⟨fun m hm=>(by rw [h] at hm;cases hm),fun c2 hc=>(by rw [h] at hc;cases hc;exact ⟨rfl,bel⟩)⟩
theorem zero_mo:Hid (∀ w:World,(zeroValue 211).run Tryz.prog w=.ok (.agg #[.int .i64 0,.int .i64 0,.int .i64 0,.int .i64 0,.int .i64 0,.int .i64 0]) w):=fun w=>by kernel_rfl
theorem size_mo:(Tryz.prog.info? 211).map (·.size)=some 6:=by kernel_rfl
theorem timeP_23 (B:List Int):timeP 23 B=timeF 2 B:=by unfold timeP;rw [if_pos rfl]
theorem timeP_24 (B:List Int):timeP 24 B=timeF 4 B:=by unfold timeP;rw [if_neg (by decide),if_pos rfl]
theorem timeP_no {tag:Int} {B:List Int} (h1:¬ tag=23) (h2:¬ tag=24):timeP tag B=.error 1:=by unfold timeP;rw [if_neg h1,if_neg h2]
theorem all_neg {l:List Int}:digV l 0 < 0↔¬ allD l:=by
 constructor
 ·intro h a
  have:=digV_all l 0 (by omega) a
  omega
 ·intro h
  by_cases c:0≤digV l 0
  ·exact absurd (digV_neg l 0 (by omega) c) h
  ·omega
theorem timeF_no {B:List Int} {n k:Nat} (hk:n + 10=2 * k) (h:¬ PairsOk B k):timeF n B=.error 7:=by
 unfold timeF
 rw [if_pos]
 unfold PairsOk at h
 rw [← hk] at h
 by_cases c1:B.length=n + 11
 ·by_cases c2:B.getD (n + 10) 0=90
  ·exact .inr (.inr (all_neg.2 (fun a=>h ⟨by omega,c2,a⟩)))
  ·exact .inr (.inl c2)
 ·exact .inl c1
theorem timeF_ok {B:List Int} {n k:Nat} (hk:n + 10=2 * k) (h:PairsOk B k):timeF n B=timeG n (yearN n (digV (B.take n) 0)) (digV ((B.drop n).take 2) 0) (digV ((B.drop (n + 2)).take 2) 0) (digV ((B.drop (n + 4)).take 2) 0) (digV ((B.drop (n + 6)).take 2) 0) (digV ((B.drop (n + 8)).take 2) 0):=by
 obtain ⟨h1,h2,h3⟩:=h
 rw [← hk] at h1 h2 h3
 unfold timeF
 rw [if_neg]
 rintro (c|c|c)
 ·omega
 ·exact c h2
 ·exact all_neg.1 c h3
theorem timeF2_ok {B:List Int} (h:PairsOk B 6):timeF 2 B=timeG 2 (if pairN B 0 < 50 then pairN B 0 + 2000 else pairN B 0 + 1900) (pairN B 1) (pairN B 2) (pairN B 3) (pairN B 4) (pairN B 5):=by
 rw [timeF_ok (k:=6) rfl h]
 obtain ⟨h1,_,h3⟩:=h
 have e0:=pair_dig (i:=0) h3 (by omega) (by omega)
 have e1:=pair_dig (i:=1) h3 (by omega) (by omega)
 have e2:=pair_dig (i:=2) h3 (by omega) (by omega)
 have e3:=pair_dig (i:=3) h3 (by omega) (by omega)
 have e4:=pair_dig (i:=4) h3 (by omega) (by omega)
 have e5:=pair_dig (i:=5) h3 (by omega) (by omega)
 rw [show digV (B.take 2) 0=pairN B 0 from e0,show digV ((B.drop 2).take 2) 0=pairN B 1 from e1,show digV ((B.drop (2 + 2)).take 2) 0=pairN B 2 from e2,show digV ((B.drop (2 + 4)).take 2) 0=pairN B 3 from e3,show digV ((B.drop (2 + 6)).take 2) 0=pairN B 4 from e4,show digV ((B.drop (2 + 8)).take 2) 0=pairN B 5 from e5]
 unfold yearN
 rw [if_pos rfl]
theorem timeF4_ok {B:List Int} (h:PairsOk B 7):timeF 4 B=timeG 4 (100 * pairN B 0 + pairN B 1) (pairN B 2) (pairN B 3) (pairN B 4) (pairN B 5) (pairN B 6):=by
 rw [timeF_ok (k:=7) rfl h]
 obtain ⟨h1,_,h3⟩:=h
 have e0:=year_pair h3 (by omega) (by omega)
 have e2:=pair_dig (i:=2) h3 (by omega) (by omega)
 have e3:=pair_dig (i:=3) h3 (by omega) (by omega)
 have e4:=pair_dig (i:=4) h3 (by omega) (by omega)
 have e5:=pair_dig (i:=5) h3 (by omega) (by omega)
 have e6:=pair_dig (i:=6) h3 (by omega) (by omega)
 rw [e0,show digV ((B.drop 4).take 2) 0=pairN B 2 from e2,show digV ((B.drop (4 + 2)).take 2) 0=pairN B 3 from e3,show digV ((B.drop (4 + 4)).take 2) 0=pairN B 4 from e4,show digV ((B.drop (4 + 6)).take 2) 0=pairN B 5 from e5,show digV ((B.drop (4 + 8)).take 2) 0=pairN B 6 from e6]
 unfold yearN
 rw [if_neg (by decide)]
theorem pairs_bd {B:List Int} {n k:Nat} (h:PairsOk B n) (hk:k < n):0≤pairN B k∧pairN B k≤99:=by
 obtain ⟨h1,_,h3⟩:=h
 exact pair_bd h3 (by omega) (by omega)
theorem below_stepT {a w w':World} (h:Below a.heap.size a w) (hb:Below w.heap.size w w'):Below a.heap.size a w':=h.trans (hb.mono h.size)
theorem c13_Time {tag:Int} {v:Value} {B:List Int} {w:World} (hv:Bs w v B) (b:byt B) :
  Calls Tryz.prog 108 #[.int .i64 tag,v] w (RetN w (timeP tag B)):=by
 have HB:Hid (byt B):=b
 have HV:Hid (Bs w v B):=hv
 obtain ⟨ao,cap,rfl,h1,h2,h3⟩:=hv
 clear h1 h2 h3 b
 by_cases c23:tag=23
 ·subst c23
  go_enter Tryz.func108,Tryz.ntmps108
  go_wp2_with fail
  refine c13_under23.mono ?_
  rintro e w1 ⟨rfl,rfl⟩
  go_wp2_with fail
  refine (c13_pairs (n:=6) HV.out HB.out (by omega)).mono ?_
  rintro e W0 (⟨hok,tv,rfl,hI,bel⟩|⟨hok,rfl,bel⟩)
  rotate_left
  ·have H:Hid (timeP 23 B=.error 7):=by show _=_;rw [timeP_23,timeF_no (k:=6) rfl hok]
   clear hok
   go_wp2_with fail
   refine bodyPost_ret (results_tmp2 rfl _ _ _) rfl ?_
   exact RetN.bad H.out bel
  have hT:=timeF2_ok hok
  have bd0:=pairs_bd hok (show 0 < 6 by omega)
  obtain ⟨p0,hp0⟩:=Int.eq_ofNat_of_zero_le bd0.1
  rw [hp0] at bd0 hT
  have bd1:=pairs_bd hok (show 1 < 6 by omega)
  obtain ⟨p1,hp1⟩:=Int.eq_ofNat_of_zero_le bd1.1
  rw [hp1] at bd1 hT
  have bd2:=pairs_bd hok (show 2 < 6 by omega)
  obtain ⟨p2,hp2⟩:=Int.eq_ofNat_of_zero_le bd2.1
  rw [hp2] at bd2 hT
  have bd3:=pairs_bd hok (show 3 < 6 by omega)
  obtain ⟨p3,hp3⟩:=Int.eq_ofNat_of_zero_le bd3.1
  rw [hp3] at bd3 hT
  have bd4:=pairs_bd hok (show 4 < 6 by omega)
  obtain ⟨p4,hp4⟩:=Int.eq_ofNat_of_zero_le bd4.1
  rw [hp4] at bd4 hT
  have bd5:=pairs_bd hok (show 5 < 6 by omega)
  obtain ⟨p5,hp5⟩:=Int.eq_ofNat_of_zero_le bd5.1
  rw [hp5] at bd5 hT
  clear HV
  have HI:Hid (Is W0 tv (pairsL B 6)):=hI
  obtain ⟨ta,tc,rfl,k1,k2,k3⟩:=hI
  rw [pairsL_len] at HI k2 k3 ⊢
  unfold maxLen at k1
  obtain ⟨g0,o0,rfl,lg0,hc⟩:=k3 (by omega)
  have y0:=hc 0 (by omega)
  rw [pairsL_get (by omega),hp0] at y0
  have y1:=hc 1 (by omega)
  rw [pairsL_get (by omega),hp1] at y1
  have y2:=hc 2 (by omega)
  rw [pairsL_get (by omega),hp2] at y2
  have y3:=hc 3 (by omega)
  rw [pairsL_get (by omega),hp3] at y3
  have y4:=hc 4 (by omega)
  rw [pairsL_get (by omega),hp4] at y4
  have y5:=hc 5 (by omega)
  rw [pairsL_get (by omega),hp5] at y5
  rw [Nat.add_zero] at y0
  clear hc k3
  go_wp2_with fail
  refine (c13_century (y:=p0)).mono ?_
  rintro e w2 ⟨rfl,rfl⟩
  obtain ⟨c,hc⟩:∃ c,(if p0 < 50 then 20 else 19:Nat)=c:=⟨_,rfl⟩
  have hcb:c=20∧p0 < 50∨c=19∧¬ p0 < 50:=by
   rw [← hc]
   by_cases z:p0 < 50
   ·left;exact ⟨if_pos z,z⟩
   ·right;exact ⟨if_neg z,z⟩
  rw [hc]
  clear hc
  obtain ⟨Y,hY⟩:∃ y,c * 100 + p0=y:=⟨_,rfl⟩
  have HT:Hid (timeP 23 B=if exZ Y p1 p2 p3 p4 p5=false∨(2=4∧Y < 2050) then .error 3 else .ok (secN Y p1 p2 + (3600 * (p3:Int) + 60 * (p4:Int) + (p5:Int)))):=by
   show _=_
   rw [timeP_23,hT,← timeG_ex (n:=2) (by omega) (.inl rfl)]
   congr 1
   split<;>omega
  have hYb:1900≤Y∧Y≤2099:=by omega
  have own:=own_made w2 (i64s [(c:Int)]) 3 1 w1.heap.size rfl bel.size (by decide)
  have st:Below w2.heap.size w2 (w2.alloc (.cells #[.int .i64 (c:Int)] 3)):=(Below.refl w2.heap.size w2).alloc (Nat.le_refl _) _
  have b0:=HI.out.later st
  have hbl:=below_stepT bel st
  have hsz:w1.heap.size≤(w2.alloc (.cells #[.int .i64 (c:Int)] 3)).heap.size:=hbl.size
  clear st hT
  go_upto_region 8 with (first|(at_builtin;refine wpList_append_is (by rfl) _ _ (by rfl) w1.heap.size _ 1 [(c:Int)] (by rfl) own _ (pairsL B 6) (by rfl) b0 (by rw [pairsL_len];omega) hsz ?_;intro v5 W own5 hgrow hat)|fail)
  clear bel
  have bel:=below_own (base:=w1.heap.size) hbl hgrow hsz (fun g hg=>own_geM own hg) (Nat.le_refl _)
  have hU:=Is.of_own own5
  clear own5 hgrow hat own b0 hbl hsz HI y0 y1 y2 y3 y4 y5
  obtain ⟨ua,uc,rfl,k5,k6,k7⟩:=hU
  have hl7:([(c:Int)]++pairsL B 6).length=7:=by rw [List.length_append,pairsL_len];rfl
  rw [hl7] at k6 k7 ⊢
  unfold maxLen at k5
  obtain ⟨g,o,rfl,lg,hd⟩:=k7 (by omega)
  have x0:=hd 0 (by omega)
  rw [Nat.add_zero] at x0
  replace x0:W.cell? ⟨g,o,none⟩=some (.int .i64 (c:Int)):=x0
  have x1:=hd 1 (by omega)
  rw [show ([(c:Int)]++pairsL B 6).getD 1 0=(pairsL B 6).getD 0 0 from rfl,pairsL_get (by omega),hp0] at x1
  have x2:=hd 2 (by omega)
  rw [show ([(c:Int)]++pairsL B 6).getD 2 0=(pairsL B 6).getD 1 0 from rfl,pairsL_get (by omega),hp1] at x2
  have x3:=hd 3 (by omega)
  rw [show ([(c:Int)]++pairsL B 6).getD 3 0=(pairsL B 6).getD 2 0 from rfl,pairsL_get (by omega),hp2] at x3
  have x4:=hd 4 (by omega)
  rw [show ([(c:Int)]++pairsL B 6).getD 4 0=(pairsL B 6).getD 3 0 from rfl,pairsL_get (by omega),hp3] at x4
  have x5:=hd 5 (by omega)
  rw [show ([(c:Int)]++pairsL B 6).getD 5 0=(pairsL B 6).getD 4 0 from rfl,pairsL_get (by omega),hp4] at x5
  have x6:=hd 6 (by omega)
  rw [show ([(c:Int)]++pairsL B 6).getD 6 0=(pairsL B 6).getD 5 0 from rfl,pairsL_get (by omega),hp5] at x6
  clear hd k7 hl7
  obtain ⟨q,hq⟩:∃ q,c * 100=q:=⟨_,rfl⟩
  have w1:IntKind.i64.wrap ((c:Int) * 100)=(q:Int):=by rw [IntKind.wrap_i64];omega
  have w2:IntKind.i64.wrap ((q:Int) + (p0:Int))=(Y:Int):=by rw [IntKind.wrap_i64];omega
  clear hq hY
  have hz:=zero_mo.out
  obtain ⟨S1,hS1,KB1,KI1,KD1,KL1,KA1⟩:∃ S:World→Prop,Hd S W∧Hid (∀ wx,Hd S wx→Below W.heap.size W wx)∧Hid (∀ wx,Below W.heap.size W wx→Hd S wx)∧Hid (∀ wx,Hd S wx→Hd S wx.drew)∧Hid (∀ w1 w2,Hd S w1→Below w1.heap.size w1 w2→Hd S w2)∧Hid (∀ w1 o,Hd S w1→Hd S (w1.alloc o)):=⟨fun wx=>Below W.heap.size W wx,Below.refl _ _,fun _ h=>h,fun _ h=>h,fun _ h=>h.drew,fun _ _ h hb=>below_stepT h hb,fun _ o h=>below_alloc h⟩
  have cx0:∀ wx,Hd S1 wx→wx.cell? ⟨g,o,none⟩=some (.int .i64 (c:Int)):=fun wx h=>cell_later x0 (KB1.out wx h)
  have cx1:∀ wx,Hd S1 wx→wx.cell? ⟨g,o + 1,none⟩=some (.int .i64 (p0:Int)):=fun wx h=>cell_later x1 (KB1.out wx h)
  have cx2:∀ wx,Hd S1 wx→wx.cell? ⟨g,o + 2,none⟩=some (.int .i64 (p1:Int)):=fun wx h=>cell_later x2 (KB1.out wx h)
  have cx3:∀ wx,Hd S1 wx→wx.cell? ⟨g,o + 3,none⟩=some (.int .i64 (p2:Int)):=fun wx h=>cell_later x3 (KB1.out wx h)
  have cx4:∀ wx,Hd S1 wx→wx.cell? ⟨g,o + 4,none⟩=some (.int .i64 (p3:Int)):=fun wx h=>cell_later x4 (KB1.out wx h)
  have cx5:∀ wx,Hd S1 wx→wx.cell? ⟨g,o + 5,none⟩=some (.int .i64 (p4:Int)):=fun wx h=>cell_later x5 (KB1.out wx h)
  have cx6:∀ wx,Hd S1 wx→wx.cell? ⟨g,o + 6,none⟩=some (.int .i64 (p5:Int)):=fun wx h=>cell_later x6 (KB1.out wx h)
  have lx:∀ wx,Hd S1 wx→g < wx.heap.size:=fun wx h=>Nat.lt_of_lt_of_le lg (KB1.out wx h).size
  clear x0 x1 x2 x3 x4 x5 x6
  go_upto_region 8 with fail
  refine wp_region_noPanic ?_
  refine wp_region_held_drew (S:=Hd S1) (by kernel_rfl) (KD1.out _ hS1) (fun hHeld=>?_)
  clear hS1
  generalize World.drew _=wd at *
  refine wpAnyH_take (i:=0) (v:=?_) rfl (by kernel_rfl) (by kernel_rfl) (by kernel_rfl) (fun _ _ _ h=>h) (Or.inl ⟨by rfl,?_⟩) (by assumption) ?_
  rotate_left
  ·intro w hSw
   go_simp
   with_reducible rfl
  refine wpAnyH_take (i:=1) (v:=?_) rfl (by kernel_rfl) (by kernel_rfl) (by kernel_rfl) (fun _ _ _ h=>h) (Or.inl ⟨by rfl,?_⟩) (by assumption) ?_
  rotate_left
  ·intro w hSw
   go_simp
   with_reducible rfl
  refine wpAnyH_take (i:=2) (v:=?_) rfl (by kernel_rfl) (by kernel_rfl) (by kernel_rfl) (fun _ _ _ h=>h) (Or.inl ⟨by rfl,?_⟩) (by assumption) ?_
  rotate_left
  ·intro w hSw
   go_simp
   with_reducible rfl
  refine wpAnyH_take (i:=3) (v:=?_) rfl (by kernel_rfl) (by kernel_rfl) (by kernel_rfl) (fun _ _ _ h=>h) (Or.inl ⟨by rfl,?_⟩) (by assumption) ?_
  rotate_left
  ·intro w hSw
   go_simp
   with_reducible rfl
  refine wpAnyH_take (i:=4) (v:=?_) rfl (by kernel_rfl) (by kernel_rfl) (by kernel_rfl) (fun _ _ _ h=>h) (Or.inl ⟨by rfl,?_⟩) (by assumption) ?_
  rotate_left
  ·intro w hSw
   go_simp
   with_reducible rfl
  refine wpAnyH_take (i:=5) (v:=?_) rfl (by kernel_rfl) (by kernel_rfl) (by kernel_rfl) (fun _ _ _ h=>h) (Or.inl ⟨by rfl,?_⟩) (by assumption) ?_
  rotate_left
  ·intro w hSw
   go_simp
   with_reducible rfl
  refine wpAnyH_take (i:=6) (v:=?_) rfl (by kernel_rfl) (by kernel_rfl) (by kernel_rfl) (fun _ _ _ h=>h) (Or.inl ⟨by rfl,?_⟩) (by assumption) ?_
  rotate_left
  ·intro w hSw
   go_simp
   with_reducible rfl
  refine wpAnyH_take (i:=7) (v:=?_) rfl (by kernel_rfl) (by kernel_rfl) (by kernel_rfl) (fun _ _ _ h=>h) (Or.inl ⟨by rfl,?_⟩) (by assumption) ?_
  rotate_left
  ·intro w hSw
   go_simp
   with_reducible rfl
  refine wpAnyH_take (i:=8) (v:=?_) rfl (by kernel_rfl) (by kernel_rfl) (by kernel_rfl) (fun _ _ _ h=>h) (Or.inl ⟨by rfl,?_⟩) (by assumption) ?_
  rotate_left
  ·intro w hSw
   go_simp
   with_reducible rfl
  refine wpAnyH_take (i:=9) (v:=?_) rfl (by kernel_rfl) (by kernel_rfl) (by kernel_rfl) (fun _ _ _ h=>h) (Or.inl ⟨by rfl,?_⟩) (by assumption) ?_
  rotate_left
  ·intro w hSw
   go_simp
   with_reducible rfl
  refine wpAnyH_take (i:=10) (v:=?_) rfl (by kernel_rfl) (by kernel_rfl) (by kernel_rfl) (fun _ _ _ h=>h) (Or.inl ⟨by rfl,?_⟩) (by assumption) ?_
  rotate_left
  ·intro w hSw
   go_simp
   with_reducible rfl
  refine wpAnyH_take (i:=11) (v:=?_) rfl (by kernel_rfl) (by kernel_rfl) (by kernel_rfl) (fun _ _ _ h=>h) (Or.inl ⟨by rfl,?_⟩) (by assumption) ?_
  rotate_left
  ·intro w hSw
   go_simp
   with_reducible rfl
  refine wpAnyH_take (i:=12) (v:=?_) rfl (by kernel_rfl) (by kernel_rfl) (by kernel_rfl) (fun _ _ _ h=>h) (Or.inl ⟨by rfl,?_⟩) (by assumption) ?_
  rotate_left
  ·intro w hSw
   go_simp
   with_reducible rfl
  refine wpAnyH_take (i:=13) (v:=?_) rfl (by kernel_rfl) (by kernel_rfl) (by kernel_rfl) (fun _ _ _ h=>h) (Or.inl ⟨by rfl,?_⟩) (by assumption) ?_
  rotate_left
  ·intro w hSw
   go_simp
   with_reducible rfl
  refine wpAnyH_take (i:=14) (v:=?_) rfl (by kernel_rfl) (by kernel_rfl) (by kernel_rfl) (fun _ _ _ h=>h) (Or.inl ⟨by rfl,?_⟩) (by assumption) ?_
  rotate_left
  ·intro w hSw
   go_simp
   with_reducible rfl
  refine wpAnyH_take (i:=15) (v:=?_) rfl (by kernel_rfl) (by kernel_rfl) (by kernel_rfl) (fun _ _ _ h=>h) (Or.inl ⟨by rfl,?_⟩) (by assumption) ?_
  rotate_left
  ·intro w hSw
   go_simp
   with_reducible rfl
  refine wpAnyH_take (i:=16) (v:=?_) rfl (by kernel_rfl) (by kernel_rfl) (by kernel_rfl) (fun _ _ _ h=>h) (Or.inl ⟨by rfl,?_⟩) (by assumption) ?_
  rotate_left
  ·intro w hSw
   go_simp
   with_reducible rfl
  refine wpAnyH_take (i:=17) (v:=?_) rfl (by kernel_rfl) (by kernel_rfl) (by kernel_rfl) (fun _ _ _ h=>h) (Or.inl ⟨by rfl,?_⟩) (by assumption) ?_
  rotate_left
  ·intro w hSw
   go_simp
   with_reducible rfl
  refine wpAnyH_take (i:=18) (v:=?_) rfl (by kernel_rfl) (by kernel_rfl) (by kernel_rfl) (fun _ _ _ h=>h) (Or.inl ⟨by rfl,?_⟩) (by assumption) ?_
  rotate_left
  ·intro w hSw
   go_simp
   with_reducible rfl
  refine wpAnyH_take (i:=19) (v:=?_) rfl (by kernel_rfl) (by kernel_rfl) (by kernel_rfl) (fun _ _ _ h=>h) (Or.inl ⟨by rfl,?_⟩) (by assumption) ?_
  rotate_left
  ·intro w hSw
   go_simp
   with_reducible rfl
  refine wpAnyH_take (i:=20) (v:=?_) rfl (by kernel_rfl) (by kernel_rfl) (by kernel_rfl) (fun _ _ _ h=>h) (Or.inl ⟨by rfl,?_⟩) (by assumption) ?_
  rotate_left
  ·intro w hSw
   go_simp
   with_reducible rfl
  refine wpAnyH_take (i:=21) (v:=?_) rfl (by kernel_rfl) (by kernel_rfl) (by kernel_rfl) (fun _ _ _ h=>h) (Or.inl ⟨by rfl,?_⟩) (by assumption) ?_
  rotate_left
  ·intro w hSw
   go_simp
   with_reducible rfl
  refine wpAnyH_take (i:=22) (v:=?_) rfl (by kernel_rfl) (by kernel_rfl) (by kernel_rfl) (fun _ _ _ h=>h) (Or.inl ⟨by rfl,?_⟩) (by assumption) ?_
  rotate_left
  ·intro w hSw
   go_simp
   with_reducible rfl
  refine wpAnyH_take (i:=23) (v:=?_) rfl (by kernel_rfl) (by kernel_rfl) (by kernel_rfl) (fun _ _ _ h=>h) (Or.inl ⟨by rfl,?_⟩) (by assumption) ?_
  rotate_left
  ·intro w hSw
   go_simp
   with_reducible rfl
  have HHw:Hid (Hd S1 wd):=hHeld
  refine wpAnyH_ready (rs:=[24]) (by kernel_rfl) (by simp) ?_
  refine AllReadyH.cons rfl (fun K hK=>?_) ?_
  ·go_simp
   refine hK.out _ _ ?_ (fun hHeld2=>?_)
   ·exact KA1.out _ _ hHeld
   ·clear hK K hHeld
    have hHeld:=hHeld2
    clear hHeld2
    clear hz
    refine wpAnyH_ready (rs:=[25]) (by kernel_rfl) (by simp) ?_
    refine AllReadyH.cons rfl (fun K hK=>?_) ?_
    ·have HH0:Hid (Hd S1 _):=hHeld
     rw [if_pos (by rfl)]
     refine wp_store_row 211 _ _ rfl wd.heap.size #[.int .i64 (Y:Int),.int .i64 (p1:Int),.int .i64 (p2:Int),.int .i64 (p3:Int),.int .i64 (p4:Int),.int .i64 (p5:Int)] rfl rfl 211 _ (heap_alloc_last _ _) (by rw [size_mo];rfl) rfl (by simp [Value.oneCell']) ?_
     rw [World.setRow_alloc_new]
     refine hK.out _ _ ?_ (fun hHeld2=>?_)
     ·exact KI1.out _ (below_alloc (KB1.out _ HHw.out))
     ·clear hK K hHeld
      have hHeld:=hHeld2
      clear hHeld2
      have bel5:=below_stepT bel (KB1.out _ hHeld)
      have BM:=Blk.new wd [.int .i64 (Y:Int),.int .i64 (p1:Int),.int .i64 (p2:Int),.int .i64 (p3:Int),.int .i64 (p4:Int),.int .i64 (p5:Int)] 211 wd.heap.size rfl
      refine wpAnyH_done (by kernel_rfl) ?_ _
      refine NoPanic.normal ?_
      clear cx0 cx1 cx2 cx3 cx4 cx5 cx6 lx hHeld HHw HH0
      clear KB1 KI1 KD1 KL1 KA1
      obtain ⟨gm,hgm⟩:∃ z,wd.heap.size=z:=⟨_,rfl⟩
      rw [hgm] at BM ⊢
      clear hgm
      generalize wd.alloc (.cells #[.int .i64 (Y:Int),.int .i64 (p1:Int),.int .i64 (p2:Int),.int .i64 (p3:Int),.int .i64 (p4:Int),.int .i64 (p5:Int)] 211)=W2 at *
      have lm:=BM.lt
      go_wp2_with (first|(refine wpList_load_run (by rfl) (by rfl) (by rfl) (BM.load Tryz.underlying211 rfl size_mo rfl) ?_)|fail)
      refine (c13_exists (y:=Y) (m:=p1) (d:=p2) (h:=p3) (i:=p4) (s:=p5) (by omega)).mono ?_
      rintro e w3 ⟨rfl,hb3⟩
      replace BM:=BM.later hb3
      replace bel5:=below_stepT bel5 hb3
      have f0:=BM.cell 0 _ rfl
      replace lm:=BM.lt
      cases hq:exZ Y p1 p2 p3 p4 p5 with
      | false =>
       have H:Hid (timeP 23 B=.error 3):=by show _=_;rw [HT.out,if_pos (.inl hq)]
       clear hq
       go_wp2_with fail
       refine bodyPost_ret (results_tmp2 rfl _ _ _) rfl ?_
       exact RetN.bad H.out bel5
      | true =>
       have HQ:Hid (1≤p1∧p1≤12):=by
        unfold exZ at hq
        have:=of_decide_eq_true hq
        exact ⟨this.1,this.2.1⟩
       have HQf:Hid (¬ exZ Y p1 p2 p3 p4 p5=false):=by show ¬ _;rw [hq];decide
       clear hq
       have H:Hid (timeP 23 B=.ok (secN Y p1 p2 + (3600 * (p3:Int) + 60 * (p4:Int) + (p5:Int)))):=by show _=_;rw [HT.out,if_neg (by rintro (k|⟨k,_⟩);exact HQf.out k;omega)]
       go_wp2_with (first|(refine wpList_load_run (by rfl) (by rfl) (by rfl) (BM.load Tryz.underlying211 rfl size_mo rfl) ?_)|fail)
       refine (c13_time (y:=Y) (m:=p1) (d:=p2) (h:=p3) (i:=p4) (s:=p5) (by omega) (by omega) HQ.out.1 HQ.out.2 (by omega) (by omega) (by omega) (by omega)).mono ?_
       rintro e w4 ⟨rfl,hb4⟩
       replace bel5:=below_stepT bel5 hb4
       obtain ⟨u,hu⟩:∃ u,secN Y p1 p2 + (3600 * (p3:Int) + 60 * (p4:Int) + (p5:Int))=u:=⟨_,rfl⟩
       rw [hu] at H ⊢
       clear hu
       go_wp2_with fail
       refine bodyPost_ret (results_tmp2 rfl _ _ _) rfl ?_
       exact RetN.ok H.out bel5
    exact AllReadyH.nil
  exact AllReadyH.nil
 ·by_cases c24:tag=24
  ·subst c24
   go_enter Tryz.func108,Tryz.ntmps108
   go_wp2_with fail
   refine c13_under24.mono ?_
   rintro e w1 ⟨rfl,rfl⟩
   go_wp2_with fail
   refine (c13_pairs (n:=7) HV.out HB.out (by omega)).mono ?_
   rintro e W (⟨hok,tv,rfl,hI,bel⟩|⟨hok,rfl,bel⟩)
   rotate_left
   ·have H:Hid (timeP 24 B=.error 7):=by show _=_;rw [timeP_24,timeF_no (k:=7) rfl hok]
    clear hok
    go_wp2_with fail
    refine bodyPost_ret (results_tmp2 rfl _ _ _) rfl ?_
    exact RetN.bad H.out bel
   have hT:=timeF4_ok hok
   have bd0:=pairs_bd hok (show 0 < 7 by omega)
   obtain ⟨p0,hp0⟩:=Int.eq_ofNat_of_zero_le bd0.1
   rw [hp0] at bd0 hT
   have bd1:=pairs_bd hok (show 1 < 7 by omega)
   obtain ⟨p1,hp1⟩:=Int.eq_ofNat_of_zero_le bd1.1
   rw [hp1] at bd1 hT
   have bd2:=pairs_bd hok (show 2 < 7 by omega)
   obtain ⟨p2,hp2⟩:=Int.eq_ofNat_of_zero_le bd2.1
   rw [hp2] at bd2 hT
   have bd3:=pairs_bd hok (show 3 < 7 by omega)
   obtain ⟨p3,hp3⟩:=Int.eq_ofNat_of_zero_le bd3.1
   rw [hp3] at bd3 hT
   have bd4:=pairs_bd hok (show 4 < 7 by omega)
   obtain ⟨p4,hp4⟩:=Int.eq_ofNat_of_zero_le bd4.1
   rw [hp4] at bd4 hT
   have bd5:=pairs_bd hok (show 5 < 7 by omega)
   obtain ⟨p5,hp5⟩:=Int.eq_ofNat_of_zero_le bd5.1
   rw [hp5] at bd5 hT
   have bd6:=pairs_bd hok (show 6 < 7 by omega)
   obtain ⟨p6,hp6⟩:=Int.eq_ofNat_of_zero_le bd6.1
   rw [hp6] at bd6 hT
   clear HV
   obtain ⟨ta,tc,rfl,k1,k2,k3⟩:=hI
   rw [pairsL_len] at k2 k3 ⊢
   unfold maxLen at k1
   obtain ⟨g,o,rfl,lg,hc⟩:=k3 (by omega)
   have y0:=hc 0 (by omega)
   rw [pairsL_get (by omega),hp0] at y0
   have y1:=hc 1 (by omega)
   rw [pairsL_get (by omega),hp1] at y1
   have y2:=hc 2 (by omega)
   rw [pairsL_get (by omega),hp2] at y2
   have y3:=hc 3 (by omega)
   rw [pairsL_get (by omega),hp3] at y3
   have y4:=hc 4 (by omega)
   rw [pairsL_get (by omega),hp4] at y4
   have y5:=hc 5 (by omega)
   rw [pairsL_get (by omega),hp5] at y5
   have y6:=hc 6 (by omega)
   rw [pairsL_get (by omega),hp6] at y6
   rw [Nat.add_zero] at y0
   clear hc k3
   obtain ⟨Y,hY⟩:∃ y,p0 * 100 + p1=y:=⟨_,rfl⟩
   have HT:Hid (timeP 24 B=if exZ Y p2 p3 p4 p5 p6=false∨(4=4∧Y < 2050) then .error 3 else .ok (secN Y p2 p3 + (3600 * (p4:Int) + 60 * (p5:Int) + (p6:Int)))):=by
    show _=_
    rw [timeP_24,hT,← timeG_ex (n:=4) (by omega) (.inr rfl)]
    congr 1
    omega
   have hYb:Y≤9999:=by omega
   clear hT
   obtain ⟨q,hq⟩:∃ q,p0 * 100=q:=⟨_,rfl⟩
   have w1:IntKind.i64.wrap ((p0:Int) * 100)=(q:Int):=by rw [IntKind.wrap_i64];omega
   have w2:IntKind.i64.wrap ((q:Int) + (p1:Int))=(Y:Int):=by rw [IntKind.wrap_i64];omega
   clear hq hY
   have hz:=zero_mo.out
   obtain ⟨S1,hS1,KB1,KI1,KD1,KL1,KA1⟩:∃ S:World→Prop,Hd S W∧Hid (∀ wx,Hd S wx→Below W.heap.size W wx)∧Hid (∀ wx,Below W.heap.size W wx→Hd S wx)∧Hid (∀ wx,Hd S wx→Hd S wx.drew)∧Hid (∀ w1 w2,Hd S w1→Below w1.heap.size w1 w2→Hd S w2)∧Hid (∀ w1 o,Hd S w1→Hd S (w1.alloc o)):=⟨fun wx=>Below W.heap.size W wx,Below.refl _ _,fun _ h=>h,fun _ h=>h,fun _ h=>h.drew,fun _ _ h hb=>below_stepT h hb,fun _ o h=>below_alloc h⟩
   have cx0:∀ wx,Hd S1 wx→wx.cell? ⟨g,o,none⟩=some (.int .i64 (p0:Int)):=fun wx h=>cell_later y0 (KB1.out wx h)
   have cx1:∀ wx,Hd S1 wx→wx.cell? ⟨g,o + 1,none⟩=some (.int .i64 (p1:Int)):=fun wx h=>cell_later y1 (KB1.out wx h)
   have cx2:∀ wx,Hd S1 wx→wx.cell? ⟨g,o + 2,none⟩=some (.int .i64 (p2:Int)):=fun wx h=>cell_later y2 (KB1.out wx h)
   have cx3:∀ wx,Hd S1 wx→wx.cell? ⟨g,o + 3,none⟩=some (.int .i64 (p3:Int)):=fun wx h=>cell_later y3 (KB1.out wx h)
   have cx4:∀ wx,Hd S1 wx→wx.cell? ⟨g,o + 4,none⟩=some (.int .i64 (p4:Int)):=fun wx h=>cell_later y4 (KB1.out wx h)
   have cx5:∀ wx,Hd S1 wx→wx.cell? ⟨g,o + 5,none⟩=some (.int .i64 (p5:Int)):=fun wx h=>cell_later y5 (KB1.out wx h)
   have cx6:∀ wx,Hd S1 wx→wx.cell? ⟨g,o + 6,none⟩=some (.int .i64 (p6:Int)):=fun wx h=>cell_later y6 (KB1.out wx h)
   have lx:∀ wx,Hd S1 wx→g < wx.heap.size:=fun wx h=>Nat.lt_of_lt_of_le lg (KB1.out wx h).size
   clear y0 y1 y2 y3 y4 y5 y6
   go_upto_region 8 with fail
   refine wp_region_noPanic ?_
   refine wp_region_held_drew (S:=Hd S1) (by kernel_rfl) (KD1.out _ hS1) (fun hHeld=>?_)
   clear hS1
   generalize World.drew _=wd at *
   refine wpAnyH_take (i:=0) (v:=?_) rfl (by kernel_rfl) (by kernel_rfl) (by kernel_rfl) (fun _ _ _ h=>h) (Or.inl ⟨by rfl,?_⟩) (by assumption) ?_
   rotate_left
   ·intro w hSw
    go_simp
    with_reducible rfl
   refine wpAnyH_take (i:=1) (v:=?_) rfl (by kernel_rfl) (by kernel_rfl) (by kernel_rfl) (fun _ _ _ h=>h) (Or.inl ⟨by rfl,?_⟩) (by assumption) ?_
   rotate_left
   ·intro w hSw
    go_simp
    with_reducible rfl
   refine wpAnyH_take (i:=2) (v:=?_) rfl (by kernel_rfl) (by kernel_rfl) (by kernel_rfl) (fun _ _ _ h=>h) (Or.inl ⟨by rfl,?_⟩) (by assumption) ?_
   rotate_left
   ·intro w hSw
    go_simp
    with_reducible rfl
   refine wpAnyH_take (i:=3) (v:=?_) rfl (by kernel_rfl) (by kernel_rfl) (by kernel_rfl) (fun _ _ _ h=>h) (Or.inl ⟨by rfl,?_⟩) (by assumption) ?_
   rotate_left
   ·intro w hSw
    go_simp
    with_reducible rfl
   refine wpAnyH_take (i:=4) (v:=?_) rfl (by kernel_rfl) (by kernel_rfl) (by kernel_rfl) (fun _ _ _ h=>h) (Or.inl ⟨by rfl,?_⟩) (by assumption) ?_
   rotate_left
   ·intro w hSw
    go_simp
    with_reducible rfl
   refine wpAnyH_take (i:=5) (v:=?_) rfl (by kernel_rfl) (by kernel_rfl) (by kernel_rfl) (fun _ _ _ h=>h) (Or.inl ⟨by rfl,?_⟩) (by assumption) ?_
   rotate_left
   ·intro w hSw
    go_simp
    with_reducible rfl
   refine wpAnyH_take (i:=6) (v:=?_) rfl (by kernel_rfl) (by kernel_rfl) (by kernel_rfl) (fun _ _ _ h=>h) (Or.inl ⟨by rfl,?_⟩) (by assumption) ?_
   rotate_left
   ·intro w hSw
    go_simp
    with_reducible rfl
   refine wpAnyH_take (i:=7) (v:=?_) rfl (by kernel_rfl) (by kernel_rfl) (by kernel_rfl) (fun _ _ _ h=>h) (Or.inl ⟨by rfl,?_⟩) (by assumption) ?_
   rotate_left
   ·intro w hSw
    go_simp
    with_reducible rfl
   refine wpAnyH_take (i:=8) (v:=?_) rfl (by kernel_rfl) (by kernel_rfl) (by kernel_rfl) (fun _ _ _ h=>h) (Or.inl ⟨by rfl,?_⟩) (by assumption) ?_
   rotate_left
   ·intro w hSw
    go_simp
    with_reducible rfl
   refine wpAnyH_take (i:=9) (v:=?_) rfl (by kernel_rfl) (by kernel_rfl) (by kernel_rfl) (fun _ _ _ h=>h) (Or.inl ⟨by rfl,?_⟩) (by assumption) ?_
   rotate_left
   ·intro w hSw
    go_simp
    with_reducible rfl
   refine wpAnyH_take (i:=10) (v:=?_) rfl (by kernel_rfl) (by kernel_rfl) (by kernel_rfl) (fun _ _ _ h=>h) (Or.inl ⟨by rfl,?_⟩) (by assumption) ?_
   rotate_left
   ·intro w hSw
    go_simp
    with_reducible rfl
   refine wpAnyH_take (i:=11) (v:=?_) rfl (by kernel_rfl) (by kernel_rfl) (by kernel_rfl) (fun _ _ _ h=>h) (Or.inl ⟨by rfl,?_⟩) (by assumption) ?_
   rotate_left
   ·intro w hSw
    go_simp
    with_reducible rfl
   refine wpAnyH_take (i:=12) (v:=?_) rfl (by kernel_rfl) (by kernel_rfl) (by kernel_rfl) (fun _ _ _ h=>h) (Or.inl ⟨by rfl,?_⟩) (by assumption) ?_
   rotate_left
   ·intro w hSw
    go_simp
    with_reducible rfl
   refine wpAnyH_take (i:=13) (v:=?_) rfl (by kernel_rfl) (by kernel_rfl) (by kernel_rfl) (fun _ _ _ h=>h) (Or.inl ⟨by rfl,?_⟩) (by assumption) ?_
   rotate_left
   ·intro w hSw
    go_simp
    with_reducible rfl
   refine wpAnyH_take (i:=14) (v:=?_) rfl (by kernel_rfl) (by kernel_rfl) (by kernel_rfl) (fun _ _ _ h=>h) (Or.inl ⟨by rfl,?_⟩) (by assumption) ?_
   rotate_left
   ·intro w hSw
    go_simp
    with_reducible rfl
   refine wpAnyH_take (i:=15) (v:=?_) rfl (by kernel_rfl) (by kernel_rfl) (by kernel_rfl) (fun _ _ _ h=>h) (Or.inl ⟨by rfl,?_⟩) (by assumption) ?_
   rotate_left
   ·intro w hSw
    go_simp
    with_reducible rfl
   refine wpAnyH_take (i:=16) (v:=?_) rfl (by kernel_rfl) (by kernel_rfl) (by kernel_rfl) (fun _ _ _ h=>h) (Or.inl ⟨by rfl,?_⟩) (by assumption) ?_
   rotate_left
   ·intro w hSw
    go_simp
    with_reducible rfl
   refine wpAnyH_take (i:=17) (v:=?_) rfl (by kernel_rfl) (by kernel_rfl) (by kernel_rfl) (fun _ _ _ h=>h) (Or.inl ⟨by rfl,?_⟩) (by assumption) ?_
   rotate_left
   ·intro w hSw
    go_simp
    with_reducible rfl
   refine wpAnyH_take (i:=18) (v:=?_) rfl (by kernel_rfl) (by kernel_rfl) (by kernel_rfl) (fun _ _ _ h=>h) (Or.inl ⟨by rfl,?_⟩) (by assumption) ?_
   rotate_left
   ·intro w hSw
    go_simp
    with_reducible rfl
   refine wpAnyH_take (i:=19) (v:=?_) rfl (by kernel_rfl) (by kernel_rfl) (by kernel_rfl) (fun _ _ _ h=>h) (Or.inl ⟨by rfl,?_⟩) (by assumption) ?_
   rotate_left
   ·intro w hSw
    go_simp
    with_reducible rfl
   refine wpAnyH_take (i:=20) (v:=?_) rfl (by kernel_rfl) (by kernel_rfl) (by kernel_rfl) (fun _ _ _ h=>h) (Or.inl ⟨by rfl,?_⟩) (by assumption) ?_
   rotate_left
   ·intro w hSw
    go_simp
    with_reducible rfl
   refine wpAnyH_take (i:=21) (v:=?_) rfl (by kernel_rfl) (by kernel_rfl) (by kernel_rfl) (fun _ _ _ h=>h) (Or.inl ⟨by rfl,?_⟩) (by assumption) ?_
   rotate_left
   ·intro w hSw
    go_simp
    with_reducible rfl
   refine wpAnyH_take (i:=22) (v:=?_) rfl (by kernel_rfl) (by kernel_rfl) (by kernel_rfl) (fun _ _ _ h=>h) (Or.inl ⟨by rfl,?_⟩) (by assumption) ?_
   rotate_left
   ·intro w hSw
    go_simp
    with_reducible rfl
   refine wpAnyH_take (i:=23) (v:=?_) rfl (by kernel_rfl) (by kernel_rfl) (by kernel_rfl) (fun _ _ _ h=>h) (Or.inl ⟨by rfl,?_⟩) (by assumption) ?_
   rotate_left
   ·intro w hSw
    go_simp
    with_reducible rfl
   have HHw:Hid (Hd S1 wd):=hHeld
   refine wpAnyH_ready (rs:=[24]) (by kernel_rfl) (by simp) ?_
   refine AllReadyH.cons rfl (fun K hK=>?_) ?_
   ·go_simp
    refine hK.out _ _ ?_ (fun hHeld2=>?_)
    ·exact KA1.out _ _ hHeld
    ·clear hK K hHeld
     have hHeld:=hHeld2
     clear hHeld2
     clear hz
     refine wpAnyH_ready (rs:=[25]) (by kernel_rfl) (by simp) ?_
     refine AllReadyH.cons rfl (fun K hK=>?_) ?_
     ·have HH0:Hid (Hd S1 _):=hHeld
      rw [if_pos (by rfl)]
      refine wp_store_row 211 _ _ rfl wd.heap.size #[.int .i64 (Y:Int),.int .i64 (p2:Int),.int .i64 (p3:Int),.int .i64 (p4:Int),.int .i64 (p5:Int),.int .i64 (p6:Int)] rfl rfl 211 _ (heap_alloc_last _ _) (by rw [size_mo];rfl) rfl (by simp [Value.oneCell']) ?_
      rw [World.setRow_alloc_new]
      refine hK.out _ _ ?_ (fun hHeld2=>?_)
      ·exact KI1.out _ (below_alloc (KB1.out _ HHw.out))
      ·clear hK K hHeld
       have hHeld:=hHeld2
       clear hHeld2
       have bel5:=below_stepT bel (KB1.out _ hHeld)
       have BM:=Blk.new wd [.int .i64 (Y:Int),.int .i64 (p2:Int),.int .i64 (p3:Int),.int .i64 (p4:Int),.int .i64 (p5:Int),.int .i64 (p6:Int)] 211 wd.heap.size rfl
       refine wpAnyH_done (by kernel_rfl) ?_ _
       refine NoPanic.normal ?_
       clear cx0 cx1 cx2 cx3 cx4 cx5 cx6 lx hHeld HHw HH0
       clear KB1 KI1 KD1 KL1 KA1
       obtain ⟨gm,hgm⟩:∃ z,wd.heap.size=z:=⟨_,rfl⟩
       rw [hgm] at BM ⊢
       clear hgm
       generalize wd.alloc (.cells #[.int .i64 (Y:Int),.int .i64 (p2:Int),.int .i64 (p3:Int),.int .i64 (p4:Int),.int .i64 (p5:Int),.int .i64 (p6:Int)] 211)=W2 at *
       have lm:=BM.lt
       go_wp2_with (first|(refine wpList_load_run (by rfl) (by rfl) (by rfl) (BM.load Tryz.underlying211 rfl size_mo rfl) ?_)|fail)
       refine (c13_exists (y:=Y) (m:=p2) (d:=p3) (h:=p4) (i:=p5) (s:=p6) (by omega)).mono ?_
       rintro e w3 ⟨rfl,hb3⟩
       replace BM:=BM.later hb3
       replace bel5:=below_stepT bel5 hb3
       have f0:=BM.cell 0 _ rfl
       replace lm:=BM.lt
       cases hq:exZ Y p2 p3 p4 p5 p6 with
       | false =>
        have H:Hid (timeP 24 B=.error 3):=by show _=_;rw [HT.out,if_pos (.inl hq)]
        clear hq
        go_wp2_with fail
        refine bodyPost_ret (results_tmp2 rfl _ _ _) rfl ?_
        exact RetN.bad H.out bel5
       | true =>
        have HQ:Hid (1≤p2∧p2≤12):=by
         unfold exZ at hq
         have:=of_decide_eq_true hq
         exact ⟨this.1,this.2.1⟩
        have HQf:Hid (¬ exZ Y p2 p3 p4 p5 p6=false):=by show ¬ _;rw [hq];decide
        clear hq
        by_cases cy:Y < 2050
        ·have H:Hid (timeP 24 B=.error 3):=by show _=_;rw [HT.out,if_pos (.inr ⟨by first|trivial|rfl,cy⟩)]
         have gy:(Y:Int) < 2050:=by omega
         go_wp2_with fail
         refine bodyPost_ret (results_tmp2 rfl _ _ _) rfl ?_
         exact RetN.bad H.out bel5
        ·have gy:¬ (Y:Int) < 2050:=by omega
         have H:Hid (timeP 24 B=.ok (secN Y p2 p3 + (3600 * (p4:Int) + 60 * (p5:Int) + (p6:Int)))):=by show _=_;rw [HT.out,if_neg (by rintro (k|⟨_,k⟩);exact HQf.out k;exact cy k)]
         go_wp2_with (first|(refine wpList_load_run (by rfl) (by rfl) (by rfl) (BM.load Tryz.underlying211 rfl size_mo rfl) ?_)|fail)
         refine (c13_time (y:=Y) (m:=p2) (d:=p3) (h:=p4) (i:=p5) (s:=p6) (by omega) (by omega) HQ.out.1 HQ.out.2 (by omega) (by omega) (by omega) (by omega)).mono ?_
         rintro e w4 ⟨rfl,hb4⟩
         replace bel5:=below_stepT bel5 hb4
         obtain ⟨u,hu⟩:∃ u,secN Y p2 p3 + (3600 * (p4:Int) + 60 * (p5:Int) + (p6:Int))=u:=⟨_,rfl⟩
         rw [hu] at H ⊢
         clear hu
         go_wp2_with fail
         refine bodyPost_ret (results_tmp2 rfl _ _ _) rfl ?_
         exact RetN.ok H.out bel5
     exact AllReadyH.nil
   exact AllReadyH.nil
  ·have H:Hid (timeP tag B=.error 1):=timeP_no c23 c24
   have g1:(tag == 23)=false:=by rw [beq_eq_false_iff_ne];exact c23
   have g2:(tag != 23)=true:=by rw [bne,g1];rfl
   have g3:(tag == 24)=false:=by rw [beq_eq_false_iff_ne];exact c24
   have g4:(tag != 24)=true:=by rw [bne,g3];rfl
   go_enter Tryz.func108,Tryz.ntmps108
   go_wp2_with fail
   refine bodyPost_ret (results_tmp2 rfl _ _ _) rfl ?_
   exact RetN.bad H.out (Below.refl _ _)
theorem con_Time {tag:Int} {v:Value} {B:List Int} {w:World} (hv:Bs w v B) (b:byt B) (_:B.length≤140737488351232) :
  Calls Tryz.prog 108 #[.int .i64 tag,v] w fun e w'=>(∀ n,timeP tag B=.ok n→e=.returned (.tuple #[.int .i64 n,.nilIface])∧Below w.heap.size w w')∧(∀ c,timeP tag B=.error c→e=.returned (.tuple #[.int .i64 0,.iface 46 (.int .i64 (c:Int))])∧Below w.heap.size w w'):=(c13_Time hv b).mono (fun _ _ h=>h)
end Go.Proofs.YtohcdbifhnfcbaaGreatDoor
