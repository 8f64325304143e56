/- What limb.Same answers of rows of cells. What limb.Less answers of rows of cells. What order.N answers, as a row of cells. An error that is a Code. ecdsa.inRange and bothInRange. -/
import Derived.Test.YtnkipgbnnhahbaaGreatDoorEdFact
import Derived.Test.YtnkipgbnnhahbaaGreatDoorODecode
import Derived.Test.YtnkipgbnnhahbaaGreatDoorEcTlv
import Derived.Test.YtnkipgbnnhahbaaGreatDoorDrDep
import Derived.Test.YtnkipgbnnhahbaaGreatDoorHeld3
import Derived.Test.YtnkipgbnnhahbaaGreatDoorRows
import Derived.Deep.WholeRow
import Derived.Deep.RegionHeld3
import Derived.Deep.OwnRows
import Derived.Deep.AppendLies
import Derived.Great.BuildSlice
import Derived.Laws.Rows
import Derived.BigQuiet
import Derived.Deep.DeepCutAuto
import Derived.Deep.DeepFit
namespace Go.Proofs.YtnkipgbnnhahbaaGreatDoor
open Go.RowKit
theorem uSame {cs ds:List Value} {x y:Int} {w:World} (h:U6 cs x) (k:U6 ds y):Calls Tryz.prog 87 #[.agg cs.toArray,.agg ds.toArray] w fun e w'=>e=.returned (.int .u64 (if x=y then 1 else 0))∧Below w.heap.size w w':=by
 obtain ⟨z0,z1,z2,z3,z4,z5,rfl,hf,rfl⟩:=h
 obtain ⟨y0,y1,y2,y3,y4,y5,rfl,kf,rfl⟩:=k
 refine (same_is hf kf rfl rfl).mono ?_
 rintro e w' ⟨rfl,hb⟩
 exact ⟨rfl,hb⟩
theorem uLess {cs ds:List Value} {x y:Int} {w:World} (h:U6 cs x) (k:U6 ds y):Calls Tryz.prog 88 #[.agg cs.toArray,.agg ds.toArray] w fun e w'=>e=.returned (.int .u64 (if x < y then 1 else 0))∧Below w.heap.size w w':=by
 obtain ⟨z0,z1,z2,z3,z4,z5,rfl,hf,rfl⟩:=h
 obtain ⟨y0,y1,y2,y3,y4,y5,rfl,kf,rfl⟩:=k
 refine (less6 hf kf).mono ?_
 rintro e w' ⟨rfl,hb⟩
 exact ⟨rfl,hb⟩
theorem uN {w:World} (G:GlsO w):Calls Tryz.prog 89 #[] w fun e w'=>∃ es,e=.returned (.agg es.toArray)∧U6 es QQ∧Below w.heap.size w w':=by
 refine (on6 G).mono ?_
 rintro e w' ⟨rfl,hb⟩
 exact ⟨_,rfl,⟨_,_,_,_,_,_,rfl,fits6 (by decide),by decide +kernel⟩,hb⟩
/-- an error that is a Code itself -/
def codeV (c:Int):Value:=.iface 46 (.int .i64 c)
set_option linter.unusedSimpArgs false in
set_option maxRecDepth 100000 in
set_option maxHeartbeats 1000000 in
theorem c14_inRange {cs:List Value} {x:Int} {w:World} (G:GlsO w) (h:U6 cs x) :
  Calls Tryz.prog 63 #[.agg cs.toArray] w fun e w'=>e=.returned (.bool (decide (isSc x)))∧Below w.heap.size w w':=by
 have HU:Hid (U6 cs x):=h
 have HLa:Hid (cs.length=6):=h.len
 have hx:=h.bd
 clear h
 have B0:=Blk.new w cs 25 w.heap.size rfl
 have bel:Below w.heap.size w (w.alloc (.cells cs.toArray 25)):=(Below.refl _ _).alloc (Nat.le_refl _) _
 have HG:Hid (GlsO w):=G
 clear G
 go_enter Tryz.func63,Tryz.ntmps63
 go_upto_region 1 with fail
 generalize w.alloc (.cells cs.toArray 25)=W at *
 obtain ⟨S1,hS1,KB1,KI1,KD1,KL1,KA1⟩:∃ S:World→Prop,Hd S W∧Hid (∀ wx,Hd S wx→Below W.heap.size W wx)∧Hid (∀ wx,Below W.heap.size W wx→Hd S wx)∧Hid (∀ wx,Hd S wx→Hd S wx.drew)∧Hid (∀ w1 w2,Hd S w1→Below w1.heap.size w1 w2→Hd S w2)∧Hid (∀ w1 o,Hd S w1→Hd S (w1.alloc o)):=⟨fun wx=>Below W.heap.size W wx,Below.refl _ _,fun _ h=>h,fun _ h=>h,fun wx h=>Below.drew h,fun w1 w2 h hb=>below_step h hb,fun w1 o h=>Below.alloc h h.size o⟩
 have HB0:Hid (Blk W w.heap.size cs):=B0
 have r0:Hid (∀ wx,Hd S1 wx→(loadVar 25 ⟨w.heap.size,0,none⟩).run Tryz.prog wx=.ok (.agg cs.toArray) wx):=fun wx h=>(HB0.out.later (KB1.out wx h)).load Tryz.underlying25 rfl size_u HLa.out
 clear B0
 refine wp_region_noPanic ?_
 refine wp_region_held_drew (S:=Hd S1) (by kernel_rfl) (KD1.out _ hS1) (fun hHeld=>?_)
 clear hS1
 generalize World.drew _=wd at *
 refine wpAnyH_take (i:=0) (v:=.agg cs.toArray) rfl (by kernel_rfl) (by kernel_rfl) (by kernel_rfl) (fun _ _ _ h=>h) (Or.inl ⟨by rfl,fun wx h=>exec_load rfl rfl (r0.out wx h)⟩) (by assumption) ?_
 try simp only [Act.put,List.getElem_toArray,List.getElem_cons_zero,List.getElem_cons_succ,List.setIfInBounds_toArray,List.set_cons_zero,List.set_cons_succ]
 refine wpAnyH_take (i:=1) (v:=?_) rfl (by kernel_rfl) (by kernel_rfl) (by kernel_rfl) (fun _ _ _ h=>h) (Or.inl ⟨by rfl,?_⟩) (by assumption) ?_
 rotate_left
 ·intro w hSw
  go_simp
  with_reducible rfl
 try simp only [Act.put,List.getElem_toArray,List.getElem_cons_zero,List.getElem_cons_succ,List.setIfInBounds_toArray,List.set_cons_zero,List.set_cons_succ]
 refine wpAnyH_ready (rs:=[2]) (by kernel_rfl) (by simp) ?_
 refine AllReadyH.cons rfl (fun K hK=>?_) ?_
 ·go_simp
  refine (uSame HU.out U6.zero).mono ?_
  rintro e z2 ⟨rfl,hb⟩
  refine hK.out _ _ ?_ (fun hHeld2=>?_)
  ·exact KL1.out _ _ hHeld hb
  ·clear hK K hHeld
   have hHeld:=hHeld2
   clear hHeld2
   try simp only [Act.put,List.getElem_toArray,List.getElem_cons_zero,List.getElem_cons_succ,List.setIfInBounds_toArray,List.set_cons_zero,List.set_cons_succ]
   clear hb
   by_cases c1:x=0
   ·have HE:Hid (decide (isSc x)=false):=decide_eq_false (fun h=>by have:=h.1;omega)
    rw [if_pos c1]
    clear c1 hx
    refine wpAnyH_take (i:=3) (v:=?_) rfl (by kernel_rfl) (by kernel_rfl) (by kernel_rfl) (fun _ _ _ h=>h) (Or.inl ⟨by rfl,?_⟩) (by assumption) ?_
    rotate_left
    ·intro w hSw
     go_simp
     with_reducible rfl
    try simp only [Act.put,List.getElem_toArray,List.getElem_cons_zero,List.getElem_cons_succ,List.setIfInBounds_toArray,List.set_cons_zero,List.set_cons_succ]
    refine wpAnyH_take (i:=4) (v:=?_) rfl (by kernel_rfl) (by kernel_rfl) (by kernel_rfl) (fun _ _ _ h=>h) (Or.inl ⟨by rfl,?_⟩) (by assumption) ?_
    rotate_left
    ·intro w hSw
     go_simp
     with_reducible rfl
    try simp only [Act.put,List.getElem_toArray,List.getElem_cons_zero,List.getElem_cons_succ,List.setIfInBounds_toArray,List.set_cons_zero,List.set_cons_succ]
    refine wpAnyH_take (i:=5) (v:=undef) rfl (by kernel_rfl) (by kernel_rfl) (by kernel_rfl) (fun _ _ _ h=>h) (Or.inr ⟨by kernel_rfl,rfl⟩) (by assumption) ?_
    try simp only [Act.put,List.getElem_toArray,List.getElem_cons_zero,List.getElem_cons_succ,List.setIfInBounds_toArray,List.set_cons_zero,List.set_cons_succ]
    refine wpAnyH_ready (rs:=[6]) (by kernel_rfl) (by simp) ?_
    refine AllReadyH.cons rfl (fun K hK=>?_) ?_
    ·go_simp
     refine hK.out _ _ ?_ (fun hHeld2=>?_)
     ·exact hHeld
     ·clear hK K hHeld
      have hHeld:=hHeld2
      clear hHeld2
      try simp only [Act.put,List.getElem_toArray,List.getElem_cons_zero,List.getElem_cons_succ,List.setIfInBounds_toArray,List.set_cons_zero,List.set_cons_succ]
      refine wpAnyH_ready (rs:=[7]) (by kernel_rfl) (by simp) ?_
      refine AllReadyH.cons rfl (fun K hK=>?_) ?_
      ·go_simp
       refine hK.out _ _ ?_ (fun hHeld2=>?_)
       ·exact hHeld
       ·clear hK K hHeld
        have hHeld:=hHeld2
        clear hHeld2
        try simp only [Act.put,List.getElem_toArray,List.getElem_cons_zero,List.getElem_cons_succ,List.setIfInBounds_toArray,List.set_cons_zero,List.set_cons_succ]
        refine wpAnyH_take (i:=8) (v:=undef) rfl (by kernel_rfl) (by kernel_rfl) (by kernel_rfl) (fun _ _ _ h=>h) (Or.inr ⟨by kernel_rfl,rfl⟩) (by assumption) ?_
        try simp only [Act.put,List.getElem_toArray,List.getElem_cons_zero,List.getElem_cons_succ,List.setIfInBounds_toArray,List.set_cons_zero,List.set_cons_succ]
        refine wpAnyH_take (i:=9) (v:=?_) rfl (by kernel_rfl) (by kernel_rfl) (by kernel_rfl) (fun _ _ _ h=>h) (Or.inl ⟨by rfl,?_⟩) (by assumption) ?_
        rotate_left
        ·intro w hSw
         go_simp
         with_reducible rfl
        try simp only [Act.put,List.getElem_toArray,List.getElem_cons_zero,List.getElem_cons_succ,List.setIfInBounds_toArray,List.set_cons_zero,List.set_cons_succ]
        refine wpAnyH_take (i:=10) (v:=?_) rfl (by kernel_rfl) (by kernel_rfl) (by kernel_rfl) (fun _ _ _ h=>h) (Or.inl ⟨by rfl,?_⟩) (by assumption) ?_
        rotate_left
        ·intro w hSw
         go_simp
         with_reducible rfl
        try simp only [Act.put,List.getElem_toArray,List.getElem_cons_zero,List.getElem_cons_succ,List.setIfInBounds_toArray,List.set_cons_zero,List.set_cons_succ]
        refine wpAnyH_done (by kernel_rfl) ?_ _
        refine NoPanic.normal ?_
        have belz:=below_step bel (KB1.out _ hHeld)
        clear r0 hHeld
        go_wp2_with fail
        go_ret
        exact ⟨by rw [HE.out];rfl,belz⟩
      exact AllReadyH.nil
    exact AllReadyH.nil
   ·rw [if_neg c1]
    refine wpAnyH_take (i:=3) (v:=?_) rfl (by kernel_rfl) (by kernel_rfl) (by kernel_rfl) (fun _ _ _ h=>h) (Or.inl ⟨by rfl,?_⟩) (by assumption) ?_
    rotate_left
    ·intro w hSw
     go_simp
     with_reducible rfl
    try simp only [Act.put,List.getElem_toArray,List.getElem_cons_zero,List.getElem_cons_succ,List.setIfInBounds_toArray,List.set_cons_zero,List.set_cons_succ]
    refine wpAnyH_take (i:=4) (v:=?_) rfl (by kernel_rfl) (by kernel_rfl) (by kernel_rfl) (fun _ _ _ h=>h) (Or.inl ⟨by rfl,?_⟩) (by assumption) ?_
    rotate_left
    ·intro w hSw
     go_simp
     with_reducible rfl
    try simp only [Act.put,List.getElem_toArray,List.getElem_cons_zero,List.getElem_cons_succ,List.setIfInBounds_toArray,List.set_cons_zero,List.set_cons_succ]
    refine wpAnyH_take (i:=5) (v:=.agg cs.toArray) rfl (by kernel_rfl) (by kernel_rfl) (by kernel_rfl) (fun _ _ _ h=>h) (Or.inl ⟨by rfl,fun wx h=>exec_load rfl rfl (r0.out wx h)⟩) (by assumption) ?_
    try simp only [Act.put,List.getElem_toArray,List.getElem_cons_zero,List.getElem_cons_succ,List.setIfInBounds_toArray,List.set_cons_zero,List.set_cons_succ]
    refine wpAnyH_ready (rs:=[6]) (by kernel_rfl) (by simp) ?_
    refine AllReadyH.cons rfl (fun K hK=>?_) ?_
    ·go_simp
     refine (uN (HG.out.below (below_step bel (KB1.out _ hHeld)))).mono ?_
     rintro e z5 ⟨ns,rfl,hn,hb⟩
     refine hK.out _ _ ?_ (fun hHeld2=>?_)
     ·exact KL1.out _ _ hHeld hb
     ·clear hK K hHeld
      have hHeld:=hHeld2
      clear hHeld2
      try simp only [Act.put,List.getElem_toArray,List.getElem_cons_zero,List.getElem_cons_succ,List.setIfInBounds_toArray,List.set_cons_zero,List.set_cons_succ]
      have HNn:Hid (U6 ns QQ):=hn
      clear hn hb
      refine wpAnyH_ready (rs:=[7]) (by kernel_rfl) (by simp) ?_
      refine AllReadyH.cons rfl (fun K hK=>?_) ?_
      ·go_simp
       refine (uLess HU.out HNn.out).mono ?_
       rintro e z6 ⟨rfl,hb⟩
       refine hK.out _ _ ?_ (fun hHeld2=>?_)
       ·exact KL1.out _ _ hHeld hb
       ·clear hK K hHeld
        have hHeld:=hHeld2
        clear hHeld2
        try simp only [Act.put,List.getElem_toArray,List.getElem_cons_zero,List.getElem_cons_succ,List.setIfInBounds_toArray,List.set_cons_zero,List.set_cons_succ]
        clear hb
        by_cases c2:x < QQ
        ·have HE:Hid (decide (isSc x)=true):=decide_eq_true ⟨by omega,c2⟩
         rw [if_pos c2]
         clear c2
         refine wpAnyH_take (i:=8) (v:=?_) rfl (by kernel_rfl) (by kernel_rfl) (by kernel_rfl) (fun _ _ _ h=>h) (Or.inl ⟨by rfl,?_⟩) (by assumption) ?_
         rotate_left
         ·intro w hSw
          go_simp
          with_reducible rfl
         try simp only [Act.put,List.getElem_toArray,List.getElem_cons_zero,List.getElem_cons_succ,List.setIfInBounds_toArray,List.set_cons_zero,List.set_cons_succ]
         refine wpAnyH_take (i:=9) (v:=?_) rfl (by kernel_rfl) (by kernel_rfl) (by kernel_rfl) (fun _ _ _ h=>h) (Or.inl ⟨by rfl,?_⟩) (by assumption) ?_
         rotate_left
         ·intro w hSw
          go_simp
          with_reducible rfl
         try simp only [Act.put,List.getElem_toArray,List.getElem_cons_zero,List.getElem_cons_succ,List.setIfInBounds_toArray,List.set_cons_zero,List.set_cons_succ]
         refine wpAnyH_take (i:=10) (v:=?_) rfl (by kernel_rfl) (by kernel_rfl) (by kernel_rfl) (fun _ _ _ h=>h) (Or.inl ⟨by rfl,?_⟩) (by assumption) ?_
         rotate_left
         ·intro w hSw
          go_simp
          with_reducible rfl
         try simp only [Act.put,List.getElem_toArray,List.getElem_cons_zero,List.getElem_cons_succ,List.setIfInBounds_toArray,List.set_cons_zero,List.set_cons_succ]
         refine wpAnyH_done (by kernel_rfl) ?_ _
         refine NoPanic.normal ?_
         have belz:=below_step bel (KB1.out _ hHeld)
         clear r0 hHeld
         go_wp2_with fail
         go_ret
         exact ⟨by rw [HE.out];rfl,belz⟩
        ·have HE:Hid (decide (isSc x)=false):=decide_eq_false (fun h=>c2 h.2)
         rw [if_neg c2]
         clear c2
         refine wpAnyH_take (i:=8) (v:=?_) rfl (by kernel_rfl) (by kernel_rfl) (by kernel_rfl) (fun _ _ _ h=>h) (Or.inl ⟨by rfl,?_⟩) (by assumption) ?_
         rotate_left
         ·intro w hSw
          go_simp
          with_reducible rfl
         try simp only [Act.put,List.getElem_toArray,List.getElem_cons_zero,List.getElem_cons_succ,List.setIfInBounds_toArray,List.set_cons_zero,List.set_cons_succ]
         refine wpAnyH_take (i:=9) (v:=?_) rfl (by kernel_rfl) (by kernel_rfl) (by kernel_rfl) (fun _ _ _ h=>h) (Or.inl ⟨by rfl,?_⟩) (by assumption) ?_
         rotate_left
         ·intro w hSw
          go_simp
          with_reducible rfl
         try simp only [Act.put,List.getElem_toArray,List.getElem_cons_zero,List.getElem_cons_succ,List.setIfInBounds_toArray,List.set_cons_zero,List.set_cons_succ]
         refine wpAnyH_take (i:=10) (v:=?_) rfl (by kernel_rfl) (by kernel_rfl) (by kernel_rfl) (fun _ _ _ h=>h) (Or.inl ⟨by rfl,?_⟩) (by assumption) ?_
         rotate_left
         ·intro w hSw
          go_simp
          with_reducible rfl
         try simp only [Act.put,List.getElem_toArray,List.getElem_cons_zero,List.getElem_cons_succ,List.setIfInBounds_toArray,List.set_cons_zero,List.set_cons_succ]
         refine wpAnyH_done (by kernel_rfl) ?_ _
         refine NoPanic.normal ?_
         have belz:=below_step bel (KB1.out _ hHeld)
         clear r0 hHeld
         go_wp2_with fail
         go_ret
         exact ⟨by rw [HE.out];rfl,belz⟩
      exact AllReadyH.nil
    exact AllReadyH.nil
 exact AllReadyH.nil
set_option linter.unusedSimpArgs false in
set_option maxRecDepth 100000 in
set_option maxHeartbeats 1000000 in
theorem c14_both {rs ss:List Value} {r s:Int} {w:World} (G:GlsO w) (hr:U6 rs r) (hs:U6 ss s) :
  Calls Tryz.prog 34 #[.agg (rs++ss).toArray] w fun e w'=>e=.returned (.bool (decide (isSc r∧isSc s)))∧Below w.heap.size w w':=by
 have hts:∃ ts,rs++ss=ts:=⟨_,rfl⟩
 obtain ⟨ts,hts⟩:=hts
 have HT:Hid (rs++ss=ts):=hts
 have HLt:Hid (ts.length=12):=by show _=_;rw [← hts,List.length_append,hr.len,hs.len]
 have HR:Hid (U6 rs r):=hr
 have HS:Hid (U6 ss s):=hs
 rw [hts]
 clear hts hr hs
 have HG:Hid (GlsO w):=G
 clear G
 have S0:=Blk.new w ts 27 w.heap.size rfl
 have bel:Below w.heap.size w (w.alloc (.cells ts.toArray 27)):=(Below.refl _ _).alloc (Nat.le_refl _) _
 go_enter Tryz.func34,Tryz.ntmps34
 go_upto_region 1 with fail
 generalize w.alloc (.cells ts.toArray 27)=W at *
 have l0:=S0.lt
 go_wp2_with (first|(refine wpList_load_run (by rfl) (by rfl) (by rfl) (load_u S0 HR.out (by rw [← HT.out];exact app_at0)) ?_)|fail)
 refine (c14_inRange (HG.out.below bel) HR.out).mono ?_
 rintro e w3 ⟨rfl,hb⟩
 replace S0:=S0.later hb
 replace bel:=below_step bel hb
 clear hb
 clear l0
 have l0:=S0.lt
 by_cases c1:isSc r
 rotate_left
 ·rw [decide_eq_false c1]
  have HE:Hid (decide (isSc r∧isSc s)=false):=decide_eq_false (fun h=>c1 h.1)
  clear c1
  go_wp2_with fail
  go_ret
  exact ⟨by rw [HE.out];rfl,bel⟩
 rw [decide_eq_true c1]
 have HC1:Hid (isSc r):=c1
 clear c1
 go_wp2_with (first|(refine wpList_load_run (by rfl) (by rfl) (by rfl) (load_u (o:=6) S0 HS.out (by rw [← HT.out];exact app_at2 HR.out.len)) ?_)|fail)
 refine (c14_inRange (HG.out.below bel) HS.out).mono ?_
 rintro e w4 ⟨rfl,hb⟩
 replace S0:=S0.later hb
 replace bel:=below_step bel hb
 clear hb
 clear l0
 by_cases c2:isSc s
 ·have HE:Hid (decide (isSc r∧isSc s)=true):=decide_eq_true ⟨HC1.out,c2⟩
  rw [decide_eq_true c2]
  clear c2
  go_wp2_with fail
  go_ret
  exact ⟨by rw [HE.out];rfl,bel⟩
 ·have HE:Hid (decide (isSc r∧isSc s)=false):=decide_eq_false (fun h=>c2 h.2)
  rw [decide_eq_false c2]
  clear c2
  go_wp2_with fail
  go_ret
  exact ⟨by rw [HE.out];rfl,bel⟩
end Go.Proofs.YtnkipgbnnhahbaaGreatDoor
