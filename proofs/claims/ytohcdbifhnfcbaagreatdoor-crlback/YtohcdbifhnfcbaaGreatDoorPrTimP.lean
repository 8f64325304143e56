/- The program's pairs of layer 13. -/
import Derived.Test.YtohcdbifhnfcbaaGreatDoorPrG
import Derived.Test.YtohcdbifhnfcbaaGreatDoorPrTimD
import Derived.Test.YtohcdbifhnfcbaaGreatDoorDrDG
import Derived.Test.YtohcdbifhnfcbaaGreatDoorDcG2
import Derived.Test.YtohcdbifhnfcbaaGreatDoorRows
import Derived.Deep.OwnRows
import Derived.Deep.AppendLies
import Derived.Great.BuildSlice
import Derived.Deep.WholeRow
import Derived.Deep.RegionHeld3
import Derived.Deep.DeepCutAuto
import Derived.Deep.DeepFit
namespace Go.Proofs.YtohcdbifhnfcbaaGreatDoor
open Go.RowKit
/-- a body of n pairs of digits, and a Z -/
def PairsOk (B:List Int) (n:Nat):Prop:=B.length=2 * n + 1∧B.getD (2 * n) 0=90∧allD (B.take (2 * n))
/-- its pairs -/
def pairsL (B:List Int) (n:Nat):List Int:=(List.range n).map (pairN B)
theorem pairsL_len (B:List Int) (n:Nat):(pairsL B n).length=n:=by simp [pairsL]
theorem pairsL_next (B:List Int) (n:Nat):pairsL B (n + 1)=pairsL B n++[pairN B n]:=by simp [pairsL,List.range_succ]
theorem pairsL_get {B:List Int} {n k:Nat} (h:k < n):(pairsL B n).getD k 0=pairN B k:=by
 rw [List.getD_eq_getElem?_getD,pairsL,List.getElem?_map,List.getElem?_range h]
 rfl
/-- what is answered of a body's pairs -/
def RetP (w:World) (B:List Int) (n:Nat) (e:Ending) (w':World):Prop:=(PairsOk B n∧∃ v',e=.returned (.tuple #[v',.bool true])∧Is w' v' (pairsL B n)∧Below w.heap.size w w')∨(¬ PairsOk B n∧e=.returned (.tuple #[.slice none 0 0,.bool false])∧Below w.heap.size w w')
/-- what stays below while rows above grow -/
theorem held_rowP {B:Nat} {W0 W:World} (h:Below B W0 W) :
  ∃ S:World→Prop,Hd S W∧Hid (∀ w1,Hd S w1→Hd S w1.drew)∧Hid (∀ w1 o,Hd S w1→B≤w1.heap.size→Hd S (w1.alloc o))∧Hid (∀ w1 w2 row,Hd S w1→w1.grownBy w2 row→(∀ g,row=some g→B≤g)→B≤w1.heap.size→Hd S w2)∧Hid (∀ w1,Hd S w1→Below B W0 w1) :=
 ⟨fun wx=>Below B W0 wx,h,fun _ h=>h.drew,fun _ o h hs=>h.alloc hs o,fun _ _ _ h hg hr hs=>Below.grown h hg hs hr,fun _ h=>h⟩
theorem all_take {B:List Int} {k:Nat} (h:∀ j,j < k→48≤B.getD j 0∧B.getD j 0≤57) (hk:k≤B.length):allD (B.take k):=by
 intro x hx
 obtain ⟨j,hj,e⟩:=List.mem_iff_getElem.1 hx
 rw [List.length_take] at hj
 have:=h j (by omega)
 rw [List.getD_eq_getElem?_getD,List.getElem?_eq_getElem (by omega),Option.getD_some] at this
 rw [List.getElem_take] at e
 rw [← e]
 exact this
set_option linter.unusedSimpArgs false in
set_option maxRecDepth 100000 in
set_option maxHeartbeats 4000000 in
theorem c13_pairs {v:Value} {B:List Int} {n:Nat} {w:World} (hv:Bs w v B) (b:byt B) (hn:n≤7) :
  Calls Tryz.prog 137 #[v,.int .i64 (n:Int)] w (RetP w B n):=by
 have HB:Hid (byt B):=b
 have HV:Hid (Bs w v B):=hv
 obtain ⟨ao,cap,rfl,h1,h2,h3⟩:=hv
 obtain ⟨N,hN⟩:∃ N,B.length=N:=⟨_,rfl⟩
 have HN:Hid (B.length=N):=hN
 rw [hN] at h2 h3 HV ⊢
 unfold maxLen at h1
 clear b hN
 obtain ⟨m,hm⟩:∃ m,2 * n=m:=⟨_,rfl⟩
 have HM:Hid (2 * n=m):=hm
 obtain ⟨m1,hm1⟩:∃ z,m + 1=z:=⟨_,rfl⟩
 have w1:IntKind.i64.wrap (2 * (n:Int))=(m:Int):=by rw [IntKind.wrap_i64];omega
 have w2:IntKind.i64.wrap ((m:Int) + 1)=(m1:Int):=by rw [IntKind.wrap_i64];omega
 have HP:Hid (PairsOk B n=(N=m1∧B.getD m 0=90∧allD (B.take m))):=by show _=_;unfold PairsOk;rw [HN.out,hm,hm1]
 have hmn:m≤14:=by omega
 have hmm:m < m1:=by omega
 have hmm1:m1≤m + 1:=by omega
 clear hm hm1
 by_cases c0:N=m1
 rotate_left
 ·have H:Hid (¬ PairsOk B n):=by rw [HP.out];exact fun z=>c0 z.1
  have g0:((N:Int) == (m1:Int))=false:=by rw [beq_eq_false_iff_ne];omega
  have g1:((N:Int) != (m1:Int))=true:=by rw [bne,g0];rfl
  have g2:¬ (N:Int)=(m1:Int):=by omega
  clear h3
  go_enter Tryz.func137,Tryz.ntmps137
  go_wp2_with fail
  refine bodyPost_ret (results_tmp2 rfl _ _ _) rfl ?_
  exact .inr ⟨H.out,rfl,Below.refl _ _⟩
 subst c0
 obtain ⟨g,o,rfl,lg,HC'⟩:=h3 (by omega)
 have HC:Hid _:=HC'
 clear HC' h3
 have xm:=HC.out m (by omega)
 have gm0:(0:Int)≤(m:Int):=by omega
 have gm1:(m:Int) < (N:Int):=by omega
 have gm2:(m:Int)≤(N:Int):=by omega
 have gm3:m≤N:=by omega
 have gm4:m≤cap:=by omega
 obtain ⟨z,hz⟩:∃ z,B.getD m 0=z:=⟨_,rfl⟩
 have HZ:Hid (B.getD m 0=z):=hz
 rw [hz] at xm
 clear hz
 by_cases c1:z=90
 rotate_left
 ·have H:Hid (¬ PairsOk B n):=by rw [HP.out,HZ.out];exact fun q=>c1 q.2.1
  have g0:(z == 90)=false:=by rw [beq_eq_false_iff_ne];exact c1
  have g1:(z != 90)=true:=by rw [bne,g0];rfl
  go_enter Tryz.func137,Tryz.ntmps137
  go_wp2_with fail
  refine bodyPost_ret (results_tmp2 rfl _ _ _) rfl ?_
  exact .inr ⟨H.out,rfl,Below.refl _ _⟩
 subst c1
 go_enter Tryz.func137,Tryz.ntmps137
 go_wp2_with fail
 go_loop [4,28] (fun av iv=>∃ (j:Nat),j≤m∧av=.slice none 0 0∧iv=.int .i64 (j:Int)∧Hid (∀ q,q < j→48≤B.getD q 0∧B.getD q 0≤57)) (fun _ iv=>m - (intOf iv).toNat)
 case atStart=>exact ⟨0,by omega,rfl,rfl,fun q h=>absurd h (by omega)⟩
 case round =>
  obtain ⟨j,hj,rfl,rfl,HE⟩:=hrel
  by_cases hil:j < m
  ·have k1:(j:Int) < (m:Int):=by omega
   have k2:(0:Int)≤(j:Int):=by omega
   have gi:IntKind.i64.wrap ((j:Int) + 1)=(j:Int) + 1:=by rw [IntKind.wrap_i64];omega
   have cy:=HC.out j (by omega)
   have yb:=HB.out j
   obtain ⟨y,hy⟩:∃ y,B.getD j 0=y:=⟨_,rfl⟩
   have HY:Hid (B.getD j 0=y):=hy
   rw [hy] at cy yb
   clear hy
   have HNo:Hid (¬ (48≤y∧y≤57)→¬ PairsOk B n):=fun hno hok=>by
    rw [HP.out] at hok
    have:=get_dig hok.2.2 hil (by rw [HN.out];omega)
    rw [HY.out] at this
    exact hno this
   by_cases d1:y < 48
   ·have H:Hid (¬ PairsOk B n):=HNo.out (by omega)
    go_wp2_with fail
    refine bodyPost_ret (results_tmp2 rfl _ _ _) rfl ?_
    exact .inr ⟨H.out,rfl,Below.refl _ _⟩
   by_cases d2:57 < y
   ·have H:Hid (¬ PairsOk B n):=HNo.out (by omega)
    go_wp2_with fail
    refine bodyPost_ret (results_tmp2 rfl _ _ _) rfl ?_
    exact .inr ⟨H.out,rfl,Below.refl _ _⟩
   have HE2:Hid (∀ q,q < j + 1→48≤B.getD q 0∧B.getD q 0≤57):=fun q hq=>by
    by_cases hqj:q < j
    ·exact HE.out q hqj
    ·obtain rfl:q=j:=by omega
     rw [HY.out];omega
   clear HNo
   go_wp2_with fail
   go_round
   case rel=>exact ⟨j + 1,by omega,rfl,by go_num,HE2⟩
   case measure=>simp [intOf];omega
  ·have k1:¬ (j:Int) < (m:Int):=by omega
   have HA:Hid (∀ q,q < m→48≤B.getD q 0∧B.getD q 0≤57):=fun q hq=>HE.out q (by omega)
   have HOk:Hid (PairsOk B n):=by rw [HP.out];exact ⟨by first|trivial|rfl,HZ.out,all_take HA.out (by rw [HN.out];omega)⟩
   clear HE HP
   go_wp2_with fail
   obtain ⟨W,hW⟩:∃ z,z=w:=⟨_,rfl⟩
   have HW:Hid (W=w):=hW
   rw [← hW]
   have bel0:Below w.heap.size w W:=by rw [hW];exact Below.refl _ _
   clear hW
   go_loopw [4,40] (fun av iv wx=>∃ k:Nat,k≤n∧iv=.int .i64 (k:Int)∧wx.ownsRow w.heap.size 3 1 av k (i64s (pairsL B k))∧Below w.heap.size w wx) (fun _ iv _=>n - (intOf iv).toNat)
   case atStart=>exact ⟨0,by omega,rfl,⟨rfl,.inl ⟨rfl,rfl⟩⟩,bel0⟩
   case round =>
    clear bel0
    obtain ⟨k,hk,rfl,own,bel⟩:=hrel
    by_cases hkl:k < n
    ·have q1:(k:Int) < (n:Int):=by omega
     have q2:(0:Int)≤(k:Int):=by omega
     have gk:IntKind.i64.wrap ((k:Int) + 1)=(k:Int) + 1:=by rw [IntKind.wrap_i64];omega
     have hmo:=HM.out
     have x0:=HC.out (2 * k) (by omega)
     have x1:=HC.out (2 * k + 1) (by omega)
     have y0:=HA.out (2 * k) (by omega)
     have y1:=HA.out (2 * k + 1) (by omega)
     have HPx:Hid (pairN B k=10 * (B.getD (2 * k) 0 - 48) + (B.getD (2 * k + 1) 0 - 48)):=rfl
     obtain ⟨p0,hp0⟩:∃ z,B.getD (2 * k) 0=z:=⟨_,rfl⟩
     obtain ⟨p1,hp1⟩:∃ z,B.getD (2 * k + 1) 0=z:=⟨_,rfl⟩
     rw [hp0] at x0 y0 HPx
     rw [hp1] at x1 y1 HPx
     clear hp0 hp1
     obtain ⟨k2,hk2⟩:∃ z,2 * k=z:=⟨_,rfl⟩
     rw [hk2] at x0 x1
     obtain ⟨k3,hk3⟩:∃ z,k2 + 1=z:=⟨_,rfl⟩
     rw [hk3] at x1
     have v1:IntKind.i64.wrap (2 * (k:Int))=(k2:Int):=by rw [IntKind.wrap_i64];omega
     have v2:IntKind.i64.wrap ((k2:Int) + 1)=(k3:Int):=by rw [IntKind.wrap_i64];omega
     have v3:(0:Int)≤(k2:Int):=by omega
     have v4:(k2:Int) < (N:Int):=by omega
     have v5:(0:Int)≤(k3:Int):=by omega
     have v6:(k3:Int) < (N:Int):=by omega
     have v4n:k2 < N:=by omega
     have v6n:k3 < N:=by omega
     have u1:IntKind.u8.wrap (p0 - 48)=p0 - 48:=by rw [IntKind.wrap_u8];omega
     have u2:IntKind.u8.wrap (p1 - 48)=p1 - 48:=by rw [IntKind.wrap_u8];omega
     have u3:IntKind.i64.wrap (p0 - 48)=p0 - 48:=by rw [IntKind.wrap_i64];omega
     have u4:IntKind.i64.wrap (p1 - 48)=p1 - 48:=by rw [IntKind.wrap_i64];omega
     obtain ⟨t0,ht0⟩:∃ z,(p0 - 48) * 10=z:=⟨_,rfl⟩
     have u5:IntKind.i64.wrap ((p0 - 48) * 10)=t0:=by rw [IntKind.wrap_i64];omega
     obtain ⟨x,hx⟩:∃ z,t0 + (p1 - 48)=z:=⟨_,rfl⟩
     have u6:IntKind.i64.wrap (t0 + (p1 - 48))=x:=by rw [IntKind.wrap_i64];omega
     replace HPx:Hid (pairN B k=x):=by show _=_;rw [HPx.out];omega
     clear hk2 hk3 ht0 hx hmo
     obtain ⟨S1,hS1,KD1,KA1,KG1,KB1⟩:=held_rowP bel
     have cb0:∀ wx,Hd S1 wx→wx.cell? ⟨g,o + k2,none⟩=some (.int .u8 p0):=fun wx h=>((KB1.out wx h).cell (p:=⟨g,o + k2,none⟩) lg).trans x0
     have cb1:∀ wx,Hd S1 wx→wx.cell? ⟨g,o + k3,none⟩=some (.int .u8 p1):=fun wx h=>((KB1.out wx h).cell (p:=⟨g,o + k3,none⟩) lg).trans x1
     have lx:∀ wx,Hd S1 wx→g < wx.heap.size:=fun wx h=>Nat.lt_of_lt_of_le lg (KB1.out wx h).size
     clear x0 x1
     go_upto_region 12 with fail
     refine wp_region_noPanic ?_
     refine wp_region_held_drew (S:=Hd S1) (by kernel_rfl) (KD1.out _ hS1) (fun hHeld=>?_)
     clear hS1
     have own0:wr.drew.ownsRow w.heap.size 3 1 _ k (i64s (pairsL B k)):=own
     clear own
     generalize World.drew _=wd at *
     refine wpAnyH_take (i:=0) (v:=?_) rfl (by kernel_rfl) (by kernel_rfl) (by kernel_rfl) (fun _ _ _ h=>h) (Or.inl ⟨by rfl,?_⟩) (by assumption) ?_
     rotate_left
     ·intro w hSw
      go_simp
      with_reducible rfl
     refine wpAnyH_take (i:=1) (v:=?_) rfl (by kernel_rfl) (by kernel_rfl) (by kernel_rfl) (fun _ _ _ h=>h) (Or.inl ⟨by rfl,?_⟩) (by assumption) ?_
     rotate_left
     ·intro w hSw
      go_simp
      with_reducible rfl
     refine wpAnyH_take (i:=2) (v:=?_) rfl (by kernel_rfl) (by kernel_rfl) (by kernel_rfl) (fun _ _ _ h=>h) (Or.inl ⟨by rfl,?_⟩) (by assumption) ?_
     rotate_left
     ·intro w hSw
      go_simp
      with_reducible rfl
     refine wpAnyH_take (i:=3) (v:=?_) rfl (by kernel_rfl) (by kernel_rfl) (by kernel_rfl) (fun _ _ _ h=>h) (Or.inl ⟨by rfl,?_⟩) (by assumption) ?_
     rotate_left
     ·intro w hSw
      go_simp
      with_reducible rfl
     refine wpAnyH_take (i:=4) (v:=?_) rfl (by kernel_rfl) (by kernel_rfl) (by kernel_rfl) (fun _ _ _ h=>h) (Or.inl ⟨by rfl,?_⟩) (by assumption) ?_
     rotate_left
     ·intro w hSw
      go_simp
      with_reducible rfl
     refine wpAnyH_take (i:=5) (v:=?_) rfl (by kernel_rfl) (by kernel_rfl) (by kernel_rfl) (fun _ _ _ h=>h) (Or.inl ⟨by rfl,?_⟩) (by assumption) ?_
     rotate_left
     ·intro w hSw
      go_simp
      with_reducible rfl
     refine wpAnyH_take (i:=6) (v:=?_) rfl (by kernel_rfl) (by kernel_rfl) (by kernel_rfl) (fun _ _ _ h=>h) (Or.inl ⟨by rfl,?_⟩) (by assumption) ?_
     rotate_left
     ·intro w hSw
      go_simp
      with_reducible rfl
     refine wpAnyH_take (i:=7) (v:=?_) rfl (by kernel_rfl) (by kernel_rfl) (by kernel_rfl) (fun _ _ _ h=>h) (Or.inl ⟨by rfl,?_⟩) (by assumption) ?_
     rotate_left
     ·intro w hSw
      go_simp
      with_reducible rfl
     refine wpAnyH_take (i:=8) (v:=?_) rfl (by kernel_rfl) (by kernel_rfl) (by kernel_rfl) (fun _ _ _ h=>h) (Or.inl ⟨by rfl,?_⟩) (by assumption) ?_
     rotate_left
     ·intro w hSw
      go_simp
      with_reducible rfl
     refine wpAnyH_take (i:=9) (v:=?_) rfl (by kernel_rfl) (by kernel_rfl) (by kernel_rfl) (fun _ _ _ h=>h) (Or.inl ⟨by rfl,?_⟩) (by assumption) ?_
     rotate_left
     ·intro w hSw
      go_simp
      with_reducible rfl
     refine wpAnyH_take (i:=10) (v:=?_) rfl (by kernel_rfl) (by kernel_rfl) (by kernel_rfl) (fun _ _ _ h=>h) (Or.inl ⟨by rfl,?_⟩) (by assumption) ?_
     rotate_left
     ·intro w hSw
      go_simp
      with_reducible rfl
     refine wpAnyH_take (i:=11) (v:=?_) rfl (by kernel_rfl) (by kernel_rfl) (by kernel_rfl) (fun _ _ _ h=>h) (Or.inl ⟨by rfl,?_⟩) (by assumption) ?_
     rotate_left
     ·intro w hSw
      go_simp
      with_reducible rfl
     refine wpAnyH_take (i:=12) (v:=?_) rfl (by kernel_rfl) (by kernel_rfl) (by kernel_rfl) (fun _ _ _ h=>h) (Or.inl ⟨by rfl,?_⟩) (by assumption) ?_
     rotate_left
     ·intro w hSw
      go_simp
      with_reducible rfl
     refine wpAnyH_take (i:=13) (v:=?_) rfl (by kernel_rfl) (by kernel_rfl) (by kernel_rfl) (fun _ _ _ h=>h) (Or.inl ⟨by rfl,?_⟩) (by assumption) ?_
     rotate_left
     ·intro w hSw
      go_simp
      with_reducible rfl
     refine wpAnyH_take (i:=14) (v:=?_) rfl (by kernel_rfl) (by kernel_rfl) (by kernel_rfl) (fun _ _ _ h=>h) (Or.inl ⟨by rfl,?_⟩) (by assumption) ?_
     rotate_left
     ·intro w hSw
      go_simp
      with_reducible rfl
     refine wpAnyH_take (i:=15) (v:=?_) rfl (by kernel_rfl) (by kernel_rfl) (by kernel_rfl) (fun _ _ _ h=>h) (Or.inl ⟨by rfl,?_⟩) (by assumption) ?_
     rotate_left
     ·intro w hSw
      go_simp
      with_reducible rfl
     refine wpAnyH_take (i:=16) (v:=?_) rfl (by kernel_rfl) (by kernel_rfl) (by kernel_rfl) (fun _ _ _ h=>h) (Or.inl ⟨by rfl,?_⟩) (by assumption) ?_
     rotate_left
     ·intro w hSw
      go_simp
      with_reducible rfl
     refine wpAnyH_take (i:=17) (v:=?_) rfl (by kernel_rfl) (by kernel_rfl) (by kernel_rfl) (fun _ _ _ h=>h) (Or.inl ⟨by rfl,?_⟩) (by assumption) ?_
     rotate_left
     ·intro w hSw
      go_simp
      with_reducible rfl
     refine wpAnyH_ready (rs:=[18]) (by kernel_rfl) (by simp) ?_
     refine AllReadyH.cons rfl (fun K hK=>?_) ?_
     ·go_simp
      refine hK.out _ _ ?_ (fun hHeld2=>?_)
      ·exact KA1.out _ _ hHeld (KB1.out _ hHeld).size
      ·clear hK K hHeld
       have hHeld:=hHeld2
       clear hHeld2
       have own1:=own0.alloc (.cells #[.int .i64 x] 3)
       have b0:=is_blk (q:=1) (Blk.new wd (i64s [x]) 3 wd.heap.size rfl) rfl (by decide)
       refine wpAnyH_ready (rs:=[19]) (by kernel_rfl) (by simp) ?_
       refine AllReadyH.cons rfl (fun K hK=>?_) ?_
       ·rw [if_pos (show Region.wanted _ _=true from rfl)]
        refine wp_of_list (ops:=#[]) rfl ?_
        refine wpList_append_is (by rfl) _ _ (by rfl) w.heap.size _ k (pairsL B k) (by rfl) own1 _ [x] (by rfl) b0 (by show k + 1≤_;omega) (KB1.out _ hHeld).size ?_
        intro v3 w3 own3 hgrow hat
        have HH1:Hid _:=hHeld
        refine ⟨rfl,?_⟩
        refine hK.out _ _ ?_ (fun hHeld2=>?_)
        ·exact KG1.out _ _ _ HH1.out hgrow (fun g hg=>own_geM own1 hg) (KB1.out _ HH1.out).size
        ·clear hK K hHeld
         have hHeld:=hHeld2
         clear hHeld2
         have bel5:=KB1.out _ hHeld
         clear hgrow hat own1 b0 HH1 own0
         refine wpAnyH_take (i:=20) (v:=?_) rfl (by kernel_rfl) (by kernel_rfl) (by kernel_rfl) (fun _ _ _ h=>h) (Or.inl ⟨by rfl,?_⟩) (by assumption) ?_
         rotate_left
         ·intro w hSw
          go_simp
          with_reducible rfl
         refine wpAnyH_done (by kernel_rfl) ?_ _
         refine NoPanic.normal ?_
         clear cb0 cb1 lx hHeld
         go_wp2_with fail
         go_roundw
         case rel=>exact ⟨k + 1,by omega,by go_num,by rw [pairsL_next,HPx.out];exact own3,bel5⟩
         case measure=>simp [intOf];omega
       exact AllReadyH.nil
     exact AllReadyH.nil
    ·have q1:¬ (k:Int) < (n:Int):=by omega
     obtain rfl:k=n:=by omega
     have HO:Hid _:=own
     clear own
     go_wp2_with fail
     refine bodyPost_ret (results_tmp2 rfl _ _ _) rfl ?_
     exact .inl ⟨HOk.out,_,rfl,Is.of_own HO.out,bel⟩
end Go.Proofs.YtohcdbifhnfcbaaGreatDoor
