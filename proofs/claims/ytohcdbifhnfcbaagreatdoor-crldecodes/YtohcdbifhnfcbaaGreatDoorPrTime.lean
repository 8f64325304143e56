import Derived.Test.YtohcdbifhnfcbaaGreatDoorPrG
import Derived.Test.YtohcdbifhnfcbaaGreatDoorPrTimD
import Derived.Test.YtohcdbifhnfcbaaGreatDoorPmNG
import Derived.Test.YtohcdbifhnfcbaaGreatDoorDrDG
import Derived.Test.YtohcdbifhnfcbaaGreatDoorPrOidOf
import Derived.Test.YtohcdbifhnfcbaaGreatDoorRows
import Derived.Deep.OwnRows
import Derived.Deep.AppendLies
import Derived.Great.BuildSlice
import Derived.Deep.WholeRow
import Derived.Deep.RegionHeld3
import Derived.Deep.DeepCutAuto
import Derived.Deep.DeepFit
import Derived.BigQuiet
namespace Go.Proofs.YtohcdbifhnfcbaaGreatDoor
open Go.RowKit
set_option linter.unusedSimpArgs false
set_option maxRecDepth 100000
set_option maxHeartbeats 4000000
def ZbH (B:List Int) (n:Nat):Prop:=B.length=2*n+1∧B.getD (2*n) 0=90∧Zi6 (B.take (2*n))
def Zbo (B:List Int) (n:Nat):List Int:=(List.range n).map (Zbu B)
theorem ZdK (B:List Int) (n:Nat):(Zbo B n).length=n:=by simp[Zbo]
theorem ZiD (B:List Int) (n:Nat):Zbo B (n+1)=Zbo B n++[Zbu B n]:=by simp[Zbo,List.range_succ]
theorem ZaC {B:List Int} {n k:Nat} (h:k<n):(Zbo B n).getD k 0=Zbu B k:=by
 rw[List.getD_eq_getElem?_getD,Zbo,List.getElem?_map,List.getElem?_range h]
 rfl
def RetP (w:World) (B:List Int) (n:Nat) (e:Ending) (w':World):Prop:=(ZbH B n∧∃ v',e=.returned (.tuple #[v',.bool true])∧Is w' v' (Zbo B n)∧Below w.heap.size w w')∨(¬ ZbH B n∧e=.returned (.tuple #[.slice none 0 0,.bool false])∧Below w.heap.size w w')
theorem Zl8 {B:Nat} {W0 W:World} (h:Below B W0 W) :
  ∃ S:World→Prop,Hd S W∧Hid (∀ w1,Hd S w1→Hd S w1.drew)∧Hid (∀ w1 o,Hd S w1→B≤w1.heap.size→Hd S (w1.alloc o))∧Hid (∀ w1 w2 row,Hd S w1→w1.grownBy w2 row→(∀ g,row=some g→B≤g)→B≤w1.heap.size→Hd S w2)∧Hid (∀ w1,Hd S w1→Below B W0 w1) :=
 ⟨fun wx=>Below B W0 wx,h,fun _ h=>h.drew,fun _ o h hs=>h.alloc hs o,fun _ _ _ h hg hr hs=>Below.grown h hg hs hr,fun _ h=>h⟩
theorem Zn3 {B:List Int} {k:Nat} (h:∀ j,j<k→48≤B.getD j 0∧B.getD j 0≤57) (hk:k≤B.length):Zi6 (B.take k):=by
 intro x hx;obtain ⟨j,hj,e⟩:=List.mem_iff_getElem.1 hx;rw[List.length_take] at hj;have:=h j (by omega);rw[List.getD_eq_getElem?_getD,List.getElem?_eq_getElem (by omega),Option.getD_some] at this;rw[List.getElem_take] at e;rw[← e];exact this
theorem Zhu {v:Value} {B:List Int} {n:Nat} {w:World} (hv:Bs w v B) (b:byt B) (hn:n≤7) :
  Calls Tryz.prog 137 #[v,.int .i64 (n:Int)] w (RetP w B n):=by
 have HB:Hid (byt B):=b;have HV:Hid (Bs w v B):=hv;obtain ⟨ao,cap,rfl,h1,h2,h3⟩:=hv;obtain ⟨N,hN⟩:∃ N,B.length=N:=⟨_,rfl⟩;have HN:Hid (B.length=N):=hN;rw[hN] at h2 h3 HV ⊢;unfold maxLen at h1;clear b hN;obtain ⟨m,hm⟩:∃ m,2*n=m:=⟨_,rfl⟩;have HM:Hid (2*n=m):=hm;obtain ⟨m1,hm1⟩:∃ z,m+1=z:=⟨_,rfl⟩;have w1:IntKind.i64.wrap (2*(n:Int))=(m:Int):=by rw[IntKind.wrap_i64];omega
 have w2:IntKind.i64.wrap ((m:Int)+1)=(m1:Int):=by rw[IntKind.wrap_i64];omega
 have HP:Hid (ZbH B n=(N=m1∧B.getD m 0=90∧Zi6 (B.take m))):=by show _=_;unfold ZbH;rw[HN.out,hm,hm1]
 have hmn:m≤14:=by omega
 have hmm:m<m1:=by omega
 have hmm1:m1≤m+1:=by omega
 clear hm hm1
 by_cases c0:N=m1
 rotate_left
 ·have H:Hid (¬ ZbH B n):=by rw[HP.out];exact fun z=>c0 z.1
  have g0:((N:Int) == (m1:Int))=false:=by rw[beq_eq_false_iff_ne];omega
  have g1:((N:Int) != (m1:Int))=true:=by rw[bne,g0];rfl
  have g2:¬ (N:Int)=(m1:Int):=by omega
  clear h3;go_enter Tryz.func137,Tryz.ntmps137;go_wp2_with fail;refine bodyPost_ret (results_tmp2 rfl _ _ _) rfl ?_;exact .inr ⟨H.out,rfl,Below.refl _ _⟩
 subst c0;obtain ⟨g,o,rfl,lg,HC'⟩:=h3 (by omega);have HC:Hid _:=HC';clear HC' h3;have xm:=HC.out m (by omega);have gm0:(0:Int)≤(m:Int):=by omega
 have gm1:(m:Int)<(N:Int):=by omega
 have gm2:(m:Int)≤(N:Int):=by omega
 have gm3:m≤N:=by omega
 have gm4:m≤cap:=by omega
 obtain⟨z,hz⟩:∃ z,B.getD m 0=z:=⟨_,rfl⟩;have HZ:Hid (B.getD m 0=z):=hz;rw[hz] at xm;clear hz
 by_cases c1:z=90
 rotate_left
 ·have H:Hid (¬ ZbH B n):=by rw[HP.out,HZ.out];exact fun q=>c1 q.2.1
  have g0:(z == 90)=false:=by rw[beq_eq_false_iff_ne];exact c1
  have g1:(z != 90)=true:=by rw[bne,g0];rfl
  go_enter Tryz.func137,Tryz.ntmps137;go_wp2_with fail;refine bodyPost_ret (results_tmp2 rfl _ _ _) rfl ?_;exact .inr ⟨H.out,rfl,Below.refl _ _⟩
 subst c1;go_enter Tryz.func137,Tryz.ntmps137;go_wp2_with fail;go_loop [4,28] (fun av iv=>∃ (j:Nat),j≤m∧av=.slice none 0 0∧iv=.int .i64 (j:Int)∧Hid (∀ q,q<j→48≤B.getD q 0∧B.getD q 0≤57)) (fun _ iv=>m-(intOf iv).toNat)
 case atStart=>exact ⟨0,by omega,rfl,rfl,fun q h=>absurd h (by omega)⟩
 case round =>
  obtain⟨j,hj,rfl,rfl,HE⟩:=hrel
  by_cases hil:j<m
  ·have k1:(j:Int)<(m:Int):=by omega
   have k2:(0:Int)≤(j:Int):=by omega
   have gi:IntKind.i64.wrap ((j:Int)+1)=(j:Int)+1:=by rw[IntKind.wrap_i64];omega
   have cy:=HC.out j (by omega);have yb:=HB.out j;obtain ⟨y,hy⟩:∃ y,B.getD j 0=y:=⟨_,rfl⟩;have HY:Hid (B.getD j 0=y):=hy;rw[hy] at cy yb;clear hy;have HNo:Hid (¬ (48≤y∧y≤57)→¬ ZbH B n):=fun hno hok=>by
    rw[HP.out] at hok;have:=Zb8 hok.2.2 hil (by rw[HN.out];omega);rw[HY.out] at this;exact hno this
   by_cases d1:y<48
   ·have H:Hid (¬ ZbH B n):=HNo.out (by omega)
    go_wp2_with fail;refine bodyPost_ret (results_tmp2 rfl _ _ _) rfl ?_;exact .inr ⟨H.out,rfl,Below.refl _ _⟩
   by_cases d2:57<y
   ·have H:Hid (¬ ZbH B n):=HNo.out (by omega)
    go_wp2_with fail;refine bodyPost_ret (results_tmp2 rfl _ _ _) rfl ?_;exact .inr ⟨H.out,rfl,Below.refl _ _⟩
   have HE2:Hid (∀ q,q<j+1→48≤B.getD q 0∧B.getD q 0≤57):=fun q hq=>by
    by_cases hqj:q<j
    ·exact HE.out q hqj
    ·obtain rfl:q=j:=by omega
     rw[HY.out];omega
   clear HNo;go_wp2_with fail;go_round
   case rel=>exact ⟨j+1,by omega,rfl,by go_num,HE2⟩
   case measure=>simp[intOf];omega
  ·have k1:¬ (j:Int)<(m:Int):=by omega
   have HA:Hid (∀ q,q<m→48≤B.getD q 0∧B.getD q 0≤57):=fun q hq=>HE.out q (by omega);have HOk:Hid (ZbH B n):=by rw[HP.out];exact ⟨by first|trivial|rfl,HZ.out,Zn3 HA.out (by rw[HN.out];omega)⟩
   clear HE HP;go_wp2_with fail;obtain ⟨W,hW⟩:∃ z,z=w:=⟨_,rfl⟩;have HW:Hid (W=w):=hW;rw[← hW];have bel0:Below w.heap.size w W:=by rw[hW];exact Below.refl _ _
   clear hW;go_loopw [4,40] (fun av iv wx=>∃ k:Nat,k≤n∧iv=.int .i64 (k:Int)∧wx.ownsRow w.heap.size 3 1 av k (Zhn (Zbo B k))∧Below w.heap.size w wx) (fun _ iv _=>n-(intOf iv).toNat)
   case atStart=>exact ⟨0,by omega,rfl,⟨rfl,.inl ⟨rfl,rfl⟩⟩,bel0⟩
   case round =>
    clear bel0;obtain ⟨k,hk,rfl,own,bel⟩:=hrel
    by_cases hkl:k<n
    ·have q1:(k:Int)<(n:Int):=by omega
     have q2:(0:Int)≤(k:Int):=by omega
     have gk:IntKind.i64.wrap ((k:Int)+1)=(k:Int)+1:=by rw[IntKind.wrap_i64];omega
     have hmo:=HM.out;have x0:=HC.out (2*k) (by omega);have x1:=HC.out (2*k+1) (by omega);have y0:=HA.out (2*k) (by omega);have y1:=HA.out (2*k+1) (by omega);have HPx:Hid (Zbu B k=10*(B.getD (2*k) 0-48)+(B.getD (2*k+1) 0-48)):=rfl;obtain ⟨p0,hp0⟩:∃ z,B.getD (2*k) 0=z:=⟨_,rfl⟩;obtain ⟨p1,hp1⟩:∃ z,B.getD (2*k+1) 0=z:=⟨_,rfl⟩;rw[hp0] at x0 y0 HPx;rw[hp1] at x1 y1 HPx;clear hp0 hp1;obtain ⟨k2,hk2⟩:∃ z,2*k=z:=⟨_,rfl⟩;rw[hk2] at x0 x1;obtain ⟨k3,hk3⟩:∃ z,k2+1=z:=⟨_,rfl⟩;rw[hk3] at x1;have v1:IntKind.i64.wrap (2*(k:Int))=(k2:Int):=by rw[IntKind.wrap_i64];omega
     have v2:IntKind.i64.wrap ((k2:Int)+1)=(k3:Int):=by rw[IntKind.wrap_i64];omega
     have v3:(0:Int)≤(k2:Int):=by omega
     have v4:(k2:Int)<(N:Int):=by omega
     have v5:(0:Int)≤(k3:Int):=by omega
     have v6:(k3:Int)<(N:Int):=by omega
     have v4n:k2<N:=by omega
     have v6n:k3<N:=by omega
     have u1:IntKind.u8.wrap (p0-48)=p0-48:=by rw[IntKind.wrap_u8];omega
     have u2:IntKind.u8.wrap (p1-48)=p1-48:=by rw[IntKind.wrap_u8];omega
     have u3:IntKind.i64.wrap (p0-48)=p0-48:=by rw[IntKind.wrap_i64];omega
     have u4:IntKind.i64.wrap (p1-48)=p1-48:=by rw[IntKind.wrap_i64];omega
     obtain⟨t0,ht0⟩:∃ z,(p0-48)*10=z:=⟨_,rfl⟩;have u5:IntKind.i64.wrap ((p0-48)*10)=t0:=by rw[IntKind.wrap_i64];omega
     obtain⟨x,hx⟩:∃ z,t0+(p1-48)=z:=⟨_,rfl⟩;have u6:IntKind.i64.wrap (t0+(p1-48))=x:=by rw[IntKind.wrap_i64];omega
     replace HPx:Hid (Zbu B k=x):=by show _=_;rw[HPx.out];omega
     clear hk2 hk3 ht0 hx hmo;obtain ⟨S1,hS1,KD1,KA1,KG1,KB1⟩:=Zl8 bel;have cb0:∀ wx,Hd S1 wx→wx.cell? ⟨g,o+k2,none⟩=some (.int .u8 p0):=fun wx h=>((KB1.out wx h).cell (p:=⟨g,o+k2,none⟩) lg).trans x0;have cb1:∀ wx,Hd S1 wx→wx.cell? ⟨g,o+k3,none⟩=some (.int .u8 p1):=fun wx h=>((KB1.out wx h).cell (p:=⟨g,o+k3,none⟩) lg).trans x1;have lx:∀ wx,Hd S1 wx→g<wx.heap.size:=fun wx h=>Nat.lt_of_lt_of_le lg (KB1.out wx h).size;clear x0 x1;go_upto_region 12 with fail;refine wp_region_noPanic ?_;refine wp_region_held_drew (S:=Hd S1) (by kernel_rfl) (KD1.out _ hS1) (fun hHeld=>?_);clear hS1;have own0:wr.drew.ownsRow w.heap.size 3 1 _ k (Zhn (Zbo B k)):=own;clear own;generalize World.drew _=wd at *;refine tkA 0 ?_;refine tkA 1 ?_;refine tkA 2 ?_;refine tkA 3 ?_;refine tkA 4 ?_;refine tkA 5 ?_;refine tkA 6 ?_;refine tkA 7 ?_;refine tkA 8 ?_;refine tkA 9 ?_;refine tkA 10 ?_;refine tkA 11 ?_;refine tkA 12 ?_;refine tkA 13 ?_;refine tkA 14 ?_;refine tkA 15 ?_;refine tkA 16 ?_;refine tkA 17 ?_;refine wpAnyH_ready (rs:=[18]) (by kernel_rfl) (by simp) ?_;refine AllReadyH.cons rfl (fun K hK=>?_) ?_
     ·go_simp
      refine hK.out _ _ ?_ (fun hHeld2=>?_)
      ·exact KA1.out _ _ hHeld (KB1.out _ hHeld).size
      ·clear hK K hHeld
       have hHeld:=hHeld2;clear hHeld2;have own1:=own0.alloc (.cells #[.int .i64 x] 3);have b0:=is_blk (q:=1) (Blk.new wd (Zhn [x]) 3 wd.heap.size rfl) rfl (by decide);refine wpAnyH_ready (rs:=[19]) (by kernel_rfl) (by simp) ?_;refine AllReadyH.cons rfl (fun K hK=>?_) ?_
       ·rw[if_pos (show Region.wanted _ _=true from rfl)]
        refine Zc0 (ops:=#[]) rfl ?_;refine Zdk (by rfl) _ _ (by rfl) w.heap.size _ k (Zbo B k) (by rfl) own1 _ [x] (by rfl) b0 (by show k+1≤_;omega) (KB1.out _ hHeld).size ?_;intro v3 w3 own3 hgrow hat;have HH1:Hid _:=hHeld;refine ⟨rfl,?_⟩;refine hK.out _ _ ?_ (fun hHeld2=>?_)
        ·exact KG1.out _ _ _ HH1.out hgrow (fun g hg=>Zao own1 hg) (KB1.out _ HH1.out).size
        ·clear hK K hHeld
         have hHeld:=hHeld2;clear hHeld2;have bel5:=KB1.out _ hHeld;clear hgrow hat own1 b0 HH1 own0;refine tkA 20 ?_;refine wpAnyH_done (by kernel_rfl) ?_ _;refine NoPanic.normal ?_;clear cb0 cb1 lx hHeld;go_wp2_with fail;go_roundw
         case rel=>exact ⟨k+1,by omega,by go_num,by rw[ZiD,HPx.out];exact own3,bel5⟩
         case measure=>simp[intOf];omega
       exact AllReadyH.nil
     exact AllReadyH.nil
    ·have q1:¬ (k:Int)<(n:Int):=by omega
     obtain rfl:k=n:=by omega
     have HO:Hid _:=own;clear own;go_wp2_with fail;refine bodyPost_ret (results_tmp2 rfl _ _ _) rfl ?_;exact .inl ⟨HOk.out,_,rfl,Is.of_own HO.out,bel⟩
theorem Zin {y:Nat} {w:World}:Calls Tryz.prog 138 #[.int .i64 (y:Int)] w fun e w'=>e=.returned (.int .i64 ((if y<50 then 20 else 19:Nat):Int))∧w'=w:=by
 by_cases c:y<50
 ·have g:(y:Int)<50:=by omega
  have HE:Hid ((if y<50 then 20 else 19:Nat)=20):=if_pos c;rw[HE.out];clear HE c;go_enter Tryz.func138,Tryz.ntmps138;go_wp2_with fail;go_ret;exact ⟨rfl,rfl⟩
 ·have g:¬ (y:Int)<50:=by omega
  have HE:Hid ((if y<50 then 20 else 19:Nat)=19):=if_neg c;rw[HE.out];clear HE c;go_enter Tryz.func138,Tryz.ntmps138;go_wp2_with fail;go_ret;exact ⟨rfl,rfl⟩
theorem Zgg {y m d h i s:Nat} {w:World} (hy:y≤99999) :
  Calls Tryz.prog 139 #[.agg #[.int .i64 (y:Int),.int .i64 (m:Int),.int .i64 (d:Int),.int .i64 (h:Int),.int .i64 (i:Int),.int .i64 (s:Int)]] w fun e w'=>e=.returned (.bool (exZ y m d h i s))∧Below w.heap.size w w':=by
 have B0:=Blk.new w [.int .i64 (y:Int),.int .i64 (m:Int),.int .i64 (d:Int),.int .i64 (h:Int),.int .i64 (i:Int),.int .i64 (s:Int)] 211 w.heap.size rfl;have bel:=bal w (.cells #[.int .i64 (y:Int),.int .i64 (m:Int),.int .i64 (d:Int),.int .i64 (h:Int),.int .i64 (i:Int),.int .i64 (s:Int)] 211);have e0:=B0.cell 0 _ rfl;have e1:=B0.cell 1 _ rfl;have e2:=B0.cell 2 _ rfl;have e3:=B0.cell 3 _ rfl;have e4:=B0.cell 4 _ rfl;have e5:=B0.cell 5 _ rfl;have lt0:=B0.lt;clear B0
 by_cases c1:1≤m
 rotate_left
 ·have HE:Hid (exZ y m d h i s=false):=decide_eq_false (fun z=>c1 z.1)
  have g1:decide ((1:Int)≤(m:Int))=false:=decide_eq_false (by omega);go_enter Tryz.func139,Tryz.ntmps139;go_upto_region 1 with fail;go_quiet (fail);go_wp2_with fail;go_ret;exact ⟨by rw[HE.out];rfl,ZaM bel _⟩
 have g1:decide ((1:Int)≤(m:Int))=true:=decide_eq_true (by omega)
 by_cases c2:m≤12
 rotate_left
 ·have HE:Hid (exZ y m d h i s=false):=decide_eq_false (fun z=>c2 z.2.1)
  have g2:decide ((m:Int)≤12)=false:=decide_eq_false (by omega);go_enter Tryz.func139,Tryz.ntmps139;go_upto_region 1 with fail;go_quiet (fail);go_wp2_with fail;go_ret;exact ⟨by rw[HE.out];rfl,ZaM bel _⟩
 have g2:decide ((m:Int)≤12)=true:=decide_eq_true (by omega)
 by_cases c3:1≤d
 rotate_left
 ·have HE:Hid (exZ y m d h i s=false):=decide_eq_false (fun z=>c3 z.2.2.1)
  have g3:decide ((1:Int)≤(d:Int))=false:=decide_eq_false (by omega);go_enter Tryz.func139,Tryz.ntmps139;go_upto_region 1 with fail;go_quiet (fail);go_wp2_with fail;go_ret;exact ⟨by rw[HE.out];rfl,ZaM bel _⟩
 have g3:decide ((1:Int)≤(d:Int))=true:=decide_eq_true (by omega)
 by_cases c4:(d:Int)≤mdZ y m
 rotate_left
 ·have HE:Hid (exZ y m d h i s=false):=decide_eq_false (fun z=>c4 z.2.2.2.1)
  have g4:decide ((d:Int)≤mdZ y m)=false:=decide_eq_false (by omega);go_enter Tryz.func139,Tryz.ntmps139;go_upto_region 1 with fail;go_quiet (((go_at_call 150;exact Calls.quiet_of_same (Zcf hy c1 c2))));go_wp2_with fail;go_ret;exact ⟨by rw[HE.out];rfl,ZaM bel _⟩
 have g4:decide ((d:Int)≤mdZ y m)=true:=decide_eq_true (by omega)
 by_cases c5:h<24
 rotate_left
 ·have HE:Hid (exZ y m d h i s=false):=decide_eq_false (fun z=>c5 z.2.2.2.2.1)
  have g5:decide ((h:Int)<24)=false:=decide_eq_false (by omega);go_enter Tryz.func139,Tryz.ntmps139;go_upto_region 1 with fail;go_quiet (((go_at_call 150;exact Calls.quiet_of_same (Zcf hy c1 c2))));go_wp2_with fail;go_ret;exact ⟨by rw[HE.out];rfl,ZaM bel _⟩
 have g5:decide ((h:Int)<24)=true:=decide_eq_true (by omega)
 by_cases c6:i<60
 rotate_left
 ·have HE:Hid (exZ y m d h i s=false):=decide_eq_false (fun z=>c6 z.2.2.2.2.2.1)
  have g6:decide ((i:Int)<60)=false:=decide_eq_false (by omega);go_enter Tryz.func139,Tryz.ntmps139;go_upto_region 1 with fail;go_quiet (((go_at_call 150;exact Calls.quiet_of_same (Zcf hy c1 c2))));go_wp2_with fail;go_ret;exact ⟨by rw[HE.out];rfl,ZaM bel _⟩
 have g6:decide ((i:Int)<60)=true:=decide_eq_true (by omega)
 by_cases c7:s<60
 rotate_left
 ·have HE:Hid (exZ y m d h i s=false):=decide_eq_false (fun z=>c7 z.2.2.2.2.2.2)
  have g7:decide ((s:Int)<60)=false:=decide_eq_false (by omega);go_enter Tryz.func139,Tryz.ntmps139;go_upto_region 1 with fail;go_quiet (((go_at_call 150;exact Calls.quiet_of_same (Zcf hy c1 c2))));go_wp2_with fail;go_ret;exact ⟨by rw[HE.out];rfl,ZaM bel _⟩
 have g7:decide ((s:Int)<60)=true:=decide_eq_true (by omega);have HE:Hid (exZ y m d h i s=true):=decide_eq_true ⟨c1,c2,c3,c4,c5,c6,c7⟩;go_enter Tryz.func139,Tryz.ntmps139;go_upto_region 1 with fail;go_quiet (((go_at_call 150;exact Calls.quiet_of_same (Zcf hy c1 c2))));go_wp2_with fail;go_ret;exact ⟨by rw[HE.out];rfl,ZaM bel _⟩
def ZjZ (w:World) (r:Except Nat Int) (e:Ending) (w':World):Prop:=(∀ n,r=.ok n→e=.returned (.tuple #[.int .i64 n,.nilIface])∧Below w.heap.size w w')∧(∀ c,r=.error c→e=.returned (.tuple #[.int .i64 0,.iface 46 (.int .i64 (c:Int))])∧Below w.heap.size w w')
theorem ZjZ.ok {w w':World} {r:Except Nat Int} {n:Int} (h:r=.ok n) (bel:Below w.heap.size w w'):ZjZ w r (.returned (.tuple #[.int .i64 n,.nilIface])) w' :=
 ⟨fun m hm=>(by rw[h] at hm;cases hm;exact ⟨rfl,bel⟩),fun c hc=>(by rw[h] at hc;cases hc)⟩
theorem ZjZ.bad {w w':World} {r:Except Nat Int} {c:Nat} (h:r=.error c) (bel:Below w.heap.size w w'):ZjZ w r (.returned (.tuple #[.int .i64 0,.iface 46 (.int .i64 (c:Int))])) w' :=
 ⟨fun m hm=>(by rw[h] at hm;cases hm),fun c2 hc=>(by rw[h] at hc;cases hc;exact ⟨rfl,bel⟩)⟩
theorem ZnO:Hid (∀ w:World,(zeroValue 211).run Tryz.prog w=.ok (.agg #[.int .i64 0,.int .i64 0,.int .i64 0,.int .i64 0,.int .i64 0,.int .i64 0]) w):=fun w=>by kernel_rfl
theorem ZeQ:(Tryz.prog.info? 211).map (·.size)=some 6:=by kernel_rfl
theorem ZjO (B:List Int):Zbz 23 B=ZaQ 2 B:=by unfold Zbz;rw[if_pos rfl]
theorem ZjP (B:List Int):Zbz 24 B=ZaQ 4 B:=by unfold Zbz;rw[if_neg (by decide),if_pos rfl]
theorem ZpG {tag:Int} {B:List Int} (h1:¬ tag=23) (h2:¬ tag=24):Zbz tag B=.error 1:=by unfold Zbz;rw[if_neg h1,if_neg h2]
theorem Zlj {l:List Int}:Za3 l 0<0↔¬ Zi6 l:=by
 constructor
 ·intro h a
  have:=Zjh l 0 (by omega) a;omega
 ·intro h
  by_cases c:0≤Za3 l 0
  ·exact absurd (Zff l 0 (by omega) c) h
  ·omega
theorem ZjL {B:List Int} {n k:Nat} (hk:n+10=2*k) (h:¬ ZbH B k):ZaQ n B=.error 7:=by
 unfold ZaQ;rw[if_pos];unfold ZbH at h;rw[← hk] at h
 by_cases c1:B.length=n+11
 ·by_cases c2:B.getD (n+10) 0=90
  ·exact .inr (.inr (Zlj.2 (fun a=>h ⟨by omega,c2,a⟩)))
  ·exact .inr (.inl c2)
 ·exact .inl c1
theorem ZjM {B:List Int} {n k:Nat} (hk:n+10=2*k) (h:ZbH B k):ZaQ n B=ZbU n (Zfb n (Za3 (B.take n) 0)) (Za3 ((B.drop n).take 2) 0) (Za3 ((B.drop (n+2)).take 2) 0) (Za3 ((B.drop (n+4)).take 2) 0) (Za3 ((B.drop (n+6)).take 2) 0) (Za3 ((B.drop (n+8)).take 2) 0):=by
 obtain⟨h1,h2,h3⟩:=h;rw[← hk] at h1 h2 h3;unfold ZaQ;rw[if_neg];rintro (c|c|c)
 ·omega
 ·exact c h2
 ·exact Zlj.1 c h3
theorem Znw {B:List Int} (h:ZbH B 6):ZaQ 2 B=ZbU 2 (if Zbu B 0<50 then Zbu B 0+2000 else Zbu B 0+1900) (Zbu B 1) (Zbu B 2) (Zbu B 3) (Zbu B 4) (Zbu B 5):=by
 rw[ZjM (k:=6) rfl h];obtain ⟨h1,_,h3⟩:=h;have e0:=ZbO (i:=0) h3 (by omega) (by omega);have e1:=ZbO (i:=1) h3 (by omega) (by omega);have e2:=ZbO (i:=2) h3 (by omega) (by omega);have e3:=ZbO (i:=3) h3 (by omega) (by omega);have e4:=ZbO (i:=4) h3 (by omega) (by omega);have e5:=ZbO (i:=5) h3 (by omega) (by omega);rw[show Za3 (B.take 2) 0=Zbu B 0 from e0,show Za3 ((B.drop 2).take 2) 0=Zbu B 1 from e1,show Za3 ((B.drop (2+2)).take 2) 0=Zbu B 2 from e2,show Za3 ((B.drop (2+4)).take 2) 0=Zbu B 3 from e3,show Za3 ((B.drop (2+6)).take 2) 0=Zbu B 4 from e4,show Za3 ((B.drop (2+8)).take 2) 0=Zbu B 5 from e5];unfold Zfb;rw[if_pos rfl]
theorem Znx {B:List Int} (h:ZbH B 7):ZaQ 4 B=ZbU 4 (100*Zbu B 0+Zbu B 1) (Zbu B 2) (Zbu B 3) (Zbu B 4) (Zbu B 5) (Zbu B 6):=by
 rw[ZjM (k:=7) rfl h];obtain ⟨h1,_,h3⟩:=h;have e0:=ZnN h3 (by omega) (by omega);have e2:=ZbO (i:=2) h3 (by omega) (by omega);have e3:=ZbO (i:=3) h3 (by omega) (by omega);have e4:=ZbO (i:=4) h3 (by omega) (by omega);have e5:=ZbO (i:=5) h3 (by omega) (by omega);have e6:=ZbO (i:=6) h3 (by omega) (by omega);rw[e0,show Za3 ((B.drop 4).take 2) 0=Zbu B 2 from e2,show Za3 ((B.drop (4+2)).take 2) 0=Zbu B 3 from e3,show Za3 ((B.drop (4+4)).take 2) 0=Zbu B 4 from e4,show Za3 ((B.drop (4+6)).take 2) 0=Zbu B 5 from e5,show Za3 ((B.drop (4+8)).take 2) 0=Zbu B 6 from e6];unfold Zfb;rw[if_neg (by decide)]
theorem ZbE {B:List Int} {n k:Nat} (h:ZbH B n) (hk:k<n):0≤Zbu B k∧Zbu B k≤99:=by
 obtain⟨h1,_,h3⟩:=h;exact Zq2 h3 (by omega) (by omega)
theorem Zbp {a w w':World} (h:Below a.heap.size a w) (hb:Below w.heap.size w w'):Below a.heap.size a w':=h.trans (hb.mono h.size)
theorem Zof {tag:Int} {v:Value} {B:List Int} {w:World} (hv:Bs w v B) (b:byt B) :
  Calls Tryz.prog 108 #[.int .i64 tag,v] w (ZjZ w (Zbz tag B)):=by
 have HB:Hid (byt B):=b;have HV:Hid (Bs w v B):=hv;obtain ⟨ao,cap,rfl,h1,h2,h3⟩:=hv;clear h1 h2 h3 b
 by_cases c23:tag=23
 ·subst c23
  go_enter Tryz.func108,Tryz.ntmps108;go_wp2_with fail;refine Zfw.mono ?_;rintro e w1 ⟨rfl,rfl⟩;go_wp2_with fail;refine (Zhu (n:=6) HV.out HB.out (by omega)).mono ?_;rintro e W0 (⟨hok,tv,rfl,hI,bel⟩|⟨hok,rfl,bel⟩);rotate_left
  ·have H:Hid (Zbz 23 B=.error 7):=by show _=_;rw[ZjO,ZjL (k:=6) rfl hok]
   clear hok;go_wp2_with fail;refine bodyPost_ret (results_tmp2 rfl _ _ _) rfl ?_;exact ZjZ.bad H.out bel
  have hT:=Znw hok;have bd0:=ZbE hok (show 0<6 by omega);obtain ⟨p0,hp0⟩:=Int.eq_ofNat_of_zero_le bd0.1;rw[hp0] at bd0 hT;have bd1:=ZbE hok (show 1<6 by omega);obtain ⟨p1,hp1⟩:=Int.eq_ofNat_of_zero_le bd1.1;rw[hp1] at bd1 hT;have bd2:=ZbE hok (show 2<6 by omega);obtain ⟨p2,hp2⟩:=Int.eq_ofNat_of_zero_le bd2.1;rw[hp2] at bd2 hT;have bd3:=ZbE hok (show 3<6 by omega);obtain ⟨p3,hp3⟩:=Int.eq_ofNat_of_zero_le bd3.1;rw[hp3] at bd3 hT;have bd4:=ZbE hok (show 4<6 by omega);obtain ⟨p4,hp4⟩:=Int.eq_ofNat_of_zero_le bd4.1;rw[hp4] at bd4 hT;have bd5:=ZbE hok (show 5<6 by omega);obtain ⟨p5,hp5⟩:=Int.eq_ofNat_of_zero_le bd5.1;rw[hp5] at bd5 hT;clear HV;have HI:Hid (Is W0 tv (Zbo B 6)):=hI;obtain ⟨ta,tc,rfl,k1,k2,k3⟩:=hI;rw[ZdK] at HI k2 k3 ⊢;unfold maxLen at k1;obtain ⟨g0,o0,rfl,lg0,hc⟩:=k3 (by omega);have y0:=hc 0 (by omega);rw[ZaC (by omega),hp0] at y0;have y1:=hc 1 (by omega);rw[ZaC (by omega),hp1] at y1;have y2:=hc 2 (by omega);rw[ZaC (by omega),hp2] at y2;have y3:=hc 3 (by omega);rw[ZaC (by omega),hp3] at y3;have y4:=hc 4 (by omega);rw[ZaC (by omega),hp4] at y4;have y5:=hc 5 (by omega);rw[ZaC (by omega),hp5] at y5;rw[Nat.add_zero] at y0;clear hc k3;go_wp2_with fail;refine (Zin (y:=p0)).mono ?_;rintro e w2 ⟨rfl,rfl⟩;obtain ⟨c,hc⟩:∃ c,(if p0<50 then 20 else 19:Nat)=c:=⟨_,rfl⟩;have hcb:c=20∧p0<50∨c=19∧¬ p0<50:=by
   rw[← hc]
   by_cases z:p0<50
   ·left;exact ⟨if_pos z,z⟩
   ·right;exact ⟨if_neg z,z⟩
  rw[hc];clear hc;obtain ⟨Y,hY⟩:∃ y,c*100+p0=y:=⟨_,rfl⟩;have HT:Hid (Zbz 23 B=if exZ Y p1 p2 p3 p4 p5=false∨(2=4∧Y<2050) then .error 3 else .ok (ZbM Y p1 p2+(3600*(p3:Int)+60*(p4:Int)+(p5:Int)))):=by
   show _=_;rw[ZjO,hT,← ZjN (n:=2) (by omega) (.inl rfl)]
   congr 1
   split<;>omega
  have hYb:1900≤Y∧Y≤2099:=by omega
  have own:=ZaW w2 (Zhn [(c:Int)]) 3 1 w1.heap.size rfl bel.size (by decide);have st:Below w2.heap.size w2 (w2.alloc (.cells #[.int .i64 (c:Int)] 3)):=(Below.refl w2.heap.size w2).alloc (Nat.le_refl _) _;have b0:=HI.out.later st;have hbl:=Zbp bel st;have hsz:w1.heap.size≤(w2.alloc (.cells #[.int .i64 (c:Int)] 3)).heap.size:=hbl.size;clear st hT;go_upto_region 8 with (first|(at_builtin;refine Zdk (by rfl) _ _ (by rfl) w1.heap.size _ 1 [(c:Int)] (by rfl) own _ (Zbo B 6) (by rfl) b0 (by rw[ZdK];omega) hsz ?_;intro v5 W own5 hgrow hat)|fail);clear bel;have bel:=Zag (base:=w1.heap.size) hbl hgrow hsz (fun g hg=>Zao own hg) (Nat.le_refl _);have hU:=Is.of_own own5;clear own5 hgrow hat own b0 hbl hsz HI y0 y1 y2 y3 y4 y5;obtain ⟨ua,uc,rfl,k5,k6,k7⟩:=hU;have hl7:([(c:Int)]++Zbo B 6).length=7:=by rw[List.length_append,ZdK];rfl
  rw[hl7] at k6 k7 ⊢;unfold maxLen at k5;obtain ⟨g,o,rfl,lg,hd⟩:=k7 (by omega);have x0:=hd 0 (by omega);rw[Nat.add_zero] at x0;replace x0:W.cell? ⟨g,o,none⟩=some (.int .i64 (c:Int)):=x0;have x1:=hd 1 (by omega);rw[show ([(c:Int)]++Zbo B 6).getD 1 0=(Zbo B 6).getD 0 0 from rfl,ZaC (by omega),hp0] at x1;have x2:=hd 2 (by omega);rw[show ([(c:Int)]++Zbo B 6).getD 2 0=(Zbo B 6).getD 1 0 from rfl,ZaC (by omega),hp1] at x2;have x3:=hd 3 (by omega);rw[show ([(c:Int)]++Zbo B 6).getD 3 0=(Zbo B 6).getD 2 0 from rfl,ZaC (by omega),hp2] at x3;have x4:=hd 4 (by omega);rw[show ([(c:Int)]++Zbo B 6).getD 4 0=(Zbo B 6).getD 3 0 from rfl,ZaC (by omega),hp3] at x4;have x5:=hd 5 (by omega);rw[show ([(c:Int)]++Zbo B 6).getD 5 0=(Zbo B 6).getD 4 0 from rfl,ZaC (by omega),hp4] at x5;have x6:=hd 6 (by omega);rw[show ([(c:Int)]++Zbo B 6).getD 6 0=(Zbo B 6).getD 5 0 from rfl,ZaC (by omega),hp5] at x6;clear hd k7 hl7;obtain ⟨q,hq⟩:∃ q,c*100=q:=⟨_,rfl⟩;have w1:IntKind.i64.wrap ((c:Int)*100)=(q:Int):=by rw[IntKind.wrap_i64];omega
  have w2:IntKind.i64.wrap ((q:Int)+(p0:Int))=(Y:Int):=by rw[IntKind.wrap_i64];omega
  clear hq hY;have hz:=ZnO.out;obtain ⟨S1,hS1,KB1,KI1,KD1,KL1,KA1⟩:∃ S:World→Prop,Hd S W∧Hid (∀ wx,Hd S wx→Below W.heap.size W wx)∧Hid (∀ wx,Below W.heap.size W wx→Hd S wx)∧Hid (∀ wx,Hd S wx→Hd S wx.drew)∧Hid (∀ w1 w2,Hd S w1→Below w1.heap.size w1 w2→Hd S w2)∧Hid (∀ w1 o,Hd S w1→Hd S (w1.alloc o)):=⟨fun wx=>Below W.heap.size W wx,Below.refl _ _,fun _ h=>h,fun _ h=>h,fun _ h=>h.drew,fun _ _ h hb=>Zbp h hb,fun _ o h=>Zah h⟩;have cx0:∀ wx,Hd S1 wx→wx.cell? ⟨g,o,none⟩=some (.int .i64 (c:Int)):=fun wx h=>Zan x0 (KB1.out wx h);have cx1:∀ wx,Hd S1 wx→wx.cell? ⟨g,o+1,none⟩=some (.int .i64 (p0:Int)):=fun wx h=>Zan x1 (KB1.out wx h);have cx2:∀ wx,Hd S1 wx→wx.cell? ⟨g,o+2,none⟩=some (.int .i64 (p1:Int)):=fun wx h=>Zan x2 (KB1.out wx h);have cx3:∀ wx,Hd S1 wx→wx.cell? ⟨g,o+3,none⟩=some (.int .i64 (p2:Int)):=fun wx h=>Zan x3 (KB1.out wx h);have cx4:∀ wx,Hd S1 wx→wx.cell? ⟨g,o+4,none⟩=some (.int .i64 (p3:Int)):=fun wx h=>Zan x4 (KB1.out wx h);have cx5:∀ wx,Hd S1 wx→wx.cell? ⟨g,o+5,none⟩=some (.int .i64 (p4:Int)):=fun wx h=>Zan x5 (KB1.out wx h);have cx6:∀ wx,Hd S1 wx→wx.cell? ⟨g,o+6,none⟩=some (.int .i64 (p5:Int)):=fun wx h=>Zan x6 (KB1.out wx h);have lx:∀ wx,Hd S1 wx→g<wx.heap.size:=fun wx h=>Nat.lt_of_lt_of_le lg (KB1.out wx h).size;clear x0 x1 x2 x3 x4 x5 x6;go_upto_region 8 with fail;refine wp_region_noPanic ?_;refine wp_region_held_drew (S:=Hd S1) (by kernel_rfl) (KD1.out _ hS1) (fun hHeld=>?_);clear hS1;generalize World.drew _=wd at *;refine tkA 0 ?_;refine tkA 1 ?_;refine tkA 2 ?_;refine tkA 3 ?_;refine tkA 4 ?_;refine tkA 5 ?_;refine tkA 6 ?_;refine tkA 7 ?_;refine tkA 8 ?_;refine tkA 9 ?_;refine tkA 10 ?_;refine tkA 11 ?_;refine tkA 12 ?_;refine tkA 13 ?_;refine tkA 14 ?_;refine tkA 15 ?_;refine tkA 16 ?_;refine tkA 17 ?_;refine tkA 18 ?_;refine tkA 19 ?_;refine tkA 20 ?_;refine tkA 21 ?_;refine tkA 22 ?_;refine tkA 23 ?_;have HHw:Hid (Hd S1 wd):=hHeld;refine wpAnyH_ready (rs:=[24]) (by kernel_rfl) (by simp) ?_;refine AllReadyH.cons rfl (fun K hK=>?_) ?_
  ·go_simp
   refine hK.out _ _ ?_ (fun hHeld2=>?_)
   ·exact KA1.out _ _ hHeld
   ·clear hK K hHeld
    have hHeld:=hHeld2;clear hHeld2;clear hz;refine wpAnyH_ready (rs:=[25]) (by kernel_rfl) (by simp) ?_;refine AllReadyH.cons rfl (fun K hK=>?_) ?_
    ·have HH0:Hid (Hd S1 _):=hHeld
     rw[if_pos (by rfl)];refine wp_store_row 211 _ _ rfl wd.heap.size #[.int .i64 (Y:Int),.int .i64 (p1:Int),.int .i64 (p2:Int),.int .i64 (p3:Int),.int .i64 (p4:Int),.int .i64 (p5:Int)] rfl rfl 211 _ (heap_alloc_last _ _) (by rw[ZeQ];rfl) rfl (by simp[Value.oneCell']) ?_;rw[World.setRow_alloc_new];refine hK.out _ _ ?_ (fun hHeld2=>?_)
     ·exact KI1.out _ (Zah (KB1.out _ HHw.out))
     ·clear hK K hHeld
      have hHeld:=hHeld2;clear hHeld2;have bel5:=Zbp bel (KB1.out _ hHeld);have BM:=Blk.new wd [.int .i64 (Y:Int),.int .i64 (p1:Int),.int .i64 (p2:Int),.int .i64 (p3:Int),.int .i64 (p4:Int),.int .i64 (p5:Int)] 211 wd.heap.size rfl;refine wpAnyH_done (by kernel_rfl) ?_ _;refine NoPanic.normal ?_;clear cx0 cx1 cx2 cx3 cx4 cx5 cx6 lx hHeld HHw HH0;clear KB1 KI1 KD1 KL1 KA1;obtain ⟨gm,hgm⟩:∃ z,wd.heap.size=z:=⟨_,rfl⟩;rw[hgm] at BM ⊢;clear hgm;generalize wd.alloc (.cells #[.int .i64 (Y:Int),.int .i64 (p1:Int),.int .i64 (p2:Int),.int .i64 (p3:Int),.int .i64 (p4:Int),.int .i64 (p5:Int)] 211)=W2 at *;have lm:=BM.lt;go_wp2_with (first|(refine Zab (by rfl) (by rfl) (by rfl) (BM.load Tryz.underlying211 rfl ZeQ rfl) ?_)|fail);refine (Zgg (y:=Y) (m:=p1) (d:=p2) (h:=p3) (i:=p4) (s:=p5) (by omega)).mono ?_;rintro e w3 ⟨rfl,hb3⟩;replace BM:=BM.later hb3;replace bel5:=Zbp bel5 hb3;have f0:=BM.cell 0 _ rfl;replace lm:=BM.lt
      cases hq:exZ Y p1 p2 p3 p4 p5 with
      | false =>
       have H:Hid (Zbz 23 B=.error 3):=by show _=_;rw[HT.out,if_pos (.inl hq)]
       clear hq;go_wp2_with fail;refine bodyPost_ret (results_tmp2 rfl _ _ _) rfl ?_;exact ZjZ.bad H.out bel5
      | true =>
       have HQ:Hid (1≤p1∧p1≤12):=by
        unfold exZ at hq;have:=of_decide_eq_true hq;exact ⟨this.1,this.2.1⟩
       have HQf:Hid (¬ exZ Y p1 p2 p3 p4 p5=false):=by show ¬ _;rw[hq];decide
       clear hq;have H:Hid (Zbz 23 B=.ok (ZbM Y p1 p2+(3600*(p3:Int)+60*(p4:Int)+(p5:Int)))):=by show _=_;rw[HT.out,if_neg (by rintro (k|⟨k,_⟩);exact HQf.out k;omega)]
       go_wp2_with (first|(refine Zab (by rfl) (by rfl) (by rfl) (BM.load Tryz.underlying211 rfl ZeQ rfl) ?_)|fail);refine (Zjd (y:=Y) (m:=p1) (d:=p2) (h:=p3) (i:=p4) (s:=p5) (by omega) (by omega) HQ.out.1 HQ.out.2 (by omega) (by omega) (by omega) (by omega)).mono ?_;rintro e w4 ⟨rfl,hb4⟩;replace bel5:=Zbp bel5 hb4;obtain ⟨u,hu⟩:∃ u,ZbM Y p1 p2+(3600*(p3:Int)+60*(p4:Int)+(p5:Int))=u:=⟨_,rfl⟩;rw[hu] at H ⊢;clear hu;go_wp2_with fail;refine bodyPost_ret (results_tmp2 rfl _ _ _) rfl ?_;exact ZjZ.ok H.out bel5
    exact AllReadyH.nil
  exact AllReadyH.nil
 ·by_cases c24:tag=24
  ·subst c24
   go_enter Tryz.func108,Tryz.ntmps108;go_wp2_with fail;refine Zfx.mono ?_;rintro e w1 ⟨rfl,rfl⟩;go_wp2_with fail;refine (Zhu (n:=7) HV.out HB.out (by omega)).mono ?_;rintro e W (⟨hok,tv,rfl,hI,bel⟩|⟨hok,rfl,bel⟩);rotate_left
   ·have H:Hid (Zbz 24 B=.error 7):=by show _=_;rw[ZjP,ZjL (k:=7) rfl hok]
    clear hok;go_wp2_with fail;refine bodyPost_ret (results_tmp2 rfl _ _ _) rfl ?_;exact ZjZ.bad H.out bel
   have hT:=Znx hok;have bd0:=ZbE hok (show 0<7 by omega);obtain ⟨p0,hp0⟩:=Int.eq_ofNat_of_zero_le bd0.1;rw[hp0] at bd0 hT;have bd1:=ZbE hok (show 1<7 by omega);obtain ⟨p1,hp1⟩:=Int.eq_ofNat_of_zero_le bd1.1;rw[hp1] at bd1 hT;have bd2:=ZbE hok (show 2<7 by omega);obtain ⟨p2,hp2⟩:=Int.eq_ofNat_of_zero_le bd2.1;rw[hp2] at bd2 hT;have bd3:=ZbE hok (show 3<7 by omega);obtain ⟨p3,hp3⟩:=Int.eq_ofNat_of_zero_le bd3.1;rw[hp3] at bd3 hT;have bd4:=ZbE hok (show 4<7 by omega);obtain ⟨p4,hp4⟩:=Int.eq_ofNat_of_zero_le bd4.1;rw[hp4] at bd4 hT;have bd5:=ZbE hok (show 5<7 by omega);obtain ⟨p5,hp5⟩:=Int.eq_ofNat_of_zero_le bd5.1;rw[hp5] at bd5 hT;have bd6:=ZbE hok (show 6<7 by omega);obtain ⟨p6,hp6⟩:=Int.eq_ofNat_of_zero_le bd6.1;rw[hp6] at bd6 hT;clear HV;obtain ⟨ta,tc,rfl,k1,k2,k3⟩:=hI;rw[ZdK] at k2 k3 ⊢;unfold maxLen at k1;obtain ⟨g,o,rfl,lg,hc⟩:=k3 (by omega);have y0:=hc 0 (by omega);rw[ZaC (by omega),hp0] at y0;have y1:=hc 1 (by omega);rw[ZaC (by omega),hp1] at y1;have y2:=hc 2 (by omega);rw[ZaC (by omega),hp2] at y2;have y3:=hc 3 (by omega);rw[ZaC (by omega),hp3] at y3;have y4:=hc 4 (by omega);rw[ZaC (by omega),hp4] at y4;have y5:=hc 5 (by omega);rw[ZaC (by omega),hp5] at y5;have y6:=hc 6 (by omega);rw[ZaC (by omega),hp6] at y6;rw[Nat.add_zero] at y0;clear hc k3;obtain ⟨Y,hY⟩:∃ y,p0*100+p1=y:=⟨_,rfl⟩;have HT:Hid (Zbz 24 B=if exZ Y p2 p3 p4 p5 p6=false∨(4=4∧Y<2050) then .error 3 else .ok (ZbM Y p2 p3+(3600*(p4:Int)+60*(p5:Int)+(p6:Int)))):=by
    show _=_;rw[ZjP,hT,← ZjN (n:=4) (by omega) (.inr rfl)]
    congr 1
    omega
   have hYb:Y≤9999:=by omega
   clear hT;obtain ⟨q,hq⟩:∃ q,p0*100=q:=⟨_,rfl⟩;have w1:IntKind.i64.wrap ((p0:Int)*100)=(q:Int):=by rw[IntKind.wrap_i64];omega
   have w2:IntKind.i64.wrap ((q:Int)+(p1:Int))=(Y:Int):=by rw[IntKind.wrap_i64];omega
   clear hq hY;have hz:=ZnO.out;obtain ⟨S1,hS1,KB1,KI1,KD1,KL1,KA1⟩:∃ S:World→Prop,Hd S W∧Hid (∀ wx,Hd S wx→Below W.heap.size W wx)∧Hid (∀ wx,Below W.heap.size W wx→Hd S wx)∧Hid (∀ wx,Hd S wx→Hd S wx.drew)∧Hid (∀ w1 w2,Hd S w1→Below w1.heap.size w1 w2→Hd S w2)∧Hid (∀ w1 o,Hd S w1→Hd S (w1.alloc o)):=⟨fun wx=>Below W.heap.size W wx,Below.refl _ _,fun _ h=>h,fun _ h=>h,fun _ h=>h.drew,fun _ _ h hb=>Zbp h hb,fun _ o h=>Zah h⟩;have cx0:∀ wx,Hd S1 wx→wx.cell? ⟨g,o,none⟩=some (.int .i64 (p0:Int)):=fun wx h=>Zan y0 (KB1.out wx h);have cx1:∀ wx,Hd S1 wx→wx.cell? ⟨g,o+1,none⟩=some (.int .i64 (p1:Int)):=fun wx h=>Zan y1 (KB1.out wx h);have cx2:∀ wx,Hd S1 wx→wx.cell? ⟨g,o+2,none⟩=some (.int .i64 (p2:Int)):=fun wx h=>Zan y2 (KB1.out wx h);have cx3:∀ wx,Hd S1 wx→wx.cell? ⟨g,o+3,none⟩=some (.int .i64 (p3:Int)):=fun wx h=>Zan y3 (KB1.out wx h);have cx4:∀ wx,Hd S1 wx→wx.cell? ⟨g,o+4,none⟩=some (.int .i64 (p4:Int)):=fun wx h=>Zan y4 (KB1.out wx h);have cx5:∀ wx,Hd S1 wx→wx.cell? ⟨g,o+5,none⟩=some (.int .i64 (p5:Int)):=fun wx h=>Zan y5 (KB1.out wx h);have cx6:∀ wx,Hd S1 wx→wx.cell? ⟨g,o+6,none⟩=some (.int .i64 (p6:Int)):=fun wx h=>Zan y6 (KB1.out wx h);have lx:∀ wx,Hd S1 wx→g<wx.heap.size:=fun wx h=>Nat.lt_of_lt_of_le lg (KB1.out wx h).size;clear y0 y1 y2 y3 y4 y5 y6;go_upto_region 8 with fail;refine wp_region_noPanic ?_;refine wp_region_held_drew (S:=Hd S1) (by kernel_rfl) (KD1.out _ hS1) (fun hHeld=>?_);clear hS1;generalize World.drew _=wd at *;refine tkA 0 ?_;refine tkA 1 ?_;refine tkA 2 ?_;refine tkA 3 ?_;refine tkA 4 ?_;refine tkA 5 ?_;refine tkA 6 ?_;refine tkA 7 ?_;refine tkA 8 ?_;refine tkA 9 ?_;refine tkA 10 ?_;refine tkA 11 ?_;refine tkA 12 ?_;refine tkA 13 ?_;refine tkA 14 ?_;refine tkA 15 ?_;refine tkA 16 ?_;refine tkA 17 ?_;refine tkA 18 ?_;refine tkA 19 ?_;refine tkA 20 ?_;refine tkA 21 ?_;refine tkA 22 ?_;refine tkA 23 ?_;have HHw:Hid (Hd S1 wd):=hHeld;refine wpAnyH_ready (rs:=[24]) (by kernel_rfl) (by simp) ?_;refine AllReadyH.cons rfl (fun K hK=>?_) ?_
   ·go_simp
    refine hK.out _ _ ?_ (fun hHeld2=>?_)
    ·exact KA1.out _ _ hHeld
    ·clear hK K hHeld
     have hHeld:=hHeld2;clear hHeld2;clear hz;refine wpAnyH_ready (rs:=[25]) (by kernel_rfl) (by simp) ?_;refine AllReadyH.cons rfl (fun K hK=>?_) ?_
     ·have HH0:Hid (Hd S1 _):=hHeld
      rw[if_pos (by rfl)];refine wp_store_row 211 _ _ rfl wd.heap.size #[.int .i64 (Y:Int),.int .i64 (p2:Int),.int .i64 (p3:Int),.int .i64 (p4:Int),.int .i64 (p5:Int),.int .i64 (p6:Int)] rfl rfl 211 _ (heap_alloc_last _ _) (by rw[ZeQ];rfl) rfl (by simp[Value.oneCell']) ?_;rw[World.setRow_alloc_new];refine hK.out _ _ ?_ (fun hHeld2=>?_)
      ·exact KI1.out _ (Zah (KB1.out _ HHw.out))
      ·clear hK K hHeld
       have hHeld:=hHeld2;clear hHeld2;have bel5:=Zbp bel (KB1.out _ hHeld);have BM:=Blk.new wd [.int .i64 (Y:Int),.int .i64 (p2:Int),.int .i64 (p3:Int),.int .i64 (p4:Int),.int .i64 (p5:Int),.int .i64 (p6:Int)] 211 wd.heap.size rfl;refine wpAnyH_done (by kernel_rfl) ?_ _;refine NoPanic.normal ?_;clear cx0 cx1 cx2 cx3 cx4 cx5 cx6 lx hHeld HHw HH0;clear KB1 KI1 KD1 KL1 KA1;obtain ⟨gm,hgm⟩:∃ z,wd.heap.size=z:=⟨_,rfl⟩;rw[hgm] at BM ⊢;clear hgm;generalize wd.alloc (.cells #[.int .i64 (Y:Int),.int .i64 (p2:Int),.int .i64 (p3:Int),.int .i64 (p4:Int),.int .i64 (p5:Int),.int .i64 (p6:Int)] 211)=W2 at *;have lm:=BM.lt;go_wp2_with (first|(refine Zab (by rfl) (by rfl) (by rfl) (BM.load Tryz.underlying211 rfl ZeQ rfl) ?_)|fail);refine (Zgg (y:=Y) (m:=p2) (d:=p3) (h:=p4) (i:=p5) (s:=p6) (by omega)).mono ?_;rintro e w3 ⟨rfl,hb3⟩;replace BM:=BM.later hb3;replace bel5:=Zbp bel5 hb3;have f0:=BM.cell 0 _ rfl;replace lm:=BM.lt
       cases hq:exZ Y p2 p3 p4 p5 p6 with
       | false =>
        have H:Hid (Zbz 24 B=.error 3):=by show _=_;rw[HT.out,if_pos (.inl hq)]
        clear hq;go_wp2_with fail;refine bodyPost_ret (results_tmp2 rfl _ _ _) rfl ?_;exact ZjZ.bad H.out bel5
       | true =>
        have HQ:Hid (1≤p2∧p2≤12):=by
         unfold exZ at hq;have:=of_decide_eq_true hq;exact ⟨this.1,this.2.1⟩
        have HQf:Hid (¬ exZ Y p2 p3 p4 p5 p6=false):=by show ¬ _;rw[hq];decide
        clear hq
        by_cases cy:Y<2050
        ·have H:Hid (Zbz 24 B=.error 3):=by show _=_;rw[HT.out,if_pos (.inr ⟨by first|trivial|rfl,cy⟩)]
         have gy:(Y:Int)<2050:=by omega
         go_wp2_with fail;refine bodyPost_ret (results_tmp2 rfl _ _ _) rfl ?_;exact ZjZ.bad H.out bel5
        ·have gy:¬ (Y:Int)<2050:=by omega
         have H:Hid (Zbz 24 B=.ok (ZbM Y p2 p3+(3600*(p4:Int)+60*(p5:Int)+(p6:Int)))):=by show _=_;rw[HT.out,if_neg (by rintro (k|⟨_,k⟩);exact HQf.out k;exact cy k)]
         go_wp2_with (first|(refine Zab (by rfl) (by rfl) (by rfl) (BM.load Tryz.underlying211 rfl ZeQ rfl) ?_)|fail);refine (Zjd (y:=Y) (m:=p2) (d:=p3) (h:=p4) (i:=p5) (s:=p6) (by omega) (by omega) HQ.out.1 HQ.out.2 (by omega) (by omega) (by omega) (by omega)).mono ?_;rintro e w4 ⟨rfl,hb4⟩;replace bel5:=Zbp bel5 hb4;obtain ⟨u,hu⟩:∃ u,ZbM Y p2 p3+(3600*(p4:Int)+60*(p5:Int)+(p6:Int))=u:=⟨_,rfl⟩;rw[hu] at H ⊢;clear hu;go_wp2_with fail;refine bodyPost_ret (results_tmp2 rfl _ _ _) rfl ?_;exact ZjZ.ok H.out bel5
     exact AllReadyH.nil
   exact AllReadyH.nil
  ·have H:Hid (Zbz tag B=.error 1):=ZpG c23 c24
   have g1:(tag == 23)=false:=by rw[beq_eq_false_iff_ne];exact c23
   have g2:(tag != 23)=true:=by rw[bne,g1];rfl
   have g3:(tag == 24)=false:=by rw[beq_eq_false_iff_ne];exact c24
   have g4:(tag != 24)=true:=by rw[bne,g3];rfl
   go_enter Tryz.func108,Tryz.ntmps108;go_wp2_with fail;refine bodyPost_ret (results_tmp2 rfl _ _ _) rfl ?_;exact ZjZ.bad H.out (Below.refl _ _)
theorem Zok {tag:Int} {v:Value} {B:List Int} {w:World} (hv:Bs w v B) (b:byt B) (_:B.length≤140737488351232) :
  Calls Tryz.prog 108 #[.int .i64 tag,v] w fun e w'=>(∀ n,Zbz tag B=.ok n→e=.returned (.tuple #[.int .i64 n,.nilIface])∧Below w.heap.size w w')∧(∀ c,Zbz tag B=.error c→e=.returned (.tuple #[.int .i64 0,.iface 46 (.int .i64 (c:Int))])∧Below w.heap.size w w'):=(Zof hv b).mono (fun _ _ h=>h)
end Go.Proofs.YtohcdbifhnfcbaaGreatDoor
