import Derived.Test.YtdfmoghjimghhaaGreatDoorCtMayC
import Derived.Test.YtdfmoghjimghhaaGreatDoorDrTG
import Derived.Test.YtdfmoghjimghhaaGreatDoorCtSize
import Derived.Test.YtdfmoghjimghhaaGreatDoorNlSG
import Derived.Test.YtdfmoghjimghhaaGreatDoorLBytes
import Derived.Test.YtdfmoghjimghhaaGreatDoorRows
import Derived.Deep.OwnRows
import Derived.Deep.AppendLies
import Derived.Great.BuildSlice
import Derived.Laws.Rows
import Derived.BigQuiet
import Derived.Deep.WholeRow
import Derived.Deep.RegionHeld3
import Derived.Deep.DeepCutAuto
import Derived.Deep.DeepFit
namespace Go.Proofs.YtdfmoghjimghhaaGreatDoor
open Go.RowKit
set_option linter.unusedSimpArgs false
set_option maxRecDepth 100000
set_option maxHeartbeats 2000000
theorem ZdF {t:Int} {ka:Option Addr} {n kc:Nat} {w:World}:Calls Tryz.prog 34 #[.int .i64 t,.slice ka n kc] w fun e w'=>e=.returned (.agg #[.int .i64 2,.int .i64 t,.bool true,.slice none 0 0,.slice ka n kc])∧Below w.heap.size w w':=by
 have R0:=Blk.new w [.int .i64 0,.int .i64 0,.bool false,.slice none 0 0,.slice none 0 0] 57 w.heap.size rfl;have bel:=bal w (.cells #[.int .i64 0,.int .i64 0,.bool false,.slice none 0 0,.slice none 0 0] 57);have hz:=Zad.out;go_enter Tryz.func34,Tryz.ntmps34;go_upto_region 1 with fail;have lW:=bel.size;generalize w.alloc (.cells #[.int .i64 0,.int .i64 0,.bool false,.slice none 0 0,.slice none 0 0] 57)=W at *;obtain ⟨tR,hR⟩:=R0;have HR1:Hid _:=hR;clear hR;go_wp2_with (first|((with_reducible show wpList _ _ _ ({ dst:=_,op:=.store _ _ _,type:=_,pos:=_,after:=_,guard:=_ } :: _) _ _);refine wpList_store_row rfl 57 _ _ rfl w.heap.size #[.int .i64 2,.int .i64 t,.bool true,.slice none 0 0,.slice ka n kc] rfl rfl tR _ HR1.out (by rw[Zab];rfl) rfl (by simp[Value.oneCell']) ?_)|fail);refine bodyPost_ret (results_cell_row rfl _ _ w.heap.size tR #[.int .i64 2,.int .i64 t,.bool true,.slice none 0 0,.slice ka n kc] (0,0) _ rfl (setRow_heap _ _ _ _ _ _ HR1.out) Tryz.underlying57 rfl (by rw[Zab];rfl)) rfl ?_;exact ⟨rfl,below_setRow bel (by omega) _⟩
theorem Zlb {w:World}:Calls Tryz.prog 23 #[] w fun e w'=>∃ gy,e=.returned (.agg #[.int .i64 0,.int .i64 1,.bool false,.slice (some ⟨gy,0,none⟩) 1 1,.slice none 0 0])∧w.heap.size<gy∧Blk w' gy [.int .u8 255]∧Below w.heap.size w w':=by
 have R0:=Blk.new w [.int .i64 0,.int .i64 0,.bool false,.slice none 0 0,.slice none 0 0] 57 w.heap.size rfl;have bel:=bal w (.cells #[.int .i64 0,.int .i64 0,.bool false,.slice none 0 0,.slice none 0 0] 57);have hz:=Zad.out;go_enter Tryz.func23,Tryz.ntmps23;go_upto_region 1 with fail;have lW:=bel.size;generalize w.alloc (.cells #[.int .i64 0,.int .i64 0,.bool false,.slice none 0 0,.slice none 0 0] 57)=W at *;have lR:=R0.lt;have B1:=Blk.new W [.int .u8 255] 5 W.heap.size rfl;replace R0:=R0.alloc (.cells #[.int .u8 255] 5);replace bel:=Zaf (o:=.cells #[.int .u8 255] 5) bel;obtain ⟨gy,hgy⟩:∃ g,g=W.heap.size:=⟨_,rfl⟩;rw[← hgy] at B1;have HB1:Hid (Blk (W.alloc (.cells #[.int .u8 255] 5)) gy [.int .u8 255]):=B1;have hlt:w.heap.size<gy:=by rw[hgy];exact lR
 clear B1;obtain ⟨tR,hR⟩:=R0;have HR1:Hid _:=hR;clear hR;rw[hgy] at HB1 hlt;clear hgy;go_wp2_with (first|((with_reducible show wpList _ _ _ ({ dst:=_,op:=.store _ _ _,type:=_,pos:=_,after:=_,guard:=_ } :: _) _ _);refine wpList_store_row rfl 57 _ _ rfl w.heap.size #[.int .i64 0,.int .i64 1,.bool false,.slice (some ⟨W.heap.size,0,none⟩) 1 1,.slice none 0 0] rfl rfl tR _ HR1.out (by rw[Zab];rfl) rfl (by simp[Value.oneCell']) ?_)|fail);refine bodyPost_ret (results_cell_row rfl _ _ w.heap.size tR #[.int .i64 0,.int .i64 1,.bool false,.slice (some ⟨W.heap.size,0,none⟩) 1 1,.slice none 0 0] (0,0) _ rfl (setRow_heap _ _ _ _ _ _ HR1.out) Tryz.underlying57 rfl (by rw[Zab];rfl)) rfl ?_;refine ⟨_,rfl,by omega,?_,below_setRow bel (by omega) _⟩;exact HB1.out.row (by omega)
theorem one_at {w:World} {b o:Nat} {x:Int} (h:w.cell? ⟨b,o,none⟩=some (.int .u8 x)) {j:Nat} (hj:j < [x].length):w.cell? ⟨b,o+j,none⟩=some (.int .u8 ([x].getD j 0)):=by
 obtain rfl:j=0:=by simpa using hj
 exact h
theorem Ze5 {w:World} {base size:Nat} {e:TypeId} {v:Value} {n:Nat} {xs:List Value} (h:w.ownsRow base e size v n xs):∃ ao cap,v=.slice ao n cap:=by
 rcases h.2 with ⟨h1,h2⟩|⟨g,cap,cur,h1,_⟩
 ·exact ⟨none,0,by rw[h1,h2]⟩
 ·exact ⟨_,cap,h1⟩
theorem ZbA {w:World} {base size:Nat} {e:TypeId} {v:Value} {n:Nat} {xs:List Value} {j:Nat} (h:w.ownsRow base e size v n xs) (hj:v.ownBlock=some j):base≤j∧j<w.heap.size:=Zat h hj
theorem Zl8 (x k:Nat):((x:Int)/2 ^ k).tmod 2=((x/2 ^ k%2:Nat):Int):=by
 rw[Int.tmod_eq_emod_of_nonneg (Int.ediv_nonneg (by omega) (Int.pow_nonneg (by omega)))]
 norm_cast
def rvN (n a:Nat):Nat→Nat
 | 0=>0
 | i+1=>2*rvN n a i+n/2 ^ (a+i)%2
theorem Zls (n a:Nat):∀ i,rvN n a i<2 ^ i
 | 0=>by simp[rvN]
 | i+1=>by
  have:=Zls n a i;rw[rvN,Nat.pow_succ];omega
theorem rvN_0 (n:Nat):rvN n 0 8=Zb2 n:=by
 simp only[rvN,Zb2,Nat.reducePow,Nat.reduceAdd,Nat.div_one];generalize n%2=a0;generalize n/2%2=a1;generalize n/4%2=a2;generalize n/8%2=a3;generalize n/16%2=a4;generalize n/32%2=a5;generalize n/64%2=a6;generalize n/128%2=a7;omega
theorem rvN_8 (n:Nat):rvN n 8 8=Zb2 (n/256):=by
 have h:∀ i,n/2 ^ (8+i)=n/256/2 ^ i:=fun i=>by rw[Nat.pow_add,Nat.div_div_eq_div_mul]
 simp only[rvN,Zb2,h,Nat.reducePow,Nat.div_one];generalize n/256%2=a0;generalize n/256/2%2=a1;generalize n/256/4%2=a2;generalize n/256/8%2=a3;generalize n/256/16%2=a4;generalize n/256/32%2=a5;generalize n/256/64%2=a6;generalize n/256/128%2=a7;omega
theorem Zlk (n:Nat):Zb2 n<256:=by
 unfold Zb2;have h:∀ m,m%2<2:=fun m=>Nat.mod_lt _ (by omega);have h0:=h (n);have h1:=h (n/2);have h2:=h (n/4);have h3:=h (n/8);have h4:=h (n/16);have h5:=h (n/32);have h6:=h (n/64);have h7:=h (n/128);generalize n%2=a0 at *;generalize n/2%2=a1 at *;generalize n/4%2=a2 at *;generalize n/8%2=a3 at *;generalize n/16%2=a4 at *;generalize n/32%2=a5 at *;generalize n/64%2=a6 at *;generalize n/128%2=a7 at *;omega
theorem Zla {n:Nat} {w:World} (hn:0<n) (hn2:n<65536) :
  Calls Tryz.prog 27 #[.int .i64 (n:Int)] w fun e w'=>∃ cs:List Value,e=.returned (.agg cs.toArray)∧Dep (fun g=>w.heap.size≤g) w' (ZeA n) cs∧Below w.heap.size w w':=by
 have HN:Hid (0<n∧n<65536):=⟨hn,hn2⟩;have R0:=Blk.new w [.int .i64 0,.int .i64 0,.bool false,.slice none 0 0,.slice none 0 0] 57 w.heap.size rfl;have bel:=bal w (.cells #[.int .i64 0,.int .i64 0,.bool false,.slice none 0 0,.slice none 0 0] 57);have hz:=Zad.out;go_enter Tryz.func27,Tryz.ntmps27;go_upto_region 1 with fail;have lW:=bel.size;generalize w.alloc (.cells #[.int .i64 0,.int .i64 0,.bool false,.slice none 0 0,.slice none 0 0] 57)=W at *;clear hz;have lR:=R0.lt;obtain ⟨N0,hN0⟩:∃ n,n=W.heap.size:=⟨_,rfl⟩;rw[← hN0] at lR lW;have hs:N0≤W.heap.size:=by omega
 clear hN0;go_wp2_with fail;go_loopw [3,4] (fun bv av wx=>∃ j:Nat,j≤2∧av=.int .i64 ((8*j:Nat):Int)∧wx.ownsRow N0 5 1 bv j (u8s ([(Zb2 n:Int),(Zb2 (n/256):Int)].take j))∧Blk wx w.heap.size [.int .i64 0,.int .i64 0,.bool false,.slice none 0 0,.slice none 0 0]∧Below w.heap.size w wx∧N0≤wx.heap.size) (fun _ av _=>16-(intOf av).toNat)
 case atStart=>exact ⟨0,by omega,rfl,World.ownsRow_nil _ _ _ _,R0,bel,hs⟩
 case round =>
  clear R0 bel hs;obtain ⟨j,hj,rfl,own,R0,bel,hs⟩:=hrel;obtain ⟨ba,bc,hbv⟩:=Ze5 own;subst hbv;obtain ⟨A,hA⟩:∃ A,8*j=A:=⟨_,rfl⟩;have HA:Hid (8*j=A):=hA;rw[hA]
  by_cases hj2:j<2
  ·have g1:(A:Int)<16:=by omega
   have g9:IntKind.i64.wrap ((A:Int)+8)=((8*(j+1):Nat):Int):=by rw[IntKind.wrap_i64];omega
   go_wp2_with fail;obtain ⟨w9,hw9⟩:∃ w9,w9=wr:=⟨_,rfl⟩;rw[← hw9] at own R0 bel hs ⊢;clear hw9;go_loopw [5,6] (fun vv iv wx=>∃ i:Nat,i≤8∧iv=.int .i64 (i:Int)∧vv=.int .i64 (rvN n A i:Int)∧Hid (wx=w9)) (fun _ iv _=>8-(intOf iv).toNat)
   case atStart=>exact ⟨0,by omega,rfl,rfl,rfl⟩
   case round =>
    obtain⟨i,hi,rfl,rfl,HWr⟩:=hrel;obtain rfl:=HWr.out
    by_cases hi8:i<8
    ·have k1:(i:Int)<8:=by omega
     obtain⟨v,hv⟩:∃ v,rvN n A i=v:=⟨_,rfl⟩;have hvl:v<256:=by have h1:=Zls n A i;have h2:2 ^ i≤2 ^ 8:=Nat.pow_le_pow_right (by omega) (by omega);have h3:(2:Nat) ^ 8=256:=rfl;omega
     have HV:Hid (rvN n A (i+1)=2*v+n/2 ^ (A+i)%2):=by show _=_;rw[rvN,hv]
     obtain⟨s,hs9⟩:∃ s,A+i=s:=⟨_,rfl⟩;rw[hs9] at HV;obtain ⟨d,hd⟩:∃ d,n/2 ^ s%2=d:=⟨_,rfl⟩;have hd2:d<2:=by omega
     rw[hd] at HV;have k2:IntKind.i64.wrap ((A:Int)+(i:Int))=(s:Int):=by rw[IntKind.wrap_i64];omega
     have k3:IntKind.i64.wrap (2*(v:Int))=((2*v:Nat):Int):=by rw[IntKind.wrap_i64];omega
     have k4:¬ (s:Int)<0:=by omega
     have k5:min s 64=s:=by omega
     have k6:=Zl8 n s;rw[hd] at k6;have k7:IntKind.i64.wrap (((2*v:Nat):Int)+(d:Int))=((2*v+d:Nat):Int):=by rw[IntKind.wrap_i64];omega
     have k8:IntKind.i64.wrap ((i:Int)+1)=(i:Int)+1:=by rw[IntKind.wrap_i64];omega
     rw[hv];clear hv hd hs9;go_wp2_with fail;go_roundw
     case rel=>exact ⟨i+1,by omega,by go_num,by rw[HV.out];go_num,by first|trivial|rfl⟩
     case measure=>simp[intOf];omega
    ·obtain rfl:i=8:=by omega
     obtain⟨v,hv⟩:∃ v,rvN n A 8=v:=⟨_,rfl⟩;have hvl:v<256:=by have h1:=Zls n A 8;have h3:(2:Nat) ^ 8=256:=rfl;omega
     have HV:Hid ([(Zb2 n:Int),(Zb2 (n/256):Int)].take (j+1)=[(Zb2 n:Int),(Zb2 (n/256):Int)].take j++[(v:Int)]):=by
      have ha:=HA.out;rcases (show j=0∨j=1 by omega) with rfl|rfl
      ·obtain rfl:A=0:=by omega
       rw[rvN_0] at hv;rw[← hv];rfl
      ·obtain rfl:A=8:=by omega
       rw[rvN_8] at hv;rw[← hv];rfl
     have k1:¬ ((8:Nat):Int)<8:=by omega
     have gw:IntKind.u8.wrap (v:Int)=(v:Int):=by rw[IntKind.wrap_u8];omega
     have gw2:(v:Int)%256=(v:Int):=by omega
     rw[hv];clear hv;have bl:=Zbi wr [(v:Int)] (by unfold maxLen;simp);have own1:=own.alloc (.cells (u8s [(v:Int)]).toArray 5);have bsz:N0≤(wr.alloc (.cells (u8s [(v:Int)]).toArray 5)).heap.size:=Nat.le_trans hs ((Below.refl _ _).alloc (Nat.le_refl _) _).size;replace R0:=R0.alloc (.cells (u8s [(v:Int)]).toArray 5);replace bel:=Zaf (o:=.cells (u8s [(v:Int)]).toArray 5) bel;go_wp2_with (first|(at_builtin;refine Zac (by rfl) _ _ (by rfl) N0 _ j _ (by rfl) own1 _ [(v:Int)] (by rfl) bl (by simp;omega) bsz ?_;intro v8 w8 own8 hgrow hat)|fail);rw[← HV.out] at own8;have hsz:=bel.size;have bel9:=Below.grown bel hgrow hsz (fun k hk=>by have:=(ZbA own1 hk).1;omega);have R9:=R0.grown hgrow (fun k hk e=>by have:=(ZbA own1 hk).1;omega);have hs9:N0≤w8.heap.size:=Nat.le_trans bsz hgrow.size;clear hgrow hat own1 R0 bel;go_roundw
     case rel=>exact ⟨j+1,by omega,by go_num,own8,R9,bel9,hs9⟩
     case measure=>have:=HA.out;simp[intOf];omega
  ·generalize wr=wq at *
   obtain rfl:j=2:=by omega
   obtain rfl:A=16:=by have:=HA.out;omega
   have g1:¬ ((16:Nat):Int)<16:=by omega
   obtain⟨x,hx⟩:∃ x,Zb2 n=x:=⟨_,rfl⟩;obtain ⟨y,hy⟩:∃ y,Zb2 (n/256)=y:=⟨_,rfl⟩;have hx2:x<256:=by rw[← hx];exact Zlk _
   have hy2:y<256:=by rw[← hy];exact Zlk _
   have HU:Hid (ZjD n=if y=0 then [(Zct 8 x:Int),(x:Int)] else [(Zct 8 y:Int),(x:Int),(y:Int)]):=by show _=_;unfold ZjD;rw[hx,hy]
   rw[hx,hy] at own;clear hx hy;have HB:Hid (Bs wq (.slice ba 2 bc) [(x:Int),(y:Int)]):=Bs.of_own own;obtain ⟨gb,ob,hba,hbl,hbc⟩:∃ b o,ba=some ⟨b,o,none⟩∧b<wq.heap.size∧∀ j,j<2→wq.cell? ⟨b,o+j,none⟩=some (.int .u8 ([(x:Int),(y:Int)].getD j 0)):=by
    obtain⟨ao,cp,e9,_,_,h9⟩:=HB.out;obtain ⟨b,o,e2,h1,h2⟩:=h9 (by show 0<2;omega);simp only[Value.slice.injEq] at e9;exact ⟨b,o,by rw[e9.1,e2],h1,fun j hj=>h2 j hj⟩
   subst hba;have u0:wq.cell? ⟨gb,ob,none⟩=some (.int .u8 (x:Int)):=hbc 0 (by omega);have u1:wq.cell? ⟨gb,ob+1,none⟩=some (.int .u8 (y:Int)):=hbc 1 (by omega);have hc2:2≤bc:=by obtain ⟨_,_,e9,_,h9,_⟩:=HB.out;simp only[Value.slice.injEq] at e9;rw[e9.2.2];exact h9
   have HOw:Hid (N0≤gb):=(ZbA own (j:=gb) rfl).1;clear own hbc
   by_cases hy0:y=0
   ·have d1:((y:Int) == 0)=true:=by rw[hy0];rfl
    have k1:IntKind.i64.wrap ((1:Nat):Int)=1:=by decide
    have HB2:Hid (Bs wq (.slice (some ⟨gb,ob,none⟩) 1 bc) [(x:Int)]):=⟨_,bc,rfl,by obtain ⟨_,_,e9,h9,_,_⟩:=HB.out;simp only[Value.slice.injEq] at e9;rw[e9.2.2];exact h9,by show 1≤bc;omega,fun _=>⟨gb,ob,rfl,hbl,fun j hj=>one_at u0 hj⟩⟩;go_wp2_with fail;go_loopw [7,8] (fun lv fv wx=>∃ (f z:Nat),f≤8∧z<256∧fv=.int .i64 (f:Int)∧lv=.int .i64 (z:Int)∧Hid (Zct 8 x=f+Zct (8-f) z)∧Hid (wx=wq)) (fun _ fv _=>8-(intOf fv).toNat)
    case atStart=>exact ⟨0,x,by omega,by omega,rfl,rfl,by show _=_;rw[Nat.sub_zero,Nat.zero_add],rfl⟩
    case round =>
     obtain⟨f,z,hf,hz2,rfl,rfl,HF,HWr⟩:=hrel;obtain rfl:=HWr.out;have m1:(z:Int).tmod 2=((z%2:Nat):Int):=by rw[Int.tmod_eq_emod_of_nonneg (by omega)];norm_cast
     by_cases hz0:z%2=0
     ·rw[hz0] at m1
      by_cases hf8:f<8
      ·have k1:(f:Int)<8:=by omega
       have k2:(z:Int).tdiv 2=((z/2:Nat):Int):=by rw[Int.tdiv_eq_ediv_of_nonneg (by omega)];norm_cast
       have k3:IntKind.i64.wrap ((z/2:Nat):Int)=((z/2:Nat):Int):=by rw[IntKind.wrap_i64];omega
       have k4:IntKind.i64.wrap ((f:Int)+1)=(f:Int)+1:=by rw[IntKind.wrap_i64];omega
       have HF2:Hid (Zct 8 x=f+1+Zct (8-(f+1)) (z/2)):=by
        show _=_;rw[HF.out,show 8-f=(8-(f+1))+1 by omega,Zct,if_pos hz0];omega
       go_wp2_with fail;go_roundw
       case rel=>exact ⟨f+1,z/2,by omega,by omega,by go_num,rfl,HF2,by first|trivial|rfl⟩
       case measure=>simp[intOf];omega
      ·have k1:¬ (f:Int)<8:=by omega
       have HFF:Hid (Zct 8 x=f):=by
        have h9:=HF.out;show _=_;generalize Zct 8 x=T9 at h9 ⊢;rw[show 8-f=0 by omega,Zct] at h9;omega
       have bl:=Zbi wr [(f:Int)] (by unfold maxLen;simp);have ownf:=Zax wr (u8s [(f:Int)]) 5 1 N0 rfl hs (by decide);have gw:IntKind.u8.wrap (f:Int)=(f:Int):=by rw[IntKind.wrap_u8];omega
       have gw2:(f:Int)%256=(f:Int):=by omega
       have stf:=bal wr (.cells (u8s [(f:Int)]).toArray 5);have HB3:Hid (Bs (wr.alloc (.cells (u8s [(f:Int)]).toArray 5)) (.slice (some ⟨gb,ob,none⟩) 1 bc) [(x:Int)]):=HB2.out.later stf;have bsz:N0≤(wr.alloc (.cells (u8s [(f:Int)]).toArray 5)).heap.size:=Nat.le_trans hs stf.size;replace R0:=R0.later stf;replace bel:=Zaa bel stf;have hsz:=bel.size;go_wp2_with (first|(at_builtin;refine Zac (by rfl) _ _ (by rfl) N0 _ 1 [(f:Int)] (by rfl) ownf _ [(x:Int)] (by rfl) HB3.out (by simp) bsz ?_;intro v8 w8 own8 hgrow hat;obtain ⟨fa,fc,hfv⟩:=Ze5 own8;subst hfv;have HOw8:Hid _:=own8;have R9:=R0.grown hgrow (fun k hk e=>by have:=(ZbA ownf hk).1;omega);have bel9:=Below.grown bel hgrow hsz (fun k hk=>by have:=(ZbA ownf hk).1;omega);obtain ⟨tR,hR⟩:=R9;have HR1:Hid _:=hR;clear hR hgrow hat own8)|((with_reducible show wpList _ _ _ ({ dst:=_,op:=.store _ _ _,type:=_,pos:=_,after:=_,guard:=_ } :: _) _ _);refine wpList_store_row rfl 57 _ _ rfl w.heap.size #[.int .i64 0,.int .i64 3,.bool false,.slice fa _ fc,.slice none 0 0] rfl rfl tR _ HR1.out (by rw[Zab];rfl) rfl (by simp[Value.oneCell']) ?_)|fail);refine bodyPost_ret (results_cell_row rfl _ _ w.heap.size tR #[.int .i64 0,.int .i64 3,.bool false,.slice fa _ fc,.slice none 0 0] (0,0) _ rfl (setRow_heap _ _ _ _ _ _ HR1.out) Tryz.underlying57 rfl (by rw[Zab];rfl)) rfl ?_;have HU2:Hid (ZjD n=[(f:Int)]++[(x:Int)]):=by show _=_;rw[HU.out,if_pos hy0,HFF.out];rfl
       refine⟨_,rfl,?_,below_setRow bel9 (by omega) _⟩;have hlf:=Zb0 (S:=fun b=>N0≤b) HOw8.out rfl (fun g hg=>(ZbA HOw8.out hg).1) 0 3 false;rw[← HU2.out] at hlf;exact ZaB hlf lR lW
     ·have m2:((z%2:Nat):Int)=1:=by omega
      rw[m2] at m1;have HFF:Hid (Zct 8 x=f):=by
       have h9:=HF.out;show _=_;generalize Zct 8 x=T9 at h9 ⊢;obtain ⟨q,hq⟩:∃ q,8-f=q:=⟨_,rfl⟩;rw[hq] at h9
       cases q with
       | zero=>rw[Zct] at h9;omega
       | succ q=>rw[Zct,if_neg hz0] at h9;omega
      have bl:=Zbi wr [(f:Int)] (by unfold maxLen;simp);have ownf:=Zax wr (u8s [(f:Int)]) 5 1 N0 rfl hs (by decide);have gw:IntKind.u8.wrap (f:Int)=(f:Int):=by rw[IntKind.wrap_u8];omega
      have gw2:(f:Int)%256=(f:Int):=by omega
      have stf:=bal wr (.cells (u8s [(f:Int)]).toArray 5);have HB3:Hid (Bs (wr.alloc (.cells (u8s [(f:Int)]).toArray 5)) (.slice (some ⟨gb,ob,none⟩) 1 bc) [(x:Int)]):=HB2.out.later stf;have bsz:N0≤(wr.alloc (.cells (u8s [(f:Int)]).toArray 5)).heap.size:=Nat.le_trans hs stf.size;replace R0:=R0.later stf;replace bel:=Zaa bel stf;have hsz:=bel.size;go_wp2_with (first|(at_builtin;refine Zac (by rfl) _ _ (by rfl) N0 _ 1 [(f:Int)] (by rfl) ownf _ [(x:Int)] (by rfl) HB3.out (by simp) bsz ?_;intro v8 w8 own8 hgrow hat;obtain ⟨fa,fc,hfv⟩:=Ze5 own8;subst hfv;have HOw8:Hid _:=own8;have R9:=R0.grown hgrow (fun k hk e=>by have:=(ZbA ownf hk).1;omega);have bel9:=Below.grown bel hgrow hsz (fun k hk=>by have:=(ZbA ownf hk).1;omega);obtain ⟨tR,hR⟩:=R9;have HR1:Hid _:=hR;clear hR hgrow hat own8)|((with_reducible show wpList _ _ _ ({ dst:=_,op:=.store _ _ _,type:=_,pos:=_,after:=_,guard:=_ } :: _) _ _);refine wpList_store_row rfl 57 _ _ rfl w.heap.size #[.int .i64 0,.int .i64 3,.bool false,.slice fa _ fc,.slice none 0 0] rfl rfl tR _ HR1.out (by rw[Zab];rfl) rfl (by simp[Value.oneCell']) ?_)|fail);refine bodyPost_ret (results_cell_row rfl _ _ w.heap.size tR #[.int .i64 0,.int .i64 3,.bool false,.slice fa _ fc,.slice none 0 0] (0,0) _ rfl (setRow_heap _ _ _ _ _ _ HR1.out) Tryz.underlying57 rfl (by rw[Zab];rfl)) rfl ?_;have HU2:Hid (ZjD n=[(f:Int)]++[(x:Int)]):=by show _=_;rw[HU.out,if_pos hy0,HFF.out];rfl
      refine⟨_,rfl,?_,below_setRow bel9 (by omega) _⟩;have hlf:=Zb0 (S:=fun b=>N0≤b) HOw8.out rfl (fun g hg=>(ZbA HOw8.out hg).1) 0 3 false;rw[← HU2.out] at hlf;exact ZaB hlf lR lW
   ·have d1:((y:Int) == 0)=false:=by rw[beq_eq_false_iff_ne];omega
    have HB2:Hid (Bs wq (.slice (some ⟨gb,ob,none⟩) 2 bc) [(x:Int),(y:Int)]):=HB.out;go_wp2_with fail;go_loopw [7,8] (fun lv fv wx=>∃ (f z:Nat),f≤8∧z<256∧fv=.int .i64 (f:Int)∧lv=.int .i64 (z:Int)∧Hid (Zct 8 y=f+Zct (8-f) z)∧Hid (wx=wq)) (fun _ fv _=>8-(intOf fv).toNat)
    case atStart=>exact ⟨0,y,by omega,by omega,rfl,rfl,by show _=_;rw[Nat.sub_zero,Nat.zero_add],rfl⟩
    case round =>
     obtain⟨f,z,hf,hz2,rfl,rfl,HF,HWr⟩:=hrel;obtain rfl:=HWr.out;have m1:(z:Int).tmod 2=((z%2:Nat):Int):=by rw[Int.tmod_eq_emod_of_nonneg (by omega)];norm_cast
     by_cases hz0:z%2=0
     ·rw[hz0] at m1
      by_cases hf8:f<8
      ·have k1:(f:Int)<8:=by omega
       have k2:(z:Int).tdiv 2=((z/2:Nat):Int):=by rw[Int.tdiv_eq_ediv_of_nonneg (by omega)];norm_cast
       have k3:IntKind.i64.wrap ((z/2:Nat):Int)=((z/2:Nat):Int):=by rw[IntKind.wrap_i64];omega
       have k4:IntKind.i64.wrap ((f:Int)+1)=(f:Int)+1:=by rw[IntKind.wrap_i64];omega
       have HF2:Hid (Zct 8 y=f+1+Zct (8-(f+1)) (z/2)):=by
        show _=_;rw[HF.out,show 8-f=(8-(f+1))+1 by omega,Zct,if_pos hz0];omega
       go_wp2_with fail;go_roundw
       case rel=>exact ⟨f+1,z/2,by omega,by omega,by go_num,rfl,HF2,by first|trivial|rfl⟩
       case measure=>simp[intOf];omega
      ·have k1:¬ (f:Int)<8:=by omega
       have HFF:Hid (Zct 8 y=f):=by
        have h9:=HF.out;show _=_;generalize Zct 8 y=T9 at h9 ⊢;rw[show 8-f=0 by omega,Zct] at h9;omega
       have bl:=Zbi wr [(f:Int)] (by unfold maxLen;simp);have ownf:=Zax wr (u8s [(f:Int)]) 5 1 N0 rfl hs (by decide);have gw:IntKind.u8.wrap (f:Int)=(f:Int):=by rw[IntKind.wrap_u8];omega
       have gw2:(f:Int)%256=(f:Int):=by omega
       have stf:=bal wr (.cells (u8s [(f:Int)]).toArray 5);have HB3:Hid (Bs (wr.alloc (.cells (u8s [(f:Int)]).toArray 5)) (.slice (some ⟨gb,ob,none⟩) 2 bc) [(x:Int),(y:Int)]):=HB2.out.later stf;have bsz:N0≤(wr.alloc (.cells (u8s [(f:Int)]).toArray 5)).heap.size:=Nat.le_trans hs stf.size;replace R0:=R0.later stf;replace bel:=Zaa bel stf;have hsz:=bel.size;go_wp2_with (first|(at_builtin;refine Zac (by rfl) _ _ (by rfl) N0 _ 1 [(f:Int)] (by rfl) ownf _ [(x:Int),(y:Int)] (by rfl) HB3.out (by simp) bsz ?_;intro v8 w8 own8 hgrow hat;obtain ⟨fa,fc,hfv⟩:=Ze5 own8;subst hfv;have HOw8:Hid _:=own8;have R9:=R0.grown hgrow (fun k hk e=>by have:=(ZbA ownf hk).1;omega);have bel9:=Below.grown bel hgrow hsz (fun k hk=>by have:=(ZbA ownf hk).1;omega);obtain ⟨tR,hR⟩:=R9;have HR1:Hid _:=hR;clear hR hgrow hat own8)|((with_reducible show wpList _ _ _ ({ dst:=_,op:=.store _ _ _,type:=_,pos:=_,after:=_,guard:=_ } :: _) _ _);refine wpList_store_row rfl 57 _ _ rfl w.heap.size #[.int .i64 0,.int .i64 3,.bool false,.slice fa _ fc,.slice none 0 0] rfl rfl tR _ HR1.out (by rw[Zab];rfl) rfl (by simp[Value.oneCell']) ?_)|fail);refine bodyPost_ret (results_cell_row rfl _ _ w.heap.size tR #[.int .i64 0,.int .i64 3,.bool false,.slice fa _ fc,.slice none 0 0] (0,0) _ rfl (setRow_heap _ _ _ _ _ _ HR1.out) Tryz.underlying57 rfl (by rw[Zab];rfl)) rfl ?_;have HU2:Hid (ZjD n=[(f:Int)]++[(x:Int),(y:Int)]):=by show _=_;rw[HU.out,if_neg hy0,HFF.out];rfl
       refine⟨_,rfl,?_,below_setRow bel9 (by omega) _⟩;have hlf:=Zb0 (S:=fun b=>N0≤b) HOw8.out rfl (fun g hg=>(ZbA HOw8.out hg).1) 0 3 false;rw[← HU2.out] at hlf;exact ZaB hlf lR lW
     ·have m2:((z%2:Nat):Int)=1:=by omega
      rw[m2] at m1;have HFF:Hid (Zct 8 y=f):=by
       have h9:=HF.out;show _=_;generalize Zct 8 y=T9 at h9 ⊢;obtain ⟨q,hq⟩:∃ q,8-f=q:=⟨_,rfl⟩;rw[hq] at h9
       cases q with
       | zero=>rw[Zct] at h9;omega
       | succ q=>rw[Zct,if_neg hz0] at h9;omega
      have bl:=Zbi wr [(f:Int)] (by unfold maxLen;simp);have ownf:=Zax wr (u8s [(f:Int)]) 5 1 N0 rfl hs (by decide);have gw:IntKind.u8.wrap (f:Int)=(f:Int):=by rw[IntKind.wrap_u8];omega
      have gw2:(f:Int)%256=(f:Int):=by omega
      have stf:=bal wr (.cells (u8s [(f:Int)]).toArray 5);have HB3:Hid (Bs (wr.alloc (.cells (u8s [(f:Int)]).toArray 5)) (.slice (some ⟨gb,ob,none⟩) 2 bc) [(x:Int),(y:Int)]):=HB2.out.later stf;have bsz:N0≤(wr.alloc (.cells (u8s [(f:Int)]).toArray 5)).heap.size:=Nat.le_trans hs stf.size;replace R0:=R0.later stf;replace bel:=Zaa bel stf;have hsz:=bel.size;go_wp2_with (first|(at_builtin;refine Zac (by rfl) _ _ (by rfl) N0 _ 1 [(f:Int)] (by rfl) ownf _ [(x:Int),(y:Int)] (by rfl) HB3.out (by simp) bsz ?_;intro v8 w8 own8 hgrow hat;obtain ⟨fa,fc,hfv⟩:=Ze5 own8;subst hfv;have HOw8:Hid _:=own8;have R9:=R0.grown hgrow (fun k hk e=>by have:=(ZbA ownf hk).1;omega);have bel9:=Below.grown bel hgrow hsz (fun k hk=>by have:=(ZbA ownf hk).1;omega);obtain ⟨tR,hR⟩:=R9;have HR1:Hid _:=hR;clear hR hgrow hat own8)|((with_reducible show wpList _ _ _ ({ dst:=_,op:=.store _ _ _,type:=_,pos:=_,after:=_,guard:=_ } :: _) _ _);refine wpList_store_row rfl 57 _ _ rfl w.heap.size #[.int .i64 0,.int .i64 3,.bool false,.slice fa _ fc,.slice none 0 0] rfl rfl tR _ HR1.out (by rw[Zab];rfl) rfl (by simp[Value.oneCell']) ?_)|fail);refine bodyPost_ret (results_cell_row rfl _ _ w.heap.size tR #[.int .i64 0,.int .i64 3,.bool false,.slice fa _ fc,.slice none 0 0] (0,0) _ rfl (setRow_heap _ _ _ _ _ _ HR1.out) Tryz.underlying57 rfl (by rw[Zab];rfl)) rfl ?_;have HU2:Hid (ZjD n=[(f:Int)]++[(x:Int),(y:Int)]):=by show _=_;rw[HU.out,if_neg hy0,HFF.out];rfl
      refine⟨_,rfl,?_,below_setRow bel9 (by omega) _⟩;have hlf:=Zb0 (S:=fun b=>N0≤b) HOw8.out rfl (fun g hg=>(ZbA HOw8.out hg).1) 0 3 false;rw[← HU2.out] at hlf;exact ZaB hlf lR lW
end Go.Proofs.YtdfmoghjimghhaaGreatDoor
