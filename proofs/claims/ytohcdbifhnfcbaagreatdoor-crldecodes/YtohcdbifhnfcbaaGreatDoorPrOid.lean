import Derived.Test.YtohcdbifhnfcbaaGreatDoorPrG
import Derived.Test.YtohcdbifhnfcbaaGreatDoorPrOidN
import Derived.Test.YtohcdbifhnfcbaaGreatDoorPrOidOf
import Derived.Test.YtohcdbifhnfcbaaGreatDoorRows
import Derived.Deep.OwnRows
import Derived.Deep.AppendLies
import Derived.Great.BuildSlice
import Derived.Deep.WholeRow
import Derived.Deep.RegionHeld3
import Derived.Deep.DeepCutAuto
import Derived.Deep.DeepFit
namespace Go.Proofs.YtohcdbifhnfcbaaGreatDoor
open Go.RowKit
set_option linter.unusedSimpArgs false
set_option maxRecDepth 100000
set_option maxHeartbeats 4000000
theorem Zqm {v:Value} {B:List Int} {w:World} (hv:Bs w v B) (b:byt B) :
  Calls Tryz.prog 164 #[v] w fun e w'=>e=.returned (.bool (okF B true && decide (0<B.length)))∧w'=w:=by
 have HB:Hid (byt B):=b;obtain ⟨ao,cap,rfl,h1,h2,h3⟩:=hv;obtain ⟨N,hN⟩:∃ N,B.length=N:=⟨_,rfl⟩;have HN:Hid (B.length=N):=hN;rw[hN] at h2 h3 ⊢;have HC:Hid (∀ j,j<N→∃ g o,ao=some ⟨g,o,none⟩∧w.cell? ⟨g,o+j,none⟩=some (.int .u8 (B.getD j 0))∧g<w.heap.size):=fun j hj=>by
  obtain⟨g,o,e1,e2,e3⟩:=h3 (by omega);exact ⟨g,o,e1,e3 j hj,e2⟩
 unfold maxLen at h1;clear b h3 hN;have hD:decide (0<N)=decide ((0:Int)<(N:Int)):=by
  by_cases c:0<N
  ·rw[decide_eq_true c,decide_eq_true (by omega)]
  ·rw[decide_eq_false c,decide_eq_false (by omega)]
 rw[hD];obtain ⟨r,hr⟩:∃ r,(okF B true && decide ((0:Int)<(N:Int)))=r:=⟨_,rfl⟩;have HR:Hid ((okF B true && decide ((0:Int)<(N:Int)))=r):=hr;rw[hr];clear hr hD;go_enter Tryz.func164,Tryz.ntmps164;go_wp2_with fail;go_loop [3,8] (fun ev iv=>∃ (i:Nat) (beg:Bool),i≤N∧iv=.int .i64 (i:Int)∧ev=.bool beg∧Hid (okF B true=okF (B.drop i) beg)) (fun _ iv=>N-(intOf iv).toNat)
 case atStart=>exact ⟨0,true,by omega,rfl,rfl,rfl⟩
 case round =>
  obtain⟨i,beg,hi,rfl,rfl,HE⟩:=hrel
  by_cases hil:i<N
  ·have k1:(i:Int)<(N:Int):=by omega
   have k2:(0:Int)≤(i:Int):=by omega
   have gi:IntKind.i64.wrap ((i:Int)+1)=(i:Int)+1:=by rw[IntKind.wrap_i64];omega
   obtain⟨g,o,rfl,cy,lg⟩:=HC.out i hil;have yb:=HB.out i;have HNx:Hid (¬ (beg=true∧B.getD i 0=128)→okF (B.drop i) beg=okF (B.drop (i+1)) (decide (B.getD i 0<128))):=fun h=>ZoU (by rw[HN.out];exact hil) h;have HSt:Hid (B.getD i 0=128→okF (B.drop i) true=false):=fun h=>ZoV (by rw[HN.out];exact hil) h;obtain ⟨y,hy⟩:∃ y,B.getD i 0=y:=⟨_,rfl⟩;rw[hy] at cy yb HNx HSt;clear hy
   cases beg with
   | true =>
    by_cases c1:y=128
    ·have H:r=false:=by rw[← HR.out,HE.out,HSt.out c1];rfl
     subst H;clear HNx HSt;have c2:(y == 128)=true:=by rw[c1];rfl
     go_wp2_with fail;go_ret;exact ⟨rfl,rfl⟩
    ·have HE2:Hid (okF B true=okF (B.drop (i+1)) (decide (y<128))):=by show _=_;rw[HE.out,HNx.out (fun h=>c1 h.2)]
     clear HNx HSt HE;have c2:(y == 128)=false:=by rw[beq_eq_false_iff_ne];exact c1
     go_wp2_with fail;go_round
     case rel=>exact ⟨i+1,decide (y<128),by omega,by go_num,rfl,HE2⟩
     case measure=>simp[intOf];omega
   | false =>
    have HE2:Hid (okF B true=okF (B.drop (i+1)) (decide (y<128))):=by show _=_;rw[HE.out,HNx.out (fun h=>absurd h.1 (by decide))]
    clear HNx HSt HE;go_wp2_with fail;go_round
    case rel=>exact ⟨i+1,decide (y<128),by omega,by go_num,rfl,HE2⟩
    case measure=>simp[intOf];omega
  ·have k1:¬ (i:Int)<(N:Int):=by omega
   have HK:Hid (okF B true=beg):=by show _=_;rw[HE.out,List.drop_of_length_le (by rw[HN.out];omega),okF]
   have H:r=(beg && decide ((0:Int)<(N:Int))):=by rw[← HR.out,HK.out]
   clear HE HK HR;subst H
   cases beg with
   | true =>
    go_wp2_with fail;go_ret;exact ⟨rfl,rfl⟩
   | false =>
    go_wp2_with fail;go_ret;exact ⟨rfl,rfl⟩
theorem ZiY (a b:Nat) (ha:a<18446744073709551616) (hb:b<18446744073709551616):bits .or .u64 (a:Int) (b:Int)=((a ||| b:Nat):Int):=by
 have hx:a ||| b<2 ^ 64:=Nat.or_lt_two_pow (by omega) (by omega);show IntKind.u64.wrap ((BitVec.ofInt 64 (a:Int) ||| BitVec.ofInt 64 (b:Int)).toNat:Int)=_;rw[BitVec.toNat_or,ofInt_u64 a (by omega),ofInt_u64 b (by omega),IntKind.wrap_u64];omega
theorem ZoW {n x:Nat} (hn:n≤1099511627776) (hx:x<128):bits .or .u64 ((128*n:Nat):Int) (x:Int)=((128*n+x:Nat):Int):=by
 rw[ZiY _ _ (by omega) (by omega)];have:=Nat.two_pow_add_eq_or_of_lt (i:=7) (b:=x) (by omega) n;rw[show (2:Nat) ^ 7=128 from rfl] at this;rw[this]
theorem ZlB {v:Value} {B:List Int} {w:World} (hv:Bs w v B) (b:byt B) :
  Calls Tryz.prog 165 #[v] w fun e w'=>∃ v',e=.returned (.tuple #[.int .u64 (Zcm B 0).1,v'])∧(∀ wx,Bs wx v B→Bs wx v' (B.drop (Zcm B 0).2))∧Below w.heap.size w w':=by
 have HB:Hid (byt B):=b;have HV:Hid (Bs w v B):=hv;obtain ⟨ao,cap,rfl,h1,h2,h3⟩:=hv;obtain ⟨N,hN⟩:∃ N,B.length=N:=⟨_,rfl⟩;have HN:Hid (B.length=N):=hN;rw[hN] at h2 h3 HV ⊢;have HC:Hid (∀ j,j<N→∃ g o,ao=some ⟨g,o,none⟩∧w.cell? ⟨g,o+j,none⟩=some (.int .u8 (B.getD j 0))∧g<w.heap.size):=fun j hj=>by
  obtain⟨g,o,e1,e2,e3⟩:=h3 (by omega);exact ⟨g,o,e1,e3 j hj,e2⟩
 unfold maxLen at h1;clear b h3 hN;go_enter Tryz.func165,Tryz.ntmps165;go_wp2_with fail;go_loop [4,5,10] (fun nv sv iv=>∃ (i x:Nat),i≤N∧iv=.int .i64 (i:Int)∧sv=.int .i64 (i:Int)∧nv=.int .u64 (x:Int)∧x≤1099511627776∧Hid (Zcm B 0=((Zcm (B.drop i) (x:Int)).1,(Zcm (B.drop i) (x:Int)).2+i))) (fun _ _ iv=>N-(intOf iv).toNat)
 case atStart=>exact ⟨0,0,by omega,rfl,rfl,rfl,by omega,rfl⟩
 case round =>
  obtain⟨i,x,hi,rfl,rfl,rfl,hx,HE⟩:=hrel
  by_cases hil:i<N
  ·have k1:(i:Int)<(N:Int):=by omega
   have k2:(0:Int)≤(i:Int):=by omega
   have gi:IntKind.i64.wrap ((i:Int)+1)=(i:Int)+1:=by rw[IntKind.wrap_i64];omega
   obtain⟨g,o,rfl,cy,lg⟩:=HC.out i hil;have yb:=HB.out i;have HNx:Hid (¬ B.getD i 0<128→Zcm (B.drop i) (x:Int)=((Zcm (B.drop (i+1)) (min (128*(x:Int)+B.getD i 0%128) 1099511627776)).1,(Zcm (B.drop (i+1)) (min (128*(x:Int)+B.getD i 0%128) 1099511627776)).2+1)):=fun h=>ZlT (by rw[HN.out];exact hil) h;have HSt:Hid (B.getD i 0<128→Zcm (B.drop i) (x:Int)=(min (128*(x:Int)+B.getD i 0%128) 1099511627776,1)):=fun h=>ZlU (by rw[HN.out];exact hil) h;obtain ⟨y',hy⟩:∃ y,B.getD i 0=y:=⟨_,rfl⟩;rw[hy] at cy yb HNx HSt;clear hy;obtain ⟨y,rfl⟩:=Int.eq_ofNat_of_zero_le yb.1;have hu:y%128<128:=by omega
   have t1:(y:Int).tmod 128=((y%128:Nat):Int):=by rw[Int.tmod_eq_emod_of_nonneg (by omega)];omega
   have t2:(y:Int)%128=((y%128:Nat):Int):=by omega
   rw[t2] at HNx HSt;obtain ⟨u,hu2⟩:∃ u,y%128=u:=⟨_,rfl⟩;rw[hu2] at hu t1 t2 HNx HSt;clear hu2;have w1:IntKind.u64.wrap (u:Int)=(u:Int):=by rw[IntKind.wrap_u64];omega
   have w3:=ZoW (n:=x) (x:=u) hx hu;obtain ⟨m,hm⟩:∃ m,128*x=m:=⟨_,rfl⟩;have w2:IntKind.u64.wrap ((x:Int)*128)=(m:Int):=by rw[IntKind.wrap_u64];omega
   rw[hm] at w3;obtain ⟨z,hz⟩:∃ z,m+u=z:=⟨_,rfl⟩;rw[hz] at w3;obtain ⟨q,hq⟩:∃ q,min z 1099511627776=q:=⟨_,rfl⟩;have w4:min (z:Int) 1099511627776=(q:Int):=by omega
   have hq2:q≤1099511627776:=by omega
   have HQ:Hid (min (128*(x:Int)+(u:Int)) 1099511627776=(q:Int)):=by show _=_;omega
   rw[HQ.out] at HNx HSt;clear HQ hm hz hq
   by_cases c1:y<128
   ·have g1:(y:Int)<128:=by omega
    have HF:Hid (Zcm B 0=((q:Int),i+1)):=by show _=_;rw[HE.out,HSt.out g1,Nat.add_comm 1 i]
    obtain⟨s,hs⟩:∃ s,i+1=s:=⟨_,rfl⟩;have gs:IntKind.i64.wrap ((i:Int)+1)=(s:Int):=by rw[IntKind.wrap_i64];omega
    rw[hs] at HF;clear HE HNx HSt gi;have HCut:Hid (∀ (wx:World) c ad m k,Bs wx (.slice (some ⟨g,o,none⟩) N c) B→m=N-s→k=c-s→(0<m→ad=some ⟨g,o+s,none⟩)→Bs wx (.slice ad m k) (B.drop s)):=fun wx c ad m k hb hm hk ha=>ZcI hb HN.out (by omega) hm ha hk;have q1:(0:Int)≤(s:Int):=by omega
    have q2:(s:Int)≤(N:Int):=by omega
    have q3:s≤N:=by omega
    have q4:s≤cap:=by omega
    go_upto_region 9 with fail;go_region
    all_goals go_wp2_with fail
    all_goals refine bodyPost_ret (results_tmp2 rfl _ _ _) rfl ?_
    all_goals refine ⟨_,(by rw[HF.out];rfl),?_,(Below.refl _ _).drew⟩
    all_goals rw[HF.out]
    all_goals exact fun wx hwx=>(HCut.out wx _ _ _ _ hwx (by first|rfl|omega) (by first|rfl|omega) (by intro h0;first|rfl|(rw[if_neg (by omega)])|omega))
   ·have g1:¬ (y:Int)<128:=by omega
    have HE2:Hid (Zcm B 0=((Zcm (B.drop (i+1)) (q:Int)).1,(Zcm (B.drop (i+1)) (q:Int)).2+(i+1))):=by
     show _=_;rw[HE.out,HNx.out g1];show (_,_+1+i)=_;rw[Nat.add_assoc,Nat.add_comm 1 i]
    clear HE HNx HSt;go_wp2_with fail;go_round
    case rel=>exact ⟨i+1,q,by omega,by go_num,by go_num,rfl,hq2,HE2⟩
    case measure=>simp[intOf];omega
  ·have k1:¬ (i:Int)<(N:Int):=by omega
   have HF:Hid (Zcm B 0=((x:Int),i)):=by
    show _=_;rw[HE.out,List.drop_of_length_le (by rw[HN.out];omega),Zcm,Nat.zero_add]
   have hiN:i=N:=by omega
   have HCut:Hid (∀ (wx:World) ad m k,m=N-i→k=cap-i→Bs wx (.slice ad m k) (B.drop i)):=fun wx ad m k hm hk=>by
    have el:(B.drop i).length=m:=by rw[List.length_drop,HN.out,hm]
    exact⟨ad,k,by rw[el],by unfold maxLen;omega,by omega,fun h0=>by omega⟩
   have q1:(0:Int)≤(i:Int):=by omega
   have q2:(i:Int)≤(N:Int):=by omega
   have q3:i≤N:=by omega
   have q4:i≤cap:=by omega
   clear HE HC hiN hi;go_upto_region 9 with fail;go_region
   all_goals go_wp2_with fail
   all_goals refine bodyPost_ret (results_tmp2 rfl _ _ _) rfl ?_
   all_goals refine ⟨_,(by rw[HF.out];rfl),?_,(Below.refl _ _).drew⟩
   all_goals rw[HF.out]
   all_goals exact fun wx hwx=>(HCut.out wx _ _ _ (by first|rfl|omega) (by first|rfl|omega))
def ZnS (w:World) (r:Except Nat (List Int)) (e:Ending) (w':World):Prop:=(∀ n,r=.ok n→∃ v':Value,e=.returned (.tuple #[v',.nilIface])∧Us w' v' n∧Zbg w v'∧Below w.heap.size w w')∧(∀ c,r=.error c→∃ (ao:Option Addr) (cap:Nat),e=.returned (.tuple #[.slice ao 0 cap,.iface 46 (.int .i64 (c:Int))])∧Below w.heap.size w w')
theorem ZnS.ok {w w':World} {r:Except Nat (List Int)} {n:List Int} {v:Value} (h:r=.ok n) (hb:Us w' v n) (hn:Zbg w v) (bel:Below w.heap.size w w'):ZnS w r (.returned (.tuple #[v,.nilIface])) w' :=
 ⟨fun m hm=>(by rw[h] at hm;cases hm;exact ⟨v,rfl,hb,hn,bel⟩),fun c hc=>(by rw[h] at hc;cases hc)⟩
theorem ZnS.bad {w w':World} {r:Except Nat (List Int)} {c:Nat} {ao:Option Addr} {cap:Nat} (h:r=.error c) (bel:Below w.heap.size w w'):ZnS w r (.returned (.tuple #[.slice ao 0 cap,.iface 46 (.int .i64 (c:Int))])) w' :=
 ⟨fun m hm=>(by rw[h] at hm;cases hm),fun c2 hc=>(by rw[h] at hc;cases hc;exact ⟨ao,cap,rfl,bel⟩)⟩
theorem Zq1 {w:World} {base:Nat} {e:TypeId} {v:Value} {n:Nat} {xs:List Value} {j:Nat} (h:w.ownsRow base e 1 v n xs) (hj:v.ownBlock=some j):base≤j:=Zao h hj
theorem Zql {v:Value} {B:List Int} {w:World} (hv:Bs w v B) (b:byt B) :
  Calls Tryz.prog 153 #[v] w (ZnS w (Zfk B)):=by
 have HV:Hid (Bs w v B):=hv;have HB:Hid (byt B):=b;clear hv b;go_enter Tryz.func153,Tryz.ntmps153;go_wp2_with fail;refine (Zqm HV.out HB.out).mono ?_;rintro e w1 ⟨rfl,rfl⟩
 cases hq:(okF B true && decide (0<B.length)) with
 | false =>
  have H:Hid (Zfk B=.error 7):=ZqV hq;clear hq;go_wp2_with fail;refine bodyPost_ret (results_tmp2 rfl _ _ _) rfl ?_;exact ZnS.bad H.out (Below.refl _ _)
 | true =>
  obtain⟨hE,hK⟩:=ZqW hq;clear hq;go_wp2_with fail;refine (ZlB HV.out HB.out).mono ?_;rintro e w2 ⟨v2,rfl,bs0,bel⟩;have bs:=bs0 _ HV.out;clear bs0;have HRb:Hid (byt (B.drop (Zcm B 0).2)):=Zba HB.out _;have hf:=Zir B 0 (by omega);obtain ⟨f',hf'⟩:∃ f,(Zcm B 0).1=f:=⟨_,rfl⟩;obtain ⟨R,hR⟩:∃ R,B.drop (Zcm B 0).2=R:=⟨_,rfl⟩;rw[hf'] at hE hf ⊢;rw[hR] at hE hK bs HRb;have HE:Hid (Zb2 B [] 0 true=Zb2 R [f'] 0 true):=hE;have HK:Hid (okF R true=true):=hK;clear hf' hR hE hK;obtain ⟨f,rfl⟩:=Int.eq_ofNat_of_zero_le hf.1
  by_cases c1:4294967375<f
  ·have H:Hid (Zfk B=.error 3):=Zmy (j:=0) HE.out HK.out (by show 0<1;omega) (.inl ⟨rfl,by show (4294967375:Int)<(f:Int);omega⟩)
   have g1:(4294967375:Int)<(f:Int):=by omega
   go_wp2_with fail;refine bodyPost_ret (results_tmp2 rfl _ _ _) rfl ?_;exact ZnS.bad H.out (bel)
  have g1:¬ (4294967375:Int)<(f:Int):=by omega
  have HG:Hid (Zf7 [(f:Int)]):=Zf7.one g1;obtain ⟨d40,hd40⟩:∃ d,f/40=d:=⟨_,rfl⟩;have t1:(f:Int).tdiv 40=(d40:Int):=by rw[Int.tdiv_eq_ediv_of_nonneg (by omega)];omega
  have t1b:(f:Int)/40=(d40:Int):=by omega
  obtain⟨r,hr⟩:∃ r,min (f/40) 2=r:=⟨_,rfl⟩;have t2:min (d40:Int) 2=(r:Int):=by omega
  obtain⟨d,hd⟩:∃ d,f-40*r=d:=⟨_,rfl⟩;obtain ⟨p,hp⟩:∃ p,40*r=p:=⟨_,rfl⟩;have t3:IntKind.u64.wrap ((r:Int)*40)=(p:Int):=by rw[IntKind.wrap_u64];omega
  have t4:IntKind.u64.wrap ((f:Int)-(p:Int))=(d:Int):=by rw[IntKind.wrap_u64];omega
  have t5:IntKind.u64.wrap (d40:Int)=(d40:Int):=by rw[IntKind.wrap_u64];omega
  have HA:Hid (ZeA [(f:Int)]=[(r:Int),(d:Int)]):=by show _=_;rw[Zn5,Zl7 hr hd]
  clear hr hd hp hd40 hf;have hs2:=bel.size;have own:=ZaW w2 (us [(r:Int),(d:Int)]) 27 2 w1.heap.size rfl hs2 (by decide);have st:Below w2.heap.size w2 (w2.alloc (.cells #[.int .u64 (r:Int),.int .u64 (d:Int)] 27)):=(Below.refl w2.heap.size w2).alloc (Nat.le_refl _) _;replace bel:=Zaa bel st;clear st;go_wp2_with fail;obtain ⟨W,hW⟩:∃ z,z=w2.alloc (.cells #[.int .u64 (r:Int),.int .u64 (d:Int)] 27):=⟨_,rfl⟩;replace own:W.ownsRow w1.heap.size 27 1 (.slice (some ⟨w2.heap.size,0,none⟩) 2 2) 2 (us [(r:Int),(d:Int)]):=by rw[hW];exact own
  rw[← hW] at bel ⊢;clear hW;go_loopw [0,6] (fun bv lv wx=>∃ (R L P:List Int),Bs w1 bv R∧Hid (byt R)∧Hid (okF R true=true)∧Hid (Zb2 B [] 0 true=Zb2 R L 0 true)∧Hid (0<L.length)∧Hid (Zf7 L)∧Hid (P=ZeA L)∧P.length≤17∧wx.ownsRow w1.heap.size 27 1 lv P.length (us P)∧Below w1.heap.size w1 wx) (fun bv _ _=>lenV bv)
  case atStart=>exact ⟨R,[(f:Int)],[(r:Int),(d:Int)],bs,HRb,HK,HE,by show 0<1;omega,HG,by show _=_;rw[HA.out],by show 2≤17;omega,own,bel⟩
  case round =>
   clear bs HRb HK HE HG HA own bel hs2;obtain ⟨R,L,P,bs,HRb,HK,HE,HL0,HG,HP,hP17,own,bel⟩:=hrel;have HBs:Hid (Bs w1 _ R):=bs;obtain ⟨ao,cap,rfl,k1,k2,-⟩:=bs;unfold maxLen at k1;obtain ⟨m,hm⟩:∃ m,R.length=m:=⟨_,rfl⟩;have HM:Hid (R.length=m):=hm;rw[hm] at HBs k2 ⊢;clear hm;obtain ⟨lo,lc,rfl,l1,l2⟩:=Zbc own;unfold maxLen at l2;obtain ⟨q,hq⟩:∃ q,P.length=q:=⟨_,rfl⟩;have HQ:Hid (P.length=q):=hq;rw[hq] at hP17 own l1 ⊢;have HO:Hid _:=own;clear hq own
   by_cases c0:0<m
   ·have g0:(0:Int)<(m:Int):=by omega
    go_wp2_with fail;refine (ZlB (HBs.out.later bel) HRb.out).mono ?_;rintro e w3 ⟨v3,rfl,bs0,bel3⟩;have bs3:=bs0 _ HBs.out;clear bs0;obtain ⟨hN1,hN2,hN3⟩:=Zol (L:=L) HK.out (by rw[HM.out];exact c0);have HRb3:Hid (byt (R.drop (Zcm R 0).2)):=Zba HRb.out _;have hn:=Zir R 0 (by omega);obtain ⟨n',hn'⟩:∃ n,(Zcm R 0).1=n:=⟨_,rfl⟩;obtain ⟨R3,hR3⟩:∃ R3,R.drop (Zcm R 0).2=R3:=⟨_,rfl⟩;rw[hn'] at hN1 hn ⊢;rw[hR3] at hN1 hN2 hN3 bs3 HRb3;have HE3:Hid (Zb2 B [] 0 true=Zb2 R3 (L++[n']) 0 true):=by show _=_;rw[HE.out,hN1]
    have HK3:Hid (okF R3 true=true):=hN2;have HM3:Hid (R3.length<m):=by show _<_;rw[← HM.out];exact hN3
    clear hn' hR3 hN1 hN2 hN3 HE HK HRb;obtain ⟨n,rfl⟩:=Int.eq_ofNat_of_zero_le hn.1;have own3:=Zgq HO.out bel3;have bel4:=Zaa bel bel3;have hs4:=bel4.size
    by_cases c1:4294967295<n
    ·have H:Hid (Zfk B=.error 3):=Zmy (j:=L.length) HE3.out HK3.out (by rw[List.length_append];exact Nat.lt_succ_self _) (.inr ⟨HL0.out,by rw[ZhL];omega⟩)
     have g1:(4294967295:Int)<(n:Int):=by omega
     clear own3 hs4;go_wp2_with fail;refine bodyPost_ret (results_tmp2 rfl _ _ _) rfl ?_;exact ZnS.bad H.out (bel4)
    have g1:¬ (4294967295:Int)<(n:Int):=by omega
    have HG3:Hid (Zf7 (L++[(n:Int)])):=HG.out.add HL0.out g1;have HA3:Hid (ZeA (L++[(n:Int)])=if q≤16 then P++[(n:Int)] else P):=by show _=_;rw[Zn4 HL0.out,← HP.out,HQ.out]
    have HL3:Hid (0<(L++[(n:Int)]).length):=by show 0<_;rw[List.length_append];show 0<L.length+1;omega
    by_cases c2:q≤16
    ·have g2:(q:Int)≤16:=by omega
     rw[if_pos c2] at HA3;have o0:=own3.alloc (.cells #[.int .u64 (n:Int)] 27);have b0:=ZnE (q:=1) (Blk.new w3 (us [(n:Int)]) 27 w3.heap.size rfl) rfl (by decide);have st:Below w3.heap.size w3 (w3.alloc (.cells #[.int .u64 (n:Int)] 27)):=(Below.refl w3.heap.size w3).alloc (Nat.le_refl _) _;have hbl:=Zaa bel4 st;have hsz:w1.heap.size≤(w3.alloc (.cells #[.int .u64 (n:Int)] 27)).heap.size:=hbl.size;clear st;go_wp2_with (first|(at_builtin;refine Zfa (by rfl) _ _ (by rfl) w1.heap.size _ q P (by rfl) o0 _ [(n:Int)] (by rfl) b0 (by show q+1≤_;omega) hsz ?_;intro v5 w5 own5 hgrow hat)|fail);have bel5:=Zag (base:=w1.heap.size) hbl hgrow hsz (fun g hg=>Zq1 o0 hg) (Nat.le_refl _);have own6:w5.ownsRow w1.heap.size 27 1 v5 (P++[(n:Int)]).length (us (P++[(n:Int)])):=by rw[List.length_append,HQ.out];exact own5
     obtain⟨rao,rcap,rfl,r1,r2,r3⟩:=bs3;have HM4:Hid (R3.length<m):=HM3;go_roundw
     case rel=>exact ⟨R3,L++[(n:Int)],P++[(n:Int)],⟨rao,rcap,rfl,r1,r2,r3⟩,HRb3,HK3,HE3,HL3,HG3,by show _=_;rw[HA3.out],by rw[List.length_append,HQ.out];show q+1≤17;omega,own6,bel5⟩
     case measure=>exact HM3.out
    ·have g2:¬ (q:Int)≤16:=by omega
     rw[if_neg c2] at HA3;have own6:w3.ownsRow w1.heap.size 27 1 (.slice lo q lc) P.length (us P):=by rw[HQ.out];exact own3
     obtain⟨rao,rcap,rfl,r1,r2,r3⟩:=bs3;clear hs4 own3;have R3':Hid _:=r3;clear r3;go_wp2_with fail;go_roundw
     case rel=>exact ⟨R3,L++[(n:Int)],P,⟨rao,rcap,rfl,r1,r2,R3'.out⟩,HRb3,HK3,HE3,HL3,HG3,by show _=_;rw[HA3.out],by rw[HQ.out];exact hP17,own6,bel4⟩
     case measure=>exact HM3.out
   ·have g0:¬ (0:Int)<(m:Int):=by omega
    have HF:Hid (Zfk B=if 16<q then .error 2 else .ok P):=by
     show _=_;have e:R=[]:=List.eq_nil_of_length_eq_zero (by rw[HM.out];omega);have z:=HE.out;rw[e] at z;rw[ZqT z HL0.out HG.out,← HP.out,HQ.out]
    clear HBs HE HK
    by_cases c1:16<q
    ·have H:Hid (Zfk B=.error 2):=by show _=_;rw[HF.out,if_pos c1]
     have g1:(16:Int)<(q:Int):=by omega
     go_wp2_with fail;refine bodyPost_ret (results_tmp2 rfl _ _ _) rfl ?_;exact ZnS.bad H.out (bel)
    ·have H:Hid (Zfk B=.ok P):=by show _=_;rw[HF.out,if_neg c1]
     have g1:¬ (16:Int)<(q:Int):=by omega
     go_wp2_with fail;refine bodyPost_ret (results_tmp2 rfl _ _ _) rfl ?_;exact ZnS.ok H.out (Us.of_own HO.out) (Zdb HO.out) bel
end Go.Proofs.YtohcdbifhnfcbaaGreatDoor
