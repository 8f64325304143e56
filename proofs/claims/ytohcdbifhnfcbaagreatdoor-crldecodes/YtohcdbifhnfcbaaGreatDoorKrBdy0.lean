import Derived.Test.YtohcdbifhnfcbaaGreatDoorPrG
import Derived.Test.YtohcdbifhnfcbaaGreatDoorPrTimD
import Derived.Test.YtohcdbifhnfcbaaGreatDoorPmNG
import Derived.Test.YtohcdbifhnfcbaaGreatDoorCtSize
import Derived.Test.YtohcdbifhnfcbaaGreatDoorKrEl
import Derived.Test.YtohcdbifhnfcbaaGreatDoorNlSG
import Derived.Test.YtohcdbifhnfcbaaGreatDoorDrTG
import Derived.Test.YtohcdbifhnfcbaaGreatDoorDrDG
import Derived.Test.YtohcdbifhnfcbaaGreatDoorRows
import Derived.Deep.OwnRows
import Derived.Deep.AppendLies
import Derived.Great.BuildSlice
import Derived.Deep.WholeRow
import Derived.Deep.RegionHeld3
import Derived.Deep.DeepCutAuto
import Derived.Deep.DeepFit
import Derived.Laws.Rows
import Derived.BigQuiet
namespace Go.Proofs.YtohcdbifhnfcbaaGreatDoor
open Go.RowKit
set_option linter.unusedSimpArgs false
set_option maxRecDepth 100000
set_option maxHeartbeats 8000000
def ZiX:List Nat→List Int
 | []=>[]
 | n::l=>Zaz n++ZiX l
theorem ZnB {l:List Nat} {k:Nat} (h:k<l.length):ZiX (l.take (k+1))=ZiX (l.take k)++Zaz (l.getD k 0):=by
 induction l generalizing k with
 | nil=>simp at h
 | cons a l ih =>
  cases k with
  | zero=>simp[ZiX]
  | succ k =>
   have:=ih (k:=k) (by simpa using h);rw[List.take_succ_cons,List.take_succ_cons,ZiX,ZiX,this,List.getD_cons_succ,List.append_assoc]
theorem Zoz {l:List Nat} {k:Nat} (h:k<l.length):(l.map (fun n:Nat=>(n:Int))).getD k 0=((l.getD k 0:Nat):Int):=by
 rw[List.getD_eq_getElem?_getD,List.getElem?_map,List.getD_eq_getElem?_getD,List.getElem?_eq_getElem h]
 rfl
theorem Zed {v:Value} {l:List Nat} {w:World} (hv:Is w v (l.map (fun n:Nat=>(n:Int)))) (hb:∀ j,l.getD j 0≤99) (hl:l.length≤7) :
  Calls Tryz.prog 128 #[v] w fun e w'=>∃ v',e=.returned v'∧Bs w' v' (ZiX l++[90])∧Zbg w v'∧Below w.heap.size w w':=by
 obtain⟨ao,cap,rfl,h1,h2,h3⟩:=hv;obtain ⟨N,hN⟩:∃ N,l.length=N:=⟨_,rfl⟩;have HN:Hid (l.length=N):=hN;rw[List.length_map,hN] at h2 h3 ⊢;rw[hN] at hl;have HC:Hid (∀ j,j<N→∃ g o,ao=some ⟨g,o,none⟩∧w.cell? ⟨g,o+j,none⟩=some (.int .i64 ((l.getD j 0:Nat):Int))∧g<w.heap.size):=fun j hj=>by
  obtain⟨g,o,e1,e2,e3⟩:=h3 (by omega);have:=e3 j hj;rw[Zoz (by rw[HN.out];exact hj)] at this;exact ⟨g,o,e1,this,e2⟩
 have HBd:Hid _:=hb;unfold maxLen at h1;clear hN h3 hb;go_enter Tryz.func128,Tryz.ntmps128;go_wp2_with fail;obtain ⟨W,hW⟩:∃ z,z=w:=⟨_,rfl⟩;rw[← hW];have bel0:Below w.heap.size w W:=by rw[hW];exact Below.refl _ _
 clear hW;go_loopw [3,8] (fun bv iv wx=>∃ (i:Nat) (X:List Int),i≤N∧iv=.int .i64 (i:Int)∧X.length≤2*i∧wx.ownsRow w.heap.size 5 1 bv X.length (u8s X)∧Hid (X=ZiX (l.take i))∧Below w.heap.size w wx) (fun _ iv _=>N-(intOf iv).toNat)
 case atStart=>exact ⟨0,[],by omega,rfl,by show 0≤_;omega,⟨rfl,.inl ⟨rfl,rfl⟩⟩,rfl,bel0⟩
 case round =>
  clear bel0;obtain ⟨i,X,hi,rfl,hX,own,HX,bel⟩:=hrel
  by_cases hil:i<N
  ·have k1:(i:Int)<(N:Int):=by omega
   have k2:(0:Int)≤(i:Int):=by omega
   have gi:IntKind.i64.wrap ((i:Int)+1)=(i:Int)+1:=by rw[IntKind.wrap_i64];omega
   obtain⟨g,o,rfl,cy0,lg0⟩:=HC.out i hil;have cy:=(bel.cell (p:=⟨g,o+i,none⟩) lg0).trans cy0;have lg:g<wr.heap.size:=Nat.lt_of_lt_of_le lg0 bel.size;have yb:=HBd.out i;have HX2:Hid (ZiX (l.take (i+1))=X++Zaz (l.getD i 0)):=by show _=_;rw[ZnB (by rw[HN.out];exact hil),← HX.out]
   obtain⟨n,hn⟩:∃ n,l.getD i 0=n:=⟨_,rfl⟩;rw[hn] at cy yb HX2;clear hn cy0;have t1:(n:Int).tdiv 10=((n/10:Nat):Int):=by rw[Int.tdiv_eq_ediv_of_nonneg (by omega)];omega
   have t2:(n:Int).tmod 10=((n%10:Nat):Int):=by rw[Int.tmod_eq_emod_of_nonneg (by omega)];omega
   have t3:(n:Int)/10=((n/10:Nat):Int):=by omega
   have t4:(n:Int)%10=((n%10:Nat):Int):=by omega
   have b1:n/10<10:=by omega
   have b2:n%10<10:=by omega
   have HTw:Hid (Zaz n=[((48+n/10:Nat):Int),((48+n%10:Nat):Int)]):=rfl;obtain ⟨a,ha⟩:∃ a,n/10=a:=⟨_,rfl⟩;obtain ⟨c,hc⟩:∃ a,n%10=a:=⟨_,rfl⟩;rw[ha] at t1 t3 b1 HTw;rw[hc] at t2 t4 b2 HTw;clear ha hc;obtain ⟨p,hp⟩:∃ p,48+a=p:=⟨_,rfl⟩;obtain ⟨q,hq⟩:∃ p,48+c=p:=⟨_,rfl⟩;rw[hp,hq] at HTw;rw[HTw.out] at HX2;have g1:IntKind.i64.wrap (48+(a:Int))=(p:Int):=by rw[IntKind.wrap_i64];omega
   have g2:IntKind.i64.wrap (48+(c:Int))=(q:Int):=by rw[IntKind.wrap_i64];omega
   have g3:IntKind.u8.wrap (p:Int)=(p:Int):=by rw[IntKind.wrap_u8];omega
   have g4:IntKind.u8.wrap (q:Int)=(q:Int):=by rw[IntKind.wrap_u8];omega
   have g5:IntKind.i64.wrap (a:Int)=(a:Int):=by rw[IntKind.wrap_i64];omega
   have g6:IntKind.i64.wrap (c:Int)=(c:Int):=by rw[IntKind.wrap_i64];omega
   clear hp hq HTw HX;have o0:=own.alloc (.cells #[.int .u8 (p:Int),.int .u8 (q:Int)] 5);have b0:=Bs.of_own (ZaW wr (u8s [(p:Int),(q:Int)]) 5 2 wr.heap.size rfl (Nat.le_refl _) (by decide));have hbl:=Zah (o:=.cells #[.int .u8 (p:Int),.int .u8 (q:Int)] 5) bel;have hsz:w.heap.size≤(wr.alloc (.cells #[.int .u8 (p:Int),.int .u8 (q:Int)] 5)).heap.size:=hbl.size;clear own;go_wp2_with (first|(at_builtin;refine Zad (by rfl) _ _ (by rfl) w.heap.size _ X.length X (by rfl) o0 _ [(p:Int),(q:Int)] (by rfl) b0 (by show X.length+2≤_;omega) hsz ?_;intro v5 w5 own5 hgrow hat)|fail);have bel5:=Zag (base:=w.heap.size) hbl hgrow hsz (fun g hg=>Zao o0 hg) (Nat.le_refl _);go_roundw
   case rel=>exact ⟨i+1,X++[(p:Int),(q:Int)],by omega,by go_num,by rw[List.length_append];show X.length+2≤_;omega,by rw[List.length_append];exact own5,by show _=_;rw[HX2.out],bel5⟩
   case measure=>simp[intOf];omega
  ·have k1:¬ (i:Int)<(N:Int):=by omega
   have HF:Hid (ZiX l=X):=by
    show _=_;rw[HX.out,List.take_of_length_le (by rw[HN.out];omega)]
   have o0:=own.alloc (.cells #[.int .u8 90] 5);have b0:=Zft wr 90;have hbl:=Zah (o:=.cells #[.int .u8 90] 5) bel;have hsz:w.heap.size≤(wr.alloc (.cells #[.int .u8 90] 5)).heap.size:=hbl.size;clear own HX;go_wp2_with (first|(at_builtin;refine Zad (by rfl) _ _ (by rfl) w.heap.size _ X.length X (by rfl) o0 _ [90] (by rfl) b0 (by show X.length+1≤_;omega) hsz ?_;intro v5 w5 own5 hgrow hat)|fail);have bel5:=Zag (base:=w.heap.size) hbl hgrow hsz (fun g hg=>Zao o0 hg) (Nat.le_refl _);go_ret;exact ⟨v5,rfl,by rw[HF.out];exact Bs.of_own own5,Zdb own5,bel5⟩
def ZnY (w:World) (r:Except Nat (Int × List Int)) (e:Ending) (w':World):Prop:=(∀ (a:Int) (X:List Int),r=.ok (a,X)→∃ v':Value,e=.returned (.tuple #[.int .i64 a,v',.nilIface])∧Bs w' v' X∧Zbg w v'∧Below w.heap.size w w')∧(∀ c,r=.error c→∃ (ao:Option Addr) (cap:Nat),e=.returned (.tuple #[.int .i64 0,.slice ao 0 cap,.iface 46 (.int .i64 (c:Int))])∧Below w.heap.size w w')
theorem ZnY.ok {w w':World} {r:Except Nat (Int × List Int)} {a:Int} {X:List Int} {v:Value} (h:r=.ok (a,X)) (hb:Bs w' v X) (hn:Zbg w v) (bel:Below w.heap.size w w'):ZnY w r (.returned (.tuple #[.int .i64 a,v,.nilIface])) w' :=
 ⟨fun m j hm=>(by rw[h] at hm;cases hm;exact ⟨v,rfl,hb,hn,bel⟩),fun c hc=>(by rw[h] at hc;cases hc)⟩
theorem ZnY.bad {w w':World} {r:Except Nat (Int × List Int)} {c:Nat} {ao:Option Addr} {cap:Nat} (h:r=.error c) (bel:Below w.heap.size w w'):ZnY w r (.returned (.tuple #[.int .i64 0,.slice ao 0 cap,.iface 46 (.int .i64 (c:Int))])) w' :=
 ⟨fun m j hm=>(by rw[h] at hm;cases hm),fun c2 hc=>(by rw[h] at hc;cases hc;exact ⟨ao,cap,rfl,bel⟩)⟩
theorem Zie {t:Int} (h:t < -631152000∨253402300799<t):Za2 t=.error 3:=by unfold Za2;rw[if_pos h]
theorem Zk6 {t:Int} {y m d c d1 k1 k3 k4:Nat} (h1:¬ t < -631152000) (h2:¬ 253402300799<t) (hm:ZnX t y m d c) (hk:k1=c/3600∧k3=c%3600/60∧k4=c%60∧d1=d+1):Za2 t=.ok (ZnU y,(if 2049<y then Zaz (y/100) else [])++(ZiX [y%100,m,d1,k1,k3,k4]++[90])):=by
 obtain⟨a1,a2,a3,a4,a5,a6,a7⟩:=hm;obtain ⟨rfl,rfl,rfl,rfl⟩:=hk;obtain ⟨hM,hR⟩:=Zmn a1 a2 a3 a4 a5 a6 a7;rw[ZfZ hM h1 h2,hR];unfold ZdP;obtain ⟨b1,b2,b3,b4⟩:=Zj7 (d:=d) a6;rw[b1,b2,b3,b4];simp only[ZiX,List.append_assoc,List.append_nil]
theorem Zmm {t:Int} {y m d c:Nat} (hm:ZnX t y m d c):d+1≤31:=by
 obtain⟨_,_,_,_,a5,_⟩:=hm;have:=Zdn (y:=y) (m:=m);omega
theorem Zkb {t:Int} {w:World} :
    Calls Tryz.prog 93 #[.int .i64 t] w (ZnY w (Za2 t)):=by
  by_cases c1:t < -631152000
  · have H:Hid (Za2 t=.error 3):=Zie (.inl c1)
    go_enter Tryz.func93,Tryz.ntmps93;go_wp2_with fail;refine bodyPost_ret (results_tmp3 rfl _ _ _) rfl ?_;exact ZnY.bad H.out (Below.refl _ _)
  by_cases c2:253402300799<t
  · have H:Hid (Za2 t=.error 3):=Zie (.inr c2)
    go_enter Tryz.func93,Tryz.ntmps93;go_wp2_with fail;refine bodyPost_ret (results_tmp3 rfl _ _ _) rfl ?_;exact ZnY.bad H.out (Below.refl _ _)
  go_enter Tryz.func93,Tryz.ntmps93;go_wp2_with fail;refine (Zht (t:=t) (by omega) (by omega)).mono ?_;rintro e W1 ⟨y,m,d,c,d1,k1,k3,k4,rfl,hM,hK,bel⟩;have HT:Hid _:=Zk6 (by omega) (by omega) hM hK;have hds:=Zmm hM;obtain ⟨a1,a2,a3,a4,_,a6,_⟩:=hM;have b1:k1<24:=by omega
  have b3:k3<60:=by omega
  have b4:k4<60:=by omega
  have b5:d1≤31:=by omega
  clear hK hds;have t1:(y:Int).tdiv 100=((y/100:Nat):Int):=by rw[Int.tdiv_eq_ediv_of_nonneg (by omega)];omega
  have t2:(y:Int).tmod 100=((y%100:Nat):Int):=by rw[Int.tmod_eq_emod_of_nonneg (by omega)];omega
  have t3:(y:Int)/100=((y/100:Nat):Int):=by omega
  have t4:(y:Int)%100=((y%100:Nat):Int):=by omega
  have hyhb:y/100≤99:=by omega
  have hylb:y%100≤99:=by omega
  obtain⟨yh,hyh⟩:∃ z,y/100=z:=⟨_,rfl⟩;obtain ⟨yl,hyl⟩:∃ z,y%100=z:=⟨_,rfl⟩;rw[hyh] at t1 t3 hyhb;rw[hyl] at t2 t4 hylb;have r1:IntKind.i64.wrap (yh:Int)=(yh:Int):=by rw[IntKind.wrap_i64];omega
  have r2:IntKind.i64.wrap (yl:Int)=(yl:Int):=by rw[IntKind.wrap_i64];omega
  have hz:=ZjV.out;replace bel:=Zah (o:=.cells #[.int .i64 (y:Int),.int .i64 (m:Int),.int .i64 (d1:Int),.int .i64 (k1:Int),.int .i64 (k3:Int),.int .i64 (k4:Int)] 211) bel;have BM:=Blk.new W1 [.int .i64 (y:Int),.int .i64 (m:Int),.int .i64 (d1:Int),.int .i64 (k1:Int),.int .i64 (k3:Int),.int .i64 (k4:Int)] 211 W1.heap.size rfl;go_upto_region 4 with (first|(refine wpList_store_row rfl 211 _ _ rfl W1.heap.size #[.int .i64 (y:Int),.int .i64 (m:Int),.int .i64 (d1:Int),.int .i64 (k1:Int),.int .i64 (k3:Int),.int .i64 (k4:Int)] rfl rfl 211 _ (heap_alloc_last _ _) (by rw[Zhf];rfl) rfl (by simp[Value.oneCell']) ?_;rw[World.setRow_alloc_new])|fail);clear hz;obtain ⟨gm,hgm⟩:∃ z,W1.heap.size=z:=⟨_,rfl⟩;rw[hgm] at BM ⊢;clear hgm;generalize W1.alloc (.cells #[.int .i64 (y:Int),.int .i64 (m:Int),.int .i64 (d1:Int),.int .i64 (k1:Int),.int .i64 (k3:Int),.int .i64 (k4:Int)] 211)=W2 at *;have f0:=BM.cell 0 _ rfl;have f1:=BM.cell 1 _ rfl;have f2:=BM.cell 2 _ rfl;have f3:=BM.cell 3 _ rfl;have f4:=BM.cell 4 _ rfl;have f5:=BM.cell 5 _ rfl;have lm:=BM.lt;have HYH:Hid (y/100=yh):=hyh;have HYL:Hid (y%100=yl):=hyl;clear hyh hyl
  by_cases cy:2049<y
  · have H:Hid (Za2 t=.ok (24,ZiX [yh,yl,m,d1,k1,k3,k4]++[90])):=by
      show _=_;rw[HT.out,HYH.out,HYL.out];unfold ZnU;rw[if_pos (by omega),if_pos (by omega)];simp only[ZiX,List.append_assoc,List.append_nil]
    have gy:(2050:Int)≤(y:Int):=by omega
    go_upto_region 7 with fail;have BA:=ZaW W2 (Zhn [(yh:Int),(yl:Int),(m:Int),(d1:Int),(k1:Int),(k3:Int),(k4:Int)]) 3 7 W2.heap.size rfl (Nat.le_refl _) (by decide);have IA:Is (W2.alloc (.cells #[.int .i64 (yh:Int),.int .i64 (yl:Int),.int .i64 (m:Int),.int .i64 (d1:Int),.int .i64 (k1:Int),.int .i64 (k3:Int),.int .i64 (k4:Int)] 3)) (.slice (some ⟨W2.heap.size,0,none⟩) 7 7) [(yh:Int),(yl:Int),(m:Int),(d1:Int),(k1:Int),(k3:Int),(k4:Int)]:=Is.of_own BA;have bel3:Below w.heap.size w (W2.alloc (.cells #[.int .i64 (yh:Int),.int .i64 (yl:Int),.int .i64 (m:Int),.int .i64 (d1:Int),.int .i64 (k1:Int),.int .i64 (k3:Int),.int .i64 (k4:Int)] 3)):=Zah bel;have hlw:=bel.size;clear BA;go_upto_region 8 with fail;clear f0 f1 f2 f3 f4 f5 lm BM;obtain ⟨ga,hga⟩:∃ z,W2.heap.size=z:=⟨_,rfl⟩;rw[hga] at IA ⊢;have hga2:w.heap.size≤ga:=by omega
    clear hga;generalize W2.alloc (.cells #[.int .i64 (yh:Int),.int .i64 (yl:Int),.int .i64 (m:Int),.int .i64 (d1:Int),.int .i64 (k1:Int),.int .i64 (k3:Int),.int .i64 (k4:Int)] 3)=W3 at *;have IB:Is W3 (.slice (some ⟨ga,0,none⟩) 7 7) (([yh,yl,m,d1,k1,k3,k4]:List Nat).map (fun n:Nat=>(n:Int))):=IA;have HIB:Hid _:=IB;clear IB IA;go_wp2_with fail;refine Zfx.mono ?_;rintro e w5 ⟨rfl,rfl⟩;have v1:IntKind.i64.wrap (7-7)=0:=by decide
    go_wp2_with fail;refine (Zed (l:=[yh,yl,m,d1,k1,k3,k4]) HIB.out (by
      intro j
      match j with
      | 0=>show yh≤99;omega
      | 1=>show yl≤99;omega
      | 2=>show m≤99;omega
      | 3=>show d1≤99;omega
      | 4=>show k1≤99;omega
      | 5=>show k3≤99;omega
      | 6=>show k4≤99;omega
      | (j+7)=>exact Nat.zero_le _) (by show 7≤7;omega)).mono ?_
    rintro e w6 ⟨v6,rfl,b6,n6,hb6⟩;have bel6:=bel3.trans (hb6.mono bel3.size);have n7:=n6.up bel3.size;go_wp2_with fail;refine bodyPost_ret (results_tmp3 rfl _ _ _) rfl ?_;exact ZnY.ok H.out b6 n7 bel6
  · have H:Hid (Za2 t=.ok (23,ZiX [yl,m,d1,k1,k3,k4]++[90])):=by
      show _=_;rw[HT.out,HYH.out,HYL.out];unfold ZnU;rw[if_neg (by omega),if_neg (by omega)]
      rfl
    have gy:¬ (2050:Int)≤(y:Int):=by omega
    go_upto_region 7 with fail;have BA:=ZaW W2 (Zhn [(yh:Int),(yl:Int),(m:Int),(d1:Int),(k1:Int),(k3:Int),(k4:Int)]) 3 7 W2.heap.size rfl (Nat.le_refl _) (by decide);have IA:Is (W2.alloc (.cells #[.int .i64 (yh:Int),.int .i64 (yl:Int),.int .i64 (m:Int),.int .i64 (d1:Int),.int .i64 (k1:Int),.int .i64 (k3:Int),.int .i64 (k4:Int)] 3)) (.slice (some ⟨W2.heap.size,0,none⟩) 7 7) [(yh:Int),(yl:Int),(m:Int),(d1:Int),(k1:Int),(k3:Int),(k4:Int)]:=Is.of_own BA;have bel3:Below w.heap.size w (W2.alloc (.cells #[.int .i64 (yh:Int),.int .i64 (yl:Int),.int .i64 (m:Int),.int .i64 (d1:Int),.int .i64 (k1:Int),.int .i64 (k3:Int),.int .i64 (k4:Int)] 3)):=Zah bel;have hlw:=bel.size;clear BA;go_upto_region 8 with fail;clear f0 f1 f2 f3 f4 f5 lm BM;obtain ⟨ga,hga⟩:∃ z,W2.heap.size=z:=⟨_,rfl⟩;rw[hga] at IA ⊢;have hga2:w.heap.size≤ga:=by omega
    clear hga;generalize W2.alloc (.cells #[.int .i64 (yh:Int),.int .i64 (yl:Int),.int .i64 (m:Int),.int .i64 (d1:Int),.int .i64 (k1:Int),.int .i64 (k3:Int),.int .i64 (k4:Int)] 3)=W3 at *;have IB:Is W3 (.slice (some ⟨ga,1,none⟩) 6 6) (([yl,m,d1,k1,k3,k4]:List Nat).map (fun n:Nat=>(n:Int))):=is_cut IA rfl (r:=1) (by omega) rfl (fun _=>rfl) rfl;have HIB:Hid _:=IB;clear IB IA;go_wp2_with fail;refine Zfw.mono ?_;rintro e w5 ⟨rfl,rfl⟩;have v1:IntKind.i64.wrap (7-6)=1:=by decide
    go_wp2_with fail;refine (Zed (l:=[yl,m,d1,k1,k3,k4]) HIB.out (by
      intro j
      match j with
      | 0=>show yl≤99;omega
      | 1=>show m≤99;omega
      | 2=>show d1≤99;omega
      | 3=>show k1≤99;omega
      | 4=>show k3≤99;omega
      | 5=>show k4≤99;omega
      | (j+6)=>exact Nat.zero_le _) (by show 6≤7;omega)).mono ?_
    rintro e w6 ⟨v6,rfl,b6,n6,hb6⟩;have bel6:=bel3.trans (hb6.mono bel3.size);have n7:=n6.up bel3.size;go_wp2_with fail;refine bodyPost_ret (results_tmp3 rfl _ _ _) rfl ?_;exact ZnY.ok H.out b6 n7 bel6
theorem Zkr {x:Int} {w:World} (_:-9223372036854775808≤x∧x≤9223372036854775807) :
  Calls Tryz.prog 93 #[.int .i64 x] w fun e w'=>(∀ (a:Int) (X:List Int),Za2 x=.ok (a,X)→∃ v':Value,e=.returned (.tuple #[.int .i64 a,v',.nilIface])∧Bs w' v' X∧Zbg w v'∧Below w.heap.size w w')∧(∀ c,Za2 x=.error c→∃ (ao:Option Addr) (cap:Nat),e=.returned (.tuple #[.int .i64 0,.slice ao 0 cap,.iface 46 (.int .i64 (c:Int))])∧Below w.heap.size w w'):=Zkb.mono (fun _ _ h=>h)
theorem ZeW {v:Value} {n:List Int} {w:World} (hv:Bs w v n):Calls Tryz.prog 130 #[v] w fun e w'=>e=.returned (.bool (Zld n))∧w'=w:=by
 obtain⟨ao,cap,rfl,h2,h1,h3⟩:=hv;obtain ⟨L,hL⟩:∃ L,n.length=L:=⟨_,rfl⟩;have HL:Hid (n.length=L):=hL;rw[hL] at h1 h3 ⊢;clear hL;go_enter Tryz.func130,Tryz.ntmps130
 by_cases c1:0<L
 rotate_left
 ·have H:Hid (Zld n=false):=decide_eq_false (fun h=>h (.inl (by rw[HL.out];omega)))
  have g1:¬ (0:Int)<(L:Int):=by omega
  clear c1 h3;go_wp2_with fail;go_ret;exact ⟨by rw[H.out];rfl,rfl⟩
 obtain⟨b,o,rfl,hb,hc⟩:=h3 c1;have g1:(0:Int)<(L:Int):=by omega
 by_cases c2:L≤20
 rotate_left
 ·have H:Hid (Zld n=false):=decide_eq_false (fun h=>h (.inr (.inl (by rw[HL.out];omega))))
  have g2:¬ (L:Int)≤20:=by omega
  clear c1 c2 hc h3;go_wp2_with fail;go_ret;exact ⟨by rw[H.out];rfl,rfl⟩
 have g2:(L:Int)≤20:=by omega
 have e0:=hc 0 c1;rw[Nat.add_zero] at e0;obtain ⟨x,hx⟩:∃ x,n.getD 0 0=x:=⟨_,rfl⟩;have HX:Hid (n.getD 0 0=x):=hx;rw[hx] at e0;clear hx hc h3
 by_cases c3:x=0
 ·have H:Hid (Zld n=false):=decide_eq_false (fun h=>h (.inr (.inr (by rw[HX.out];exact c3))))
  subst c3;clear c1 c2;go_wp2_with fail;go_ret;exact ⟨by rw[H.out];rfl,rfl⟩
 ·have H:Hid (Zld n=true):=decide_eq_true (fun h=>by rw[HL.out,HX.out] at h;omega)
  have d1:(x == 0)=false:=by rw[beq_eq_false_iff_ne];exact c3
  have d2:(x != 0)=true:=by rw[bne,d1];rfl
  clear c1 c2 c3;go_wp2_with fail;go_ret;exact ⟨by rw[H.out];rfl,rfl⟩
theorem Zkj {v:Value} {n:List Int} {w:World} (hv:Bs w v n) (b:byt n) (hl:n.length≤140737488351232):Calls Tryz.prog 94 #[v] w (ElR w (ZjG n)):=by
 have HV:Hid (Bs w v n):=hv;have HB:Hid (byt n):=b;have HLn:Hid (n.length≤140737488351232):=hl;obtain ⟨ao,cap,rfl,-,-,-⟩:=hv;clear b hl;have R0:=Blk.new w [.int .i64 0,.int .i64 0,.bool false,.slice none 0 0,.slice none 0 0] 53 w.heap.size rfl;have bel:=bal w (.cells #[.int .i64 0,.int .i64 0,.bool false,.slice none 0 0,.slice none 0 0] 53);have hz:=Zaj.out;go_enter Tryz.func94,Tryz.ntmps94;go_upto_region 1 with fail;have lW:=bel.size;generalize w.alloc (.cells #[.int .i64 0,.int .i64 0,.bool false,.slice none 0 0,.slice none 0 0] 53)=W at *;have lR:=R0.lt;obtain ⟨N0,hN0⟩:∃ n,n=W.heap.size:=⟨_,rfl⟩;rw[← hN0] at lR lW;have hs:N0≤W.heap.size:=by omega
 clear hz;go_wp2_with fail;refine (ZeW (HV.out.later bel)).mono ?_;rintro e w1 ⟨rfl,hw1⟩;rw[hw1];clear hw1 w1
 cases hsb:Zld n with
 | false =>
  have H:Hid (ZjG n=none):=Zq8 hsb;clear hsb;have hz:=Zaj.out;obtain ⟨tR,hR⟩:=R0;have HR1:Hid _:=hR;clear hR;go_wp2_with (first|((with_reducible show wpList _ _ _ (⟨_,.store _ _ _,_,_,_,_⟩::_) _ _);refine wpList_store_row rfl 53 _ _ rfl (w.heap.size) #[.int .i64 0,.int .i64 0,.bool false,.slice none 0 0,.slice none 0 0] rfl rfl tR _ HR1.out (by rw[Zae];rfl) rfl (by simp[Value.oneCell']) ?_)|fail);refine bodyPost_ret (Zac rfl _ _ (w.heap.size) tR #[.int .i64 0,.int .i64 0,.bool false,.slice none 0 0,.slice none 0 0] (0,0) _ rfl (setRow_heap _ _ _ _ _ _ HR1.out) Tryz.underlying53 rfl (by rw[Zae];rfl)) rfl ?_;exact ElR.bad H.out (below_setRow bel (by omega) _)
 | true =>
  obtain⟨X,hX,hS⟩:=Zpz hsb;have H:Hid (ZjG n=some (.mk 0 2 false X [])):=hS;have HX:Hid (ZaG n=.ok X):=hX;clear hsb hX hS;go_wp2_with fail;refine (ZhB (HV.out.later bel) HB.out HLn.out).mono ?_;rintro e w2 ⟨hok,-⟩;obtain ⟨v2,rfl,hv2,hn2,hb⟩:=hok X HX.out;have HB2:Hid (Bs w2 v2 X):=hv2;have HN2:Hid (Zbg W v2):=hn2;obtain ⟨va,vc,hv3,-,-,-⟩:=id hv2;obtain ⟨L2,hL2⟩:∃ z,X.length=z:=⟨_,rfl⟩;rw[hL2] at hv3;subst hv3;replace R0:=R0.later hb;replace bel:=Zaa bel hb;clear hb hok hv2 hn2 hL2;have q:=ZaU;go_wp2_with fail;refine Zee.mono ?_;rintro e w3 ⟨rfl,hb⟩;have HT:Hid (Dep (fun g=>N0≤g) w3 (.mk 0 2 false X []) [.int .i64 0,.int .i64 2,.bool false,.slice va L2 vc,.slice none 0 0]):=by rw[hN0];exact Zda (HB2.out.later hb) HN2.out 0 2 false
  replace R0:=R0.later hb;replace bel:=Zaa bel hb;clear hb HB2 HN2;obtain ⟨tR,hR⟩:=R0;have HR1:Hid _:=hR;clear hR;go_wp2_with (first|((with_reducible show wpList _ _ _ (⟨_,.store _ _ _,_,_,_,_⟩::_) _ _);refine wpList_store_row rfl 53 _ _ rfl (w.heap.size) #[.int .i64 0,.int .i64 2,.bool false,.slice va L2 vc,.slice none 0 0] rfl rfl tR _ HR1.out (by rw[Zae];rfl) rfl (by simp[Value.oneCell']) ?_)|fail);refine bodyPost_ret (Zac rfl _ _ (w.heap.size) tR #[.int .i64 0,.int .i64 2,.bool false,.slice va L2 vc,.slice none 0 0] (0,0) _ rfl (setRow_heap _ _ _ _ _ _ HR1.out) Tryz.underlying53 rfl (by rw[Zae];rfl)) rfl ?_;exact ElR.ok (cs:=[.int .i64 0,.int .i64 2,.bool false,.slice va L2 vc,.slice none 0 0]) H.out (Zc7 HT.out lR lW) (below_setRow bel (by omega) _)
theorem Zfz {t:Int} {w:World} (ht:-9223372036854775808≤t∧t≤9223372036854775807):Calls Tryz.prog 51 #[.int .i64 t] w (ElR w (Zcv t)):=by
 have HTb:Hid (-9223372036854775808≤t∧t≤9223372036854775807):=ht;clear ht;have R0:=Blk.new w [.int .i64 0,.int .i64 0,.bool false,.slice none 0 0,.slice none 0 0] 53 w.heap.size rfl;have bel:=bal w (.cells #[.int .i64 0,.int .i64 0,.bool false,.slice none 0 0,.slice none 0 0] 53);have hz:=Zaj.out;go_enter Tryz.func51,Tryz.ntmps51;go_upto_region 1 with fail;have lW:=bel.size;generalize w.alloc (.cells #[.int .i64 0,.int .i64 0,.bool false,.slice none 0 0,.slice none 0 0] 53)=W at *;have lR:=R0.lt;obtain ⟨N0,hN0⟩:∃ n,n=W.heap.size:=⟨_,rfl⟩;rw[← hN0] at lR lW;have hs:N0≤W.heap.size:=by omega
 clear hz;go_wp2_with fail;refine (Zkr HTb.out).mono ?_;rintro e w2 ⟨hok,hbad⟩
 cases ht:Za2 t with
 | error c =>
  obtain⟨va,vc,rfl,hb⟩:=hbad c ht;have H:Hid (Zcv t=none):=Zrn ht;replace R0:=R0.later hb;replace bel:=Zaa bel hb;clear hok hbad hb ht;have q:=Zbh (c:Int);have hz:=Zaj.out;obtain ⟨tR,hR⟩:=R0;have HR1:Hid _:=hR;clear hR;go_wp2_with (first|((with_reducible show wpList _ _ _ (⟨_,.store _ _ _,_,_,_,_⟩::_) _ _);refine wpList_store_row rfl 53 _ _ rfl (w.heap.size) #[.int .i64 0,.int .i64 0,.bool false,.slice none 0 0,.slice none 0 0] rfl rfl tR _ HR1.out (by rw[Zae];rfl) rfl (by simp[Value.oneCell']) ?_)|fail);refine bodyPost_ret (Zac rfl _ _ (w.heap.size) tR #[.int .i64 0,.int .i64 0,.bool false,.slice none 0 0,.slice none 0 0] (0,0) _ rfl (setRow_heap _ _ _ _ _ _ HR1.out) Tryz.underlying53 rfl (by rw[Zae];rfl)) rfl ?_;exact ElR.bad H.out (below_setRow bel (by omega) _)
 | ok q9 =>
  obtain⟨a9,X⟩:=q9;obtain ⟨v2,rfl,hv2,hn2,hb⟩:=hok a9 X ht;have H:Hid (Zcv t=some (.mk 0 a9 false X [])):=ZpF ht;have HB2:Hid (Bs w2 v2 X):=hv2;have HN2:Hid (Zbg W v2):=hn2;obtain ⟨va,vc,hv3,-,-,-⟩:=id hv2;obtain ⟨L2,hL2⟩:∃ z,X.length=z:=⟨_,rfl⟩;rw[hL2] at hv3;subst hv3;replace R0:=R0.later hb;replace bel:=Zaa bel hb;clear hb hok hbad ht hv2 hn2 hL2;have q:=ZaU;go_wp2_with fail;refine Zee.mono ?_;rintro e w3 ⟨rfl,hb⟩;have HT:Hid (Dep (fun g=>N0≤g) w3 (.mk 0 a9 false X []) [.int .i64 0,.int .i64 a9,.bool false,.slice va L2 vc,.slice none 0 0]):=by rw[hN0];exact Zda (HB2.out.later hb) HN2.out 0 a9 false
  replace R0:=R0.later hb;replace bel:=Zaa bel hb;clear hb HB2 HN2;obtain ⟨tR,hR⟩:=R0;have HR1:Hid _:=hR;clear hR;go_wp2_with (first|((with_reducible show wpList _ _ _ (⟨_,.store _ _ _,_,_,_,_⟩::_) _ _);refine wpList_store_row rfl 53 _ _ rfl (w.heap.size) #[.int .i64 0,.int .i64 a9,.bool false,.slice va L2 vc,.slice none 0 0] rfl rfl tR _ HR1.out (by rw[Zae];rfl) rfl (by simp[Value.oneCell']) ?_)|fail);refine bodyPost_ret (Zac rfl _ _ (w.heap.size) tR #[.int .i64 0,.int .i64 a9,.bool false,.slice va L2 vc,.slice none 0 0] (0,0) _ rfl (setRow_heap _ _ _ _ _ _ HR1.out) Tryz.underlying53 rfl (by rw[Zae];rfl)) rfl ?_;exact ElR.ok (cs:=[.int .i64 0,.int .i64 a9,.bool false,.slice va L2 vc,.slice none 0 0]) H.out (Zc7 HT.out lR lW) (below_setRow bel (by omega) _)
def RwS (S:Nat→Prop) (w:World) (kv:Value) (Ts:List Tl):Prop:=∃ xs:List Value,w.ownsRow 0 53 5 kv Ts.length xs∧∀ i t,Ts[i]?=some t→Dep (fun b=>S b∧kv.ownBlock≠some b) w t ((xs.drop (5*i)).take 5)
theorem RwS.later {S:Nat→Prop} {w w':World} {kv:Value} {Ts:List Tl} (h:RwS S w kv Ts) (hb:Below w.heap.size w w'):RwS S w' kv Ts:=by
 obtain⟨xs,h1,h2⟩:=h;exact ⟨xs,Za7 (S:=fun _=>True) h1 (Agr.below hb) (fun _ _=>trivial),fun i t ht=>(h2 i t ht).next (Agr.below hb) (fun _ h _=>h)⟩
theorem RwS.mono {S S':Nat→Prop} {w:World} {kv:Value} {Ts:List Tl} (h:RwS S w kv Ts) (hS:∀ b,S b→b<w.heap.size→S' b):RwS S' w kv Ts:=by
 obtain⟨xs,h1,h2⟩:=h;exact ⟨xs,h1,fun i t ht=>(h2 i t ht).next (Agr.refl _ _) (fun b h hl=>⟨hS b h.1 hl,h.2⟩)⟩
theorem RwS.row {S:Nat→Prop} {w:World} {c:Nat} {kv:Value} {Ts:List Tl} {X:Array Value} (h:RwS S w kv Ts) (hc:¬ S c) (ho:kv.ownBlock≠some c):RwS S (w.setRow c X) kv Ts:=by
 obtain⟨xs,h1,h2⟩:=h;exact ⟨xs,Za7 (S:=fun b=>b≠c) h1 ((Agr.refl _ _).row (by simp)) (fun g hg e=>ho (e ▸ hg)),fun i t ht=>(h2 i t ht).next ((Agr.refl _ _).row (fun h=>hc h.1)) (fun _ h _=>h)⟩
theorem RwS.dep {S S':Nat→Prop} {w:World} {kv:Value} {Ts:List Tl} (h:RwS S w kv Ts) (c t:Int) (m:Bool) (hS:∀ b,S b→S' b) (hv:∀ g,kv.ownBlock=some g→S' g):Dep S' w (.mk c t m [] Ts) [.int .i64 c,.int .i64 t,.bool m,.slice none 0 0,kv]:=by
 obtain⟨xs,h1,h2⟩:=h;exact Zem h1 h2 c t m (fun _ h=>hS _ h.1) hv
theorem RwS.lt {S:Nat→Prop} {w:World} {kv:Value} {Ts:List Tl} (h:RwS S w kv Ts) {b:Nat} (hb:kv.ownBlock=some b):b<w.heap.size:=by
 obtain⟨xs,h1,_⟩:=h;exact (ZaB h1 hb).2
theorem RwS.lits {S:Nat→Prop} {w:World} {ks:List Tl} {xs:List Value} (hl:xs.length=ks.length*5) (hm:ks.length≤maxLen) (hk:∀ i k,ks[i]?=some k→Dep S w k ((xs.drop (5*i)).take 5)) :
  RwS S (w.alloc (.cells xs.toArray 53)) (.slice (some ⟨w.heap.size,0,none⟩) ks.length ks.length) ks:=by
 refine⟨xs,⟨hl,.inr ⟨w.heap.size,ks.length,xs.toArray,rfl,Nat.zero_le _,by show (w.heap.push _)[w.heap.size]?=_;simp,Nat.le_refl _,hm,by simpa using hl,by rw[List.take_of_length_le (by simp;omega)]⟩⟩,fun i k hi=>?_⟩;refine (hk i k hi).next (Agr.below ((Below.refl _ _).alloc (Nat.le_refl _) _)) (fun b hb hl=>⟨hb,fun e=>?_⟩);simp only[Value.ownBlock,Option.some.injEq] at e;omega
def okG (L:List Gn):Prop:=L.length≤64∧∀ g∈L,∃ T,Ze5 g=some T
noncomputable def gonT (g:Gn):Tl:=orT (Ze5 g)
noncomputable def gnO (L:List Gn):Option Tl:=open Classical in if okG L then some (ZdR (L.map gonT)) else none
theorem gnO_no {L:List Gn} (h:¬ okG L):gnO L=none:=by unfold gnO;rw[if_neg h]
theorem ZqD {L:List Gn} (h:okG L):gnO L=some (ZdR (L.map gonT)):=by unfold gnO;rw[if_pos h]
noncomputable def Zec (c:Cr):Option Tl:=(Ziz c.issuer).bind fun T1=>(Zcv c.frm).bind fun T2=>(Zcv c.til).bind fun T3=>if c.gone.length=0 then some (ZdR [Zcp 1,ZbR,T1,T2,T3]) else (gnO c.gone).bind fun TG=>some (ZdR ([Zcp 1,ZbR,T1,T2,T3]++[TG]))
theorem Zlp {c:Cr} (h:ZcB c):Zec c=some (Zbe c):=by
 obtain⟨h1,⟨F,hF⟩,⟨T,hT⟩,h4,h5⟩:=h;unfold Zec Zbe Zit Ziz;rw[if_pos h1,hF,hT];simp only[Option.bind_some]
 by_cases k:c.gone.length=0
 ·rw[if_pos k,if_neg (by omega)]
  rfl
 ·rw[if_neg k,if_pos (by omega),ZqD ⟨h4,h5⟩]
  rfl
theorem Zml {c:Cr} {T:Tl} (h:Zec c=some T):ZcB c:=by
 unfold Zec Ziz at h
 by_cases h1:Zc3 c.issuer=true
 ·rw[if_pos h1] at h
  simp only[Option.bind_some] at h
  cases hF:Zcv c.frm with
  | none=>rw[hF] at h;cases h
  | some F =>
   cases hT:Zcv c.til with
   | none=>rw[hF,hT] at h;cases h
   | some U =>
    rw[hF,hT] at h;simp only[Option.bind_some] at h
    by_cases k:c.gone.length=0
    ·exact ⟨h1,⟨F,hF⟩,⟨U,hT⟩,by omega,fun g hg=>by rw[List.eq_nil_of_length_eq_zero k] at hg;cases hg⟩
    ·rw[if_neg k] at h
     by_cases k2:okG c.gone
     ·exact ⟨h1,⟨F,hF⟩,⟨U,hT⟩,k2.1,k2.2⟩
     ·rw[gnO_no k2] at h
      cases h
 ·rw[if_neg h1] at h
  cases h
theorem Zrf:(Tryz.prog.info? 33).map (·.size)=some 17:=by kernel_rfl
theorem Zhz {f f2:Int} {w:World} (e1:f=f2) (hf:-9223372036854775808≤f∧f<9223372036854775808):Calls Tryz.prog 51 #[.int .i64 f2] w (ElR w (Zcv f)):=by
 subst e1;exact Zfz (by omega)
theorem ZgP {c0 c1 c2 c3 c4:List Value} (h0:c0.length=5) (h1:c1.length=5) (h2:c2.length=5) (h3:c3.length=5) (h4:c4.length=5):Instr.fill (fun i=>some (i*5,5)) ((Array.range (5*5)).map ((Value.agg #[.int .i64 0,.int .i64 0,.bool false,.slice none 0 0,.slice none 0 0]).cells[· % (Value.agg #[.int .i64 0,.int .i64 0,.bool false,.slice none 0 0,.slice none 0 0]).cells.size]!)) [(0,.agg c0.toArray),(1,.agg c1.toArray),(2,.agg c2.toArray),(3,.agg c3.toArray),(4,.agg c4.toArray)]=some (c0++(c1++(c2++(c3++(c4++[]))))).toArray:=by
 obtain⟨_,_,_,_,_,rfl⟩:=five h0;obtain ⟨_,_,_,_,_,rfl⟩:=five h1;obtain ⟨_,_,_,_,_,rfl⟩:=five h2;obtain ⟨_,_,_,_,_,rfl⟩:=five h3;obtain ⟨_,_,_,_,_,rfl⟩:=five h4;kernel_rfl
theorem Ze3 {c:Cr} {cs:List Value} {w:World} (h:ZcH w c cs) (wf:WfCr c) (h00:c.gone.length=0):Calls Tryz.prog 21 #[.agg cs.toArray] w (ElR w (Zec c)):=by
 obtain⟨wI,wF,wT,wG,-⟩:=wf;have HWI:Hid (WfN c.issuer):=wI;have HWG:Hid (WfG c.gone):=wG;have H00:Hid (c.gone.length=0):=h00;clear h00;have HC:Hid (ZcH w c cs):=h;obtain ⟨iv,gv,bv,rs,zs,hl,q0,q1,q2,q3,q4,qk,hI,hG,-,-,-⟩:=h.open;have HL17:Hid (cs.length=17):=hl;clear h hl;have B0:=(Blk.new w cs 33 w.heap.size rfl).alloc (.cells #[.int .i64 0,.int .i64 0,.bool false,.slice none 0 0,.slice none 0 0] 53);have R0:=Blk.new (w.alloc (.cells cs.toArray 33)) [.int .i64 0,.int .i64 0,.bool false,.slice none 0 0,.slice none 0 0] 53 (w.heap.size+1) (by simp);have bel:Below w.heap.size w ((w.alloc (.cells cs.toArray 33)).alloc (.cells #[.int .i64 0,.int .i64 0,.bool false,.slice none 0 0,.slice none 0 0] 53)):=((Below.refl _ _).alloc (Nat.le_refl _) _).alloc (by simp) _;have hz:=Zaj.out;go_enter Tryz.func21,Tryz.ntmps21;go_upto_region 1 with fail;have lW:=bel.size;generalize (w.alloc (.cells cs.toArray 33)).alloc (.cells #[.int .i64 0,.int .i64 0,.bool false,.slice none 0 0,.slice none 0 0] 53)=W at *;have lR:=R0.lt;obtain ⟨N0,hN0⟩:∃ n,n=W.heap.size:=⟨_,rfl⟩;rw[← hN0] at lR lW;have hs:N0≤W.heap.size:=by omega
 clear hz;obtain ⟨jt,hjt,ht0,ht1,ht2⟩:=ZaO Zcb

 have HI:Hid (Zcq w iv c.issuer):=hI;have HG:Hid (Zfc w gv c.gone):=hG;obtain ⟨ia,ic,hie,-,-,-⟩:=hI;obtain ⟨ga,gc,hge,-,hgm,-⟩:=hG;obtain ⟨IL,hIL⟩:∃ z,c.issuer.length=z:=⟨_,rfl⟩;obtain ⟨GL,hGL⟩:∃ z,c.gone.length=z:=⟨_,rfl⟩;have HGL:Hid (c.gone.length=GL):=hGL;rw[hIL] at hie;rw[hGL] at hge;subst hie hge;obtain ⟨fr,hfr⟩:∃ z,c.frm=z:=⟨_,rfl⟩;obtain ⟨ti,hti⟩:∃ z,c.til=z:=⟨_,rfl⟩;have Hfr:Hid (c.frm=fr):=hfr;have Hti:Hid (c.til=ti):=hti;rw[hfr] at q1;rw[hti] at q2;have HQ0:Hid _:=q0;have HQ1:Hid _:=q1;have HQ2:Hid _:=q2;have HQ3:Hid _:=q3;clear hIL hGL hfr hti q0 q1 q2 q3 q4 qk hgm wI wG;have l0:=B0.lt;have e0:=B0.cell 0 _ HQ0.out;go_wp2_with fail;refine (Zkq (HI.out.later bel) HWI.out).mono ?_;rintro e w1a ⟨hb,hbad,hok⟩;clear e0 l0
 cases hx:Ziz c.issuer with
 | none =>
  obtain⟨c9,rfl⟩:=hbad hx;have H:Hid (Zec c=none):=by show _=_;unfold Zec;simp only[hx,Option.bind_some,Option.bind_none]
  replace R0:=R0.later hb;replace bel:=Zaa bel hb;clear hok hbad hb hx  B0;have q:=Zbh c9;have hz:=Zaj.out;replace R0:=R0.alloc (.cells #[.int .i64 0,.int .i64 0,.bool false,.slice none 0 0,.slice none 0 0] 53);replace bel:=Zah (o:=.cells #[.int .i64 0,.int .i64 0,.bool false,.slice none 0 0,.slice none 0 0] 53) bel;go_upto_region 2 with (first|((with_reducible show wpList _ _ _ (⟨_,.store _ _ _,_,_,_,_⟩::_) _ _);refine wpList_store_row rfl 53 _ _ rfl w1a.heap.size #[.int .i64 0,.int .i64 0,.bool false,.slice none 0 0,.slice none 0 0] rfl rfl 53 _ (heap_alloc_last _ _) (by rw[Zae];rfl) rfl (by simp[Value.oneCell']) ?_;rw[World.setRow_alloc_new])|fail);generalize w1a.alloc (.cells #[.int .i64 0,.int .i64 0,.bool false,.slice none 0 0,.slice none 0 0] 53)=V9 at *;clear hz;have hz:=Zaj.out;obtain ⟨tR,hR⟩:=R0;have HR1:Hid _:=hR;clear hR;go_wp2_with (first|((with_reducible show wpList _ _ _ (⟨_,.store _ _ _,_,_,_,_⟩::_) _ _);refine wpList_store_row rfl 53 _ _ rfl (w.heap.size+1) #[.int .i64 0,.int .i64 0,.bool false,.slice none 0 0,.slice none 0 0] rfl rfl tR _ HR1.out (by rw[Zae];rfl) rfl (by simp[Value.oneCell']) ?_)|fail);refine bodyPost_ret (Zac rfl _ _ (w.heap.size+1) tR #[.int .i64 0,.int .i64 0,.bool false,.slice none 0 0,.slice none 0 0] (0,0) _ rfl (setRow_heap _ _ _ _ _ _ HR1.out) Tryz.underlying53 rfl (by rw[Zae];rfl)) rfl ?_;exact ElR.bad H.out (below_setRow bel (by omega) _)
 | some T1 =>
  obtain⟨es1,rfl,hd⟩:=hok T1 hx;have HX1:Hid (Ziz c.issuer=some T1):=hx;have HD1:Hid (Dep (fun g=>N0≤g) w1a T1 es1):=hd.next (Agr.refl _ _) (fun _ h _=>Nat.le_trans hs h);have HL1:Hid (es1.length=5):=hd.now.five;have HO1:Hid (Zca es1):=hd.now.ones;replace B0:=B0.later hb;replace R0:=R0.later hb;replace bel:=Zaa bel hb;replace hs:=hsl hs hb;clear hok hbad hb hx hd;have HS5e:Hid (es1.toArray.size=5):=by show _=_;rw[List.size_toArray];exact HL1.out
  have hz:=Zaj.out;have hb:=bal w1a (.cells es1.toArray 53);replace B0:=B0.later hb;replace R0:=R0.later hb;replace HD1:=dpl HD1 hb;have HG0:N0≤w1a.heap.size:=hs;replace bel:=Zaa bel hb;replace hs:=hsl hs hb;have Q1:=Blk.new w1a es1 53 w1a.heap.size rfl;go_upto_region 2 with (first|((with_reducible show wpList _ _ _ (⟨_,.store _ _ _,_,_,_,_⟩::_) _ _);refine wpList_store_row rfl 53 _ _ rfl w1a.heap.size es1.toArray rfl rfl 53 _ (heap_alloc_last _ _) (by rw[Zae,HS5e.out]) (by rw[HS5e.out];rfl) HO1.out ?_;rw[World.setRow_alloc_new])|fail);clear hz HS5e hb HG0;obtain ⟨g1,hg1⟩:∃ g,g=w1a.heap.size:=⟨_,rfl⟩;rw[← hg1] at Q1 ⊢;generalize (w1a.alloc (.cells es1.toArray 53))=V1 at *;clear hg1;have q:=ZaU;have l0:=B0.lt;have e1:=B0.cell 1 _ HQ1.out;go_wp2_with fail;refine (Zhz Hfr.out wF).mono ?_;rintro e w2a ⟨hb,hbad,hok⟩;clear e1 l0;clear q
  cases hx:Zcv c.frm with
  | none =>
   obtain⟨c9,rfl⟩:=hbad hx;have H:Hid (Zec c=none):=by show _=_;unfold Zec;simp only[HX1.out,hx,Option.bind_some,Option.bind_none]
   replace R0:=R0.later hb;replace bel:=Zaa bel hb;clear hok hbad hb hx Q1 B0;have q:=Zbh c9;have hz:=Zaj.out;replace R0:=R0.alloc (.cells #[.int .i64 0,.int .i64 0,.bool false,.slice none 0 0,.slice none 0 0] 53);replace bel:=Zah (o:=.cells #[.int .i64 0,.int .i64 0,.bool false,.slice none 0 0,.slice none 0 0] 53) bel;go_upto_region 5 with (first|((with_reducible show wpList _ _ _ (⟨_,.store _ _ _,_,_,_,_⟩::_) _ _);refine wpList_store_row rfl 53 _ _ rfl w2a.heap.size #[.int .i64 0,.int .i64 0,.bool false,.slice none 0 0,.slice none 0 0] rfl rfl 53 _ (heap_alloc_last _ _) (by rw[Zae];rfl) rfl (by simp[Value.oneCell']) ?_;rw[World.setRow_alloc_new])|fail);generalize w2a.alloc (.cells #[.int .i64 0,.int .i64 0,.bool false,.slice none 0 0,.slice none 0 0] 53)=V9 at *;clear hz;have hz:=Zaj.out;obtain ⟨tR,hR⟩:=R0;have HR1:Hid _:=hR;clear hR;go_wp2_with (first|((with_reducible show wpList _ _ _ (⟨_,.store _ _ _,_,_,_,_⟩::_) _ _);refine wpList_store_row rfl 53 _ _ rfl (w.heap.size+1) #[.int .i64 0,.int .i64 0,.bool false,.slice none 0 0,.slice none 0 0] rfl rfl tR _ HR1.out (by rw[Zae];rfl) rfl (by simp[Value.oneCell']) ?_)|fail);refine bodyPost_ret (Zac rfl _ _ (w.heap.size+1) tR #[.int .i64 0,.int .i64 0,.bool false,.slice none 0 0,.slice none 0 0] (0,0) _ rfl (setRow_heap _ _ _ _ _ _ HR1.out) Tryz.underlying53 rfl (by rw[Zae];rfl)) rfl ?_;exact ElR.bad H.out (below_setRow bel (by omega) _)
  | some T2 =>
   obtain⟨es2,rfl,hd⟩:=hok T2 hx;have HX2:Hid (Zcv c.frm=some T2):=hx;have HD2:Hid (Dep (fun g=>N0≤g) w2a T2 es2):=hd.next (Agr.refl _ _) (fun _ h _=>Nat.le_trans hs h);have HL2:Hid (es2.length=5):=hd.now.five;have HO2:Hid (Zca es2):=hd.now.ones;replace B0:=B0.later hb;replace R0:=R0.later hb;replace Q1:=Q1.later hb;replace HD1:=dpl HD1 hb;replace bel:=Zaa bel hb;replace hs:=hsl hs hb;clear hok hbad hb hx hd;have HS5e:Hid (es2.toArray.size=5):=by show _=_;rw[List.size_toArray];exact HL2.out
   have hz:=Zaj.out;have hb:=bal w2a (.cells es2.toArray 53);replace B0:=B0.later hb;replace R0:=R0.later hb;replace Q1:=Q1.later hb;replace HD1:=dpl HD1 hb;replace HD2:=dpl HD2 hb;have HG0:N0≤w2a.heap.size:=hs;replace bel:=Zaa bel hb;replace hs:=hsl hs hb;have Q2:=Blk.new w2a es2 53 w2a.heap.size rfl;go_upto_region 5 with (first|((with_reducible show wpList _ _ _ (⟨_,.store _ _ _,_,_,_,_⟩::_) _ _);refine wpList_store_row rfl 53 _ _ rfl w2a.heap.size es2.toArray rfl rfl 53 _ (heap_alloc_last _ _) (by rw[Zae,HS5e.out]) (by rw[HS5e.out];rfl) HO2.out ?_;rw[World.setRow_alloc_new])|fail);clear hz HS5e hb HG0;obtain ⟨g2,hg2⟩:∃ g,g=w2a.heap.size:=⟨_,rfl⟩;rw[← hg2] at Q2 ⊢;generalize (w2a.alloc (.cells es2.toArray 53))=V2 at *;clear hg2;have q:=ZaU;have l0:=B0.lt;have e2:=B0.cell 2 _ HQ2.out;go_wp2_with fail;refine (Zhz Hti.out wT).mono ?_;rintro e w3a ⟨hb,hbad,hok⟩;clear e2 l0;clear q
   cases hx:Zcv c.til with
   | none =>
    obtain⟨c9,rfl⟩:=hbad hx;have H:Hid (Zec c=none):=by show _=_;unfold Zec;simp only[HX1.out,HX2.out,hx,Option.bind_some,Option.bind_none]
    replace R0:=R0.later hb;replace bel:=Zaa bel hb;clear hok hbad hb hx Q1 Q2 B0;have q:=Zbh c9;have hz:=Zaj.out;replace R0:=R0.alloc (.cells #[.int .i64 0,.int .i64 0,.bool false,.slice none 0 0,.slice none 0 0] 53);replace bel:=Zah (o:=.cells #[.int .i64 0,.int .i64 0,.bool false,.slice none 0 0,.slice none 0 0] 53) bel;go_upto_region 8 with (first|((with_reducible show wpList _ _ _ (⟨_,.store _ _ _,_,_,_,_⟩::_) _ _);refine wpList_store_row rfl 53 _ _ rfl w3a.heap.size #[.int .i64 0,.int .i64 0,.bool false,.slice none 0 0,.slice none 0 0] rfl rfl 53 _ (heap_alloc_last _ _) (by rw[Zae];rfl) rfl (by simp[Value.oneCell']) ?_;rw[World.setRow_alloc_new])|fail);generalize w3a.alloc (.cells #[.int .i64 0,.int .i64 0,.bool false,.slice none 0 0,.slice none 0 0] 53)=V9 at *;clear hz;have hz:=Zaj.out;obtain ⟨tR,hR⟩:=R0;have HR1:Hid _:=hR;clear hR;go_wp2_with (first|((with_reducible show wpList _ _ _ (⟨_,.store _ _ _,_,_,_,_⟩::_) _ _);refine wpList_store_row rfl 53 _ _ rfl (w.heap.size+1) #[.int .i64 0,.int .i64 0,.bool false,.slice none 0 0,.slice none 0 0] rfl rfl tR _ HR1.out (by rw[Zae];rfl) rfl (by simp[Value.oneCell']) ?_)|fail);refine bodyPost_ret (Zac rfl _ _ (w.heap.size+1) tR #[.int .i64 0,.int .i64 0,.bool false,.slice none 0 0,.slice none 0 0] (0,0) _ rfl (setRow_heap _ _ _ _ _ _ HR1.out) Tryz.underlying53 rfl (by rw[Zae];rfl)) rfl ?_;exact ElR.bad H.out (below_setRow bel (by omega) _)
   | some T3 =>
    obtain⟨es3,rfl,hd⟩:=hok T3 hx;have HX3:Hid (Zcv c.til=some T3):=hx;have HD3:Hid (Dep (fun g=>N0≤g) w3a T3 es3):=hd.next (Agr.refl _ _) (fun _ h _=>Nat.le_trans hs h);have HL3:Hid (es3.length=5):=hd.now.five;have HO3:Hid (Zca es3):=hd.now.ones;replace B0:=B0.later hb;replace R0:=R0.later hb;replace Q1:=Q1.later hb;replace Q2:=Q2.later hb;replace HD1:=dpl HD1 hb;replace HD2:=dpl HD2 hb;replace bel:=Zaa bel hb;replace hs:=hsl hs hb;clear hok hbad hb hx hd;have HS5e:Hid (es3.toArray.size=5):=by show _=_;rw[List.size_toArray];exact HL3.out
    have hz:=Zaj.out;have hb:=bal w3a (.cells es3.toArray 53);replace B0:=B0.later hb;replace R0:=R0.later hb;replace Q1:=Q1.later hb;replace Q2:=Q2.later hb;replace HD1:=dpl HD1 hb;replace HD2:=dpl HD2 hb;replace HD3:=dpl HD3 hb;have HG0:N0≤w3a.heap.size:=hs;replace bel:=Zaa bel hb;replace hs:=hsl hs hb;have Q3:=Blk.new w3a es3 53 w3a.heap.size rfl;go_upto_region 8 with (first|((with_reducible show wpList _ _ _ (⟨_,.store _ _ _,_,_,_,_⟩::_) _ _);refine wpList_store_row rfl 53 _ _ rfl w3a.heap.size es3.toArray rfl rfl 53 _ (heap_alloc_last _ _) (by rw[Zae,HS5e.out]) (by rw[HS5e.out];rfl) HO3.out ?_;rw[World.setRow_alloc_new])|fail);clear hz HS5e hb HG0;obtain ⟨g3,hg3⟩:∃ g,g=w3a.heap.size:=⟨_,rfl⟩;rw[← hg3] at Q3 ⊢;generalize (w3a.alloc (.cells es3.toArray 53))=V3 at *;clear hg3;have q:=ZaU;go_upto_region 10 with fail;clear q;have HBB:Hid (Blk V3 w.heap.size cs):=B0;have HRR:Hid (Blk V3 (w.heap.size+1) [.int .i64 0,.int .i64 0,.bool false,.slice none 0 0,.slice none 0 0]):=R0;have HBel:Hid (Below w.heap.size w V3):=bel;obtain ⟨S1,hS1,KB1,KI1,KD1,KL1,KA1⟩:∃ S:World→Prop,Hd S V3∧Hid (∀ wx,Hd S wx→Below V3.heap.size V3 wx)∧Hid (∀ wx,Below V3.heap.size V3 wx→Hd S wx)∧Hid (∀ wx,Hd S wx→Hd S wx.drew)∧Hid (∀ w1 w2,Hd S w1→Below w1.heap.size w1 w2→Hd S w2)∧Hid (∀ w1 o,Hd S w1→Hd S (w1.alloc o)):=⟨fun wx=>Below V3.heap.size V3 wx,Below.refl _ _,fun _ h=>h,fun _ h=>h,fun wx h=>Below.drew h,fun w1 w2 h hb=>Zaa h hb,fun w1 o h=>Below.alloc h h.size o⟩;have R1:Hid (∀ wx,Hd S1 wx→(loadVar 53 ⟨g1,0,none⟩).run Tryz.prog wx=.ok (.agg es1.toArray) wx):=fun wx h=>(Q1.later (KB1.out wx h)).load Tryz.underlying53 rfl Zae HL1.out;have R2:Hid (∀ wx,Hd S1 wx→(loadVar 53 ⟨g2,0,none⟩).run Tryz.prog wx=.ok (.agg es2.toArray) wx):=fun wx h=>(Q2.later (KB1.out wx h)).load Tryz.underlying53 rfl Zae HL2.out;have R3:Hid (∀ wx,Hd S1 wx→(loadVar 53 ⟨g3,0,none⟩).run Tryz.prog wx=.ok (.agg es3.toArray) wx):=fun wx h=>(Q3.later (KB1.out wx h)).load Tryz.underlying53 rfl Zae HL3.out;have hszj:N0≤V3.heap.size:=hs;clear R0 bel hs B0 Q1 Q2 Q3;refine wp_region_noPanic ?_;refine wp_region_held_drew (S:=Hd S1) (by kernel_rfl) (KD1.out _ hS1) (fun hHeld=>?_);clear hS1;generalize World.drew _=wd1 at *;refine trA 2 (.agg es1.toArray) R1.out ?_;refine trA 3 (.agg es2.toArray) R2.out ?_;refine trA 4 (.agg es3.toArray) R3.out ?_;apply ZnJ (T:=∀ (wz:World) (g8 g9:Nat) (dv da:List Value),Hd S1 wz→RwS (fun b=>N0≤b∧b≠g8) wz (Value.slice (some ⟨g9,0,none⟩) 5 5) [Zcp 1,ZbR,T1,T2,T3]→Blk wz g8 [.int .i64 0,.int .i64 0,.bool false,.slice none 0 0,.slice none 0 0]→V3.heap.size≤g8→N0≤g9→g9≠g8→wpAnyH _ _ _ _ _ _ _ _ wz)
    case main =>
     intro k5;refine wpAnyH_ready (rs:=[0,7]) (by kernel_rfl) (by simp) ?_;refine AllReadyH.cons rfl (fun K hK=>?_) ?_
     ·have HB0:Hid (Below V3.heap.size V3 wd1):=KB1.out _ hHeld
      go_simp;refine Zd2.mono ?_;rintro e z0 ⟨dv,rfl,hd,hb⟩;refine hK.out _ _ ?_ (fun hHeld2=>?_)
      ·exact KL1.out _ _ hHeld hb
      ·clear hK K
       try clear hHeld
       have hHeld:=hHeld2;clear hHeld2;have hDv:Dep (fun b=>N0≤b) z0 (Zcp 1) dv:=hd.next (Agr.refl _ _) (fun b h _=>by have:=HB0.out.size;omega);clear hb hd HB0;refine wpAnyH_ready (rs:=[1,7]) (by kernel_rfl) (by simp) ?_;refine AllReadyH.cons rfl (fun K hK=>?_) ?_
       ·have HB0:Hid (Below V3.heap.size V3 z0):=KB1.out _ hHeld
        go_simp;refine ZbZ.mono ?_;rintro e z1 ⟨da,rfl,hd,hb⟩;refine hK.out _ _ ?_ (fun hHeld2=>?_)
        ·exact KL1.out _ _ hHeld hb
        ·clear hK K
         try clear hHeld
         have hHeld:=hHeld2;clear hHeld2;have hDa:Dep (fun b=>N0≤b) z1 (ZbR) da:=hd.next (Agr.refl _ _) (fun b h _=>by have:=HB0.out.size;omega);replace hDv:=dpm hDv hb;clear hb hd HB0;refine wpAnyH_ready (rs:=[5,7]) (by kernel_rfl) (by simp) ?_;refine AllReadyH.cons rfl (fun K hK=>?_) ?_
         ·have HB0:Hid (Below V3.heap.size V3 z1):=KB1.out _ hHeld
          have hdv5:dv.length=5:=hDv.now.five;have hda5:da.length=5:=hDa.now.five;rw[if_pos (by rfl)];refine wp_buildSlice 51 53 5 _ rfl (dv++(da++(es1++(es2++(es3++[]))))).toArray jt _ Tryz.underlying51 hjt ht0 (by rw[ht1];decide) (by rw[ht1];decide) (by rw[ht1];refine (congrArg _ (?_:_=[(0,Value.agg dv.toArray),(1,.agg da.toArray),(2,.agg es1.toArray),(3,.agg es2.toArray),(4,.agg es3.toArray)])).trans (ZgP hdv5 hda5 HL1.out HL2.out HL3.out);kernel_rfl) ?_;refine hK.out _ _ ?_ (fun hHeld2=>?_)
          ·exact KA1.out _ _ hHeld
          ·clear hK K
           try clear hHeld
           have hHeld:=hHeld2;clear hHeld2;have hb:=bal z1 (.cells (dv++(da++(es1++(es2++(es3++[]))))).toArray 53);have hD9:RwS (fun b=>N0≤b) (z1.alloc (.cells (dv++(da++(es1++(es2++(es3++[]))))).toArray 53)) (Value.slice (some ⟨z1.heap.size,0,none⟩) 5 5) [Zcp 1,ZbR,T1,T2,T3]:=RwS.lits (ks:=[Zcp 1,ZbR,T1,T2,T3]) (by simp[hdv5,hda5,HL1.out,HL2.out,HL3.out]) (by show 5≤maxLen;decide) (Ze6 hDv hdv5 (Ze6 hDa hda5 (Ze6 (HD1.out.next (Agr.below HB0.out) (fun b h hl=>h)) HL1.out (Ze6 (HD2.out.next (Agr.below HB0.out) (fun b h hl=>h)) HL2.out (Ze6 (HD3.out.next (Agr.below HB0.out) (fun b h hl=>h)) HL3.out kc_n)))));have lg9:N0≤z1.heap.size:=Nat.le_trans hszj HB0.out.size;obtain ⟨g9,hg9⟩:∃ g,g=z1.heap.size:=⟨_,rfl⟩;rw[← hg9] at hD9 lg9 ⊢;clear hg9 HB0 hDv hDa hb;generalize (z1.alloc (.cells (dv++(da++(es1++(es2++(es3++[]))))).toArray 53))=z5 at *;refine wpAnyH_ready (rs:=[6,7]) (by kernel_rfl) (by simp) ?_;refine AllReadyH.cons rfl (fun K hK=>?_) ?_
           ·go_simp
            refine ZdC.mono ?_;rintro e z6 ⟨rfl,hb⟩;refine hK.out _ _ ?_ (fun hHeld2=>?_)
            ·exact KL1.out _ _ hHeld hb
            ·clear hK K
             try clear hHeld
             have hHeld:=hHeld2;clear hHeld2;replace hD9:RwS (fun b=>N0≤b) z6 (Value.slice (some ⟨g9,0,none⟩) 5 5) [Zcp 1,ZbR,T1,T2,T3]:=hD9.later hb;clear hb;refine wpAnyH_ready (rs:=[7]) (by kernel_rfl) (by simp) ?_;refine AllReadyH.cons rfl (fun K hK=>?_) ?_
             ·have HH0:Hid (Hd S1 z6):=hHeld
              have hz:=Zaj.out;go_simp;refine hK.out _ _ ?_ (fun hHeld2=>?_)
              ·exact KA1.out _ _ hHeld
              ·clear hK K
               try clear hHeld
               have hHeld:=hHeld2;clear hHeld2;clear hz;have hb:=bal z6 (.cells #[.int .i64 0,.int .i64 0,.bool false,.slice none 0 0,.slice none 0 0] 53);have Z0:=Blk.new z6 [.int .i64 0,.int .i64 0,.bool false,.slice none 0 0,.slice none 0 0] 53 z6.heap.size rfl;obtain ⟨g8,hg8⟩:∃ g,g=z6.heap.size:=⟨_,rfl⟩;have lg8:V3.heap.size≤g8:=by rw[hg8];exact (KB1.out _ HH0.out).size
               have l9:=hD9.lt (b:=g9) rfl;have hne:g9≠g8:=by omega
               replace hD9:RwS (fun b=>N0≤b∧b≠g8) (z6.alloc (.cells #[.int .i64 0,.int .i64 0,.bool false,.slice none 0 0,.slice none 0 0] 53)) (Value.slice (some ⟨g9,0,none⟩) 5 5) [Zcp 1,ZbR,T1,T2,T3]:=(hD9.mono (fun b h hl=>⟨h,by omega⟩)).later hb;clear l9;rw[← hg8] at Z0 ⊢;clear hg8 HH0 hb;generalize (z6.alloc (.cells #[.int .i64 0,.int .i64 0,.bool false,.slice none 0 0,.slice none 0 0] 53))=z7 at *;exact k5 z7 g8 g9 dv da hHeld hD9 Z0 lg8 lg9 hne
             exact AllReadyH.nil
           refine AllReadyH.cons rfl (fun K hK=>?_) ?_
           ·have HH0:Hid (Hd S1 z5):=hHeld
            have hz:=Zaj.out;go_simp;refine hK.out _ _ ?_ (fun hHeld2=>?_)
            ·exact KA1.out _ _ hHeld
            ·clear hK K
             try clear hHeld
             have hHeld:=hHeld2;clear hHeld2;clear hz;have hb:=bal z5 (.cells #[.int .i64 0,.int .i64 0,.bool false,.slice none 0 0,.slice none 0 0] 53);have Z0:=Blk.new z5 [.int .i64 0,.int .i64 0,.bool false,.slice none 0 0,.slice none 0 0] 53 z5.heap.size rfl;obtain ⟨g8,hg8⟩:∃ g,g=z5.heap.size:=⟨_,rfl⟩;have lg8:V3.heap.size≤g8:=by rw[hg8];exact (KB1.out _ HH0.out).size
             have l9:=hD9.lt (b:=g9) rfl;have hne:g9≠g8:=by omega
             replace hD9:RwS (fun b=>N0≤b∧b≠g8) (z5.alloc (.cells #[.int .i64 0,.int .i64 0,.bool false,.slice none 0 0,.slice none 0 0] 53)) (Value.slice (some ⟨g9,0,none⟩) 5 5) [Zcp 1,ZbR,T1,T2,T3]:=(hD9.mono (fun b h hl=>⟨h,by omega⟩)).later hb;clear l9;rw[← hg8] at Z0 ⊢;clear hg8 HH0 hb;generalize (z5.alloc (.cells #[.int .i64 0,.int .i64 0,.bool false,.slice none 0 0,.slice none 0 0] 53))=z7 at *;refine wpAnyH_ready (rs:=[6]) (by kernel_rfl) (by simp) ?_;refine AllReadyH.cons rfl (fun K hK=>?_) ?_
             ·go_simp
              refine ZdC.mono ?_;rintro e z6 ⟨rfl,hb⟩;refine hK.out _ _ ?_ (fun hHeld2=>?_)
              ·exact KL1.out _ _ hHeld hb
              ·clear hK K
               try clear hHeld
               have hHeld:=hHeld2;clear hHeld2;replace hD9:RwS (fun b=>N0≤b∧b≠g8) z6 (Value.slice (some ⟨g9,0,none⟩) 5 5) [Zcp 1,ZbR,T1,T2,T3]:=hD9.later hb;replace Z0:=Z0.later hb;clear hb;exact k5 z6 g8 g9 dv da hHeld hD9 Z0 lg8 lg9 hne
             exact AllReadyH.nil
           exact AllReadyH.nil
         refine AllReadyH.cons rfl (fun K hK=>?_) ?_
         ·have HH0:Hid (Hd S1 z1):=hHeld
          have hz:=Zaj.out;go_simp;refine hK.out _ _ ?_ (fun hHeld2=>?_)
          ·exact KA1.out _ _ hHeld
          ·clear hK K
           try clear hHeld
           have hHeld:=hHeld2;clear hHeld2;clear hz;have hb:=bal z1 (.cells #[.int .i64 0,.int .i64 0,.bool false,.slice none 0 0,.slice none 0 0] 53);have Z0:=Blk.new z1 [.int .i64 0,.int .i64 0,.bool false,.slice none 0 0,.slice none 0 0] 53 z1.heap.size rfl;obtain ⟨g8,hg8⟩:∃ g,g=z1.heap.size:=⟨_,rfl⟩;have lg8:V3.heap.size≤g8:=by rw[hg8];exact (KB1.out _ HH0.out).size
           replace hDv:Dep (fun b=>N0≤b∧b≠g8) (z1.alloc (.cells #[.int .i64 0,.int .i64 0,.bool false,.slice none 0 0,.slice none 0 0] 53)) (Zcp 1) dv:=hDv.next (Agr.below hb) (fun b h hl=>⟨h,by omega⟩);replace hDa:Dep (fun b=>N0≤b∧b≠g8) (z1.alloc (.cells #[.int .i64 0,.int .i64 0,.bool false,.slice none 0 0,.slice none 0 0] 53)) (ZbR) da:=hDa.next (Agr.below hb) (fun b h hl=>⟨h,by omega⟩);rw[← hg8] at Z0 ⊢;clear hg8 HH0 hb;generalize (z1.alloc (.cells #[.int .i64 0,.int .i64 0,.bool false,.slice none 0 0,.slice none 0 0] 53))=z7 at *;refine wpAnyH_ready (rs:=[5]) (by kernel_rfl) (by simp) ?_;refine AllReadyH.cons rfl (fun K hK=>?_) ?_
           ·have HB0:Hid (Below V3.heap.size V3 z7):=KB1.out _ hHeld
            have hdv5:dv.length=5:=hDv.now.five;have hda5:da.length=5:=hDa.now.five;rw[if_pos (by rfl)];refine wp_buildSlice 51 53 5 _ rfl (dv++(da++(es1++(es2++(es3++[]))))).toArray jt _ Tryz.underlying51 hjt ht0 (by rw[ht1];decide) (by rw[ht1];decide) (by rw[ht1];refine (congrArg _ (?_:_=[(0,Value.agg dv.toArray),(1,.agg da.toArray),(2,.agg es1.toArray),(3,.agg es2.toArray),(4,.agg es3.toArray)])).trans (ZgP hdv5 hda5 HL1.out HL2.out HL3.out);kernel_rfl) ?_;refine hK.out _ _ ?_ (fun hHeld2=>?_)
            ·exact KA1.out _ _ hHeld
            ·clear hK K
             try clear hHeld
             have hHeld:=hHeld2;clear hHeld2;have hb:=bal z7 (.cells (dv++(da++(es1++(es2++(es3++[]))))).toArray 53);have hD9:RwS (fun b=>N0≤b∧b≠g8) (z7.alloc (.cells (dv++(da++(es1++(es2++(es3++[]))))).toArray 53)) (Value.slice (some ⟨z7.heap.size,0,none⟩) 5 5) [Zcp 1,ZbR,T1,T2,T3]:=RwS.lits (ks:=[Zcp 1,ZbR,T1,T2,T3]) (by simp[hdv5,hda5,HL1.out,HL2.out,HL3.out]) (by show 5≤maxLen;decide) (Ze6 hDv hdv5 (Ze6 hDa hda5 (Ze6 (HD1.out.next (Agr.below HB0.out) (fun b h hl=>⟨h,by omega⟩)) HL1.out (Ze6 (HD2.out.next (Agr.below HB0.out) (fun b h hl=>⟨h,by omega⟩)) HL2.out (Ze6 (HD3.out.next (Agr.below HB0.out) (fun b h hl=>⟨h,by omega⟩)) HL3.out kc_n)))));have lz:=Z0.lt;replace Z0:=Z0.later hb;have lg9:N0≤z7.heap.size:=Nat.le_trans hszj HB0.out.size;obtain ⟨g9,hg9⟩:∃ g,g=z7.heap.size:=⟨_,rfl⟩;rw[← hg9] at hD9 lg9 ⊢;have hne:g9≠g8:=by omega
             clear lz;clear hg9 HB0 hDv hDa hb;generalize (z7.alloc (.cells (dv++(da++(es1++(es2++(es3++[]))))).toArray 53))=z5 at *;refine wpAnyH_ready (rs:=[6]) (by kernel_rfl) (by simp) ?_;refine AllReadyH.cons rfl (fun K hK=>?_) ?_
             ·go_simp
              refine ZdC.mono ?_;rintro e z6 ⟨rfl,hb⟩;refine hK.out _ _ ?_ (fun hHeld2=>?_)
              ·exact KL1.out _ _ hHeld hb
              ·clear hK K
               try clear hHeld
               have hHeld:=hHeld2;clear hHeld2;replace hD9:RwS (fun b=>N0≤b∧b≠g8) z6 (Value.slice (some ⟨g9,0,none⟩) 5 5) [Zcp 1,ZbR,T1,T2,T3]:=hD9.later hb;replace Z0:=Z0.later hb;clear hb;exact k5 z6 g8 g9 dv da hHeld hD9 Z0 lg8 lg9 hne
             exact AllReadyH.nil
           exact AllReadyH.nil
         exact AllReadyH.nil
       refine AllReadyH.cons rfl (fun K hK=>?_) ?_
       ·have HH0:Hid (Hd S1 z0):=hHeld
        have hz:=Zaj.out;go_simp;refine hK.out _ _ ?_ (fun hHeld2=>?_)
        ·exact KA1.out _ _ hHeld
        ·clear hK K
         try clear hHeld
         have hHeld:=hHeld2;clear hHeld2;clear hz;have hb:=bal z0 (.cells #[.int .i64 0,.int .i64 0,.bool false,.slice none 0 0,.slice none 0 0] 53);have Z0:=Blk.new z0 [.int .i64 0,.int .i64 0,.bool false,.slice none 0 0,.slice none 0 0] 53 z0.heap.size rfl;obtain ⟨g8,hg8⟩:∃ g,g=z0.heap.size:=⟨_,rfl⟩;have lg8:V3.heap.size≤g8:=by rw[hg8];exact (KB1.out _ HH0.out).size
         replace hDv:Dep (fun b=>N0≤b∧b≠g8) (z0.alloc (.cells #[.int .i64 0,.int .i64 0,.bool false,.slice none 0 0,.slice none 0 0] 53)) (Zcp 1) dv:=hDv.next (Agr.below hb) (fun b h hl=>⟨h,by omega⟩);rw[← hg8] at Z0 ⊢;clear hg8 HH0 hb;generalize (z0.alloc (.cells #[.int .i64 0,.int .i64 0,.bool false,.slice none 0 0,.slice none 0 0] 53))=z7 at *;refine wpAnyH_ready (rs:=[1]) (by kernel_rfl) (by simp) ?_;refine AllReadyH.cons rfl (fun K hK=>?_) ?_
         ·have HB0:Hid (Below V3.heap.size V3 z7):=KB1.out _ hHeld
          go_simp;refine ZbZ.mono ?_;rintro e z1 ⟨da,rfl,hd,hb⟩;refine hK.out _ _ ?_ (fun hHeld2=>?_)
          ·exact KL1.out _ _ hHeld hb
          ·clear hK K
           try clear hHeld
           have hHeld:=hHeld2;clear hHeld2;have lz:=Z0.lt;have hDa:Dep (fun b=>N0≤b∧b≠g8) z1 (ZbR) da:=hd.next (Agr.refl _ _) (fun b h _=>⟨by have:=HB0.out.size;omega,by omega⟩);replace hDv:=dpm hDv hb;replace Z0:=Z0.later hb;clear hb hd HB0 lz;refine wpAnyH_ready (rs:=[5]) (by kernel_rfl) (by simp) ?_;refine AllReadyH.cons rfl (fun K hK=>?_) ?_
           ·have HB0:Hid (Below V3.heap.size V3 z1):=KB1.out _ hHeld
            have hdv5:dv.length=5:=hDv.now.five;have hda5:da.length=5:=hDa.now.five;rw[if_pos (by rfl)];refine wp_buildSlice 51 53 5 _ rfl (dv++(da++(es1++(es2++(es3++[]))))).toArray jt _ Tryz.underlying51 hjt ht0 (by rw[ht1];decide) (by rw[ht1];decide) (by rw[ht1];refine (congrArg _ (?_:_=[(0,Value.agg dv.toArray),(1,.agg da.toArray),(2,.agg es1.toArray),(3,.agg es2.toArray),(4,.agg es3.toArray)])).trans (ZgP hdv5 hda5 HL1.out HL2.out HL3.out);kernel_rfl) ?_;refine hK.out _ _ ?_ (fun hHeld2=>?_)
            ·exact KA1.out _ _ hHeld
            ·clear hK K
             try clear hHeld
             have hHeld:=hHeld2;clear hHeld2;have hb:=bal z1 (.cells (dv++(da++(es1++(es2++(es3++[]))))).toArray 53);have hD9:RwS (fun b=>N0≤b∧b≠g8) (z1.alloc (.cells (dv++(da++(es1++(es2++(es3++[]))))).toArray 53)) (Value.slice (some ⟨z1.heap.size,0,none⟩) 5 5) [Zcp 1,ZbR,T1,T2,T3]:=RwS.lits (ks:=[Zcp 1,ZbR,T1,T2,T3]) (by simp[hdv5,hda5,HL1.out,HL2.out,HL3.out]) (by show 5≤maxLen;decide) (Ze6 hDv hdv5 (Ze6 hDa hda5 (Ze6 (HD1.out.next (Agr.below HB0.out) (fun b h hl=>⟨h,by omega⟩)) HL1.out (Ze6 (HD2.out.next (Agr.below HB0.out) (fun b h hl=>⟨h,by omega⟩)) HL2.out (Ze6 (HD3.out.next (Agr.below HB0.out) (fun b h hl=>⟨h,by omega⟩)) HL3.out kc_n)))));have lz:=Z0.lt;replace Z0:=Z0.later hb;have lg9:N0≤z1.heap.size:=Nat.le_trans hszj HB0.out.size;obtain ⟨g9,hg9⟩:∃ g,g=z1.heap.size:=⟨_,rfl⟩;rw[← hg9] at hD9 lg9 ⊢;have hne:g9≠g8:=by omega
             clear lz;clear hg9 HB0 hDv hDa hb;generalize (z1.alloc (.cells (dv++(da++(es1++(es2++(es3++[]))))).toArray 53))=z5 at *;refine wpAnyH_ready (rs:=[6]) (by kernel_rfl) (by simp) ?_;refine AllReadyH.cons rfl (fun K hK=>?_) ?_
             ·go_simp
              refine ZdC.mono ?_;rintro e z6 ⟨rfl,hb⟩;refine hK.out _ _ ?_ (fun hHeld2=>?_)
              ·exact KL1.out _ _ hHeld hb
              ·clear hK K
               try clear hHeld
               have hHeld:=hHeld2;clear hHeld2;replace hD9:RwS (fun b=>N0≤b∧b≠g8) z6 (Value.slice (some ⟨g9,0,none⟩) 5 5) [Zcp 1,ZbR,T1,T2,T3]:=hD9.later hb;replace Z0:=Z0.later hb;clear hb;exact k5 z6 g8 g9 dv da hHeld hD9 Z0 lg8 lg9 hne
             exact AllReadyH.nil
           exact AllReadyH.nil
         exact AllReadyH.nil
       exact AllReadyH.nil
     refine AllReadyH.cons rfl (fun K hK=>?_) ?_
     ·have HH0:Hid (Hd S1 wd1):=hHeld
      have hz:=Zaj.out;go_simp;refine hK.out _ _ ?_ (fun hHeld2=>?_)
      ·exact KA1.out _ _ hHeld
      ·clear hK K
       try clear hHeld
       have hHeld:=hHeld2;clear hHeld2;clear hz;have hb:=bal wd1 (.cells #[.int .i64 0,.int .i64 0,.bool false,.slice none 0 0,.slice none 0 0] 53);have Z0:=Blk.new wd1 [.int .i64 0,.int .i64 0,.bool false,.slice none 0 0,.slice none 0 0] 53 wd1.heap.size rfl;obtain ⟨g8,hg8⟩:∃ g,g=wd1.heap.size:=⟨_,rfl⟩;have lg8:V3.heap.size≤g8:=by rw[hg8];exact (KB1.out _ HH0.out).size
       rw[← hg8] at Z0 ⊢;clear hg8 HH0 hb;generalize (wd1.alloc (.cells #[.int .i64 0,.int .i64 0,.bool false,.slice none 0 0,.slice none 0 0] 53))=z7 at *;refine wpAnyH_ready (rs:=[0]) (by kernel_rfl) (by simp) ?_;refine AllReadyH.cons rfl (fun K hK=>?_) ?_
       ·have HB0:Hid (Below V3.heap.size V3 z7):=KB1.out _ hHeld
        go_simp;refine Zd2.mono ?_;rintro e z0 ⟨dv,rfl,hd,hb⟩;refine hK.out _ _ ?_ (fun hHeld2=>?_)
        ·exact KL1.out _ _ hHeld hb
        ·clear hK K
         try clear hHeld
         have hHeld:=hHeld2;clear hHeld2;have lz:=Z0.lt;have hDv:Dep (fun b=>N0≤b∧b≠g8) z0 (Zcp 1) dv:=hd.next (Agr.refl _ _) (fun b h _=>⟨by have:=HB0.out.size;omega,by omega⟩);replace Z0:=Z0.later hb;clear hb hd HB0 lz;refine wpAnyH_ready (rs:=[1]) (by kernel_rfl) (by simp) ?_;refine AllReadyH.cons rfl (fun K hK=>?_) ?_
         ·have HB0:Hid (Below V3.heap.size V3 z0):=KB1.out _ hHeld
          go_simp;refine ZbZ.mono ?_;rintro e z1 ⟨da,rfl,hd,hb⟩;refine hK.out _ _ ?_ (fun hHeld2=>?_)
          ·exact KL1.out _ _ hHeld hb
          ·clear hK K
           try clear hHeld
           have hHeld:=hHeld2;clear hHeld2;have lz:=Z0.lt;have hDa:Dep (fun b=>N0≤b∧b≠g8) z1 (ZbR) da:=hd.next (Agr.refl _ _) (fun b h _=>⟨by have:=HB0.out.size;omega,by omega⟩);replace hDv:=dpm hDv hb;replace Z0:=Z0.later hb;clear hb hd HB0 lz;refine wpAnyH_ready (rs:=[5]) (by kernel_rfl) (by simp) ?_;refine AllReadyH.cons rfl (fun K hK=>?_) ?_
           ·have HB0:Hid (Below V3.heap.size V3 z1):=KB1.out _ hHeld
            have hdv5:dv.length=5:=hDv.now.five;have hda5:da.length=5:=hDa.now.five;rw[if_pos (by rfl)];refine wp_buildSlice 51 53 5 _ rfl (dv++(da++(es1++(es2++(es3++[]))))).toArray jt _ Tryz.underlying51 hjt ht0 (by rw[ht1];decide) (by rw[ht1];decide) (by rw[ht1];refine (congrArg _ (?_:_=[(0,Value.agg dv.toArray),(1,.agg da.toArray),(2,.agg es1.toArray),(3,.agg es2.toArray),(4,.agg es3.toArray)])).trans (ZgP hdv5 hda5 HL1.out HL2.out HL3.out);kernel_rfl) ?_;refine hK.out _ _ ?_ (fun hHeld2=>?_)
            ·exact KA1.out _ _ hHeld
            ·clear hK K
             try clear hHeld
             have hHeld:=hHeld2;clear hHeld2;have hb:=bal z1 (.cells (dv++(da++(es1++(es2++(es3++[]))))).toArray 53);have hD9:RwS (fun b=>N0≤b∧b≠g8) (z1.alloc (.cells (dv++(da++(es1++(es2++(es3++[]))))).toArray 53)) (Value.slice (some ⟨z1.heap.size,0,none⟩) 5 5) [Zcp 1,ZbR,T1,T2,T3]:=RwS.lits (ks:=[Zcp 1,ZbR,T1,T2,T3]) (by simp[hdv5,hda5,HL1.out,HL2.out,HL3.out]) (by show 5≤maxLen;decide) (Ze6 hDv hdv5 (Ze6 hDa hda5 (Ze6 (HD1.out.next (Agr.below HB0.out) (fun b h hl=>⟨h,by omega⟩)) HL1.out (Ze6 (HD2.out.next (Agr.below HB0.out) (fun b h hl=>⟨h,by omega⟩)) HL2.out (Ze6 (HD3.out.next (Agr.below HB0.out) (fun b h hl=>⟨h,by omega⟩)) HL3.out kc_n)))));have lz:=Z0.lt;replace Z0:=Z0.later hb;have lg9:N0≤z1.heap.size:=Nat.le_trans hszj HB0.out.size;obtain ⟨g9,hg9⟩:∃ g,g=z1.heap.size:=⟨_,rfl⟩;rw[← hg9] at hD9 lg9 ⊢;have hne:g9≠g8:=by omega
             clear lz;clear hg9 HB0 hDv hDa hb;generalize (z1.alloc (.cells (dv++(da++(es1++(es2++(es3++[]))))).toArray 53))=z5 at *;refine wpAnyH_ready (rs:=[6]) (by kernel_rfl) (by simp) ?_;refine AllReadyH.cons rfl (fun K hK=>?_) ?_
             ·go_simp
              refine ZdC.mono ?_;rintro e z6 ⟨rfl,hb⟩;refine hK.out _ _ ?_ (fun hHeld2=>?_)
              ·exact KL1.out _ _ hHeld hb
              ·clear hK K
               try clear hHeld
               have hHeld:=hHeld2;clear hHeld2;replace hD9:RwS (fun b=>N0≤b∧b≠g8) z6 (Value.slice (some ⟨g9,0,none⟩) 5 5) [Zcp 1,ZbR,T1,T2,T3]:=hD9.later hb;replace Z0:=Z0.later hb;clear hb;exact k5 z6 g8 g9 dv da hHeld hD9 Z0 lg8 lg9 hne
             exact AllReadyH.nil
           exact AllReadyH.nil
         exact AllReadyH.nil
       exact AllReadyH.nil
     exact AllReadyH.nil
    case kp =>
     intro wz g8 g9 dv da hHeld hD9 Z0 lg8 lg9 hne;refine wpAnyH_ready (rs:=[8]) (by kernel_rfl) (by simp) ?_;refine AllReadyH.cons rfl (fun K hK=>?_) ?_
     ·obtain ⟨tZ,hZ⟩:=Z0
      have HZ:Hid _:=hZ;clear hZ;rw[if_pos (by rfl)];refine wp_store_row 53 _ _ rfl g8 #[.int .i64 0,.int .i64 16,.bool true,.slice none 0 0,.slice (some ⟨g9,0,none⟩) 5 5] rfl rfl tZ _ HZ.out (by rw[Zae];rfl) rfl (by simp[Value.oneCell']) ?_;refine hK.out _ _ ?_ (fun hHeld2=>?_)
      ·exact KI1.out _ (below_setRow (KB1.out _ hHeld) lg8 _)
      ·clear hK K
       try clear hHeld
       have hHeld:=hHeld2;clear hHeld2;have Bv:Blk (wz.setRow g8 #[.int .i64 0,.int .i64 16,.bool true,.slice none 0 0,.slice (some ⟨g9,0,none⟩) 5 5]) g8 [.int .i64 0,.int .i64 16,.bool true,.slice none 0 0,.slice (some ⟨g9,0,none⟩) 5 5]:=⟨tZ,setRow_heap _ _ _ _ _ _ HZ.out⟩;replace hD9:RwS (fun b=>N0≤b∧b≠g8) (wz.setRow g8 #[.int .i64 0,.int .i64 16,.bool true,.slice none 0 0,.slice (some ⟨g9,0,none⟩) 5 5]) (Value.slice (some ⟨g9,0,none⟩) 5 5) [Zcp 1,ZbR,T1,T2,T3]:=hD9.row (fun h=>h.2 rfl) (by simp only[Value.ownBlock,ne_eq,Option.some.injEq];omega);clear HZ;refine wpAnyH_done (by kernel_rfl) ?_ _;refine NoPanic.normal ?_;have st:=KB1.out _ hHeld;have B0:=HBB.out.later st;have R0:=HRR.out.later st;have bel:=Zaa HBel.out st;clear st hHeld;generalize (wz.setRow g8 #[.int .i64 0,.int .i64 16,.bool true,.slice none 0 0,.slice (some ⟨g9,0,none⟩) 5 5])=U1 at *;have e3:=B0.cell 3 _ HQ3.out;have l0:=B0.lt
       by_cases k0:GL=0
       ·have H:Hid (Zec c=some (ZdR [Zcp 1,ZbR,T1,T2,T3])):=by show _=_;unfold Zec;simp only[HX1.out,HX2.out,HX3.out,Option.bind_some];rw[if_pos (by rw[HGL.out];exact k0)]
        have d1:((GL:Int) == 0)=true:=by rw[k0];rfl
        have HD:Hid (Dep (fun b=>N0≤b) U1 (ZdR [Zcp 1,ZbR,T1,T2,T3]) [.int .i64 0,.int .i64 16,.bool true,.slice none 0 0,.slice (some ⟨g9,0,none⟩) 5 5]):=hD9.dep 0 16 true (fun b h=>h.1) (fun g hg=>by simp only[Value.ownBlock,Option.some.injEq] at hg;omega);clear k0 hD9;have hld:(loadVar 53 ⟨g8,0,none⟩).run Tryz.prog U1=.ok (.agg #[.int .i64 0,.int .i64 16,.bool true,.slice none 0 0,.slice (some ⟨g9,0,none⟩) 5 5]) U1:=Bv.load Tryz.underlying53 rfl Zae rfl;have l8:=Bv.lt;obtain ⟨tR,hR⟩:=R0;have HR1:Hid _:=hR;clear hR;go_wp2_with (first|((with_reducible show wpList _ _ _ (⟨_,.load _ _,_,_,_,_⟩::_) _ _);refine Zab (by rfl) (by rfl) (by rfl) hld ?_)|((with_reducible show wpList _ _ _ (⟨_,.store _ _ _,_,_,_,_⟩::_) _ _);refine wpList_store_row rfl 53 _ _ rfl (w.heap.size+1) #[.int .i64 0,.int .i64 16,.bool true,.slice none 0 0,.slice (some ⟨g9,0,none⟩) 5 5] rfl rfl tR _ HR1.out (by rw[Zae];rfl) rfl (by simp[Value.oneCell']) ?_)|fail);refine bodyPost_ret (Zac rfl _ _ (w.heap.size+1) tR #[.int .i64 0,.int .i64 16,.bool true,.slice none 0 0,.slice (some ⟨g9,0,none⟩) 5 5] (0,0) _ rfl (setRow_heap _ _ _ _ _ _ HR1.out) Tryz.underlying53 rfl (by rw[Zae];rfl)) rfl ?_;exact ElR.ok (cs:=[.int .i64 0,.int .i64 16,.bool true,.slice none 0 0,.slice (some ⟨g9,0,none⟩) 5 5]) H.out (Zc7 HD.out lR lW) (below_setRow bel (by omega) _)
       exact absurd (show GL=0 by rw[← HGL.out];exact H00.out) k0
     exact AllReadyH.nil
end Go.Proofs.YtohcdbifhnfcbaaGreatDoor
