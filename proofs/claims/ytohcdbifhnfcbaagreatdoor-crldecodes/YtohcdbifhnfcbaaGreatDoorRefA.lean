import Derived.Test.YtohcdbifhnfcbaaGreatDoorBase
import Derived.Test.YtohcdbifhnfcbaaGreatDoorRows
import Derived.Deep.RegionHeld3
import Derived.Deep.QuietTactic
import Derived.BigQuiet
namespace Go.Proofs.YtohcdbifhnfcbaaGreatDoor
open Go.RowKit
set_option linter.unusedSimpArgs false
set_option maxRecDepth 100000
set_option maxHeartbeats 1000000
def Zdm (w:World) (D:List Int) (v:Value):Prop:=∃ n,n≤D.length∧Sl w v (D.take n)∧trd (D.take n)∧∀ j,n≤j→D.getD j 0=0
theorem Zk7 (w:World) (D:List Int) (b cap k:Nat) (hk:k≤D.length) (hc:D.length≤cap) (hm:cap≤maxLen) (hb:b<w.heap.size) (h5:∀ j,j<D.length→w.cell? ⟨b,j,none⟩=some (.int .u64 (D.getD j 0)))
  (hz:∀ j,k≤j→D.getD j 0=0) (ht:0<k→D.getD (k-1) 0≠0):Zdm w D (.slice (some ⟨b,0,none⟩) k cap):=by
 have hl:(D.take k).length=k:=by simp;omega
 have hg:∀ j,j<k→(D.take k).getD j 0=D.getD j 0:=fun j hj=>by simp[List.getD_eq_getElem?_getD,hj]
 refine⟨k,hk,.inr ⟨b,cap,by rw[hl],by omega,hm,hb,fun j hj=>?_⟩,?_,hz⟩
 ·rw[hg j (by omega)];exact h5 j (by omega)
 ·intro h
  rw[hl] at h ⊢;rw[hg _ (by omega)];exact ht h
theorem Zdm.num {w:World} {D:List Int} {v:Value} (h:Zdm w D v) (hd:dig D):Zcr w v (v32 D):=by
 obtain⟨n,_,h2,h3,h4⟩:=h;exact ⟨D.take n,h2,Zeg hd n,h3,ZeY _ D n h4⟩
theorem ZjQ (v:Value) (D:List Int) (w:World) (h:Sl w v D) :
  Calls Tryz.prog 143 #[v] w fun e w'=>∃ v',e=.returned v'∧Zdm w D v'∧w'=w:=by
 rcases h with ⟨rfl,rfl⟩|⟨b,cap,rfl,h2,h3,h4,h5⟩
 ·have ht:Zdm w [] (.slice none 0 0):=⟨0,Nat.le_refl _,.inl ⟨rfl,rfl⟩,by simp[trd],fun j _=>by simp⟩
  go_enter Tryz.func143,Tryz.ntmps143;go_wp2;go_loop [3] (fun i=>i=.int .i64 0) (fun i=>(intOf i).toNat)
  case atStart=>rfl
  case round =>
   subst hrel;go_wp2;go_ret;exact ⟨_,rfl,ht,rfl⟩
 ·have h3':=h3
  unfold maxLen at h3;have MK:Hid (∀ k,k≤D.length→(∀ j,k≤j→D.getD j 0=0)→(0<k→D.getD (k-1) 0≠0)→Zdm w D (.slice (some ⟨b,0,none⟩) k cap)):=fun k hk=>Zk7 w D b cap k hk h2 h3' h4 h5;have hend:∀ j,D.length≤j→D.getD j 0=0:=fun j hj=>ZcV D j hj;clear h3';obtain ⟨l,hl⟩:∃ l,D.length=l:=⟨_,rfl⟩;rw[hl] at h2 h5 MK hend ⊢;have HE:Hid (∀ j,l≤j→D.getD j 0=0):=hend;clear hend;go_enter Tryz.func143,Tryz.ntmps143;go_wp2;go_loop [3] (fun i=>∃ k:Nat,k≤l∧i=.int .i64 k∧Hid (∀ j,k≤j→D.getD j 0=0)) (fun i=>(intOf i).toNat)
  case atStart=>exact ⟨l,Nat.le_refl _,rfl,HE⟩
  case round =>
   obtain⟨k,hk,rfl,HZ⟩:=hrel
   by_cases hk0:k=0
   ·subst hk0
    have MK0:Zdm w D (.slice (some ⟨b,0,none⟩) 0 cap):=MK.out 0 (by omega) HZ.out (by omega);go_wp2;go_ret;exact ⟨_,rfl,MK0,rfl⟩
   ·obtain ⟨d,hd⟩:∃ d,D.getD (k-1) 0=d:=⟨_,rfl⟩
    have hc:=h5 (k-1) (by omega);rw[hd] at hc;have HD:Hid (D.getD (k-1) 0=d):=hd;clear hd;have g1:(0:Int)<(k:Int):=by omega
    have g2:((k:Int)-1).toNat=k-1:=by omega
    by_cases hd0:d=0
    ·subst hd0
     go_wp2;go_round
     case rel =>
      refine⟨k-1,by omega,by congr 1;omega,fun j hj=>?_⟩
      by_cases hjk:j=k-1
      ·subst hjk;exact HD.out
      ·exact HZ.out j (by omega)
     case measure=>simp[intOf];omega
    ·have g3:(d == 0)=false:=by simpa using hd0
     have MK0:Zdm w D (.slice (some ⟨b,0,none⟩) k cap):=MK.out k (by omega) HZ.out (fun _=>by rw[HD.out];exact hd0);go_wp2;go_ret;exact ⟨_,rfl,MK0,rfl⟩
theorem Zjo:(Tryz.prog.info? 27).map (fun i=>(i.zero,i.size,i.bytes))=some (some (.int .u64 0),1,8):=by kernel_rfl
theorem ZpZ {w:World} {base:Nat} {e:TypeId} {size:Nat} {v:Value} {n:Nat} {xs:List Value} {j:Nat} (h:w.ownsRow base e size v n xs) (hj:v.ownBlock=some j):base≤j:=by
 rcases h.2 with ⟨h1,_⟩|⟨g,c,cur,h1,h2,_⟩
 ·rw[h1] at hj;simp[Value.ownBlock] at hj
 ·rw[h1] at hj;simp[Value.ownBlock] at hj;omega
theorem of_any (v : Value) (L : List Int) (w : World) (h : Sl w v L) (l0 : 0<L.length) (l1 : L.length ≤ 12) (hf : Zdg L) :
    Calls Tryz.prog 158 #[v] w fun e w' => ∃ v', e = .returned v' ∧ Zcr w' v' (v64 L) ∧ Below w.heap.size w w' := by
  rcases h with ⟨rfl, rfl⟩ | ⟨b, cap, rfl, h2, h3, h4, h5⟩
  · simp at l0
  · unfold maxLen at h3
    obtain⟨i0, hi0, hz0, hz1, hz2⟩ := info_parts Zjo;have hdig := Znm L hf;have hval := Znn L;obtain ⟨l, hl⟩ : ∃ l, L.length = l := ⟨_, rfl⟩;rw[hl] at h2 h5 l0 l1 ⊢;obtain ⟨N, hN⟩ : ∃ N, v64 L = N := ⟨_, rfl⟩;rw[hN] at hval ⊢;have HL : Hid (L.length = l) := hl;clear hN hl;go_enter Tryz.func158, Tryz.ntmps158;go_wp2;go_loopw [3, 4] (fun o i wr => ∃ k : Nat, k ≤ l ∧ i = .int .i64 k ∧ wr.ownsRow w.heap.size 27 1 o (2*k) (us (spl (L.take k))) ∧ Below w.heap.size w wr)
      (fun _ i _ => l-(intOf i).toNat)
    case atStart => exact ⟨0, by omega, rfl, World.ownsRow_nil _ _ _ _, Below.refl _ _⟩
    case round =>
      obtain⟨k, hk, rfl, hown, hbel⟩ := hrel
      by_cases hlt : k<l
      · obtain ⟨a, ha⟩ : ∃ a, L.getD k 0 = a := ⟨_, rfl⟩
        have hfa : 0 ≤ a ∧ a<18446744073709551616 := ha ▸ hf k;have hc := (hbel.cell (p := ⟨b, k, none⟩) h4).trans (h5 k hlt);rw[ha] at hc;have hsz := hbel.size;have hne : some b ≠ Value.ownBlock u3 := by
          rcases hown.2 with ⟨h1, _⟩ | ⟨g, c, cur, h1, h2, _⟩
          · rw[h1]; simp[Value.ownBlock]
          · rw[h1]; simp[Value.ownBlock]; omega
        obtain⟨p, hp⟩ : ∃ p, a%4294967296 = p := ⟨_, rfl⟩;obtain ⟨q, hq⟩ : ∃ q, a/4294967296 = q := ⟨_, rfl⟩;have hp' : a.tmod 4294967296 = p := by rw[← hp, Int.tmod_eq_emod_of_nonneg hfa.1]
        have hq' : IntKind.u64.wrap (a.tdiv 4294967296) = q := by rw[Int.tdiv_eq_ediv_of_nonneg hfa.1, IntKind.wrap_u64]; omega
        have HT : Hid (us (spl (L.take k)) ++ [.int .u64 p, .int .u64 q] = us (spl (L.take (k+1)))) := by
          rw[ZpA L k (by rw[HL.out]; exact hlt), ha, hp, hq]; simp[us, Hid]
        clear ha;have g0 : (0 : Int) ≤ (k : Int) := by omega
        have g1 : (k : Int)<(l : Int) := by omega
        go_wp2;go_region_held3 (fun w' => w'.cell? ⟨b, k, none⟩ = some (.int .u64 a))
          (first | exact hc | (rw[World.cell?_drew, World.cell?_alloc_past _ _ _ (by omega)]; exact hc) | (rw[hgrow.cell_far _ (by simp; omega) hne]; assumption))
          ((refine step_append_lies _ (by rfl) _ _ _ (by rfl) w.heap.size 27 i0 _ 1 8 Tryz.underlying186 hi0 hz0 hz1 hz2 rfl (by omega) _ _ _ (by rfl) ((hown.alloc _).drew)
              ⟨wr.heap.size, 0, none⟩ 2 2 [.int .u64 p, .int .u64 q] (by rfl) (by rfl) (World.news_of_block (cs := #[.int .u64 p, .int .u64 q]) (t := 27) (fr := (0, 0)) (heap_alloc_new wr _)) (by simp[Value.oneCell'])
              (by omega) (by unfold maxLen; omega) (by omega) (by simp; omega) (wr.heap.size+1) (by simp) ?_; intro gg cap1 w1 hown1 hgrow hat hlt1))
        all_goals go_wp2
        go_roundw
        case rel => exact ⟨k+1, by omega, by go_num, by rw[HT.out] at hown1; exact hown1, hbel.trans (Below.grown ((Below.refl _ _).alloc hsz _).drew hgrow (by simp; omega) (fun j hj => ZpZ hown hj))⟩
        case measure => simp[intOf]; omega
      · have g1 : (l : Int) ≤ (k : Int) := by omega
        have hk : k = l := by omega
        subst hk;rw[List.take_of_length_le (by rw[HL.out]; exact Nat.le_refl _)] at hown;go_wp2_with fail;refine (ZjQ _ (spl L) _ (Sl.of_own hown)).mono ?_;rintro e w' ⟨v', rfl, ht, rfl⟩;have hN := ht.num hdig;rw[hval] at hN;go_wp2_with fail;go_ret;exact ⟨v', rfl, hN, hbel⟩
theorem ZqP (A:List Int) (w:World) (lA:A.length=6) (hf:Zdg A) :
    Calls Tryz.prog 145 #[.agg (us A).toArray] w fun e w'=>∃ v',e=.returned v'∧Zcr w' v' (v64 A)∧Below w.heap.size w w':=by
  obtain⟨i0,hi0,hz0,hz1,hz2⟩:=info_parts Zjo;have B0:=Blk.new w (us A) 28 w.heap.size rfl;have bel:=bal w (.cells (us A).toArray 28);have sz0:(w.alloc (.cells (us A).toArray 28)).heap.size=w.heap.size+1:=by simp
  go_enter Tryz.func145,Tryz.ntmps145;go_wp2;generalize w.alloc (.cells (us A).toArray 28)=W at *;go_loopw [3,4] (fun o i wr=>∃ k:Nat,k≤6∧i=.int .i64 k∧wr.ownsRow (w.heap.size+1) 27 1 o k (us (A.take k))∧Below (w.heap.size+1) W wr)
    (fun _ i _=>6-(intOf i).toNat)
  case atStart=>exact ⟨0,by omega,rfl,World.ownsRow_nil _ _ _ _,Below.refl _ _⟩
  case round =>
    obtain⟨k,hk,rfl,hown,hbel⟩:=hrel;have hsz:=hbel.size
    by_cases hlt:k<6
    · obtain ⟨a,ha⟩:∃ a,A.getD k 0=a:=⟨_,rfl⟩
      have hc:=(B0.below hbel (by omega)).cell k _ (Zcl A k (by omega));rw[ha] at hc;have HT:Hid (us (A.take k)++[.int .u64 a]=us (A.take (k+1))):=by
        rw[← ha];exact Zrv A k (by omega)
      clear ha;have g0:(0:Int)≤(k:Int):=by omega
      have g1:(k:Int)<6:=by omega
      go_wp2_with (first
        | (at_builtin;refine wpList_append_lies _ (by rfl) _ _ _ (by rfl) (w.heap.size+1) 27 i0 _ 1 8 Tryz.underlying124 hi0 hz0 hz1 hz2 rfl (by omega) _ _ _ (by rfl) (hown.alloc _) ⟨wr.heap.size,0,none⟩ 1 1 [.int .u64 a] (by rfl) (by rfl) (World.news_of_block (cs:=#[.int .u64 a]) (t:=27) (fr:=(0,0)) (heap_alloc_new wr _)) (by simp[Value.oneCell']) (by omega) (by unfold maxLen;omega) (by omega) (by simp;omega) (wr.heap.size+1) (by simp) ?_;intro gg cap1 w1 hown1 hgrow hat hlt1))
      go_roundw
      case rel=>exact ⟨k+1,by omega,by go_num,by rw[HT.out] at hown1;exact hown1,hbel.trans (Below.grown ((Below.refl _ _).alloc (by omega) _) hgrow (by simp;omega) (fun j hj=>ZpZ hown hj))⟩
      case measure=>simp[intOf];omega
    · have g1:(6:Int)≤(k:Int):=by omega
      have hk:k=6:=by omega
      rw[hk,List.take_of_length_le (by omega)] at hown;go_wp2_with fail;refine (of_any _ A _ (Sl.of_own hown) (by omega) (by omega) hf).mono ?_;rintro e w' ⟨v',rfl,ht,hb⟩;go_wp2_with fail;go_ret;exact ⟨v',rfl,ht,(bel.trans (hbel.mono (by omega))).trans (hb.mono (by omega))⟩
theorem at_any (v:Value) (D:List Int) (i:Nat) (w:World) (h:Sl w v D) :
  Calls Tryz.prog 159 #[v,.int .i64 i] w fun e w'=>e=.returned (.int .u64 (D.getD i 0))∧w'=w:=by
 obtain⟨ao,cap,rfl,m1,k1,f1⟩:=h.form;unfold maxLen at m1;obtain ⟨d,hd⟩:∃ d,D.getD i 0=d:=⟨_,rfl⟩
 by_cases hi:i<D.length
 ·obtain ⟨b,rfl,hb,hc⟩:=f1 (by omega)
  have x:=hc i hi;rw[hd] at x ⊢;clear f1 hc hd;have g1:(i:Int)<(D.length:Int):=by omega
  have g2:(0:Int)≤(i:Int):=by omega
  go_enter Tryz.func159,Tryz.ntmps159;go_wp2;go_ret;exact ⟨rfl,rfl⟩
 ·have e:d=0:=by rw[← hd];exact ZcV D i (by omega)
  rw[hd,e];clear f1 hd e;have g1:¬ (i:Int)<(D.length:Int):=by omega
  go_enter Tryz.func159,Tryz.ntmps159;go_wp2;go_ret;exact ⟨rfl,rfl⟩
def dg (D:List Int) (k i:Nat):Int:=if i<k then D.getD i 0 else 0
theorem dg_bd {D:List Int} (h:dig D) (k i:Nat):0≤dg D k i∧dg D k i<4294967296:=by
 unfold dg
 split
 ·exact h i
 ·decide
def Zel (D:List Int) (k:Nat) (S:List Int):Prop:=∀ j,j<6→S.getD j 0=dg D k (2*j)+dg D k (2*j+1)*4294967296
theorem ZdU (S:List Int) (k j:Nat) (s:Int) (h:k≠j):(S.set k s).getD j 0=S.getD j 0:=by simp[List.getD_eq_getElem?_getD,h]
theorem Ziv (D S:List Int) (k:Nat) (lS:S.length=6) (hk:k<12) (he:k%2=0) (h:Zel D k S):Zel D (k+1) (S.set (k/2) (D.getD k 0)):=by
 intro j hj
 by_cases hjk:k/2=j
 ·subst hjk
  rw[Zbr _ _ _ (by omega)];have e1:2*(k/2)=k:=by omega
  rw[e1];simp[dg]
 ·rw[ZdU _ _ _ _ hjk,h j hj]
  have e1:dg D (k+1) (2*j)=dg D k (2*j):=by
   unfold dg
   by_cases q:2*j<k
   ·rw[if_pos q,if_pos (by omega)]
   ·rw[if_neg q,if_neg (by omega)]
  have e2:dg D (k+1) (2*j+1)=dg D k (2*j+1):=by
   unfold dg
   by_cases q:2*j+1<k
   ·rw[if_pos q,if_pos (by omega)]
   ·rw[if_neg q,if_neg (by omega)]
  rw[e1,e2]
theorem ZkA (D S:List Int) (k:Nat) (lS:S.length=6) (hk:k<12) (he:k%2=1) (h:Zel D k S):Zel D (k+1) (S.set (k/2) (S.getD (k/2) 0+D.getD k 0*4294967296)):=by
 intro j hj
 by_cases hjk:k/2=j
 ·subst hjk
  rw[Zbr _ _ _ (by omega),h _ hj];have e1:2*(k/2)+1=k:=by omega
  rw[e1];have e2:2*(k/2)<k:=by omega
  simp[dg,e2,show 2*(k/2)<k+1 by omega]
 ·rw[ZdU _ _ _ _ hjk,h j hj]
  have e1:dg D (k+1) (2*j)=dg D k (2*j):=by
   unfold dg
   by_cases q:2*j<k
   ·rw[if_pos q,if_pos (by omega)]
   ·rw[if_neg q,if_neg (by omega)]
  have e2:dg D (k+1) (2*j+1)=dg D k (2*j+1):=by
   unfold dg
   by_cases q:2*j+1<k
   ·rw[if_pos q,if_pos (by omega)]
   ·rw[if_neg q,if_neg (by omega)]
  rw[e1,e2]
theorem pvt (D:List Int) (k:Nat):v32 (D.take (k+1))=v32 (D.take k)+4294967296 ^ k*D.getD k 0:=by
 by_cases h:k<D.length
 ·exact ZcL _ D k h
 ·rw[List.take_of_length_le (by omega),List.take_of_length_le (by omega),ZcV D k (by omega)];simp
theorem Zlb (D:List Int):v32 (D.take 12)=D.getD 0 0+4294967296 ^ 1*D.getD 1 0+4294967296 ^ 2*D.getD 2 0+4294967296 ^ 3*D.getD 3 0+4294967296 ^ 4*D.getD 4 0+4294967296 ^ 5*D.getD 5 0+4294967296 ^ 6*D.getD 6 0+4294967296 ^ 7*D.getD 7 0+4294967296 ^ 8*D.getD 8 0+4294967296 ^ 9*D.getD 9 0+4294967296 ^ 10*D.getD 10 0+4294967296 ^ 11*D.getD 11 0:=by
 rw[pvt D 11,pvt D 10,pvt D 9,pvt D 8,pvt D 7,pvt D 6,pvt D 5,pvt D 4,pvt D 3,pvt D 2,pvt D 1,pvt D 0];simp[v32,pv]
theorem Zkz (D S:List Int) (k:Nat) (lS:S.length=6) (hk:k=12∨(k=D.length∧k≤12)) (hD:dig D) (h:Zel D k S):Zdg S∧v64 S=v32 D%18446744073709551616 ^ 6:=by
 have hg:∀ i,i<12→dg D k i=D.getD i 0:=by
  intro i hi;unfold dg
  by_cases q:i<k
  ·rw[if_pos q]
  ·rw[if_neg q,ZcV D i (by omega)]
 obtain⟨s0,s1,s2,s3,s4,s5,rfl⟩:=six lS;have j0:=h 0 (by omega);have j1:=h 1 (by omega);have j2:=h 2 (by omega);have j3:=h 3 (by omega);have j4:=h 4 (by omega);have j5:=h 5 (by omega);rw[hg _ (by omega),hg _ (by omega)] at j0 j1 j2 j3 j4 j5;simp only[List.getD_cons_zero,List.getD_cons_succ,Nat.mul_zero,Nat.zero_add,Nat.reduceMul,Nat.reduceAdd] at j0 j1 j2 j3 j4 j5;have ht:=Zlb D;have b:=ZcZ (D.take 12) (Zeg hD 12);have d0:=hD 0;have d1:=hD 1;have d2:=hD 2;have d3:=hD 3;have d4:=hD 4;have d5:=hD 5;have d6:=hD 6;have d7:=hD 7;have d8:=hD 8;have d9:=hD 9;have d10:=hD 10;have d11:=hD 11;have hf:Zdg [s0,s1,s2,s3,s4,s5]:=by
  intro j
  match j with
  | 0=>show 0≤s0∧s0<_;omega
  | 1=>show 0≤s1∧s1<_;omega
  | 2=>show 0≤s2∧s2<_;omega
  | 3=>show 0≤s3∧s3<_;omega
  | 4=>show 0≤s4∧s4<_;omega
  | 5=>show 0≤s5∧s5<_;omega
  | _+6=>exact ⟨by simp,by simp⟩
 refine⟨hf,?_⟩;have bS:=Zev _ hf;have hS:v64 [s0,s1,s2,s3,s4,s5]=v32 (D.take 12):=by
  rw[ht];simp only[v64,pv];rw[j0,j1,j2,j3,j4,j5];generalize D.getD 0 0=a0;generalize D.getD 1 0=a1;generalize D.getD 2 0=a2;generalize D.getD 3 0=a3;generalize D.getD 4 0=a4;generalize D.getD 5 0=a5;generalize D.getD 6 0=a6;generalize D.getD 7 0=a7;generalize D.getD 8 0=a8;generalize D.getD 9 0=a9;generalize D.getD 10 0=a10;generalize D.getD 11 0=a11;omega
 have hsplit:v32 D=v32 (D.take 12)+18446744073709551616 ^ 6*v32 (D.drop 12):=by
  have e:=Zcj 4294967296 (D.take 12) (D.drop 12);rw[List.take_append_drop] at e;simp only[v32]
  by_cases hl:12≤D.length
  ·have:(D.take 12).length=12:=by simp;omega
   rw[this] at e;rw[e];have:(4294967296:Int) ^ 12=18446744073709551616 ^ 6:=by decide
   rw[this]
  ·have:D.drop 12=[]:=List.drop_eq_nil_of_le (by omega)
   rw[this] at e ⊢;simp only[pv] at e ⊢;omega
 rw[hS,lS] at bS;rw[hS];rw[hsplit,Int.add_mul_emod_self_left,Int.emod_eq_of_lt bS.1 bS.2]
theorem Zrp (v:Value) (N:Int) (w:World) (hv:Zcr w v N) :
  Calls Tryz.prog 115 #[v] w fun e w'=>∃ S:List Int,e=.returned (.agg (us S).toArray)∧S.length=6∧Zdg S∧v64 S=N%18446744073709551616 ^ 6∧Below w.heap.size w w':=by
 obtain⟨D,sD,dD,-,rfl⟩:=hv;obtain ⟨ao,cap,rfl,m1,k1,f1⟩:=sD.form;unfold maxLen at m1;have JE:=fun S k=>Zkz D S k;obtain ⟨N,hN⟩:∃ N,v32 D%18446744073709551616 ^ 6=N:=⟨_,rfl⟩;rw[hN] at JE ⊢;have HJ:Hid _:=JE;clear JE hN;obtain ⟨l,hl⟩:∃ l,D.length=l:=⟨_,rfl⟩;rw[hl] at k1 f1 HJ ⊢;clear sD hl;have b2:=(Blk.new w (us [0,0,0,0,0,0]) 28 w.heap.size rfl).alloc (.cells (us [0,0,0,0,0,0]).toArray 28);have b3:=Blk.new (w.alloc (.cells (us [0,0,0,0,0,0]).toArray 28)) (us [0,0,0,0,0,0]) 28 (w.heap.size+1) (by simp);have hbel:Below w.heap.size w ((w.alloc (.cells (us [0,0,0,0,0,0]).toArray 28)).alloc (.cells (us [0,0,0,0,0,0]).toArray 28)):=((Below.refl _ _).alloc (Nat.le_refl _) _).alloc (by simp) _;go_enter Tryz.func115,Tryz.ntmps115;go_wp2;go_loopw [4] (fun i wr=>∃ (k:Nat) (S:List Int),k≤12∧k≤l∧i=.int .i64 k∧S.length=6∧Hid (Zel D k S)∧Blk wr w.heap.size (us [0,0,0,0,0,0])∧Blk wr (w.heap.size+1) (us S)∧Below w.heap.size w wr)
  (fun i _=>12-(intOf i).toNat)
 case atStart=>exact ⟨0,[0,0,0,0,0,0],by omega,by omega,rfl,rfl,by
  show Zel _ _ _;intro j hj
  match j,hj with
  | 0,_=>rfl
  | 1,_=>rfl
  | 2,_=>rfl
  | 3,_=>rfl
  | 4,_=>rfl
  | 5,_=>rfl,b2,b3,hbel⟩
 case round =>
  obtain⟨k,S,hk,hkl,rfl,lS,hJ,hZ,hS,hbel⟩:=hrel;clear b2 b3
  by_cases hlt:k<12∧k<l
  ·obtain ⟨hlt,hll⟩:=hlt
   obtain⟨b,rfl,hb,hc⟩:=f1 (by omega);clear f1;obtain ⟨d,hd⟩:∃ d,D.getD k 0=d:=⟨_,rfl⟩;obtain ⟨s,hs⟩:∃ s,S.getD (k/2) 0=s:=⟨_,rfl⟩;have x1:=(hbel.cell (p:=⟨b,k,none⟩) hb).trans (hc k hll);rw[hd] at x1;have bd:=dD k;rw[hd] at bd;have bd0:=bd.1;have bd1:=bd.2;have x2:=hS.cell (k/2) _ (Zcl S (k/2) (by omega));rw[hs] at x2;have fz:=hS.frozen (k/2);have g1:(k:Int)<12:=by omega
   have g2:(k:Int)<(l:Int):=by omega
   have g3:(0:Int)≤(k:Int):=by omega
   have g4:(0:Int)≤(k:Int)/2:=by omega
   have g5:(k:Int)/2<6:=by omega
   clear hc bd
   by_cases hp:k%2=0
   ·have J:Hid (Zel D (k+1) (S.set (k/2) d)):=by rw[← hd];exact Ziv D S k lS hlt hp hJ.out
    have g6:((k:Int)%2 == 0)=true:=by simp;omega
    clear hd hs;go_wp2;go_roundw
    case rel=>exact ⟨k+1,S.set (k/2) d,by omega,by omega,by go_num,by simpa using lS,J,hZ.other _ _ (by simp),hS.setu _ _,hbel.setCell (by simp) _⟩
    case measure=>simp[intOf];omega
   ·have J:Hid (Zel D (k+1) (S.set (k/2) (s+d*4294967296))):=by rw[← hd,← hs];exact ZkA D S k lS hlt (by omega) hJ.out
    have bs:0≤s∧s<4294967296:=by
     have:=hJ.out (k/2) (by omega);rw[hs] at this;have e1:dg D k (2*(k/2)+1)=0:=by unfold dg;rw[if_neg (by omega)]
     have e2:=dg_bd dD k (2*(k/2));omega
    have bs0:=bs.1;have bs1:=bs.2;have g6:((k:Int)%2 == 0)=false:=by simp;omega
    have m1:IntKind.u64.wrap (d*4294967296)=d*4294967296:=by rw[IntKind.wrap_u64];omega
    have m2:IntKind.u64.wrap (s+d*4294967296)=s+d*4294967296:=by rw[IntKind.wrap_u64];omega
    have t1:IntKind.i64.wrap ((k:Int).tdiv 2)=(k:Int)/2:=by rw[Int.tdiv_eq_ediv_of_nonneg (by omega),IntKind.wrap_i64];omega
    have t2:((k:Int)/2).toNat=k/2:=by omega
    clear hd hs bs;go_wp2;go_region
    all_goals go_wp2
    go_roundw
    case rel=>exact ⟨k+1,S.set (k/2) (s+d*4294967296),by omega,by omega,by go_num,by simpa using lS,J,(hZ.other _ _ (by simp)).drew,(hS.setu _ _).drew,(hbel.setCell (by simp) _).drew⟩
    case measure=>simp[intOf];omega
  ·have HQ:Hid (Zdg S∧v64 S=N):=HJ.out S k lS (by omega) dD hJ.out
   have hfit:=HQ.out.1;obtain ⟨s0,s1,s2,s3,s4,s5,rfl⟩:=six lS;obtain ⟨c0,c1,c2,c3,c4,c5⟩:=hS.cells6;obtain ⟨z0,z1,z2,z3,z4,z5⟩:=hZ.cells6;have f0:=hZ.frozen 0;have f1':=hZ.frozen 1;have f2:=hZ.frozen 2;have f3:=hZ.frozen 3;have f4:=hZ.frozen 4;have f5:=hZ.frozen 5;clear hJ;have gd:(12:Int)≤(k:Int)∨((k:Int)<12∧¬ (k:Int)<(l:Int)):=by omega
   rcases gd with g1|⟨g1,g2⟩
   all_goals
    go_wp2;exact bodyPost_ret (v:=.agg #[.int .u64 s0,.int .u64 s1,.int .u64 s2,.int .u64 s3,.int .u64 s4,.int .u64 s5]) (by simp[results,Tryz.results115,go_sem,z0,z1,z2,z3,z4,z5]) rfl
     ⟨[s0,s1,s2,s3,s4,s5],rfl,rfl,HQ.out.1,HQ.out.2,(((((hbel.setCell (by simp) _).setCell (by simp) _).setCell (by simp) _).setCell (by simp) _).setCell (by simp) _).setCell (by simp) _⟩
def ZpV (X Y:Int):Int:=if X<Y then -1 else if X=Y then 0 else 1
theorem Zip {X Y:Int} (h:X<Y):(-1:Int)=ZpV X Y:=by simp[ZpV,h]
theorem ZlK {X Y:Int} (h:X=Y):(0:Int)=ZpV X Y:=by simp[ZpV,h]
theorem Zio {X Y:Int} (h:Y<X):(1:Int)=ZpV X Y:=by
 unfold ZpV;rw[if_neg (by omega),if_neg (by omega)]
theorem Zqo (u v:Value) (X Y:Int) (w:World) (hu:Zcr w u X) (hv:Zcr w v Y) :
  Calls Tryz.prog 156 #[u,v] w fun e w'=>e=.returned (.int .i64 (ZpV X Y))∧Below w.heap.size w w':=by
 obtain⟨D,sD,dD,tD,rfl⟩:=hu;obtain ⟨E,sE,dE,tE,rfl⟩:=hv;obtain ⟨ao,c1,rfl,m1,k1,f1⟩:=sD.form;obtain ⟨bo,c2,rfl,m2,k2,f2⟩:=sE.form;have sh1:=Zif D E dD dE tE;have sh2:=Zif E D dE dD tD;obtain ⟨l,hl⟩:∃ l,D.length=l:=⟨_,rfl⟩;obtain ⟨m,hm⟩:∃ m,E.length=m:=⟨_,rfl⟩;unfold maxLen at m1 m2;clear sD sE;obtain ⟨X,hX⟩:∃ X,v32 D=X:=⟨_,rfl⟩;obtain ⟨Y,hY⟩:∃ Y,v32 E=Y:=⟨_,rfl⟩;rw[hX,hY];rw[hX,hY] at sh1 sh2;rw[hl,hm] at sh1;rw[hm,hl] at sh2
 by_cases hlm:l<m
 ·have H:Hid _:=Zip (sh1 hlm)
  rw[hl,hm];clear sh1 sh2 f1 f2 hX hY;have g1:((l:Int) != (m:Int))=true:=by simp;omega
  have g2:(l:Int)<(m:Int):=by omega
  go_enter Tryz.func156,Tryz.ntmps156;go_wp2;go_ret;exact ⟨Zdx H.out,Below.refl _ _⟩
 ·by_cases hml:m<l
  ·have H:Hid _:=Zio (sh2 hml)
   rw[hl,hm];clear sh1 sh2 f1 f2 hX hY;have g1:((l:Int) != (m:Int))=true:=by simp;omega
   have g2:¬ (l:Int)<(m:Int):=by omega
   go_enter Tryz.func156,Tryz.ntmps156;go_wp2;go_ret;exact ⟨Zdx H.out,Below.refl _ _⟩
  ·have hE:m=l:=by omega
   subst hE;rw[hl] at f1 ⊢;rw[hm] at f2 ⊢;clear sh1 sh2;have g1:((m:Int) != (m:Int))=false:=by simp
   have HL:Hid (D.length=m∧E.length=m):=⟨hl,hm⟩;have HX:Hid (v32 D=X∧v32 E=Y):=⟨hX,hY⟩;clear hX hY;rw[hl] at k1;rw[hm] at k2;clear hl hm;go_enter Tryz.func156,Tryz.ntmps156;go_wp2;go_loopw [5] (fun i wr=>∃ k:Nat,k≤m∧i=.int .i64 ((k:Int)-1)∧Hid (D.drop k=E.drop k)∧∃ n,wr=w.drewN n)
    (fun i _=>(intOf i+1).toNat)
   case atStart=>exact ⟨m,Nat.le_refl _,rfl,by show _=_;rw[List.drop_of_length_le (by rw[HL.out.1];exact Nat.le_refl _),List.drop_of_length_le (by rw[HL.out.2];exact Nat.le_refl _)],0,rfl⟩
   case round =>
    obtain⟨k,hk,rfl,HD,n,rfl⟩:=hrel
    by_cases hk0:k=0
    ·have H:Hid _:=ZlK (show X=Y by rw[← HX.out.1,← HX.out.2];have:=HD.out;rw[hk0] at this;simp at this;rw[this])
     have g2:¬ (0:Int)≤(k:Int)-1:=by omega
     go_wp2;go_ret;exact ⟨Zdx H.out,ZaM (Below.refl _ _) _⟩
    ·obtain ⟨b1,rfl,hb1,hc1⟩:=f1 (by omega)
     obtain⟨b2,rfl,hb2,hc2⟩:=f2 (by omega);clear f1 f2;obtain ⟨d,hd⟩:∃ d,D.getD (k-1) 0=d:=⟨_,rfl⟩;obtain ⟨e,he⟩:∃ e,E.getD (k-1) 0=e:=⟨_,rfl⟩;have x1:=hc1 (k-1) (by omega);have x2:=hc2 (k-1) (by omega);rw[hd] at x1;rw[he] at x2;have hD:Hid (D.drop (k-1+1)=E.drop (k-1+1)):=by rw[show k-1+1=k by omega];exact HD
     have L1:Hid (d<e→X<Y):=fun h=>by rw[← HX.out.1,← HX.out.2];exact ZjR D E (k-1) dD dE (by rw[HL.out.1];omega) (by rw[HL.out.2];omega) hD.out (by rw[hd,he];exact h)
     have L2:Hid (e<d→Y<X):=fun h=>by rw[← HX.out.1,← HX.out.2];exact ZjR E D (k-1) dE dD (by rw[HL.out.2];omega) (by rw[HL.out.1];omega) hD.out.symm (by rw[hd,he];exact h)
     have L3:Hid (d=e→D.drop (k-1)=E.drop (k-1)):=fun h=>by
      have e1:=List.drop_eq_getElem_cons (l:=D) (i:=k-1) (by rw[HL.out.1];omega);have e2:=List.drop_eq_getElem_cons (l:=E) (i:=k-1) (by rw[HL.out.2];omega);rw[e1,e2,hD.out]
      congr 1
      rw[List.getD_eq_getElem?_getD,List.getElem?_eq_getElem (by rw[HL.out.1];omega)] at hd;rw[List.getD_eq_getElem?_getD,List.getElem?_eq_getElem (by rw[HL.out.2];omega)] at he;simp at hd he;rw[hd,he,h]
     clear hd he hc1 hc2;have g2:(0:Int)≤(k:Int)-1:=by omega
     have g3:(k:Int)-1<(m:Int):=by omega
     have g4:((k:Int)-1).toNat=k-1:=by omega
     by_cases hde:d<e
     ·have H:Hid _:=Zip (L1.out hde)
      go_wp2;go_quiet (fail);go_wp2;go_ret;exact ⟨Zdx H.out,ZaM (ZaM (Below.refl _ _) _) _⟩
     ·by_cases hed:e<d
      ·have H:Hid _:=Zio (L2.out hed)
       go_wp2;go_quiet (fail);go_wp2;go_quiet (fail);go_wp2;go_ret;exact ⟨Zdx H.out,ZaM (ZaM (ZaM (Below.refl _ _) _) _) _⟩
      ·have hq:d=e:=by omega
       go_wp2;go_quiet (fail);go_wp2;go_quiet (fail);go_wp2;go_roundw
       case rel=>exact ⟨k-1,by omega,by congr 1;omega,L3.out hq,_,rfl⟩
       case measure=>simp[intOf];omega
end Go.Proofs.YtohcdbifhnfcbaaGreatDoor
