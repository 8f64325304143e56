import Derived.Test.YtdfmoghjimghhaaGreatDoorBase
import Derived.Test.YtdfmoghjimghhaaGreatDoorRows
import Derived.Deep.RegionHeld3
import Derived.Deep.QuietTactic
import Derived.BigQuiet
namespace Go.Proofs.YtdfmoghjimghhaaGreatDoor
open Go.RowKit
set_option linter.unusedSimpArgs false
set_option maxRecDepth 100000
set_option maxHeartbeats 1000000
def Zc3 (w:World) (D:List Int) (v:Value):Prop:=∃ n,n≤D.length∧Sl w v (D.take n)∧trd (D.take n)∧∀ j,n≤j→D.getD j 0=0
theorem ZjB (w:World) (D:List Int) (b cap k:Nat) (hk:k≤D.length) (hc:D.length≤cap) (hm:cap≤maxLen) (hb:b<w.heap.size) (h5:∀ j,j<D.length→w.cell? ⟨b,j,none⟩=some (.int .u64 (D.getD j 0)))
  (hz:∀ j,k≤j→D.getD j 0=0) (ht:0<k→D.getD (k-1) 0≠0):Zc3 w D (.slice (some ⟨b,0,none⟩) k cap):=by
 have hl:(D.take k).length=k:=by simp;omega
 have hg:∀ j,j<k→(D.take k).getD j 0=D.getD j 0:=fun j hj=>by simp[List.getD_eq_getElem?_getD,hj]
 refine⟨k,hk,.inr ⟨b,cap,by rw[hl],by omega,hm,hb,fun j hj=>?_⟩,?_,hz⟩
 ·rw[hg j (by omega)];exact h5 j (by omega)
 ·intro h
  rw[hl] at h ⊢;rw[hg _ (by omega)];exact ht h
theorem Zc3.num {w:World} {D:List Int} {v:Value} (h:Zc3 w D v) (hd:dig D):ZaG w v (v32 D):=by
 obtain⟨n,_,h2,h3,h4⟩:=h;exact ⟨D.take n,h2,Zdk hd n,h3,Zes _ D n h4⟩
theorem Zd3 (v:Value) (D:List Int) (w:World) (h:Sl w v D) :
  Calls Tryz.prog 185 #[v] w fun e w'=>∃ v',e=.returned v'∧Zc3 w D v'∧w'=w:=by
 rcases h with ⟨rfl,rfl⟩|⟨b,cap,rfl,h2,h3,h4,h5⟩
 ·have ht:Zc3 w [] (.slice none 0 0):=⟨0,Nat.le_refl _,.inl ⟨rfl,rfl⟩,by simp[trd],fun j _=>by simp⟩
  go_enter Tryz.func185,Tryz.ntmps185;go_wp2;go_loop [3] (fun i=>i=.int .i64 0) (fun i=>(intOf i).toNat)
  case atStart=>rfl
  case round =>
   subst hrel;go_wp2;go_ret;exact ⟨_,rfl,ht,rfl⟩
 ·have h3':=h3
  unfold maxLen at h3;have MK:Hid (∀ k,k≤D.length→(∀ j,k≤j→D.getD j 0=0)→(0<k→D.getD (k-1) 0≠0)→Zc3 w D (.slice (some ⟨b,0,none⟩) k cap)):=fun k hk=>ZjB w D b cap k hk h2 h3' h4 h5;have hend:∀ j,D.length≤j→D.getD j 0=0:=fun j hj=>Zbj D j hj;clear h3';obtain ⟨l,hl⟩:∃ l,D.length=l:=⟨_,rfl⟩;rw[hl] at h2 h5 MK hend ⊢;have HE:Hid (∀ j,l≤j→D.getD j 0=0):=hend;clear hend;go_enter Tryz.func185,Tryz.ntmps185;go_wp2;go_loop [3] (fun i=>∃ k:Nat,k≤l∧i=.int .i64 k∧Hid (∀ j,k≤j→D.getD j 0=0)) (fun i=>(intOf i).toNat)
  case atStart=>exact ⟨l,Nat.le_refl _,rfl,HE⟩
  case round =>
   obtain⟨k,hk,rfl,HZ⟩:=hrel
   by_cases hk0:k=0
   ·subst hk0
    have MK0:Zc3 w D (.slice (some ⟨b,0,none⟩) 0 cap):=MK.out 0 (by omega) HZ.out (by omega);go_wp2;go_ret;exact ⟨_,rfl,MK0,rfl⟩
   ·obtain ⟨d,hd⟩:∃ d,D.getD (k-1) 0=d:=⟨_,rfl⟩
    have hc:=h5 (k-1) (by omega);rw[hd] at hc;have HD:Hid (D.getD (k-1) 0=d):=hd;clear hd;have g1:(0:Int)<(k:Int):=by omega
    have g2:((k:Int)-1).toNat=k-1:=by omega
    by_cases hd0:d=0
    ·subst hd0
     go_wp2;go_round
     case rel =>
      refine⟨k-1,by omega,by congr 1;omega,fun j hj=>?_⟩
      by_cases hjk:j=k-1
      ·subst hjk;exact HD.out
      ·exact HZ.out j (by omega)
     case measure=>simp[intOf];omega
    ·have g3:(d == 0)=false:=by simpa using hd0
     have MK0:Zc3 w D (.slice (some ⟨b,0,none⟩) k cap):=MK.out k (by omega) HZ.out (fun _=>by rw[HD.out];exact hd0);go_wp2;go_ret;exact ⟨_,rfl,MK0,rfl⟩
theorem Zii:(Tryz.prog.info? 25).map (fun i=>(i.zero,i.size,i.bytes))=some (some (.int .u64 0),1,8):=by kernel_rfl
theorem ZnW {w:World} {base:Nat} {e:TypeId} {size:Nat} {v:Value} {n:Nat} {xs:List Value} {j:Nat} (h:w.ownsRow base e size v n xs) (hj:v.ownBlock=some j):base≤j:=by
 rcases h.2 with ⟨h1,_⟩|⟨g,c,cur,h1,h2,_⟩
 ·rw[h1] at hj;simp[Value.ownBlock] at hj
 ·rw[h1] at hj;simp[Value.ownBlock] at hj;omega
theorem of_any (v : Value) (L : List Int) (w : World) (h : Sl w v L) (l0 : 0<L.length) (l1 : L.length ≤ 12) (hf : Zaz L) :
    Calls Tryz.prog 132 #[v] w fun e w' => ∃ v', e = .returned v' ∧ ZaG w' v' (v64 L) ∧ Below w.heap.size w w' := by
  rcases h with ⟨rfl, rfl⟩ | ⟨b, cap, rfl, h2, h3, h4, h5⟩
  · simp at l0
  · unfold maxLen at h3
    obtain⟨i0, hi0, hz0, hz1, hz2⟩ := info_parts Zii;have hdig := ZlC L hf;have hval := ZlD L;obtain ⟨l, hl⟩ : ∃ l, L.length = l := ⟨_, rfl⟩;rw[hl] at h2 h5 l0 l1 ⊢;obtain ⟨N, hN⟩ : ∃ N, v64 L = N := ⟨_, rfl⟩;rw[hN] at hval ⊢;have HL : Hid (L.length = l) := hl;clear hN hl;go_enter Tryz.func132, Tryz.ntmps132;go_wp2;go_loopw [3, 4] (fun o i wr => ∃ k : Nat, k ≤ l ∧ i = .int .i64 k ∧ wr.ownsRow w.heap.size 25 1 o (2*k) (us (spl (L.take k))) ∧ Below w.heap.size w wr)
      (fun _ i _ => l-(intOf i).toNat)
    case atStart => exact ⟨0, by omega, rfl, World.ownsRow_nil _ _ _ _, Below.refl _ _⟩
    case round =>
      obtain⟨k, hk, rfl, hown, hbel⟩ := hrel
      by_cases hlt : k<l
      · obtain ⟨a, ha⟩ : ∃ a, L.getD k 0 = a := ⟨_, rfl⟩
        have hfa : 0 ≤ a ∧ a<18446744073709551616 := ha ▸ hf k;have hc := (hbel.cell (p := ⟨b, k, none⟩) h4).trans (h5 k hlt);rw[ha] at hc;have hsz := hbel.size;have hne : some b ≠ Value.ownBlock u3 := by
          rcases hown.2 with ⟨h1, _⟩ | ⟨g, c, cur, h1, h2, _⟩
          · rw[h1]; simp[Value.ownBlock]
          · rw[h1]; simp[Value.ownBlock]; omega
        obtain⟨p, hp⟩ : ∃ p, a%4294967296 = p := ⟨_, rfl⟩;obtain ⟨q, hq⟩ : ∃ q, a/4294967296 = q := ⟨_, rfl⟩;have hp' : a.tmod 4294967296 = p := by rw[← hp, Int.tmod_eq_emod_of_nonneg hfa.1]
        have hq' : IntKind.u64.wrap (a.tdiv 4294967296) = q := by rw[Int.tdiv_eq_ediv_of_nonneg hfa.1, IntKind.wrap_u64]; omega
        have HT : Hid (us (spl (L.take k)) ++ [.int .u64 p, .int .u64 q] = us (spl (L.take (k+1)))) := by
          rw[ZnB L k (by rw[HL.out]; exact hlt), ha, hp, hq]; simp[us, Hid]
        clear ha;have g0 : (0 : Int) ≤ (k : Int) := by omega
        have g1 : (k : Int)<(l : Int) := by omega
        go_wp2;go_region_held3 (fun w' => w'.cell? ⟨b, k, none⟩ = some (.int .u64 a))
          (first | exact hc | (rw[World.cell?_drew, World.cell?_alloc_past _ _ _ (by omega)]; exact hc) | (rw[hgrow.cell_far _ (by simp; omega) hne]; assumption))
          ((refine step_append_lies _ (by rfl) _ _ _ (by rfl) w.heap.size 25 i0 _ 1 8 Tryz.underlying118 hi0 hz0 hz1 hz2 rfl (by omega) _ _ _ (by rfl) ((hown.alloc _).drew)
              ⟨wr.heap.size, 0, none⟩ 2 2 [.int .u64 p, .int .u64 q] (by rfl) (by rfl) (World.news_of_block (cs := #[.int .u64 p, .int .u64 q]) (t := 25) (fr := (0, 0)) (heap_alloc_new wr _)) (by simp[Value.oneCell'])
              (by omega) (by unfold maxLen; omega) (by omega) (by simp; omega) (wr.heap.size+1) (by simp) ?_; intro gg cap1 w1 hown1 hgrow hat hlt1))
        all_goals go_wp2
        go_roundw
        case rel => exact ⟨k+1, by omega, by go_num, by rw[HT.out] at hown1; exact hown1, hbel.trans (Below.grown ((Below.refl _ _).alloc hsz _).drew hgrow (by simp; omega) (fun j hj => ZnW hown hj))⟩
        case measure => simp[intOf]; omega
      · have g1 : (l : Int) ≤ (k : Int) := by omega
        have hk : k = l := by omega
        subst hk;rw[List.take_of_length_le (by rw[HL.out]; exact Nat.le_refl _)] at hown;go_wp2_with fail;refine (Zd3 _ (spl L) _ (Sl.of_own hown)).mono ?_;rintro e w' ⟨v', rfl, ht, rfl⟩;have hN := ht.num hdig;rw[hval] at hN;go_wp2_with fail;go_ret;exact ⟨v', rfl, hN, hbel⟩
theorem Zf4 (A:List Int) (w:World) (lA:A.length=6) (hf:Zaz A) :
    Calls Tryz.prog 68 #[.agg (us A).toArray] w fun e w'=>∃ v',e=.returned v'∧ZaG w' v' (v64 A)∧Below w.heap.size w w':=by
  obtain⟨i0,hi0,hz0,hz1,hz2⟩:=info_parts Zii;have B0:=Blk.new w (us A) 26 w.heap.size rfl;have bel:=bal w (.cells (us A).toArray 26);have sz0:(w.alloc (.cells (us A).toArray 26)).heap.size=w.heap.size+1:=by simp
  go_enter Tryz.func68,Tryz.ntmps68;go_wp2;generalize w.alloc (.cells (us A).toArray 26)=W at *;go_loopw [3,4] (fun o i wr=>∃ k:Nat,k≤6∧i=.int .i64 k∧wr.ownsRow (w.heap.size+1) 25 1 o k (us (A.take k))∧Below (w.heap.size+1) W wr)
    (fun _ i _=>6-(intOf i).toNat)
  case atStart=>exact ⟨0,by omega,rfl,World.ownsRow_nil _ _ _ _,Below.refl _ _⟩
  case round =>
    obtain⟨k,hk,rfl,hown,hbel⟩:=hrel;have hsz:=hbel.size
    by_cases hlt:k<6
    · obtain ⟨a,ha⟩:∃ a,A.getD k 0=a:=⟨_,rfl⟩
      have hc:=(B0.below hbel (by omega)).cell k _ (ZaO A k (by omega));rw[ha] at hc;have HT:Hid (us (A.take k)++[.int .u64 a]=us (A.take (k+1))):=by
        rw[← ha];exact Zpc A k (by omega)
      clear ha;have g0:(0:Int)≤(k:Int):=by omega
      have g1:(k:Int)<6:=by omega
      go_wp2_with (first
        | (at_builtin;refine wpList_append_lies _ (by rfl) _ _ _ (by rfl) (w.heap.size+1) 25 i0 _ 1 8 Tryz.underlying72 hi0 hz0 hz1 hz2 rfl (by omega) _ _ _ (by rfl) (hown.alloc _) ⟨wr.heap.size,0,none⟩ 1 1 [.int .u64 a] (by rfl) (by rfl) (World.news_of_block (cs:=#[.int .u64 a]) (t:=25) (fr:=(0,0)) (heap_alloc_new wr _)) (by simp[Value.oneCell']) (by omega) (by unfold maxLen;omega) (by omega) (by simp;omega) (wr.heap.size+1) (by simp) ?_;intro gg cap1 w1 hown1 hgrow hat hlt1))
      go_roundw
      case rel=>exact ⟨k+1,by omega,by go_num,by rw[HT.out] at hown1;exact hown1,hbel.trans (Below.grown ((Below.refl _ _).alloc (by omega) _) hgrow (by simp;omega) (fun j hj=>ZnW hown hj))⟩
      case measure=>simp[intOf];omega
    · have g1:(6:Int)≤(k:Int):=by omega
      have hk:k=6:=by omega
      rw[hk,List.take_of_length_le (by omega)] at hown;go_wp2_with fail;refine (of_any _ A _ (Sl.of_own hown) (by omega) (by omega) hf).mono ?_;rintro e w' ⟨v',rfl,ht,hb⟩;go_wp2_with fail;go_ret;exact ⟨v',rfl,ht,(bel.trans (hbel.mono (by omega))).trans (hb.mono (by omega))⟩
theorem Zfm (v:Value) (D:List Int) (i:Nat) (w:World) (h:Sl w v D) :
  Calls Tryz.prog 131 #[v,.int .i64 i] w fun e w'=>e=.returned (.int .u64 (D.getD i 0))∧w'=w:=by
 obtain⟨ao,cap,rfl,m1,k1,f1⟩:=h.form;unfold maxLen at m1;obtain ⟨d,hd⟩:∃ d,D.getD i 0=d:=⟨_,rfl⟩
 by_cases hi:i<D.length
 ·obtain ⟨b,rfl,hb,hc⟩:=f1 (by omega)
  have x:=hc i hi;rw[hd] at x ⊢;clear f1 hc hd;have g1:(i:Int)<(D.length:Int):=by omega
  have g2:(0:Int)≤(i:Int):=by omega
  go_enter Tryz.func131,Tryz.ntmps131;go_wp2;go_ret;exact ⟨rfl,rfl⟩
 ·have e:d=0:=by rw[← hd];exact Zbj D i (by omega)
  rw[hd,e];clear f1 hd e;have g1:¬ (i:Int)<(D.length:Int):=by omega
  go_enter Tryz.func131,Tryz.ntmps131;go_wp2;go_ret;exact ⟨rfl,rfl⟩
theorem pvt (D:List Int) (k:Nat):v32 (D.take (k+1))=v32 (D.take k)+4294967296 ^ k*D.getD k 0:=by
 by_cases h:k<D.length
 ·exact ZbC _ D k h
 ·rw[List.take_of_length_le (by omega),List.take_of_length_le (by omega),Zbj D k (by omega)];simp
theorem Zf0:(Tryz.prog.info? 25).map (fun i=>(i.zero,i.size,i.bytes))=some (some (.int .u64 0),1,8):=by kernel_rfl
theorem Ziu {w:World} {base:Nat} {e:TypeId} {size:Nat} {v:Value} {n:Nat} {xs:List Value} {j:Nat} (h:w.ownsRow base e size v n xs) (hj:v.ownBlock=some j):base≤j:=by
 rcases h.2 with ⟨h1,_⟩|⟨g,c,cur,h1,h2,_⟩
 ·rw[h1] at hj;simp[Value.ownBlock] at hj
 ·rw[h1] at hj;simp[Value.ownBlock] at hj;omega
theorem Zcq (b:Int) (D:List Int) (k:Nat):pv b (D.take (k+1))=pv b (D.take k)+b ^ k*D.getD k 0:=by
 by_cases h:k<D.length
 ·exact ZbC b D k h
 ·rw[List.take_of_length_le (by omega),List.take_of_length_le (by omega),Zbj D k (by omega)];simp
theorem Zib {S:List Int} (h:dig S) (s:Int) (h0:0≤s) (h1:s<4294967296):dig (S++[s]):=by
 intro j
 by_cases hj:j<S.length
 ·have:(S++[s]).getD j 0=S.getD j 0:=by simp[List.getD_eq_getElem?_getD,List.getElem?_append_left hj]
  rw[this];exact h j
 ·by_cases hj2:j=S.length
  ·subst hj2
   have:(S++[s]).getD S.length 0=s:=by simp[List.getD_eq_getElem?_getD]
   rw[this];exact ⟨h0,h1⟩
  ·rw[Zbj _ j (by simp;omega)];decide
theorem Zlc (D E S:List Int) (k:Nat) (c d e:Int) (lS:S.length=k) (hd:D.getD k 0=d) (he:E.getD k 0=e)
  (h:v32 S+c*4294967296 ^ k=v32 (D.take k)+v32 (E.take k)) :
  v32 (S++[(d+e+c)%4294967296])+(d+e+c)/4294967296*4294967296 ^ (k+1)=v32 (D.take (k+1))+v32 (E.take (k+1)):=by
 have q:=Int.mul_ediv_add_emod (d+e+c) 4294967296;simp only[v32] at *;rw[Zde,Zcq _ D k,Zcq _ E k,hd,he,lS,Int.pow_succ];simp only[pv];generalize (d+e+c)/4294967296=x at *;generalize (d+e+c)%4294967296=r at *;generalize (4294967296:Int) ^ k=p at *;have e':d=4294967296*x+r-e-c:=by omega
 subst e'
 grind
theorem Zge (u v:Value) (X Y:Int) (w:World) (hu:ZaG w u X) (hv:ZaG w v Y) (hX:X<4294967296 ^ 30) (hY:Y<4294967296 ^ 30) :
    Calls Tryz.prog 182 #[u,v] w fun e w'=>∃ v',e=.returned v'∧ZaG w' v' (X+Y)∧Below w.heap.size w w':=by
  obtain⟨i0,hi0,hz0,hz1,hz2⟩:=info_parts Zf0;obtain ⟨D,sD,dD,tD,rfl⟩:=hu;obtain ⟨E,sE,dE,tE,rfl⟩:=hv;have lD:D.length≤30:=ZdL D dD tD 30 hX;have lE:E.length≤30:=ZdL E dE tE 30 hY;clear hX hY tD tE;obtain ⟨Z,hZ⟩:∃ Z,v32 D+v32 E=Z:=⟨_,rfl⟩;rw[hZ];have hZ':Hid (v32 D+v32 E=Z):=hZ;clear hZ;have F1:=sD.form;have F2:=sE.form;obtain ⟨ao,c1,rfl,-,k1,-⟩:=F1;obtain ⟨bo,c2,rfl,-,k2,-⟩:=F2;obtain ⟨l,hl⟩:∃ l,D.length=l:=⟨_,rfl⟩;obtain ⟨m,hm⟩:∃ m,E.length=m:=⟨_,rfl⟩;rw[hl] at sD lD ⊢;rw[hm] at sE lE ⊢;have HL:Hid (D.length=l∧E.length=m):=⟨hl,hm⟩;clear k1 k2 hl hm;go_enter Tryz.func182,Tryz.ntmps182;go_wp2;go_loopw [5,6,7] (fun o cv i wr=>∃ (k:Nat) (c:Int) (S:List Int),i=.int .i64 k∧cv=.int .u64 c∧0≤c∧c≤1∧S.length=k∧dig S∧(k≤l∨k≤m∨(k≤31∧c=0))∧Hid (v32 S+c*4294967296 ^ k=v32 (D.take k)+v32 (E.take k))∧wr.ownsRow w.heap.size 25 1 o k (us S)∧Below w.heap.size w wr)
    (fun _ _ i _=>40-(intOf i).toNat)
  case atStart=>exact ⟨0,0,[],rfl,rfl,by omega,by omega,rfl,ZfX,by omega,by show _=_;simp[v32,pv],World.ownsRow_nil _ _ _ _,Below.refl _ _⟩
  case round =>
    obtain⟨k,c,S,rfl,rfl,hc0,hc1,lS,dS,hkb,hv,hown,hbel⟩:=hrel;have hsz:=hbel.size
    by_cases hgo:k<l∨k<m∨0<c
    · obtain ⟨d,hd⟩:∃ d,D.getD k 0=d:=⟨_,rfl⟩
      obtain⟨e,he⟩:∃ e,E.getD k 0=e:=⟨_,rfl⟩;have bd:0≤d∧d<4294967296:=hd ▸ dD k;have be:0≤e∧e<4294967296:=he ▸ dE k;have bd0:=bd.1;have bd1:=bd.2;have be0:=be.1;have be1:=be.2;have st:Hid _:=Zlc D E S k c d e lS hd he hv.out;have hz:¬ k<l→d=0:=fun h=>by rw[← hd];exact Zbj D k (by rw[HL.out.1];omega)
      have hz':¬ k<m→e=0:=fun h=>by rw[← he];exact Zbj E k (by rw[HL.out.2];omega)
      have nx:Hid (k+1≤l∨k+1≤m∨(k+1≤31∧(d+e+c)/4294967296=0)):=by
        show _∨_
        by_cases q1:k<l
        · exact .inl q1
        · by_cases q2:k<m
          · exact .inr (.inl q2)
          · have:=hz q1
            have:=hz' q2;omega
      have kb:k≤31:=by omega
      clear hz hz' hv;have sD':=sD.later hbel;have sE':=sE.later hbel;have gd:(k:Int)<(l:Int)∨(¬ (k:Int)<(l:Int)∧(k:Int)<(m:Int))∨(¬ (k:Int)<(l:Int)∧¬ (k:Int)<(m:Int)∧0<c):=by omega
      clear hgo hkb;rcases gd with g1|⟨g1,g2⟩|⟨g1,g2,g3⟩
      all_goals
        go_wp2_with fail;refine (Zfm _ D k _ sD').mono ?_;rintro e1 w' ⟨rfl,hw⟩;obtain rfl:=hw.symm;rw[hd];go_wp2_with fail;refine (Zfm _ E k _ sE').mono ?_;rintro e1 w' ⟨rfl,hw⟩;obtain rfl:=hw.symm;rw[he];go_wp2_with (first
          | (at_builtin;refine wpList_append_lies _ (by rfl) _ _ _ (by rfl) w.heap.size 25 i0 _ 1 8 Tryz.underlying118 hi0 hz0 hz1 hz2 rfl (by omega) _ _ _ (by rfl) (hown.alloc _) ⟨wr.heap.size,0,none⟩ 1 1 [.int .u64 ((d+e+c)%4294967296)] (by rfl) (by rfl) (World.news_of_block (cs:=#[.int .u64 ((d+e+c)%4294967296)]) (t:=25) (fr:=(0,0)) (heap_alloc_new wr _)) (by simp[Value.oneCell']) (by omega) (by unfold maxLen;omega) (by omega) (by simp;omega) (wr.heap.size+1) (by simp) ?_;intro gg cap1 w1 hown1 hgrow hat hlt1))
        go_roundw
        case rel=>exact ⟨k+1,_,S++[(d+e+c)%4294967296],by go_num,rfl,by omega,by omega,by simp[lS],Zib dS _ (by omega) (by omega),nx.out,st,by rw[ZhV] at hown1;exact hown1,hbel.trans (Below.grown ((Below.refl _ _).alloc (by omega) _) hgrow (by simp;omega) (fun j hj=>Ziu hown hj))⟩
        case measure=>simp[intOf];omega
    · have g1:¬ (k:Int)<(l:Int):=by omega
      have g2:¬ (k:Int)<(m:Int):=by omega
      have g3:¬ 0<c:=by omega
      have c0:c=0:=by omega
      have hN:Hid (v32 S=Z):=by
        have:=hv.out;rw[c0,List.take_of_length_le (by rw[HL.out.1];omega),List.take_of_length_le (by rw[HL.out.2];omega),hZ'.out] at this;show _=_;omega
      clear hv;go_wp2_with fail;refine (Zd3 _ S _ (Sl.of_own hown)).mono ?_;rintro e w' ⟨v',rfl,ht,hw⟩;obtain rfl:=hw.symm;have hQ:=ht.num dS;rw[hN.out] at hQ;go_wp2_with fail;go_ret;exact ⟨v',rfl,hQ,hbel⟩
theorem Zlr (D E S:List Int) (k:Nat) (c d e:Int) (lS:S.length=k) (hd:D.getD k 0=d) (he:E.getD k 0=e)
  (h:v32 S-c*4294967296 ^ k=v32 (D.take k)-v32 (E.take k)) :
  v32 (S++[(d+4294967296-e-c)%4294967296])-(1-(d+4294967296-e-c)/4294967296)*4294967296 ^ (k+1)=v32 (D.take (k+1))-v32 (E.take (k+1)):=by
 have q:=Int.mul_ediv_add_emod (d+4294967296-e-c) 4294967296;simp only[v32] at *;rw[Zde,Zcq _ D k,Zcq _ E k,hd,he,lS,Int.pow_succ];simp only[pv];generalize (d+4294967296-e-c)/4294967296=x at *;generalize (d+4294967296-e-c)%4294967296=r at *;generalize (4294967296:Int) ^ k=p at *;have e':d=4294967296*x+r-4294967296+e+c:=by omega
 subst e'
 grind
theorem Zgf (u v:Value) (X Y:Int) (w:World) (hu:ZaG w u X) (hv:ZaG w v Y) (hX:X<4294967296 ^ 30) (hYX:Y≤X) :
    Calls Tryz.prog 183 #[u,v] w fun e w'=>∃ v',e=.returned v'∧ZaG w' v' (X-Y)∧Below w.heap.size w w':=by
  obtain⟨i0,hi0,hz0,hz1,hz2⟩:=info_parts Zf0;obtain ⟨D,sD,dD,tD,rfl⟩:=hu;obtain ⟨E,sE,dE,tE,rfl⟩:=hv;have lD:D.length≤30:=ZdL D dD tD 30 hX;have lE:E.length≤D.length:=by
    rcases Nat.lt_or_ge D.length E.length with h|h
    · have:=Zfc D E dD dE tE h
      omega
    · exact h
  clear hX tD tE;obtain ⟨Z,hZ⟩:∃ Z,v32 D-v32 E=Z:=⟨_,rfl⟩;rw[hZ];have hZ0:0≤Z:=by omega
  have hZ':Hid (v32 D-v32 E=Z):=hZ;clear hZ hYX;have F1:=sD.form;have F2:=sE.form;obtain ⟨ao,c1,rfl,-,k1,-⟩:=F1;obtain ⟨bo,c2,rfl,-,k2,-⟩:=F2;obtain ⟨l,hl⟩:∃ l,D.length=l:=⟨_,rfl⟩;obtain ⟨m,hm⟩:∃ m,E.length=m:=⟨_,rfl⟩;rw[hm,hl] at lE;rw[hl] at sD lD ⊢;rw[hm] at sE ⊢;have HL:Hid (D.length=l∧E.length=m):=⟨hl,hm⟩;clear k1 k2 hl hm;go_enter Tryz.func183,Tryz.ntmps183;go_wp2;go_loopw [5,6,7] (fun o cv i wr=>∃ (k:Nat) (c:Int) (S:List Int),i=.int .i64 k∧cv=.int .u64 c∧0≤c∧c≤1∧S.length=k∧dig S∧k≤l∧Hid (v32 S-c*4294967296 ^ k=v32 (D.take k)-v32 (E.take k))∧wr.ownsRow w.heap.size 25 1 o k (us S)∧Below w.heap.size w wr)
    (fun _ _ i _=>l-(intOf i).toNat)
  case atStart=>exact ⟨0,0,[],rfl,rfl,by omega,by omega,rfl,ZfX,by omega,by show _=_;simp[v32,pv],World.ownsRow_nil _ _ _ _,Below.refl _ _⟩
  case round =>
    obtain⟨k,c,S,rfl,rfl,hc0,hc1,lS,dS,hkb,hv,hown,hbel⟩:=hrel;have hsz:=hbel.size
    by_cases hgo:k<l
    · obtain ⟨d,hd⟩:∃ d,D.getD k 0=d:=⟨_,rfl⟩
      obtain⟨e,he⟩:∃ e,E.getD k 0=e:=⟨_,rfl⟩;have bd:0≤d∧d<4294967296:=hd ▸ dD k;have be:0≤e∧e<4294967296:=he ▸ dE k;have bd0:=bd.1;have bd1:=bd.2;have be0:=be.1;have be1:=be.2;have st:Hid _:=Zlr D E S k c d e lS hd he hv.out;clear hv;have sD':=sD.later hbel;have sE':=sE.later hbel;have g1:(k:Int)<(l:Int):=by omega
      go_wp2_with fail;refine (Zfm _ D k _ sD').mono ?_;rintro e1 w' ⟨rfl,hw⟩;obtain rfl:=hw.symm;rw[hd];go_wp2_with fail;refine (Zfm _ E k _ sE').mono ?_;rintro e1 w' ⟨rfl,hw⟩;obtain rfl:=hw.symm;rw[he];go_wp2_with (first
        | (at_builtin;refine wpList_append_lies _ (by rfl) _ _ _ (by rfl) w.heap.size 25 i0 _ 1 8 Tryz.underlying118 hi0 hz0 hz1 hz2 rfl (by omega) _ _ _ (by rfl) (hown.alloc _) ⟨wr.heap.size,0,none⟩ 1 1 [.int .u64 ((d+4294967296-e-c)%4294967296)] (by rfl) (by rfl) (World.news_of_block (cs:=#[.int .u64 ((d+4294967296-e-c)%4294967296)]) (t:=25) (fr:=(0,0)) (heap_alloc_new wr _)) (by simp[Value.oneCell']) (by omega) (by unfold maxLen;omega) (by omega) (by simp;omega) (wr.heap.size+1) (by simp) ?_;intro gg cap1 w1 hown1 hgrow hat hlt1))
      go_roundw
      case rel=>exact ⟨k+1,_,S++[(d+4294967296-e-c)%4294967296],by go_num,rfl,by omega,by omega,by simp[lS],Zib dS _ (by omega) (by omega),by omega,st,by rw[ZhV] at hown1;exact hown1,hbel.trans (Below.grown ((Below.refl _ _).alloc (by omega) _) hgrow (by simp;omega) (fun j hj=>Ziu hown hj))⟩
      case measure=>simp[intOf];omega
    · have g1:¬ (k:Int)<(l:Int):=by omega
      have hN:Hid (v32 S=Z):=by
        have h:=hv.out;have b:=ZbL S dS;rw[List.take_of_length_le (by rw[HL.out.1];omega),List.take_of_length_le (by rw[HL.out.2];omega),hZ'.out] at h;rw[lS] at b;show _=_;have hc:c=0∨c=1:=by omega
        rcases hc with rfl|rfl<;>omega
      clear hv;go_wp2_with fail;refine (Zd3 _ S _ (Sl.of_own hown)).mono ?_;rintro e w' ⟨v',rfl,ht,hw⟩;obtain rfl:=hw.symm;have hQ:=ht.num dS;rw[hN.out] at hQ;go_wp2_with fail;go_ret;exact ⟨v',rfl,hQ,hbel⟩
theorem Zo8 (w:World) (t:TypeId):ZaG (w.alloc (.cells (us [0,0,0,0,0,0,0,0,0,0,0,0,1]).toArray t)) (.slice (some ⟨w.heap.size,0,none⟩) 13 13) (18446744073709551616 ^ 6):=by
 have B:=Blk.new w (us [0,0,0,0,0,0,0,0,0,0,0,0,1]) t w.heap.size rfl;refine ⟨[0,0,0,0,0,0,0,0,0,0,0,0,1],.inr ⟨w.heap.size,13,rfl,Nat.le_refl _,by unfold maxLen;omega,B.lt,fun j hj=>B.cell j _ (ZaO _ j hj)⟩,?_,?_,?_⟩
 ·intro j
  match j with
  | 0=>decide
  | 1=>decide
  | 2=>decide
  | 3=>decide
  | 4=>decide
  | 5=>decide
  | 6=>decide
  | 7=>decide
  | 8=>decide
  | 9=>decide
  | 10=>decide
  | 11=>decide
  | 12=>decide
  | _+13=>exact ⟨by simp,by simp⟩
 ·intro _;simp
 ·simp only[v32,pv];decide
theorem Zo7 (w:World) :
  Calls Tryz.prog 239 #[] w fun e w'=>∃ v',e=.returned v'∧ZaG w' v' (18446744073709551616 ^ 6)∧Below w.heap.size w w':=by
 have h:=Zo8 w 25;go_enter Tryz.func239,Tryz.ntmps239;go_wp2;go_ret;exact ⟨_,rfl,h,(Below.refl _ _).alloc (Nat.le_refl _) _⟩
def Zeq (X Y:Int):Int:=if X<Y then -1 else if X=Y then 0 else 1
theorem Zj9 {X Y:Int} (h:X<Y):(-1:Int)=Zeq X Y:=by simp[Zeq,h]
theorem Zog {X Y:Int} (h:X=Y):(0:Int)=Zeq X Y:=by simp[Zeq,h]
theorem Zj8 {X Y:Int} (h:Y<X):(1:Int)=Zeq X Y:=by
 unfold Zeq;rw[if_neg (by omega),if_neg (by omega)]
theorem ZfV (u v:Value) (X Y:Int) (w:World) (hu:ZaG w u X) (hv:ZaG w v Y) :
  Calls Tryz.prog 123 #[u,v] w fun e w'=>e=.returned (.int .i64 (Zeq X Y))∧Below w.heap.size w w':=by
 obtain⟨D,sD,dD,tD,rfl⟩:=hu;obtain ⟨E,sE,dE,tE,rfl⟩:=hv;obtain ⟨ao,c1,rfl,m1,k1,f1⟩:=sD.form;obtain ⟨bo,c2,rfl,m2,k2,f2⟩:=sE.form;have sh1:=Zfc D E dD dE tE;have sh2:=Zfc E D dE dD tD;obtain ⟨l,hl⟩:∃ l,D.length=l:=⟨_,rfl⟩;obtain ⟨m,hm⟩:∃ m,E.length=m:=⟨_,rfl⟩;unfold maxLen at m1 m2;clear sD sE;obtain ⟨X,hX⟩:∃ X,v32 D=X:=⟨_,rfl⟩;obtain ⟨Y,hY⟩:∃ Y,v32 E=Y:=⟨_,rfl⟩;rw[hX,hY];rw[hX,hY] at sh1 sh2;rw[hl,hm] at sh1;rw[hm,hl] at sh2
 by_cases hlm:l<m
 ·have H:Hid _:=Zj9 (sh1 hlm)
  rw[hl,hm];clear sh1 sh2 f1 f2 hX hY;have g1:((l:Int) != (m:Int))=true:=by simp;omega
  have g2:(l:Int)<(m:Int):=by omega
  go_enter Tryz.func123,Tryz.ntmps123;go_wp2;go_ret;exact ⟨ZdG H.out,Below.refl _ _⟩
 ·by_cases hml:m<l
  ·have H:Hid _:=Zj8 (sh2 hml)
   rw[hl,hm];clear sh1 sh2 f1 f2 hX hY;have g1:((l:Int) != (m:Int))=true:=by simp;omega
   have g2:¬ (l:Int)<(m:Int):=by omega
   go_enter Tryz.func123,Tryz.ntmps123;go_wp2;go_ret;exact ⟨ZdG H.out,Below.refl _ _⟩
  ·have hE:m=l:=by omega
   subst hE;rw[hl] at f1 ⊢;rw[hm] at f2 ⊢;clear sh1 sh2;have g1:((m:Int) != (m:Int))=false:=by simp
   have HL:Hid (D.length=m∧E.length=m):=⟨hl,hm⟩;have HX:Hid (v32 D=X∧v32 E=Y):=⟨hX,hY⟩;clear hX hY;rw[hl] at k1;rw[hm] at k2;clear hl hm;go_enter Tryz.func123,Tryz.ntmps123;go_wp2;go_loopw [5] (fun i wr=>∃ k:Nat,k≤m∧i=.int .i64 ((k:Int)-1)∧Hid (D.drop k=E.drop k)∧∃ n,wr=w.drewN n)
    (fun i _=>(intOf i+1).toNat)
   case atStart=>exact ⟨m,Nat.le_refl _,rfl,by show _=_;rw[List.drop_of_length_le (by rw[HL.out.1];exact Nat.le_refl _),List.drop_of_length_le (by rw[HL.out.2];exact Nat.le_refl _)],0,rfl⟩
   case round =>
    obtain⟨k,hk,rfl,HD,n,rfl⟩:=hrel
    by_cases hk0:k=0
    ·have H:Hid _:=Zog (show X=Y by rw[← HX.out.1,← HX.out.2];have:=HD.out;rw[hk0] at this;simp at this;rw[this])
     have g2:¬ (0:Int)≤(k:Int)-1:=by omega
     go_wp2;go_ret;exact ⟨ZdG H.out,ZcJ (Below.refl _ _) _⟩
    ·obtain ⟨b1,rfl,hb1,hc1⟩:=f1 (by omega)
     obtain⟨b2,rfl,hb2,hc2⟩:=f2 (by omega);clear f1 f2;obtain ⟨d,hd⟩:∃ d,D.getD (k-1) 0=d:=⟨_,rfl⟩;obtain ⟨e,he⟩:∃ e,E.getD (k-1) 0=e:=⟨_,rfl⟩;have x1:=hc1 (k-1) (by omega);have x2:=hc2 (k-1) (by omega);rw[hd] at x1;rw[he] at x2;have hD:Hid (D.drop (k-1+1)=E.drop (k-1+1)):=by rw[show k-1+1=k by omega];exact HD
     have L1:Hid (d<e→X<Y):=fun h=>by rw[← HX.out.1,← HX.out.2];exact ZiN D E (k-1) dD dE (by rw[HL.out.1];omega) (by rw[HL.out.2];omega) hD.out (by rw[hd,he];exact h)
     have L2:Hid (e<d→Y<X):=fun h=>by rw[← HX.out.1,← HX.out.2];exact ZiN E D (k-1) dE dD (by rw[HL.out.2];omega) (by rw[HL.out.1];omega) hD.out.symm (by rw[hd,he];exact h)
     have L3:Hid (d=e→D.drop (k-1)=E.drop (k-1)):=fun h=>by
      have e1:=List.drop_eq_getElem_cons (l:=D) (i:=k-1) (by rw[HL.out.1];omega);have e2:=List.drop_eq_getElem_cons (l:=E) (i:=k-1) (by rw[HL.out.2];omega);rw[e1,e2,hD.out]
      congr 1
      rw[List.getD_eq_getElem?_getD,List.getElem?_eq_getElem (by rw[HL.out.1];omega)] at hd;rw[List.getD_eq_getElem?_getD,List.getElem?_eq_getElem (by rw[HL.out.2];omega)] at he;simp at hd he;rw[hd,he,h]
     clear hd he hc1 hc2;have g2:(0:Int)≤(k:Int)-1:=by omega
     have g3:(k:Int)-1<(m:Int):=by omega
     have g4:((k:Int)-1).toNat=k-1:=by omega
     by_cases hde:d<e
     ·have H:Hid _:=Zj9 (L1.out hde)
      go_wp2;go_quiet (fail);go_wp2;go_ret;exact ⟨ZdG H.out,ZcJ (ZcJ (Below.refl _ _) _) _⟩
     ·by_cases hed:e<d
      ·have H:Hid _:=Zj8 (L2.out hed)
       go_wp2;go_quiet (fail);go_wp2;go_quiet (fail);go_wp2;go_ret;exact ⟨ZdG H.out,ZcJ (ZcJ (ZcJ (Below.refl _ _) _) _) _⟩
      ·have hq:d=e:=by omega
       go_wp2;go_quiet (fail);go_wp2;go_quiet (fail);go_wp2;go_roundw
       case rel=>exact ⟨k-1,by omega,by congr 1;omega,L3.out hq,_,rfl⟩
       case measure=>simp[intOf];omega
end Go.Proofs.YtdfmoghjimghhaaGreatDoor
