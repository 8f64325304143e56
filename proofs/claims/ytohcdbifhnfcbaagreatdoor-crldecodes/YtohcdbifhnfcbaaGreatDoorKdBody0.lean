import Derived.Test.YtohcdbifhnfcbaaGreatDoorDrTG
import Derived.Test.YtohcdbifhnfcbaaGreatDoorDrBytes
import Derived.Test.YtohcdbifhnfcbaaGreatDoorCtSize
import Derived.Test.YtohcdbifhnfcbaaGreatDoorPmTof
import Derived.Test.YtohcdbifhnfcbaaGreatDoorPrOidN
import Derived.Test.YtohcdbifhnfcbaaGreatDoorDrDG
import Derived.Test.YtohcdbifhnfcbaaGreatDoorNlSG
import Derived.Test.YtohcdbifhnfcbaaGreatDoorPmOidO
import Derived.Test.YtohcdbifhnfcbaaGreatDoorPmNG
import Derived.Test.YtohcdbifhnfcbaaGreatDoorPmTofR
import Derived.Test.YtohcdbifhnfcbaaGreatDoorKrEl
import Derived.Test.YtohcdbifhnfcbaaGreatDoorPmNumO
import Derived.Test.YtohcdbifhnfcbaaGreatDoorCtElm
import Derived.Test.YtohcdbifhnfcbaaGreatDoorKrBdy0
import Derived.Test.YtohcdbifhnfcbaaGreatDoorRows
import Derived.Deep.WholeRow
import Derived.Deep.RegionHeld3
import Derived.Deep.DeepCutAuto
import Derived.Deep.DeepFit
import Derived.Deep.OwnRows
import Derived.Deep.AppendLies
import Derived.Great.BuildSlice
import Derived.Laws.Rows
import Derived.BigQuiet
namespace Go.Proofs.YtohcdbifhnfcbaaGreatDoor
open Go.RowKit
open Classical
set_option linter.unusedSimpArgs false
set_option maxRecDepth 100000
set_option maxHeartbeats 8000000
theorem Zo5 (n:Nat):∀ (T:Tl) (w:World) (cs:List Value),szT T≤n→Zav w T cs →
  Calls Tryz.prog 65 #[.agg cs.toArray] w fun e w'=>e=.returned (.bool (ZaK T))∧Below w.heap.size w w':=by
 induction n with
 | zero=>intro T w cs hz;have:=ZcN T;omega
 | succ n IH =>
  intro T w cs hz h;obtain ⟨c,t,m,b,ks⟩:=T;have h0:=h;rw[Zav] at h;obtain ⟨bv,ao,cap,rfl,hbv,hk1,hk2,hk3⟩:=h;have HK:Hid (0<ks.length→∃ g o,ao=some ⟨g,o,none⟩∧Zap w ks g o):=hk3;clear hk3 h0;unfold maxLen at hk2;obtain ⟨bao,bcap,rfl,hb1,hb2,hb3⟩:=hbv;clear hb3;unfold maxLen at hb1;have B0:=Blk.new w [.int .i64 c,.int .i64 t,.bool m,.slice bao b.length bcap,.slice ao ks.length cap] 53 w.heap.size rfl;have bel:=bal w (.cells #[.int .i64 c,.int .i64 t,.bool m,.slice bao b.length bcap,.slice ao ks.length cap] 53);rw[szT] at hz;have e0:=B0.cell 0 _ rfl;have e1:=B0.cell 1 _ rfl;have e2:=B0.cell 2 _ rfl;have e3:=B0.cell 3 _ rfl;have e4:=B0.cell 4 _ rfl;have lt0:=B0.lt;have HF:Hid (ZaK (.mk c t m b ks)=(Zby c t m b ks && ZaE ks)):=by show _=_;rw[ZaK]
  go_enter Tryz.func65,Tryz.ntmps65;go_upto_region 1 with fail;generalize w.alloc (Obj.cells #[.int .i64 c,.int .i64 t,.bool m,.slice bao b.length bcap,.slice ao ks.length cap] 53)=W at *
  by_cases h1:c<0
  ·go_wp2_with fail
   go_ret;exact ⟨by rw[HF.out,show Zby c t m b ks=false by exact Zbt (by omega),Bool.false_and];rfl,bel⟩
  by_cases h2:3<c
  ·go_wp2_with fail
   go_ret;exact ⟨by rw[HF.out,show Zby c t m b ks=false by exact Zbt (by omega),Bool.false_and];rfl,bel⟩
  by_cases h3:t<0
  ·go_wp2_with fail
   go_ret;exact ⟨by rw[HF.out,show Zby c t m b ks=false by exact Zbt (by omega),Bool.false_and];rfl,bel⟩
  by_cases h4:30<t
  ·go_wp2_with fail
   go_ret;exact ⟨by rw[HF.out,show Zby c t m b ks=false by exact Zbt (by omega),Bool.false_and];rfl,bel⟩
  go_upto_region 3 with fail
  cases m with
  | true =>
   by_cases h5:0<b.length
   ·go_wp2_with fail
    go_ret;exact ⟨by rw[HF.out,show Zby c t true b ks=false from Zbt (by first|exact .inr (.inr (.inr (.inr (.inl ⟨rfl,by omega⟩))))|exact .inr (.inr (.inr (.inr (.inr ⟨rfl,by omega⟩))))),Bool.false_and];rfl,bel⟩
   ·replace HF:Hid (ZaK (.mk c t true b ks)=ZaE ks):=by show _=_;rw[HF.out,show Zby c t true b ks=true from ZdF (by omega) (by omega) (fun h=>by first|omega|cases h) (fun h=>by first|omega|cases h),Bool.true_and]
    go_wp2_with fail;go_loopw [3] (fun iv wx=>∃ i:Nat,i≤ks.length∧iv=.int .i64 i∧Hid (ZaE ks=ZaE (ks.drop i))∧Blk wx w.heap.size [.int .i64 c,.int .i64 t,.bool true,.slice bao b.length bcap,.slice ao ks.length cap]∧Below w.heap.size w wx) (fun iv _=>ks.length-(intOf iv).toNat)
    case atStart=>exact ⟨0,by omega,rfl,rfl,B0,bel⟩
    case round =>
     clear B0 bel lt0 e0 e1 e2 e3 e4;obtain ⟨i,hi,rfl,HL,B0,bel⟩:=hrel;have e4:=B0.cell 4 _ rfl;have lt0:=B0.lt
     by_cases hil:i<ks.length
     ·have g1:(i:Int)<(ks.length:Int):=by omega
      have g2:(0:Int)≤(i:Int):=by omega
      have gi:IntKind.i64.wrap ((i:Int)+1)=(i:Int)+1:=by rw[IntKind.wrap_i64];omega
      obtain⟨k,hkk⟩:=ZbI hil;obtain ⟨g,o,hao,hks⟩:=HK.out (by omega);obtain ⟨cs,hcs,hkt⟩:=hks.get hkk;have hsz:=ZcM hkk;replace hcs:=hcs.later bel;replace hkt:=hkt.later bel;have hld:=Zat hcs hkt.five;have hld2:=hld;rw[Nat.mul_comm 5 i] at hld2;subst hao;have HN:Hid _:=Zgm hkk;go_wp2_with (first|(refine Zab (by rfl) (by rfl) (by rfl) hld ?_)|(refine Zab (by rfl) (by rfl) (by rfl) hld2 ?_)|fail);refine (IH k _ _ (by omega) hkt).mono ?_;rintro e w2 ⟨rfl,hb2⟩;replace B0:=B0.later hb2;replace bel:=Zar bel hb2;clear hb2 hld hld2 hcs hkt e4 lt0
      cases hq:ZaK k with
      | true =>
       rw[hq,Bool.true_and] at HN;clear hq;go_wp2_with fail;go_roundw
       case rel=>exact ⟨i+1,by omega,by go_num,by show _=_;rw[HL.out,HN.out],B0,bel⟩
       case measure=>simp[intOf];omega
      | false =>
       rw[hq,Bool.false_and] at HN;clear hq;go_wp2_with fail;go_ret;exact ⟨by rw[HF.out,HL.out,HN.out];rfl,bel⟩
     ·have HI:Hid (i=ks.length):=by show i=ks.length;omega
      have g1:¬ (i:Int)<(ks.length:Int):=by omega
      go_wp2_with fail;go_ret;exact ⟨by rw[HF.out,HL.out,HI.out,List.drop_of_length_le (Nat.le_refl _),ZaE];rfl,bel⟩
  | false =>
   by_cases h6:0<ks.length
   ·go_wp2_with fail
    go_ret;exact ⟨by rw[HF.out,show Zby c t false b ks=false from Zbt (by first|exact .inr (.inr (.inr (.inr (.inl ⟨rfl,by omega⟩))))|exact .inr (.inr (.inr (.inr (.inr ⟨rfl,by omega⟩))))),Bool.false_and];rfl,bel⟩
   ·replace HF:Hid (ZaK (.mk c t false b ks)=ZaE ks):=by show _=_;rw[HF.out,show Zby c t false b ks=true from ZdF (by omega) (by omega) (fun h=>by first|omega|cases h) (fun h=>by first|omega|cases h),Bool.true_and]
    go_wp2_with fail;go_loopw [3] (fun iv wx=>∃ i:Nat,i≤ks.length∧iv=.int .i64 i∧Hid (ZaE ks=ZaE (ks.drop i))∧Blk wx w.heap.size [.int .i64 c,.int .i64 t,.bool false,.slice bao b.length bcap,.slice ao ks.length cap]∧Below w.heap.size w wx) (fun iv _=>ks.length-(intOf iv).toNat)
    case atStart=>exact ⟨0,by omega,rfl,rfl,B0,bel⟩
    case round =>
     clear B0 bel lt0 e0 e1 e2 e3 e4;obtain ⟨i,hi,rfl,HL,B0,bel⟩:=hrel;have e4:=B0.cell 4 _ rfl;have lt0:=B0.lt
     by_cases hil:i<ks.length
     ·exact absurd hil (by omega)
     ·have HI:Hid (i=ks.length):=by show i=ks.length;omega
      have g1:¬ (i:Int)<(ks.length:Int):=by omega
      go_wp2_with fail;go_ret;exact ⟨by rw[HF.out,HL.out,HI.out,List.drop_of_length_le (Nat.le_refl _),ZaE];rfl,bel⟩
theorem ZmK (n:Nat):∀ (T:Tl) (w:World) (cs:List Value),szT T≤n→szT T≤4611686018427387904→Zav w T cs →
  Calls Tryz.prog 66 #[.agg cs.toArray] w fun e w'=>e=.returned (.int .i64 ((Zct T:Nat):Int))∧Below w.heap.size w w':=by
 induction n with
 | zero=>intro T w cs hz _;have:=ZcN T;omega
 | succ n IH =>
  intro T w cs hz hbig h;obtain ⟨c,t,m,b,ks⟩:=T;have h0:=h;rw[Zav] at h;obtain ⟨bv,ao,cap,rfl,hbv,hk1,hk2,hk3⟩:=h;have HK:Hid (0<ks.length→∃ g o,ao=some ⟨g,o,none⟩∧Zap w ks g o):=hk3;clear hk3 h0;unfold maxLen at hk2;obtain ⟨bao,bcap,rfl,hb1,hb2,hb3⟩:=hbv;clear hb3;unfold maxLen at hb1;have B0:=Blk.new w [.int .i64 c,.int .i64 t,.bool m,.slice bao b.length bcap,.slice ao ks.length cap] 53 w.heap.size rfl;have bel:=bal w (.cells #[.int .i64 c,.int .i64 t,.bool m,.slice bao b.length bcap,.slice ao ks.length cap] 53);rw[szT] at hz hbig;have e4:=B0.cell 4 _ rfl;have lt0:=B0.lt;go_enter Tryz.func66,Tryz.ntmps66;go_upto_region 2 with fail;generalize w.alloc (Obj.cells #[.int .i64 c,.int .i64 t,.bool m,.slice bao b.length bcap,.slice ao ks.length cap] 53)=W at *;go_wp2_with fail;go_loopw [3,4] (fun mv iv wx=>∃ i:Nat,i≤ks.length∧iv=.int .i64 i∧mv=.int .i64 ((Zb7 (ks.take i):Nat):Int)∧Blk wx w.heap.size [.int .i64 c,.int .i64 t,.bool m,.slice bao b.length bcap,.slice ao ks.length cap]∧Below w.heap.size w wx) (fun _ iv _=>ks.length-(intOf iv).toNat)
  case atStart=>exact ⟨0,by omega,rfl,by simp[Zb7],B0,bel⟩
  case round =>
   clear B0 bel lt0 e4;obtain ⟨i,hi,rfl,rfl,B0,bel⟩:=hrel;have e4:=B0.cell 4 _ rfl;have lt0:=B0.lt
   by_cases hil:i<ks.length
   ·have g1:(i:Int)<(ks.length:Int):=by omega
    have g2:(0:Int)≤(i:Int):=by omega
    have gi:IntKind.i64.wrap ((i:Int)+1)=(i:Int)+1:=by rw[IntKind.wrap_i64];omega
    obtain⟨k,hkk⟩:=ZbI hil;obtain ⟨g,o,hao,hks⟩:=HK.out (by omega);obtain ⟨cs,hcs,hkt⟩:=hks.get hkk;have hsz:=ZcM hkk;replace hcs:=hcs.later bel;replace hkt:=hkt.later bel;have hld:=Zat hcs hkt.five;have hld2:=hld;rw[Nat.mul_comm 5 i] at hld2;subst hao;have HN:Hid _:=ZlW hkk;go_wp2_with (first|(refine Zab (by rfl) (by rfl) (by rfl) hld ?_)|(refine Zab (by rfl) (by rfl) (by rfl) hld2 ?_)|fail);refine (IH k _ _ (by omega) (by omega) hkt).mono ?_;rintro e w2 ⟨rfl,hb2⟩;replace B0:=B0.later hb2;replace bel:=Zar bel hb2;clear hb2 hld hld2 hcs hkt e4 lt0;obtain ⟨x,hx⟩:∃ x,Zct k=x:=⟨_,rfl⟩;obtain ⟨y,hy⟩:∃ y,Zb7 (ks.take i)=y:=⟨_,rfl⟩;rw[hx,hy] at HN;rw[hx,hy];clear hx hy
    by_cases hxy:y<x
    ·have g3:(y:Int)<(x:Int):=by omega
     go_wp2_with fail;go_roundw
     case rel=>exact ⟨i+1,by omega,by go_num,by rw[HN.out,Nat.max_eq_right (by omega)],B0,bel⟩
     case measure=>simp[intOf];omega
    ·have g3:¬ (y:Int)<(x:Int):=by omega
     go_wp2_with fail;go_roundw
     case rel=>exact ⟨i+1,by omega,by go_num,by rw[HN.out,Nat.max_eq_left (by omega)],B0,bel⟩
     case measure=>simp[intOf];omega
   ·have HI:Hid (i=ks.length):=by show i=ks.length;omega
    have g1:¬ (i:Int)<(ks.length:Int):=by omega
    have HD:Hid (Zb7 (ks.take i)=Zb7 ks):=by show _=_;rw[HI.out,List.take_of_length_le (Nat.le_refl _)]
    have hle:=ZgM ks;rw[HD.out];have g3:IntKind.i64.wrap (((Zb7 ks:Nat):Int)+1)=((Zb7 ks:Nat):Int)+1:=by rw[IntKind.wrap_i64];omega
    go_wp2_with fail;go_ret;exact ⟨by rw[Zct];rfl,bel⟩
theorem ZfQ {T : Tl} {cs : List Value} {w : World} (hz : szT T ≤ 4611686018427387904) (hl : Hid (ZaK T = true → (Zak T).length ≤ 1099511627776)) (h : Zav w T cs) :
    Calls Tryz.prog 34 #[.agg cs.toArray] w fun e w' => ∃ v' : Value, e = .returned (.tuple #[v', .int .i64 ((wrN T : Nat) : Int)]) ∧ (wrN T = 0 → w'.ownsRow w.heap.size 5 1 v' (Zak T).length (u8s (Zak T))) ∧ (¬ wrN T = 0 → v' = .slice none 0 0) ∧ Below w.heap.size w w' := by
  obtain⟨c, t, m, b, ks⟩ := T;have h0 := h;rw[Zav] at h;obtain ⟨bv, ao, cap, hcs, hbv, hk1, hk2, hk3⟩ := h;obtain ⟨bao, bcap, rfl, hb1, hb2, hb3⟩ := hbv;subst hcs;clear hk1 hk2 hk3 hb1 hb2 hb3;have B0 := Blk.new w [.int .i64 c, .int .i64 t, .bool m, .slice bao b.length bcap, .slice ao ks.length cap] 53 w.heap.size rfl;have bel:=bal w (.cells #[.int .i64 c, .int .i64 t, .bool m, .slice bao b.length bcap, .slice ao ks.length cap] 53);have H0 : Hid (Zav (w.alloc (.cells #[.int .i64 c, .int .i64 t, .bool m, .slice bao b.length bcap, .slice ao ks.length cap] 53)) (.mk c t m b ks) [.int .i64 c, .int .i64 t, .bool m, .slice bao b.length bcap, .slice ao ks.length cap]) := h0.later bel;clear h0;obtain ⟨T, hT⟩ : ∃ T, T = Tl.mk c t m b ks := ⟨_, rfl⟩;rw[← hT] at H0 hz hl ⊢;clear hT;go_enter Tryz.func34, Tryz.ntmps34;go_upto_region 1 with fail;generalize w.alloc (Obj.cells #[.int .i64 c, .int .i64 t, .bool m, .slice bao b.length bcap, .slice ao ks.length cap] 53) = W at *;have hld := B0.load (P := Tryz.prog) Tryz.underlying53 rfl Zae rfl;have lt0 := B0.lt;go_wp2_with (first | (refine Zab (by rfl) (by rfl) (by rfl) hld ?_) | fail);refine (Zo5 (szT T) T _ _ (Nat.le_refl _) H0.out).mono ?_;rintro e w2 ⟨rfl, hb9⟩;replace B0 := B0.later hb9;replace H0 : Hid _ := H0.out.later hb9;replace bel := Zar bel hb9;clear hb9 hld lt0
  by_cases hf : ZaK T = true
  rotate_left
  · replace hf : ZaK T = false := by cases hq : ZaK T with
      | true => exact absurd hq hf
      | false => rfl
    have HW : Hid (wrN T = 1) := by show _ = _; unfold wrN; rw[hf]; rfl
    rw[hf];go_wp2_with fail;refine bodyPost_ret (results_tmp2 rfl _ _ _) rfl ?_;exact ⟨_, by rw[HW.out]; rfl, fun h => absurd (HW.out.symm.trans h) (by decide), fun _ => rfl, bel⟩
  have HF : Hid (ZaK T = true) := hf;rw[hf];clear hf;have hld := B0.load (P := Tryz.prog) Tryz.underlying53 rfl Zae rfl;have lt0 := B0.lt;go_wp2_with (first | (refine Zab (by rfl) (by rfl) (by rfl) hld ?_) | fail);refine (ZmK (szT T) T _ _ (Nat.le_refl _) hz H0.out).mono ?_;rintro e w3 ⟨rfl, hb9⟩;replace B0 := B0.later hb9;replace H0 : Hid _ := H0.out.later hb9;replace bel := Zar bel hb9;clear hb9 hld lt0;have hds := ZlX T;obtain ⟨d, hd⟩ : ∃ d, Zct T = d := ⟨_, rfl⟩;rw[hd] at hds ⊢;have HD : Hid (Zct T = d) := hd;clear hd
  by_cases hd1 : 16<d
  · have g1 : (16 : Int)<(d : Int) := by omega
    have HW : Hid (wrN T = 9) := by show _ = _; unfold wrN; rw[if_pos HF.out, HD.out, if_pos hd1]
    go_wp2_with fail;refine bodyPost_ret (results_tmp2 rfl _ _ _) rfl ?_;exact ⟨_, by rw[HW.out]; rfl, fun h => absurd (HW.out.symm.trans h) (by decide), fun _ => rfl, bel⟩
  have g1 : ¬ (16 : Int)<(d : Int) := by omega
  have hld := B0.load (P := Tryz.prog) Tryz.underlying53 rfl Zae rfl;have lt0 := B0.lt;go_wp2_with (first | (refine Zab (by rfl) (by rfl) (by rfl) hld ?_) | fail);refine (ZmL (szT T) T _ _ (Nat.le_refl _) HF.out (hl.out HF.out) H0.out).mono ?_;rintro e w4 ⟨v4, rfl, own, hb9⟩;have own4 := Za9 own (Nat.le_trans (Nat.le_of_lt lt0) (Nat.le_refl _) |> fun h => bel.size);replace B0 := B0.later hb9;replace H0 : Hid _ := H0.out.later hb9;replace bel := Zar bel hb9;clear hb9 hld lt0;obtain ⟨N, hN⟩ : ∃ N, (Zak T).length = N := ⟨_, rfl⟩;have hN40 := hl.out HF.out;rw[hN] at own own4 hN40;clear own;obtain ⟨hao, hcap, hhv, hc1, hc2⟩ := Zbc own4;subst hhv
  by_cases hn1 : 1048576<N
  · have g2 : (1048576 : Int)<(N : Int) := by omega
    have HW : Hid (wrN T = 2) := by show _ = _; unfold wrN; rw[if_pos HF.out, HD.out, if_neg hd1, hN, if_pos hn1]
    clear hN own4;go_wp2_with fail;refine bodyPost_ret (results_tmp2 rfl _ _ _) rfl ?_;exact ⟨_, by rw[HW.out]; rfl, fun h => absurd (HW.out.symm.trans h) (by decide), fun _ => rfl, bel⟩
  have g2 : ¬ (1048576 : Int)<(N : Int) := by omega
  have HW : Hid (wrN T = 0) := by show _ = _; unfold wrN; rw[if_pos HF.out, HD.out, if_neg hd1, hN, if_neg hn1]
  have HN : Hid ((Zak T).length = N) := hN;clear hN;go_wp2_with fail;refine bodyPost_ret (results_tmp2 rfl _ _ _) rfl ?_;exact ⟨_, by rw[HW.out]; rfl, fun _ => by rw[HN.out]; exact own4, fun h => absurd HW.out h, bel⟩
def okO {α:Type}:Except Nat α→Option α
 | .ok a=>some a
 | .error _=>none
def ZoO:Tl→Option (List Int)
 | .mk c t m b _=>if c=0∧t=2∧m=false then okO (Zbi b) else none
def Ze0 (T:Tl):Option (List Int):=match ZoO T with
 | some n=>if 0<n.length∧n.length≤20 then some n else none
 | none=>none
def ZdW:Tl→Option Int
 | .mk c t m b _=>if c=0∧m=false then okO (Zbz t b) else none
def ZdZ:Tl→Option (List Int)
 | .mk c t m b _=>if c=0∧t=3∧m=false then (match Zbd b with|.ok (x,n)=>if n=0 then some x else none|.error _=>none) else none
def Zek:Tl→Bool
 | .mk c t m _ _=>decide (c=0∧t=16∧m=true)
def ZgU:Tl→List Tl
 | .mk _ _ _ _ ks=>ks
theorem Zpa {ka:Option Addr} {n kc:Nat} {w:World}:Calls Tryz.prog 33 #[.slice ka n kc] w fun e w'=>e=.returned (.agg #[.int .i64 0,.int .i64 16,.bool true,.slice none 0 0,.slice ka n kc])∧Below w.heap.size w w':=by
 have R0:=Blk.new w [.int .i64 0,.int .i64 0,.bool false,.slice none 0 0,.slice none 0 0] 53 w.heap.size rfl;have bel:=bal w (.cells #[.int .i64 0,.int .i64 0,.bool false,.slice none 0 0,.slice none 0 0] 53);have hz:=Zaj.out;go_enter Tryz.func33,Tryz.ntmps33;go_upto_region 1 with fail;have lW:=bel.size;generalize w.alloc (.cells #[.int .i64 0,.int .i64 0,.bool false,.slice none 0 0,.slice none 0 0] 53)=W at *;obtain ⟨tR,hR⟩:=R0;have HR1:Hid _:=hR;clear hR;go_wp2_with (first|((with_reducible show wpList _ _ _ (⟨_,.store _ _ _,_,_,_,_⟩::_) _ _);refine wpList_store_row rfl 53 _ _ rfl w.heap.size #[.int .i64 0,.int .i64 16,.bool true,.slice none 0 0,.slice ka n kc] rfl rfl tR _ HR1.out (by rw[Zae];rfl) rfl (by simp[Value.oneCell']) ?_)|fail);refine bodyPost_ret (results_cell_row rfl _ _ w.heap.size tR #[.int .i64 0,.int .i64 16,.bool true,.slice none 0 0,.slice ka n kc] (0,0) _ rfl (setRow_heap _ _ _ _ _ _ HR1.out) Tryz.underlying53 rfl (by rw[Zae];rfl)) rfl ?_;exact ⟨rfl,below_setRow bel (by omega) _⟩
theorem ZdM {c t:Int} {m:Bool} {b:List Int} {ks:List Tl} {cs:List Value} {w:World} (h:Zav w (.mk c t m b ks) cs) :
  Calls Tryz.prog 43 #[.agg cs.toArray] w fun e w'=>e=.returned (.bool (Zek (.mk c t m b ks)))∧Below w.heap.size w w':=by
 rw[Zav] at h;obtain ⟨bv,ka,kc,rfl,hbv,-,-,-⟩:=h;obtain ⟨ba,bc,rfl,-,-,-⟩:=hbv;have B0:=Blk.new w [.int .i64 c,.int .i64 t,.bool m,.slice ba b.length bc,.slice ka ks.length kc] 53 w.heap.size rfl;have bel:=bal w (.cells #[.int .i64 c,.int .i64 t,.bool m,.slice ba b.length bc,.slice ka ks.length kc] 53);go_enter Tryz.func43,Tryz.ntmps43;go_upto_region 1 with fail;generalize w.alloc (.cells #[.int .i64 c,.int .i64 t,.bool m,.slice ba b.length bc,.slice ka ks.length kc] 53)=W at *;have e0:=B0.cell 0 _ rfl;have e1:=B0.cell 1 _ rfl;have e2:=B0.cell 2 _ rfl;have lt0:=B0.lt
 by_cases c1:c=0
 rotate_left
 ·have H:Hid (Zek (.mk c t m b ks)=false):=decide_eq_false (fun h=>c1 h.1)
  have d1:(c == 0)=false:=by rw[beq_eq_false_iff_ne];exact c1
  clear c1;go_wp2_with fail;go_ret;exact ⟨by rw[H.out];rfl,bel⟩
 subst c1
 by_cases c2:t=16
 rotate_left
 ·have H:Hid (Zek (.mk 0 t m b ks)=false):=decide_eq_false (fun h=>c2 h.2.1)
  have d2:(t == 16)=false:=by rw[beq_eq_false_iff_ne];exact c2
  clear c2;go_wp2_with fail;go_ret;exact ⟨by rw[H.out];rfl,bel⟩
 subst c2
 cases m
 all_goals
  go_wp2_with fail;go_ret;exact ⟨rfl,bel⟩
theorem Zq4 {v:Value} {L:List Int} {w:World} (hv:Us w v L) (b:wrd L) :
  Calls Tryz.prog 63 #[v] w fun e w'=>∃ cs:List Value,e=.returned (.agg cs.toArray)∧Dep (fun g=>w.heap.size≤g) w' (Zmx L) cs∧Below w.heap.size w w':=by
 have HV:Hid (Us w v L):=hv;obtain ⟨ao,cap,rfl,-,-,-⟩:=hv;have R0:=Blk.new w [.int .i64 0,.int .i64 0,.bool false,.slice none 0 0,.slice none 0 0] 53 w.heap.size rfl;have bel:=bal w (.cells #[.int .i64 0,.int .i64 0,.bool false,.slice none 0 0,.slice none 0 0] 53);have hz:=Zaj.out;go_enter Tryz.func63,Tryz.ntmps63;go_upto_region 1 with fail;have lW:=bel.size;generalize w.alloc (.cells #[.int .i64 0,.int .i64 0,.bool false,.slice none 0 0,.slice none 0 0] 53)=W at *;have lR:=R0.lt;go_wp2_with fail;refine (ZkM (HV.out.later bel) b).mono ?_;rintro e w1 ⟨hok,hbad⟩;have HX:∃ (ba:Option Addr) (n bc:Nat) (cc:Int),e=.returned (.tuple #[.slice ba n bc,.int .i64 cc])∧Hid (Dep (fun g=>W.heap.size≤g) w1 (Zmx L) [.int .i64 0,.int .i64 6,.bool false,.slice ba n bc,.slice none 0 0])∧Below W.heap.size W w1:=by
  cases ho:Za6 L with
  | ok X =>
   obtain⟨v',rfl,h1,h2,hb⟩:=hok X ho;have hd:=Zda h1 h2 0 6 false;obtain ⟨ba,bc,rfl,-,-,-⟩:=id h1;exact ⟨ba,_,bc,0,rfl,by show Dep _ _ _ _;unfold Zmx;rw[ho];exact hd,hb⟩
  | error c =>
   obtain⟨rfl,hb⟩:=hbad c ho;exact ⟨none,0,0,_,rfl,by show Dep _ _ _ _;unfold Zmx;rw[ho];exact Zda (b:=[]) ⟨none,0,rfl,Nat.zero_le _,Nat.zero_le _,fun h=>absurd h (Nat.lt_irrefl 0)⟩ (fun a m c e=>by cases e) 0 6 false,hb⟩
 obtain⟨ba,n,bc,cc,rfl,HD,hb⟩:=HX;replace R0:=R0.later hb;replace bel:=Zaa bel hb;clear hok hbad hb;obtain ⟨tR,hR⟩:=R0;have HR1:Hid _:=hR;clear hR;go_wp2_with (first|((with_reducible show wpList _ _ _ (⟨_,.store _ _ _,_,_,_,_⟩::_) _ _);refine wpList_store_row rfl 53 _ _ rfl w.heap.size #[.int .i64 0,.int .i64 6,.bool false,.slice ba n bc,.slice none 0 0] rfl rfl tR _ HR1.out (by rw[Zae];rfl) rfl (by simp[Value.oneCell']) ?_)|fail);refine bodyPost_ret (results_cell_row rfl _ _ w.heap.size tR #[.int .i64 0,.int .i64 6,.bool false,.slice ba n bc,.slice none 0 0] (0,0) _ rfl (setRow_heap _ _ _ _ _ _ HR1.out) Tryz.underlying53 rfl (by rw[Zae];rfl)) rfl ?_;exact ⟨_,rfl,Zc7 HD.out lR lW,below_setRow bel (by omega) _⟩
theorem Zde {w:World}:Calls Tryz.prog 30 #[] w fun e w'=>∃ cs:List Value,e=.returned (.agg cs.toArray)∧Dep (fun g=>w.heap.size≤g) w' ZbR cs∧Below w.heap.size w w':=by
 have R0:=Blk.new w [.int .i64 0,.int .i64 0,.bool false,.slice none 0 0,.slice none 0 0] 53 w.heap.size rfl;have bel:=bal w (.cells #[.int .i64 0,.int .i64 0,.bool false,.slice none 0 0,.slice none 0 0] 53);have hz:=Zaj.out;go_enter Tryz.func30,Tryz.ntmps30;go_upto_region 1 with fail;have lW:=bel.size;generalize w.alloc (.cells #[.int .i64 0,.int .i64 0,.bool false,.slice none 0 0,.slice none 0 0] 53)=W at *;clear hz;have lR:=R0.lt;obtain ⟨N0,hN0⟩:∃ n,n=W.heap.size:=⟨_,rfl⟩;have st:Below W.heap.size W W:=Below.refl _ _;rw[← hN0] at lR lW;obtain ⟨jt,hjt,ht0,ht1,ht2⟩:=ZaO Zcb;have HU1:Hid (Us (W.alloc (.cells #[.int .u64 1,.int .u64 2,.int .u64 840,.int .u64 10045,.int .u64 4,.int .u64 3,.int .u64 3] 27)) (.slice (some ⟨W.heap.size,0,none⟩) 7 7) [1,2,840,10045,4,3,3]):=ZnE (Blk.new W (us [1,2,840,10045,4,3,3]) 27 W.heap.size rfl) rfl (by decide);replace R0:=R0.alloc (.cells #[.int .u64 1,.int .u64 2,.int .u64 840,.int .u64 10045,.int .u64 4,.int .u64 3,.int .u64 3] 27);replace st:=Zah (o:=.cells #[.int .u64 1,.int .u64 2,.int .u64 840,.int .u64 10045,.int .u64 4,.int .u64 3,.int .u64 3] 27) st;replace bel:=Zah (o:=.cells #[.int .u64 1,.int .u64 2,.int .u64 840,.int .u64 10045,.int .u64 4,.int .u64 3,.int .u64 3] 27) bel;go_wp2_with fail;refine (Zq4 HU1.out (ZnM (by decide))).mono ?_;rintro e w1 ⟨cs,rfl,hd1,hb⟩;have HD1:Hid (Dep (fun g=>N0≤g) w1 (Zmx [1,2,840,10045,4,3,3]) cs):=hd1.next (Agr.refl _ _) (fun _ h _=>by rw[hN0];exact Nat.le_trans st.size h);have HL1:Hid (cs.length=5):=hd1.now.five;replace R0:=R0.later hb;replace st:=Zaa st hb;replace bel:=Zaa bel hb;clear hd1;have HF:Hid _:=ZeX HL1.out;have HT:Hid (Dep (fun g=>N0≤g) (w1.alloc (.cells cs.toArray 53)) ZbR [.int .i64 0,.int .i64 16,.bool true,.slice none 0 0,.slice (some ⟨w1.heap.size,0,none⟩) 1 1]):=Zfi (ks:=[Zmx [1,2,840,10045,4,3,3]]) HL1.out (by rw[hN0];exact st.size) (by decide) (ZiB (P:=Dep (fun g=>N0≤g) w1) HD1.out HL1.out) 0 16 true;replace R0:=R0.alloc (.cells cs.toArray 53);replace bel:=Zah (o:=.cells cs.toArray 53) bel;have hz:=Zaj.out;obtain ⟨tR,hR⟩:=R0;have HR1:Hid _:=hR;clear hR;go_wp2_with (first|((with_reducible show wpList _ _ _ (⟨_,.buildSlice _ _ _,_,_,_,_⟩::_) _ _);refine Go.wpList_buildSlice rfl 51 53 1 _ rfl cs.toArray jt _ Tryz.underlying51 hjt ht0 (by rw[ht1];decide) (by rw[ht1];decide) (by rw[ht1];refine (congrArg _ (?_:_=[(0,Value.agg cs.toArray)])).trans HF.out;kernel_rfl) ?_)|((with_reducible show wpList _ _ _ (⟨_,.store _ _ _,_,_,_,_⟩::_) _ _);refine wpList_store_row rfl 53 _ _ rfl w.heap.size #[.int .i64 0,.int .i64 16,.bool true,.slice none 0 0,.slice (some ⟨w1.heap.size,0,none⟩) 1 1] rfl rfl tR _ HR1.out (by rw[Zae];rfl) rfl (by simp[Value.oneCell']) ?_)|fail);refine bodyPost_ret (results_cell_row rfl _ _ w.heap.size tR #[.int .i64 0,.int .i64 16,.bool true,.slice none 0 0,.slice (some ⟨w1.heap.size,0,none⟩) 1 1] (0,0) _ rfl (setRow_heap _ _ _ _ _ _ HR1.out) Tryz.underlying53 rfl (by rw[Zae];rfl)) rfl ?_;exact ⟨_,rfl,Zc7 HT.out lR lW,below_setRow bel (by omega) _⟩
theorem Zn8 {L y:Int} {i p:Nat} (h:L=2 ^ i*y) (hy:y%2=1) (hip:i<p) (hp:p≤7):¬ L%2 ^ p=0:=by
 have hi:i=0∨i=1∨i=2∨i=3∨i=4∨i=5∨i=6:=by omega
 have hq:p=1∨p=2∨p=3∨p=4∨p=5∨p=6∨p=7:=by omega
 rcases hi with rfl|rfl|rfl|rfl|rfl|rfl|rfl<;>rcases hq with rfl|rfl|rfl|rfl|rfl|rfl|rfl<;>omega
theorem Zlo {L y:Int} {i:Nat} (h:L=2 ^ i*y) (hy:¬ y%2=1):L=2 ^ (i+1)*(y/2):=by
 rw[h,Int.pow_succ,Int.mul_assoc]
 congr 1
 omega
theorem Zja {L y:Int} {i:Nat} (h:L=2 ^ i*y):L%2 ^ i=0:=by
 rw[h,Int.mul_emod_right]
theorem Zo7 {v:Value} {B:List Int} {w:World} (hv:Bs w v B) (b:byt B) :
  Calls Tryz.prog 61 #[v] w fun e w'=>(∀ n,ZbJ B=.ok n→e=.returned (.tuple #[.string (strOfNums n),.int .i64 0])∧w'=w)∧(∀ c,ZbJ B=.error c→e=.returned (.tuple #[.string (strOfNums []),.int .i64 (c:Int)])∧w'=w):=by
 have cv:=Zbq hv;have HB:Hid (byt B):=b;obtain ⟨ao,cap,rfl,h1,h2,h3⟩:=hv;obtain ⟨N,hN⟩:∃ N,B.length=N:=⟨_,rfl⟩;have HN:Hid (B.length=N):=hN;rw[hN] at h2 h3 cv ⊢;have HC:Hid (∀ j,j<N→∃ g o,ao=some ⟨g,o,none⟩∧w.cell? ⟨g,o+j,none⟩=some (.int .u8 (B.getD j 0))∧g<w.heap.size):=fun j hj=>by
  obtain⟨g,o,e1,e2,e3⟩:=h3 (by omega);exact ⟨g,o,e1,e3 j hj,e2⟩
 unfold maxLen at h1;clear b h3 hN
 by_cases c0:64<N
 ·have H:Hid (ZbJ B=.error 2):=by show _=_;unfold ZbJ;rw[if_pos (by rw[HN.out];exact c0)]
  have g0:(64:Int)<(N:Int):=by omega
  go_enter Tryz.func61,Tryz.ntmps61;go_wp2_with fail;refine bodyPost_ret (results_tmp2 rfl _ _ _) rfl ?_;exact ⟨fun n h=>(by rw[H.out] at h;cases h),fun c h=>(by rw[H.out] at h;cases h;exact ⟨rfl,rfl⟩)⟩
 have g0:¬ (64:Int)<(N:Int):=by omega
 by_cases c1:N=0
 ·have H:Hid (ZbJ B=.error 7):=by show _=_;unfold ZbJ;rw[if_neg (by rw[HN.out];exact c0),if_pos (by rw[HN.out];exact c1)]
  have g1:(N:Int)=0:=by omega
  go_enter Tryz.func61,Tryz.ntmps61;go_wp2_with fail;refine bodyPost_ret (results_tmp2 rfl _ _ _) rfl ?_;exact ⟨fun n h=>(by rw[H.out] at h;cases h),fun c h=>(by rw[H.out] at h;cases h;exact ⟨rfl,rfl⟩)⟩
 have g1:¬ (N:Int)=0:=by omega
 have H0:Hid (ZbJ B=if ∃ j,j<N∧(B.getD j 0<32∨126<B.getD j 0) then .error 7 else .ok B):=by show _=_;unfold ZbJ;rw[HN.out,if_neg c0,if_neg c1]
 go_enter Tryz.func61,Tryz.ntmps61;go_wp2_with fail;go_loop [4] (fun iv=>∃ (i:Nat),i≤N∧iv=.int .i64 (i:Int)∧Hid (∀ j,j<i→¬ (B.getD j 0<32∨126<B.getD j 0))) (fun iv=>N-(intOf iv).toNat)
 case atStart=>exact ⟨0,by omega,rfl,fun j h=>absurd h (by omega)⟩
 case round =>
  obtain⟨i,hi,rfl,HE⟩:=hrel
  by_cases hil:i<N
  ·have k1:(i:Int)<(N:Int):=by omega
   have k2:(0:Int)≤(i:Int):=by omega
   have gi:IntKind.i64.wrap ((i:Int)+1)=(i:Int)+1:=by rw[IntKind.wrap_i64];omega
   obtain⟨g,o,rfl,cy,lg⟩:=HC.out i hil;have yb:=HB.out i;obtain ⟨y,hy⟩:∃ y,B.getD i 0=y:=⟨_,rfl⟩;have HY:Hid (B.getD i 0=y):=hy;rw[hy] at cy yb;clear hy
   by_cases d1:y<32
   ·have H:Hid (ZbJ B=.error 7):=by show _=_;rw[H0.out,if_pos ⟨i,hil,.inl (by rw[HY.out];exact d1)⟩]
    go_wp2_with fail;refine bodyPost_ret (results_tmp2 rfl _ _ _) rfl ?_;exact ⟨fun n h=>(by rw[H.out] at h;cases h),fun c h=>(by rw[H.out] at h;cases h;exact ⟨rfl,rfl⟩)⟩
   by_cases d2:126<y
   ·have H:Hid (ZbJ B=.error 7):=by show _=_;rw[H0.out,if_pos ⟨i,hil,.inr (by rw[HY.out];exact d2)⟩]
    go_wp2_with fail;refine bodyPost_ret (results_tmp2 rfl _ _ _) rfl ?_;exact ⟨fun n h=>(by rw[H.out] at h;cases h),fun c h=>(by rw[H.out] at h;cases h;exact ⟨rfl,rfl⟩)⟩
   have HE2:Hid (∀ j,j<i+1→¬ (B.getD j 0<32∨126<B.getD j 0)):=fun j hj=>by
    by_cases hji:j<i
    ·exact HE.out j hji
    ·obtain rfl:j=i:=by omega
     rw[HY.out];omega
   go_wp2_with fail;go_round
   case rel=>exact ⟨i+1,by omega,by go_num,HE2⟩
   case measure=>simp[intOf];omega
  ·have k1:¬ (i:Int)<(N:Int):=by omega
   have H:Hid (ZbJ B=.ok B):=by
    show _=_;rw[H0.out,if_neg (by rintro ⟨j,hj,h⟩;exact HE.out j (by omega) h)]
   go_wp2_with fail;refine bodyPost_ret (results_tmp2 rfl _ _ _) rfl ?_;exact ⟨fun n h=>(by rw[H.out] at h;cases h;exact ⟨rfl,rfl⟩),fun c h=>(by rw[H.out] at h;cases h)⟩
theorem Zpd {k:Int} {w:World}:Calls Tryz.prog 62 #[.int .i64 k] w fun e w'=>e=.returned (.bool (ZbT k))∧w'=w:=by
 have e3:(k == 3)=decide (k=3):=rfl;have e6:(k == 6)=decide (k=6):=rfl;have e10:(k == 10)=decide (k=10):=rfl;have e11:(k == 11)=decide (k=11):=rfl;have HK:Hid (ZbT k=(decide (k=3) || decide (k=6) || decide (k=10) || decide (k=11))):=rfl;generalize decide (k=3)=b3 at *;generalize decide (k=6)=b6 at *;generalize decide (k=10)=b10 at *;generalize decide (k=11)=b11 at *;go_enter Tryz.func62,Tryz.ntmps62
 cases b3
 ·cases b6
  ·cases b10
   ·go_wp2_with fail
    go_ret;exact ⟨by rw[HK.out];rfl,rfl⟩
   ·go_wp2_with fail
    go_ret;exact ⟨by rw[HK.out];rfl,rfl⟩
  ·go_wp2_with fail
   go_ret;exact ⟨by rw[HK.out];rfl,rfl⟩
 ·go_wp2_with fail
  go_ret;exact ⟨by rw[HK.out];rfl,rfl⟩
theorem Zn1 {n:List Pn} {i:Nat} {p:Pn} (h:n[i]?=some p):(n.drop i).all Zbn=(Zbn p && (n.drop (i+1)).all Zbn):=by
 have e:=List.getElem?_eq_some_iff.1 h;rw[List.drop_eq_getElem_cons e.1,e.2,List.all_cons]
def Znu (B:List Int):Bool:=match ZbJ B with|.ok _=>true|.error _=>false
theorem ZpD {B:List Int} {c:Nat} (h:ZbJ B=.error c):c=2∨c=7:=by
 unfold ZbJ at h
 split at h
 ·cases h;exact .inl rfl
 ·split at h
  ·cases h;exact .inr rfl
  ·split at h
   ·cases h;exact .inr rfl
   ·cases h
theorem ZmO {v:Value} {n:List Pn} {w:World} (hn:Zcq w v n) (wn:WfN n) :
  Calls Tryz.prog 28 #[v] w fun e w'=>e=.returned (.bool (Zc3 n))∧Below w.heap.size w w':=by
 have HN:Hid (Zcq w v n):=hn;obtain ⟨a1,c1,rfl,-,-,-⟩:=hn;obtain ⟨L,hL⟩:∃ L,n.length=L:=⟨_,rfl⟩;have HL:Hid (n.length=L):=hL;rw[hL] at HN ⊢;clear hL;have hl1:Hid (L≤9223372036854775807):=by obtain ⟨_,c,e,h1,h2,_⟩:=HN.out;show _≤_;rw[HL.out] at h1;simp only[maxLen] at h2;omega
 have HM:Hid (Zc3 n=(decide (L≤8) && n.all Zbn)):=by show _=_;unfold Zc3;rw[HL.out]
 go_enter Tryz.func28,Tryz.ntmps28;go_wp2_with fail;go_loopw [3] (fun iv wx=>∃ i:Nat,i≤L∧iv=.int .i64 (i:Int)∧Hid (n.all Zbn=(n.drop i).all Zbn)∧Below w.heap.size w wx) (fun iv _=>L-(intOf iv).toNat)
 case atStart=>exact ⟨0,by omega,rfl,rfl,Below.refl _ _⟩
 case round =>
  obtain⟨i,hi,rfl,HT,bel⟩:=hrel
  by_cases hil:i<L
  ·have g1:(i:Int)<(L:Int):=by omega
   have g2:(0:Int)≤(i:Int):=by omega
   have gi:IntKind.i64.wrap ((i:Int)+1)=(i:Int)+1:=by have:=hl1.out;rw[IntKind.wrap_i64];omega
   obtain⟨p,b1,o1,hp,e1,-,l1,x0,x1⟩:=(HN.out.later bel).at (i:=i) (by rw[HL.out];exact hil);subst e1;have hw:=wn i p hp;have HS:Hid _:=Zn1 hp;obtain ⟨k1,s1⟩:=p;simp only at x0 x1 hw;have HP:Hid (Zbn (k1,s1)=(ZbT k1 && Znu s1)):=rfl;obtain ⟨cap,w2,hcv,hbs,hb⟩:=Zef hw.2.1 hw.2.2 wr;have HBs:Hid (Bs w2 (.slice (some ⟨wr.heap.size,0,none⟩) s1.length cap) s1):=hbs;have y0:w2.cell? ⟨b1,o1+i*2,none⟩=some (.int .i64 k1):=(hb.cell (p:=⟨b1,o1+i*2,none⟩) l1).trans x0;have l2:b1<w2.heap.size:=Nat.lt_of_lt_of_le l1 hb.size;have bel2:=Zaa bel hb;have hby:=hw.2.1;clear hp hbs hb hw;go_wp2_with fail;refine (Zo7 HBs.out hby).mono ?_;rintro e w3 ⟨hok,hbad⟩;have HX:Hid (∃ (tv:ByteArray) (c:Int),e=.returned (.tuple #[.string tv,.int .i64 c])∧w3=w2∧(Znu s1=true∧c=0∨Znu s1=false∧¬ c=0)):=by
    cases ht:ZbJ s1 with
    | ok m =>
     obtain⟨rfl,rfl⟩:=hok m ht;exact ⟨_,0,rfl,rfl,.inl ⟨by unfold Znu;rw[ht],rfl⟩⟩
    | error c =>
     obtain⟨rfl,rfl⟩:=hbad c ht;exact ⟨_,_,rfl,rfl,.inr ⟨by unfold Znu;rw[ht],by rcases ZpD ht with rfl|rfl<;>decide⟩⟩
   obtain⟨tv,c,rfl,hw3,hcase⟩:=HX.out;rw[hw3];clear hok hbad HX hw3 hcv x0 x1;go_wp2_with fail;refine Zpd.mono ?_;rintro e w4 ⟨rfl,hw4⟩;rw[hw4];clear hw4
   cases hk:ZbT k1 with
   | false =>
    have H:Hid (Zc3 n=false):=by show _=_;rw[HM.out,HT.out,HS.out,HP.out,hk];simp
    clear hk;go_wp2_with fail;go_ret;exact ⟨by rw[H.out];rfl,bel2⟩
   | true =>
    rcases hcase with ⟨ht,rfl⟩|⟨ht,hc⟩
    ·have HT2:Hid (n.all Zbn=(n.drop (i+1)).all Zbn):=by show _=_;rw[HT.out,HS.out,HP.out,hk,ht];rfl
     clear hk ht;go_wp2_with fail;go_roundw
     case rel=>exact ⟨i+1,by omega,by go_num,HT2,bel2⟩
     case measure=>simp[intOf];omega
    ·have H:Hid (Zc3 n=false):=by show _=_;rw[HM.out,HT.out,HS.out,HP.out,hk,ht];simp
     have g5:(c == 0)=false:=by rw[beq_eq_false_iff_ne];exact hc
     have g6:(c != 0)=true:=by rw[bne,g5];rfl
     clear hk ht hc;go_wp2_with fail;go_ret;exact ⟨by rw[H.out];rfl,bel2⟩
  ·have g1:¬ (i:Int)<(L:Int):=by omega
   have H:Hid (Zc3 n=decide (L≤8)):=by show _=_;rw[HM.out,HT.out,List.drop_of_length_le (by rw[HL.out];omega)];simp
   by_cases h8:L≤8
   ·have g2:(L:Int)≤8:=by omega
    have H2:Hid (Zc3 n=true):=by show _=_;rw[H.out,decide_eq_true h8]
    clear h8;go_wp2_with fail;go_ret;exact ⟨by rw[H2.out];rfl,bel⟩
   ·have g2:¬ (L:Int)≤8:=by omega
    have H2:Hid (Zc3 n=false):=by show _=_;rw[H.out,decide_eq_false h8]
    clear h8;go_wp2_with fail;go_ret;exact ⟨by rw[H2.out];rfl,bel⟩
theorem ZpH {t:Int} {c:Nat} (h:Za2 t=.error c):¬ c=0:=by
 unfold Za2 at h
 repeat' split at h
 all_goals first|(cases h;decide)|cases h
theorem ZfS {t:Int} {w:World} (ht:-9223372036854775808≤t∧t≤9223372036854775807) :
  Calls Tryz.prog 27 #[.int .i64 t] w fun e w'=>(Zcv t=none→e=.returned (.tuple #[.agg #[.int .i64 0,.int .i64 0,.bool false,.slice none 0 0,.slice none 0 0],.bool false])∧Below w.heap.size w w')∧(∀ T,Zcv t=some T→∃ cs:List Value,e=.returned (.tuple #[.agg cs.toArray,.bool true])∧Dep (fun g=>w.heap.size≤g) w' T cs∧Below w.heap.size w w'):=by
 have R0:=Blk.new w [.int .i64 0,.int .i64 0,.bool false,.slice none 0 0,.slice none 0 0] 53 w.heap.size rfl;have bel:=bal w (.cells #[.int .i64 0,.int .i64 0,.bool false,.slice none 0 0,.slice none 0 0] 53);have hz:=Zaj.out;go_enter Tryz.func27,Tryz.ntmps27;go_upto_region 1 with fail;have lW:=bel.size;generalize w.alloc (.cells #[.int .i64 0,.int .i64 0,.bool false,.slice none 0 0,.slice none 0 0] 53)=W at *;have lR:=R0.lt;clear hz;go_wp2_with fail;refine (ZiI ht).mono ?_;rintro e w1 ⟨hok,hbad⟩
 cases ho:Za2 t with
 | ok aX =>
  obtain⟨ta,X⟩:=aX;obtain ⟨v',rfl,k1,k2,hb⟩:=hok ta X ho;have HD:Hid (Dep (fun g=>W.heap.size≤g) w1 (.mk 0 ta false X []) [.int .i64 0,.int .i64 ta,.bool false,v',.slice none 0 0]):=Zda k1 k2 0 ta false;obtain ⟨ba,bc,rfl,-,-,-⟩:=k1;obtain ⟨m,hm⟩:∃ m,X.length=m:=⟨_,rfl⟩;rw[hm] at HD ⊢;have H:Hid (Zcv t=some (.mk 0 ta false X [])):=by show _=_;unfold Zcv;rw[ho]
  replace R0:=R0.later hb;replace bel:=Zaa bel hb;clear hok hbad hb k2 hm ho;obtain ⟨tR,hR⟩:=R0;have HR1:Hid _:=hR;clear hR;have hz:=Zaj.out;go_wp2_with (first|((with_reducible show wpList _ _ _ (⟨_,.store _ _ _,_,_,_,_⟩::_) _ _);refine wpList_store_row rfl 53 _ _ rfl w.heap.size #[.int .i64 0,.int .i64 ta,.bool false,.slice ba m bc,.slice none 0 0] rfl rfl tR _ HR1.out (by rw[Zae];rfl) rfl (by simp[Value.oneCell']) ?_)|fail);refine bodyPost_ret (Zac rfl _ _ w.heap.size tR #[.int .i64 0,.int .i64 ta,.bool false,.slice ba m bc,.slice none 0 0] (0,0) _ rfl (setRow_heap _ _ _ _ _ _ HR1.out) Tryz.underlying53 rfl (by rw[Zae];rfl)) rfl ?_;exact ⟨fun hT=>(by rw[H.out] at hT;cases hT),fun T hT=>by rw[H.out] at hT;cases hT;exact ⟨_,rfl,Zc7 HD.out lR lW,below_setRow bel (by omega) _⟩⟩
 | error c =>
  obtain⟨rfl,hb⟩:=hbad c ho;have H:Hid (Zcv t=none):=by show _=_;unfold Zcv;rw[ho]
  have hc:¬ c=0:=ZpH ho;have d1:((c:Int) == 0)=false:=by rw[beq_eq_false_iff_ne];omega
  replace R0:=R0.later hb;replace bel:=Zaa bel hb;clear hok hbad hb ho hc;obtain ⟨tR,hR⟩:=R0;have HR1:Hid _:=hR;clear hR;have hz:=Zaj.out;go_wp2_with (first|((with_reducible show wpList _ _ _ (⟨_,.store _ _ _,_,_,_,_⟩::_) _ _);refine wpList_store_row rfl 53 _ _ rfl w.heap.size #[.int .i64 0,.int .i64 0,.bool false,.slice none 0 0,.slice none 0 0] rfl rfl tR _ HR1.out (by rw[Zae];rfl) rfl (by simp[Value.oneCell']) ?_)|fail);refine bodyPost_ret (Zac rfl _ _ w.heap.size tR #[.int .i64 0,.int .i64 0,.bool false,.slice none 0 0,.slice none 0 0] (0,0) _ rfl (setRow_heap _ _ _ _ _ _ HR1.out) Tryz.underlying53 rfl (by rw[Zae];rfl)) rfl ?_;exact ⟨fun _=>⟨rfl,below_setRow bel (by omega) _⟩,fun T hT=>by rw[H.out] at hT;cases hT⟩
theorem ZfT {w:World}:Calls Tryz.prog 29 #[] w fun e w'=>∃ cs:List Value,e=.returned (.agg cs.toArray)∧Dep (fun g=>w.heap.size≤g) w' (Zcp 1) cs∧Below w.heap.size w w':=by
 have R0:=Blk.new w [.int .i64 0,.int .i64 0,.bool false,.slice none 0 0,.slice none 0 0] 53 w.heap.size rfl;have bel:=bal w (.cells #[.int .i64 0,.int .i64 0,.bool false,.slice none 0 0,.slice none 0 0] 53);have hz:=Zaj.out;go_enter Tryz.func29,Tryz.ntmps29;go_upto_region 1 with fail;have lW:=bel.size;generalize w.alloc (.cells #[.int .i64 0,.int .i64 0,.bool false,.slice none 0 0,.slice none 0 0] 53)=W at *;have lR:=R0.lt;have B1:=Blk.new W [.int .u8 1] 5 W.heap.size rfl;replace R0:=R0.alloc (.cells #[.int .u8 1] 5);replace bel:=Zah (o:=.cells #[.int .u8 1] 5) bel;have HB1:Hid (Blk (W.alloc (.cells #[.int .u8 1] 5)) W.heap.size [.int .u8 1]):=B1;have hlt:w.heap.size<W.heap.size:=lR;clear B1;obtain ⟨tR,hR⟩:=R0;have HR1:Hid _:=hR;clear hR;go_wp2_with (first|((with_reducible show wpList _ _ _ (⟨_,.store _ _ _,_,_,_,_⟩::_) _ _);refine wpList_store_row rfl 53 _ _ rfl w.heap.size #[.int .i64 0,.int .i64 2,.bool false,.slice (some ⟨W.heap.size,0,none⟩) 1 1,.slice none 0 0] rfl rfl tR _ HR1.out (by rw[Zae];rfl) rfl (by simp[Value.oneCell']) ?_)|fail);refine bodyPost_ret (results_cell_row rfl _ _ w.heap.size tR #[.int .i64 0,.int .i64 2,.bool false,.slice (some ⟨W.heap.size,0,none⟩) 1 1,.slice none 0 0] (0,0) _ rfl (setRow_heap _ _ _ _ _ _ HR1.out) Tryz.underlying53 rfl (by rw[Zae];rfl)) rfl ?_;exact ⟨_,rfl,Zmg (Blk.bs (P:=[1]) (HB1.out.row (by omega)) rfl (by decide)) (fun a m c e _=>by simp only[Value.slice.injEq,Option.some.injEq] at e;rw[← e.1];exact Nat.le_of_lt hlt) 0 2 false,below_setRow bel (by omega) _⟩
def OptR (w:World) (r:Option Tl) (e:Ending) (w':World):Prop:=∃ (cs:List Value) (b:Bool),e=.returned (.tuple #[.agg cs.toArray,.bool b])∧cs.length=5∧Zca cs∧(b=true→∃ T,r=some T∧Dep (fun g=>w.heap.size≤g) w' T cs)∧(b=false→r=none)∧Below w.heap.size w w'
theorem OptR.of {w w':World} {r:Option Tl} {e:Ending} (h1:r=none→e=.returned (.tuple #[.agg #[.int .i64 0,.int .i64 0,.bool false,.slice none 0 0,.slice none 0 0],.bool false])∧Below w.heap.size w w') (h2:∀ T,r=some T→∃ cs:List Value,e=.returned (.tuple #[.agg cs.toArray,.bool true])∧Dep (fun g=>w.heap.size≤g) w' T cs∧Below w.heap.size w w'):OptR w r e w':=by
 cases r with
 | none =>
  obtain⟨rfl,hb⟩:=h1 rfl;exact ⟨[.int .i64 0,.int .i64 0,.bool false,.slice none 0 0,.slice none 0 0],false,rfl,rfl,(by simp[Zca,Value.oneCell']),fun h=>(by cases h),fun _=>rfl,hb⟩
 | some T =>
  obtain⟨cs,rfl,hd,hb⟩:=h2 T rfl;exact ⟨cs,true,rfl,hd.now.five,hd.now.ones,fun _=>⟨T,rfl,hd⟩,fun h=>(by cases h),hb⟩
theorem Zjp {t t2:Int} {w:World} (e:t=t2) (ht:-9223372036854775808≤t∧t<9223372036854775808):Calls Tryz.prog 27 #[.int .i64 t2] w (OptR w (Zcv t)):=by
 subst e;exact (ZfS (by omega)).mono (fun _ _ h=>OptR.of h.1 h.2)
theorem Ziw {v:Value} {n:List Pn} {w:World} (hn:Zcq w v n) (wn:WfN n) (hmay:Zc3 n=true):Calls Tryz.prog 31 #[v] w fun e w'=>∃ cs:List Value,e=.returned (.agg cs.toArray)∧Dep (fun g=>w.heap.size≤g) w' (ZbC n) cs∧Below w.heap.size w w':=by
 refine(ZfR hn wn hmay).mono ?_;rintro e w' ⟨kv,xs,rfl,h1,h2,hb⟩;exact ⟨_,rfl,Ze2.tl h1 h2,hb⟩
def ZdS (w:World) (c:Cr) (e:Ending) (w':World):Prop:=Below w.heap.size w w'∧(¬ ZcB c→e=.returned (.tuple #[.slice none 0 0,.int .i64 1]))∧(ZcB c→∃ v:Value,e=.returned (.tuple #[v,.int .i64 0])∧Bs w' v (Zak (Zbe c)))
theorem ZdS.no {w w':World} {c:Cr} (h:¬ ZcB c) (hb:Below w.heap.size w w'):ZdS w c (.returned (.tuple #[.slice none 0 0,.int .i64 1])) w':=⟨hb,fun _=>rfl,fun k=>absurd k h⟩
theorem ZdS.yes {w w':World} {c:Cr} {v:Value} (h:ZcB c) (hv:Bs w' v (Zak (Zbe c))) (hb:Below w.heap.size w w'):ZdS w c (.returned (.tuple #[v,.int .i64 0])) w':=⟨hb,fun k=>absurd h k,fun _=>⟨v,rfl,hv⟩⟩
theorem Zot {c0 c1 c2 c3 c4:List Value} (h0:c0.length=5) (h1:c1.length=5) (h2:c2.length=5) (h3:c3.length=5) (h4:c4.length=5):Instr.fill (fun i=>some (i*5,5)) ((Array.range (5*5)).map ((Value.agg #[.int .i64 0,.int .i64 0,.bool false,.slice none 0 0,.slice none 0 0]).cells[· % (Value.agg #[.int .i64 0,.int .i64 0,.bool false,.slice none 0 0,.slice none 0 0]).cells.size]!)) [(0,.agg c0.toArray),(1,.agg c1.toArray),(2,.agg c2.toArray),(3,.agg c3.toArray),(4,.agg c4.toArray)]=some (c0++(c1++(c2++(c3++(c4++[]))))).toArray:=by
 obtain⟨_,_,_,_,_,rfl⟩:=five h0;obtain ⟨_,_,_,_,_,rfl⟩:=five h1;obtain ⟨_,_,_,_,_,rfl⟩:=five h2;obtain ⟨_,_,_,_,_,rfl⟩:=five h3;obtain ⟨_,_,_,_,_,rfl⟩:=five h4;kernel_rfl
noncomputable def gonD (g:Gn):Tl:=orT (Ze5 g)
theorem ZmQ {c:Cr} {cs:List Value} {w:World} (h:ZcH w c cs) (wf:WfCr c) (h00:c.gone.length=0):Calls Tryz.prog 13 #[.agg cs.toArray] w (ZdS w c):=by
 have H00:Hid (c.gone.length=0):=h00;clear h00;obtain ⟨wI,wF,wT,wG,-⟩:=wf;have HWI:Hid (WfN c.issuer):=wI;have HWG:Hid (WfG c.gone):=wG;obtain ⟨iv,gv,bv,rs,zs,hl,q0,q1,q2,q3,q4,qk,hI,hG,-,-,-⟩:=h.open;have HI:Hid (Zcq w iv c.issuer):=hI;obtain ⟨ia,ic,hie,-,-,-⟩:=hI;obtain ⟨ga,gc,hge,-,hgm,hgg⟩:=hG;have HVc:Hid (0<c.gone.length→∃ b o,ga=some ⟨b,o,none⟩∧b<w.heap.size∧∀ i g,c.gone[i]?=some g→∃ u,w.cell? ⟨b,o+i*2,none⟩=some u∧Bs w u g.1∧w.cell? ⟨b,o+i*2+1,none⟩=some (.int .i64 g.2)):=hgg;obtain ⟨IL,hIL⟩:∃ z,c.issuer.length=z:=⟨_,rfl⟩;obtain ⟨GL,hGL⟩:∃ z,c.gone.length=z:=⟨_,rfl⟩;have HGL:Hid (c.gone.length=GL):=hGL;rw[hIL] at hie;rw[hGL] at hge HVc;subst hie hge;obtain ⟨fr,hfr⟩:∃ z,c.frm=z:=⟨_,rfl⟩;obtain ⟨ti,hti⟩:∃ z,c.til=z:=⟨_,rfl⟩;have Hfr:Hid (c.frm=fr):=hfr;have Hti:Hid (c.til=ti):=hti;rw[hfr] at q1;rw[hti] at q2;have HQ0:Hid _:=q0;have HQ1:Hid _:=q1;have HQ2:Hid _:=q2;have HQ3:Hid _:=q3;clear hIL hGL hfr hti q0 q1 q2 q3 q4 qk hgm hgg wI wG hl h;have B0:=Blk.new w cs 33 w.heap.size rfl;have bel:=bal w (.cells cs.toArray 33);go_enter Tryz.func13,Tryz.ntmps13;go_upto_region 1 with fail;generalize w.alloc (.cells cs.toArray 33)=W at *;have lW:=bel.size;have lB:=B0.lt;obtain ⟨N0,hN0⟩:∃ n,n=W.heap.size:=⟨_,rfl⟩;rw[← hN0] at lW lB;have hs:N0≤W.heap.size:=by omega
 obtain⟨jt,hjt,ht0,ht1,ht2⟩:=ZaO Zcb

 have eq:=B0.cell 1 _ HQ1.out;have l0:=B0.lt;go_wp2_with fail;refine (Zjp Hfr.out wF).mono ?_;rintro e w1a ⟨es1,b1,rfl,hl5,ho5,hyes,hno,hb⟩;clear eq l0;replace B0:=B0.later hb;have HL1:Hid (es1.length=5):=hl5;have HO1:Hid (Zca es1):=ho5;have HT1:Hid (b1=true→∃ T,Zcv c.frm=some T∧Dep (fun g=>N0≤g) w1a T es1):=fun h9=>by obtain ⟨T,h1,h2⟩:=hyes h9;exact ⟨T,h1,h2.next (Agr.refl _ _) (fun _ h _=>Nat.le_trans hs h)⟩
 have HN1:Hid (b1=false→Zcv c.frm=none):=hno;replace bel:=Zaa bel hb;replace hs:=hsl hs hb;clear hl5 ho5 hyes hno hb;have HS5:Hid (es1.toArray.size=5):=by show _=_;rw[List.size_toArray];exact HL1.out
 have hz:=Zaj.out;have hbx:=bal w1a (.cells es1.toArray 53);replace B0:=B0.later hbx;replace HT1:Hid (b1=true→∃ T,Zcv c.frm=some T∧Dep (fun g=>N0≤g) (w1a.alloc (.cells es1.toArray 53)) T es1):=fun h9=>by obtain ⟨T,h1,h2⟩:=HT1.out h9;exact ⟨T,h1,h2.next (Agr.below hbx) (fun _ h _=>h)⟩
 replace hs:=hsl hs hbx;replace bel:=Zaa bel hbx;have Q1:=Blk.new w1a es1 53 w1a.heap.size rfl;go_upto_region 2 with (first|((with_reducible show wpList _ _ _ (⟨_,.store _ _ _,_,_,_,_⟩::_) _ _);refine wpList_store_row rfl 53 _ _ rfl w1a.heap.size es1.toArray rfl rfl 53 _ (heap_alloc_last _ _) (by rw[Zae,HS5.out]) (by rw[HS5.out];rfl) HO1.out ?_;rw[World.setRow_alloc_new])|fail);clear hz HS5 hbx;obtain ⟨g1,hg1⟩:∃ g,g=w1a.heap.size:=⟨_,rfl⟩;rw[← hg1] at Q1 ⊢;generalize (w1a.alloc (.cells es1.toArray 53))=V1 at *;clear hg1

 have eq:=B0.cell 2 _ HQ2.out;have l0:=B0.lt;go_wp2_with fail;refine (Zjp Hti.out wT).mono ?_;rintro e w2a ⟨es2,b2,rfl,hl5,ho5,hyes,hno,hb⟩;clear eq l0;replace B0:=B0.later hb;replace Q1:=Q1.later hb;replace HT1:Hid (b1=true→∃ T,Zcv c.frm=some T∧Dep (fun g=>N0≤g) w2a T es1):=fun h9=>by obtain ⟨T,h1,h2⟩:=HT1.out h9;exact ⟨T,h1,h2.next (Agr.below hb) (fun _ h _=>h)⟩
 have HL2:Hid (es2.length=5):=hl5;have HO2:Hid (Zca es2):=ho5;have HT2:Hid (b2=true→∃ T,Zcv c.til=some T∧Dep (fun g=>N0≤g) w2a T es2):=fun h9=>by obtain ⟨T,h1,h2⟩:=hyes h9;exact ⟨T,h1,h2.next (Agr.refl _ _) (fun _ h _=>Nat.le_trans hs h)⟩
 have HN2:Hid (b2=false→Zcv c.til=none):=hno;replace bel:=Zaa bel hb;replace hs:=hsl hs hb;clear hl5 ho5 hyes hno hb;have HS5:Hid (es2.toArray.size=5):=by show _=_;rw[List.size_toArray];exact HL2.out
 have hz:=Zaj.out;have hbx:=bal w2a (.cells es2.toArray 53);replace B0:=B0.later hbx;replace Q1:=Q1.later hbx;replace HT1:Hid (b1=true→∃ T,Zcv c.frm=some T∧Dep (fun g=>N0≤g) (w2a.alloc (.cells es2.toArray 53)) T es1):=fun h9=>by obtain ⟨T,h1,h2⟩:=HT1.out h9;exact ⟨T,h1,h2.next (Agr.below hbx) (fun _ h _=>h)⟩
 replace HT2:Hid (b2=true→∃ T,Zcv c.til=some T∧Dep (fun g=>N0≤g) (w2a.alloc (.cells es2.toArray 53)) T es2):=fun h9=>by obtain ⟨T,h1,h2⟩:=HT2.out h9;exact ⟨T,h1,h2.next (Agr.below hbx) (fun _ h _=>h)⟩
 replace hs:=hsl hs hbx;replace bel:=Zaa bel hbx;have Q2:=Blk.new w2a es2 53 w2a.heap.size rfl;go_upto_region 3 with (first|((with_reducible show wpList _ _ _ (⟨_,.store _ _ _,_,_,_,_⟩::_) _ _);refine wpList_store_row rfl 53 _ _ rfl w2a.heap.size es2.toArray rfl rfl 53 _ (heap_alloc_last _ _) (by rw[Zae,HS5.out]) (by rw[HS5.out];rfl) HO2.out ?_;rw[World.setRow_alloc_new])|fail);clear hz HS5 hbx;obtain ⟨g2,hg2⟩:∃ g,g=w2a.heap.size:=⟨_,rfl⟩;rw[← hg2] at Q2 ⊢;generalize (w2a.alloc (.cells es2.toArray 53))=V2 at *;clear hg2

 have e0:=B0.cell 0 _ HQ0.out;have l0:=B0.lt;go_wp2_with fail;refine (ZmO (HI.out.later bel) HWI.out).mono ?_;rintro e w3 ⟨rfl,hb⟩;clear e0 l0;replace B0:=B0.later hb;replace Q1:=Q1.later hb;replace Q2:=Q2.later hb;replace HT1:Hid (b1=true→∃ T,Zcv c.frm=some T∧Dep (fun g=>N0≤g) w3 T es1):=fun h9=>by obtain ⟨T,h1,h2⟩:=HT1.out h9;exact ⟨T,h1,h2.next (Agr.below hb) (fun _ h _=>h)⟩
 replace HT2:Hid (b2=true→∃ T,Zcv c.til=some T∧Dep (fun g=>N0≤g) w3 T es2):=fun h9=>by obtain ⟨T,h1,h2⟩:=HT2.out h9;exact ⟨T,h1,h2.next (Agr.below hb) (fun _ h _=>h)⟩
 replace bel:=Zaa bel hb;replace hs:=hsl hs hb;clear hb;obtain ⟨bm,hbm⟩:∃ z,Zc3 c.issuer=z:=⟨_,rfl⟩;have HM:Hid (Zc3 c.issuer=bm):=hbm;rw[hbm];clear hbm;go_upto_region 4 with fail;have e3:=B0.cell 3 _ HQ3.out;have l0:=B0.lt
 cases b1 with
 | false =>
  have H:Hid (¬ ZcB c):=fun h=>by obtain ⟨T,hT⟩:=h.2.1;rw[HN1.out rfl] at hT;cases hT
  go_wp2_with fail;refine bodyPost_ret (results_tmp2 rfl _ _ _) rfl ?_;exact ZdS.no H.out bel
 | true =>
 cases b2 with
 | false =>
  have H:Hid (¬ ZcB c):=fun h=>by obtain ⟨T,hT⟩:=h.2.2.1;rw[HN2.out rfl] at hT;cases hT
  go_wp2_with fail;refine bodyPost_ret (results_tmp2 rfl _ _ _) rfl ?_;exact ZdS.no H.out bel
 | true =>
 cases bm with
 | false =>
  have H:Hid (¬ ZcB c):=fun h=>by have:=h.1;rw[HM.out] at this;cases this
  go_wp2_with fail;refine bodyPost_ret (results_tmp2 rfl _ _ _) rfl ?_;exact ZdS.no H.out bel
 | true =>
 by_cases k64:64<GL
 ·have g64:(64:Int)<(GL:Int):=by omega
  have H:Hid (¬ ZcB c):=fun h=>by have:=h.2.2.2.1;rw[HGL.out] at this;omega
  clear k64;go_wp2_with fail;refine bodyPost_ret (results_tmp2 rfl _ _ _) rfl ?_;exact ZdS.no H.out bel
 have g64:¬ (64:Int)<(GL:Int):=by omega
 have HK64:Hid (GL≤64):=by show _≤_;omega
 clear k64;obtain ⟨T1,hT1,hd1⟩:=HT1.out rfl;obtain ⟨T2,hT2,hd2⟩:=HT2.out rfl;have HX1:Hid (Zcv c.frm=some T1):=hT1;have HX2:Hid (Zcv c.til=some T2):=hT2;have HD1:Hid (Dep (fun g=>N0≤g) w3 T1 es1):=hd1;have HD2:Hid (Dep (fun g=>N0≤g) w3 T2 es2):=hd2;clear HT1 HT2 HN1 HN2 hT1 hT2 hd1 hd2;go_upto_region 6 with fail;clear g64 e3 l0;have HBB:Hid (Blk w3 w.heap.size cs):=B0;have HBel:Hid (Below w.heap.size w w3):=bel;obtain ⟨S1,hS1,KB1,KI1,KD1,KL1,KA1⟩:∃ S:World→Prop,Hd S w3∧Hid (∀ wx,Hd S wx→Below w3.heap.size w3 wx)∧Hid (∀ wx,Below w3.heap.size w3 wx→Hd S wx)∧Hid (∀ wx,Hd S wx→Hd S wx.drew)∧Hid (∀ w1 w2,Hd S w1→Below w1.heap.size w1 w2→Hd S w2)∧Hid (∀ w1 o,Hd S w1→Hd S (w1.alloc o)):=⟨fun wx=>Below w3.heap.size w3 wx,Below.refl _ _,fun _ h=>h,fun _ h=>h,fun wx h=>Below.drew h,fun w1 w2 h hb=>Zaa h hb,fun w1 o h=>Below.alloc h h.size o⟩;have R1:Hid (∀ wx,Hd S1 wx→(loadVar 53 ⟨g1,0,none⟩).run Tryz.prog wx=.ok (.agg es1.toArray) wx):=fun wx h=>(Q1.later (KB1.out wx h)).load Tryz.underlying53 rfl Zae HL1.out;have R2:Hid (∀ wx,Hd S1 wx→(loadVar 53 ⟨g2,0,none⟩).run Tryz.prog wx=.ok (.agg es2.toArray) wx):=fun wx h=>(Q2.later (KB1.out wx h)).load Tryz.underlying53 rfl Zae HL2.out;have ra:∀ wx,Hd S1 wx→wx.cell? ⟨w.heap.size,0,none⟩=some (.slice ia IL ic):=fun wx h=>(HBB.out.later (KB1.out wx h)).cell 0 _ HQ0.out;have rl:∀ wx,Hd S1 wx→w.heap.size<wx.heap.size:=fun wx h=>(HBB.out.later (KB1.out wx h)).lt;have hszj:N0≤w3.heap.size:=hs;clear B0 bel hs Q1 Q2;refine wp_region_noPanic ?_;refine wp_region_held_drew (S:=Hd S1) (by kernel_rfl) (KD1.out _ hS1) (fun hHeld=>?_);clear hS1;generalize World.drew _=wd1 at *;refine tkA 2 ?_;refine tkA 3 ?_;refine trA 5 (.agg es1.toArray) R1.out ?_;refine trA 6 (.agg es2.toArray) R2.out ?_;refine wpAnyH_ready (rs:=[0]) (by kernel_rfl) (by simp) ?_;refine AllReadyH.cons rfl (fun K hK=>?_) ?_
 ·have HB0:Hid (Below w3.heap.size w3 wd1):=KB1.out _ hHeld
  go_simp;refine ZfT.mono ?_;rintro e z0 ⟨dv,rfl,hd,hb⟩;refine hK.out _ _ ?_ (fun hHeld2=>?_)
  ·exact KL1.out _ _ hHeld hb
  ·clear hK K
   try clear hHeld
   have hHeld:=hHeld2;clear hHeld2;have hDv:Dep (fun g=>N0≤g) z0 (Zcp 1) dv:=hd.next (Agr.refl _ _) (fun b h _=>by have:=HB0.out.size;omega);clear hb hd HB0;refine wpAnyH_ready (rs:=[1]) (by kernel_rfl) (by simp) ?_;refine AllReadyH.cons rfl (fun K hK=>?_) ?_
   ·have HB0:Hid (Below w3.heap.size w3 z0):=KB1.out _ hHeld
    go_simp;refine Zde.mono ?_;rintro e z1 ⟨da,rfl,hd,hb⟩;refine hK.out _ _ ?_ (fun hHeld2=>?_)
    ·exact KL1.out _ _ hHeld hb
    ·clear hK K
     try clear hHeld
     have hHeld:=hHeld2;clear hHeld2;have hDa:Dep (fun g=>N0≤g) z1 (ZbR) da:=hd.next (Agr.refl _ _) (fun b h _=>by have:=HB0.out.size;omega);replace hDv:=dpm hDv hb;clear hb hd HB0;refine wpAnyH_ready (rs:=[4]) (by kernel_rfl) (by simp) ?_;refine AllReadyH.cons rfl (fun K hK=>?_) ?_
     ·have HB0:Hid (Below w3.heap.size w3 z1):=KB1.out _ hHeld
      go_simp;refine (Ziw (HI.out.later (Zaa HBel.out HB0.out)) HWI.out HM.out).mono ?_;rintro e z4 ⟨de,rfl,hd,hb⟩;refine hK.out _ _ ?_ (fun hHeld2=>?_)
      ·exact KL1.out _ _ hHeld hb
      ·clear hK K
       try clear hHeld
       have hHeld:=hHeld2;clear hHeld2;have hDe:Dep (fun g=>N0≤g) z4 (ZbC c.issuer) de:=hd.next (Agr.refl _ _) (fun b h _=>by have:=HB0.out.size;omega);replace hDv:=dpm hDv hb;replace hDa:=dpm hDa hb;clear hb hd HB0;refine wpAnyH_ready (rs:=[7]) (by kernel_rfl) (by simp) ?_;refine AllReadyH.cons rfl (fun K hK=>?_) ?_
       ·have HB0:Hid (Below w3.heap.size w3 z4):=KB1.out _ hHeld
        have hdv5:dv.length=5:=hDv.now.five;have hda5:da.length=5:=hDa.now.five;have hde5:de.length=5:=hDe.now.five;rw[if_pos (by rfl)];refine wp_buildSlice 51 53 5 _ rfl (dv++(da++(de++(es1++(es2++[]))))).toArray jt _ Tryz.underlying51 hjt ht0 (by rw[ht1];decide) (by rw[ht1];decide) (by rw[ht1];refine (congrArg _ (?_:_=[(0,Value.agg dv.toArray),(1,.agg da.toArray),(2,.agg de.toArray),(3,.agg es1.toArray),(4,.agg es2.toArray)])).trans (Zot hdv5 hda5 hde5 HL1.out HL2.out);kernel_rfl) ?_;refine hK.out _ _ ?_ (fun hHeld2=>?_)
        ·exact KA1.out _ _ hHeld
        ·clear hK K
         try clear hHeld
         have hHeld:=hHeld2;clear hHeld2;have hD9:RwS (fun g=>N0≤g) (z4.alloc (.cells (dv++(da++(de++(es1++(es2++[]))))).toArray 53)) (Value.slice (some ⟨z4.heap.size,0,none⟩) 5 5) [Zcp 1,ZbR,ZbC c.issuer,T1,T2]:=RwS.lits (ks:=[Zcp 1,ZbR,ZbC c.issuer,T1,T2]) (by simp[hdv5,hda5,hde5,HL1.out,HL2.out]) (by show 5≤maxLen;decide) (Ze6 hDv hdv5 (Ze6 hDa hda5 (Ze6 hDe hde5 (Ze6 (HD1.out.next (Agr.below HB0.out) (fun _ h _=>h)) HL1.out (Ze6 (HD2.out.next (Agr.below HB0.out) (fun _ h _=>h)) HL2.out kc_n)))));have lg9:N0≤z4.heap.size:=Nat.le_trans hszj HB0.out.size;obtain ⟨g9,hg9⟩:∃ g,g=z4.heap.size:=⟨_,rfl⟩;rw[← hg9] at hD9 lg9 ⊢;clear hg9 HB0 hDv hDa hDe;generalize (z4.alloc (.cells (dv++(da++(de++(es1++(es2++[]))))).toArray 53))=z7 at *;refine wpAnyH_ready (rs:=[8]) (by kernel_rfl) (by simp) ?_;refine AllReadyH.cons rfl (fun K hK=>?_) ?_
         ·go_simp
          refine hK.out _ _ ?_ (fun hHeld2=>?_)
          ·exact hHeld
          ·clear hK K
           try clear hHeld
           have hHeld:=hHeld2;clear hHeld2;refine wpAnyH_done (by kernel_rfl) ?_ _;refine NoPanic.normal ?_;have st:=KB1.out _ hHeld;have B0:=HBB.out.later st;have bel:=Zaa HBel.out st;have hs:N0≤z7.heap.size:=Nat.le_trans hszj st.size;clear st hHeld ra rl R1 R2;have l9:=hD9.lt (b:=g9) rfl;obtain ⟨N1,hN1⟩:∃ n,n=z7.heap.size:=⟨_,rfl⟩;have HD9:Hid (RwS (fun b=>N0≤b∧b<N1) z7 (Value.slice (some ⟨g9,0,none⟩) 5 5) [Zcp 1,ZbR,ZbC c.issuer,T1,T2]):=hD9.mono (fun b h hl=>⟨h,by omega⟩);have lg9:g9<N1:=by omega
           have hs1:N1≤z7.heap.size:=by omega
           have h01:N0≤N1:=by omega
           clear hN1 hD9 l9 hs;go_wp2_with fail;go_loopw [10,11] (fun gvv iv wx=>∃ (i:Nat) (ka:Option Addr) (kc:Nat),i≤GL∧gvv=.slice ka i kc∧iv=.int .i64 (i:Int)∧Hid (RwT wx N1 (.slice ka i kc) ((c.gone.take i).map gonD))∧Hid (∀ g∈c.gone.take i,∃ T,Ze5 g=some T)∧Hid (RwS (fun b=>N0≤b∧b<N1) wx (Value.slice (some ⟨g9,0,none⟩) 5 5) [Zcp 1,ZbR,ZbC c.issuer,T1,T2])∧Blk wx w.heap.size cs∧Below w.heap.size w wx∧N1≤wx.heap.size) (fun _ iv _=>GL-(intOf iv).toNat)
           case atStart=>exact ⟨0,none,0,by omega,rfl,rfl,by rw[List.take_zero,List.map_nil];exact RwT.nil0 _ _,fun l hl=>by simp at hl,HD9,B0,bel,hs1⟩
           case round =>
            clear HD9 B0 bel hs1;obtain ⟨i,ka,kc,hi,rfl,rfl,HR,HA,HD9,B0,bel,hs1⟩:=hrel;have h8:=HK64.out;have HLi:Hid (((c.gone.take i).map gonD).length=i):=by show _=_;rw[List.length_map,List.length_take,HGL.out];omega
            have e3:=B0.cell 3 _ HQ3.out;have l0:=B0.lt
            by_cases hil:i<GL
            rotate_left
            ·obtain rfl:i=GL:=by omega
             have g1:¬ (i:Int)<(i:Int):=by omega
             have H:Hid (ZcB c):=⟨HM.out,⟨T1,HX1.out⟩,⟨T2,HX2.out⟩,by rw[HGL.out];exact h8,by have h:=HA.out;rw[List.take_of_length_le (by rw[HGL.out];omega)] at h;exact h⟩
             by_cases k0:i=0
             ·have HDl:Hid (Dep (fun b=>N0≤b) wr (ZdR [Zcp 1,ZbR,ZbC c.issuer,T1,T2]) [.int .i64 0,.int .i64 16,.bool true,.slice none 0 0,.slice (some ⟨g9,0,none⟩) 5 5]):=HD9.out.dep 0 16 true (fun b h=>h.1) (fun g hg=>by simp only[Value.ownBlock,Option.some.injEq] at hg;omega)
              have d0:¬ (0:Int)<(i:Int):=by omega
              clear g1 HD9 HR HA;go_wp2_with fail;clear e3 l0;refine Zpa.mono ?_;rintro e wl ⟨rfl,hb⟩;have HTl:Hid (Zav wl (ZdR [Zcp 1,ZbR,ZbC c.issuer,T1,T2]) [.int .i64 0,.int .i64 16,.bool true,.slice none 0 0,.slice (some ⟨g9,0,none⟩) 5 5]):=(HDl.out.next (S':=(fun b=>N0≤b)) (Agr.below hb) (fun _ h _=>h)).now;replace bel:=Zaa bel hb;clear hb;have HEq:Hid (Zbe c=ZdR [Zcp 1,ZbR,ZbC c.issuer,T1,T2]):=by show _=_;unfold Zbe Zit;rw[if_neg (by rw[HGL.out];omega),HX1.out,HX2.out];rfl
              have HZ:Hid (Sm 6000 (Zbe c)):=ZfW H.out;have HW0:Hid (wrN (Zbe c)=0):=Zig H.out;rw[HEq.out] at HZ HW0;go_wp2_with fail;refine (ZfQ (by have:=HZ.out.2;omega) (fun _=>by have:=HZ.out.1;omega) HTl.out).mono ?_;rintro e wz ⟨v9,rfl,hw,-,hb⟩;have own9:=hw HW0.out;have HBz:Hid (Bs wz v9 (Zak (Zbe c))):=by rw[HEq.out];exact Bs.of_own own9
              replace bel:=Zaa bel hb;rw[HW0.out];clear hb hw own9 HTl HZ;obtain ⟨va,vc,hve,-,-,-⟩:=id HBz.out;obtain ⟨VL,hVL⟩:∃ z,(Zak (Zbe c)).length=z:=⟨_,rfl⟩;rw[hVL] at hve;subst hve;clear hVL;go_wp2_with fail;refine bodyPost_ret (results_tmp2 rfl _ _ _) rfl ?_;exact ZdS.yes H.out HBz.out bel
             exact absurd (show i=0 by rw[← HGL.out];exact H00.out) k0
            exact absurd hil (by have:=H00.out;rw[HGL.out] at this;omega)
         exact AllReadyH.nil
       exact AllReadyH.nil
     exact AllReadyH.nil
   exact AllReadyH.nil
 exact AllReadyH.nil
end Go.Proofs.YtohcdbifhnfcbaaGreatDoor
