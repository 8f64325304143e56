import Derived.Test.YtohcdbifhnfcbaaGreatDoorCtSize
import Derived.Test.YtohcdbifhnfcbaaGreatDoorPmNG
import Derived.Test.YtohcdbifhnfcbaaGreatDoorDrTG
import Derived.Test.YtohcdbifhnfcbaaGreatDoorBase
import Derived.Test.YtohcdbifhnfcbaaGreatDoorNlSG
import Derived.Test.YtohcdbifhnfcbaaGreatDoorDrDG
import Derived.Test.YtohcdbifhnfcbaaGreatDoorPrG
import Derived.Test.YtohcdbifhnfcbaaGreatDoorDcG3
import Derived.Test.YtohcdbifhnfcbaaGreatDoorRows
import Derived.Deep.WholeRow
import Derived.Deep.RegionHeld3
import Derived.Deep.DeepCutAuto
import Derived.Deep.DeepFit
import Derived.Deep.OwnRows
import Derived.Deep.AppendLies
import Derived.Great.BuildSlice
import Derived.Laws.Rows
namespace Go.Proofs.YtohcdbifhnfcbaaGreatDoor
open Go.RowKit
set_option linter.unusedSimpArgs false
set_option maxRecDepth 100000
set_option maxHeartbeats 4000000
def Zet (x y:List Int):Tl:=.mk 0 16 true [] [.mk 0 2 false x [],.mk 0 2 false y []]
def ZcK:Tl→Option (List Int)
 | .mk c t m b _=>if c=0∧t=2∧m=false then (match Zbi b with|.ok n=>some n|.error _=>none) else none
def Zdl:Tl→Option (List Int × List Int)
 | .mk c t m _ [a,b]=>if c=0∧t=16∧m=true then (match ZcK a,ZcK b with|some x,some y=>some (x,y)|_,_=>none) else none
 | _=>none
def Is48 (X:List Int) (r:Int):Prop:=X.length=48∧byt X∧beN X=r
theorem Zi8 (X:List Int):beN ((0:Int)::X)=beN X:=by
 unfold beN;rw[List.reverse_cons,Zcj];simp[pv]
theorem ZgF:∀ X:List Int,beN (ZaF X)=beN X
 | []=>rfl
 | x::xs=>by
  rw[ZaF]
  split
  ·rename_i h
   subst h;rw[ZgF xs,Zi8]
  ·rfl
theorem ZoN {X:List Int} (hl:X.length=48):∃ x,ZaG X=.ok x∧x.length≤49:=by
 have h1:(ZaF X).length≤48:=by
  rw[Zbm,List.length_drop];omega
 unfold ZaG;rw[if_neg (by omega)]
 by_cases c:(ZaF X).length=0∨127<(ZaF X).getD 0 0
 ·exact ⟨_,by rw[if_pos c],by rw[List.length_cons];omega⟩
 ·exact ⟨_,by rw[if_neg c],by omega⟩
theorem ZhY {X x:List Int} (b:byt X) (h:ZaG X=.ok x):byt x:=by
 have hl:byt (ZaF X):=by rw[Zbm];exact Zba b _
 unfold ZaG at h
 split at h
 ·cases h
 ·split at h
  ·cases h
   exact Zbk (by decide) hl
  ·cases h
   exact hl
theorem ZeM {n:Nat} (h:n<128):(Zbv n).length=1:=by
 unfold Zbv;rw[if_pos h]
 rfl
theorem ZiV {x y:List Int} (hx:x.length≤49) (hy:y.length≤49):(Zak (Zet x y)).length≤200:=by
 have k1:(Zak (.mk 0 2 false x [])).length=x.length+2:=by
  rw[ZaL,Zal,List.append_nil,ZeM (by omega)];omega
 have k2:(Zak (.mk 0 2 false y [])).length=y.length+2:=by
  rw[ZaL,Zal,List.append_nil,ZeM (by omega)];omega
 unfold Zet;rw[ZaL];simp only[Zal,List.nil_append,List.append_nil,List.length_append,k1,k2];rw[ZeM (by omega)];omega
theorem Zhe (x y:List Int):ZaK (Zet x y)=true:=by
 simp[Zet,ZaK,ZaE,Zby]
theorem Znj (x y:List Int):Zct (Zet x y)=2:=by
 simp[Zet,Zct,Zb7]
theorem sig_sz (x y:List Int):szT (Zet x y)=3:=by
 simp[Zet,szT,szL]
theorem sig_wr {x y:List Int} (hx:x.length≤49) (hy:y.length≤49):wrN (Zet x y)=0:=by
 have:=ZiV hx hy;unfold wrN;rw[if_pos (Zhe x y),if_neg (by rw[Znj];omega),if_neg (by omega)]
theorem sig_wf {x y:List Int} (bx:byt x) (bY:byt y):WfT (Zet x y):=by
 simp only[Zet,WfT,WfL];exact ⟨by omega,by omega,ZdA,⟨by omega,by omega,bx,trivial⟩,⟨by omega,by omega,bY,trivial⟩,trivial⟩
theorem Zrd {x y:List Int} (bx:byt x) (bY:byt y):byt (Zak (Zet x y)):=Zgf (Zhe x y) (sig_wf bx bY)
theorem Znk {x y:List Int} (hx:x.length≤49) (hy:y.length≤49):Zaq (Zak (Zet x y))=.ok (Zet x y):=by
 have hl:=ZiV hx hy;have h:=Zo0 (T:=Zet x y) (Y:=[]) (Zhe x y) (by rw[Znj];omega) (by rw[List.append_nil];omega);rw[List.append_nil] at h;rw[h]
 rfl
theorem Znh {X Y x y:List Int} (bX:byt X) (bY:byt Y) (hx:ZaG X=.ok x) (hy:ZaG Y=.ok y):Zdl (Zet x y)=some (ZaF X,ZaF Y):=by
 have h1:=(Zjy bX hx).1;have h2:=(Zjy bY hy).1;simp only[Zet,Zdl,ZcK,h1,h2];simp
theorem sig_at {w:World} {g:Nat} {xv yv:Value} {x y:List Int} (hx:Bs w xv x) (hy:Bs w yv y) (B:Blk w g [.int .i64 0,.int .i64 2,.bool false,xv,.slice none 0 0,.int .i64 0,.int .i64 2,.bool false,yv,.slice none 0 0]):Zav w (Zet x y) [.int .i64 0,.int .i64 16,.bool true,.slice none 0 0,.slice (some ⟨g,0,none⟩) 2 2]:=by
 have z0:Bs w (.slice none 0 0) []:=⟨none,0,rfl,by decide,by decide,fun h=>by simp at h⟩;unfold Zet;rw[Zav];refine ⟨_,_,_,rfl,z0,by show 2≤2;omega,by decide,fun _=>⟨g,0,rfl,?_⟩⟩;rw[Zap];refine ⟨⟨[.int .i64 0,.int .i64 2,.bool false,xv,.slice none 0 0],⟨B.lt,fun j v hj=>?_⟩,?_⟩,?_⟩
 ·rw[Nat.zero_add]
  refine B.cell j v ?_
  match j,hj with
  | 0,h=>exact h
  | 1,h=>exact h
  | 2,h=>exact h
  | 3,h=>exact h
  | 4,h=>exact h
  | j+5,h=>simp at h
 ·rw[Zav]
  exact⟨_,_,_,rfl,hx,by decide,by decide,fun h=>absurd h (by simp)⟩
 ·rw[Zap]
  refine⟨⟨[.int .i64 0,.int .i64 2,.bool false,yv,.slice none 0 0],⟨B.lt,fun j v hj=>?_⟩,?_⟩,?_⟩
  ·rw[Nat.zero_add]
   refine B.cell (5+j) v ?_
   match j,hj with
   | 0,h=>exact h
   | 1,h=>exact h
   | 2,h=>exact h
   | 3,h=>exact h
   | 4,h=>exact h
   | j+5,h=>simp at h
  ·rw[Zav]
   exact⟨_,_,_,rfl,hy,by decide,by decide,fun h=>absurd h (by simp)⟩
  ·rw[Zap];trivial
theorem ZhX {B n:List Int} (b:byt B) (h:Zbi B=.ok n):byt n∧n.length≤64:=by
 unfold Zbi at h;obtain ⟨R,hR⟩:∃ R,(if B.getD 0 0=0 then B.drop 1 else B)=R:=⟨_,rfl⟩;rw[hR] at h;have hb:byt R:=by
  rw[← hR]
  split
  ·exact Zba b 1
  ·exact b
 by_cases g:B.length=0∨127<B.getD 0 0∨(1<B.length∧B.getD 0 0=0∧B.getD 1 0<128)
 ·rw[if_pos g] at h;cases h
 ·rw[if_neg g] at h
  by_cases g2:64<R.length
  ·rw[if_pos g2] at h;cases h
  ·rw[if_neg g2] at h;cases h;exact ⟨hb,by omega⟩
theorem Zo1 {c t:Int} {m:Bool} {b:List Int} {ks:List Tl} (h:¬ (c=0∧t=2∧m=false)):ZcK (.mk c t m b ks)=none:=by rw[ZcK,if_neg h]
theorem ZmH {c t:Int} {m:Bool} {b:List Int} {ks:List Tl} {e:Nat} (h:Zbi b=.error e):ZcK (.mk c t m b ks)=none:=by
 rw[ZcK,h]
 split<;>rfl
theorem Zo2 {b n:List Int} {ks:List Tl} (h:Zbi b=.ok n):ZcK (.mk 0 2 false b ks)=some n:=by rw[ZcK,if_pos ⟨rfl,rfl,rfl⟩,h]
theorem Zij (m:Nat) (X:List Int):beN (List.replicate m 0++X)=beN X:=by
 induction m with
 | zero=>rfl
 | succ m ih=>rw[List.replicate_succ,List.cons_append,Zi8,ih]
theorem Zdy {X:List Int} (b:byt X):0≤beN X:=(Zcy X.reverse (ZeC b)).1
theorem beN_ge {x:Int} {X:List Int} (b:byt (x::X)) (h:x≠0):256 ^ X.length≤beN (x::X):=by
 have h0:=b 0;have hX:byt X:=fun j=>by have:=b (j+1);simpa using this
 have h1:=Zdy hX;unfold beN at *;rw[List.reverse_cons,Zcj,List.length_reverse];simp only[pv,List.getD_cons_zero,Int.mul_zero,Int.add_zero] at *;have h2:(256:Int) ^ X.length*1≤256 ^ X.length*x:=Int.mul_le_mul_of_nonneg_left (by omega) (Int.pow_nonneg (by decide));omega
theorem QQ_256:QQ≤(256:Int) ^ 48:=by decide +kernel
theorem Zhp {x:Int} {X:List Int} (b:byt (x::X)) (h:x≠0) (hl:48≤X.length):QQ≤beN (x::X):=by
 have h1:=beN_ge b h;have h2:(256:Int) ^ 48≤256 ^ X.length:=by
  obtain⟨k,hk⟩:∃ k,X.length=48+k:=⟨X.length-48,by omega⟩;rw[hk,Int.pow_add];have h3:(1:Int)≤256 ^ k:=by
   clear hk
   induction k with
   | zero=>decide
   | succ k ih=>rw[Int.pow_succ];omega
  have h4:(256:Int) ^ 48*1≤256 ^ 48*256 ^ k:=Int.mul_le_mul_of_nonneg_left h3 (Int.pow_nonneg (by decide));omega
 have:=QQ_256;omega
theorem ZfP {B n:List Int} (b:byt B) (h:Zbi B=.ok n) (hl:48<n.length):QQ≤beN n:=by
 have hb:=(ZhX b h).1;unfold Zbi at h
 by_cases g:B.length=0∨127<B.getD 0 0∨(1<B.length∧B.getD 0 0=0∧B.getD 1 0<128)
 ·rw[if_pos g] at h;cases h
 rw[if_neg g] at h
 by_cases z:B.getD 0 0=0
 ·simp only[if_pos z] at h
  split at h
  ·cases h
  ·cases h
   match B,g,z,hl,hb with
   | [],_,_,hl,_=>simp at hl
   | [_],_,_,hl,_=>simp at hl
   | _::y::ys,g,z,hl,hb =>
    simp only[List.drop_succ_cons,List.drop_zero,List.length_cons,List.getD_cons_zero,List.getD_cons_succ] at *;exact Zhp hb (by omega) (by omega)
 ·simp only[if_neg z] at h
  split at h
  ·cases h
  ·cases h
   match B,g,z,hl,hb with
   | [],_,_,hl,_=>simp at hl
   | y::ys,g,z,hl,hb =>
    simp only[List.length_cons,List.getD_cons_zero] at *;exact Zhp hb z (by omega)
theorem Zqi (m:Nat) {X:List Int} (b:byt X):byt (List.replicate m 0++X):=by
 induction m with
 | zero=>exact b
 | succ m ih=>rw[List.replicate_succ,List.cons_append];exact Zbk (by decide) ih
theorem Zib {c t:Int} {m:Bool} {bb:List Int} {ks:List Tl} (h:¬ ((c=0∧t=16∧m=true)∧ks.length=2)):Zdl (.mk c t m bb ks)=none:=by
 match ks,h with
 | [],_=>rfl
 | [_],_=>rfl
 | [a,b],h=>rw[Zdl,if_neg (fun h'=>h ⟨h',rfl⟩)]
 | _::_::_::_,_=>rfl
theorem Zng {bb:List Int} {a b:Tl} {x y:List Int} (hx:ZcK a=some x) (hy:ZcK b=some y):Zdl (.mk 0 16 true bb [a,b])=some (x,y):=by
 rw[Zdl,if_pos ⟨rfl,rfl,rfl⟩,hx,hy]
theorem Zrb {bb:List Int} {ks:List Tl} {i:Nat} {k:Tl} (hk:ks[i]?=some k) (h:ZcK k=none):Zdl (.mk 0 16 true bb ks)=none:=by
 match ks,i,hk with
 | [],_,hk=>simp at hk
 | [_],_,_=>rfl
 | [a,b],0,hk =>
  simp at hk;subst hk;rw[Zdl,if_pos ⟨rfl,rfl,rfl⟩,h]
 | [a,b],1,hk =>
  simp at hk;subst hk;rw[Zdl,if_pos ⟨rfl,rfl,rfl⟩,h]
  cases ZcK a<;>rfl
 | [a,b],i+2,hk=>simp at hk
 | _::_::_::_,_,_=>rfl
theorem ZkB {c t:Int} {m:Bool} {bb b0:List Int} {c0 t0:Int} {m0:Bool} {l0 ks:List Tl} {i:Nat} (hw:WfT (.mk c t m bb ks)) (hl:(Zak (.mk c t m bb ks)).length≤1048576) (h2:ks.length=2) (hk:ks[i]?=some (.mk c0 t0 m0 b0 l0)):byt b0∧b0.length≤1048576:=by
 match ks,h2,i,hk with
 | [x,y],_,0,hk =>
  simp at hk;subst hk;simp only[WfT,WfL] at hw;obtain ⟨_,_,_,⟨_,_,w0,_⟩,_,_⟩:=hw;rw[ZaL] at hl;simp only[Zal,List.length_append,ZaL,List.append_nil] at hl;exact ⟨w0,by omega⟩
 | [x,y],_,1,hk =>
  simp at hk;subst hk;simp only[WfT,WfL] at hw;obtain ⟨_,_,_,_,⟨_,_,w0,_⟩,_⟩:=hw;rw[ZaL] at hl;simp only[Zal,List.length_append,ZaL,List.append_nil] at hl;exact ⟨w0,by omega⟩
 | [x,y],_,i+2,hk=>simp at hk
theorem Zm3 {A:Int} (h:A≠0):Zk0 A 0=0:=by unfold Zk0;rw[if_neg h]
theorem Zpu {A:Int} (h:A=0):Zk0 A 0=1:=by unfold Zk0;rw[if_pos h]
theorem ZhZ {v:Value} {bs:List Int} {w:World} (h:Bs w v bs) (hl:bs.length=48) (hB:byt bs) (hr:beN bs=0) :
  Calls Tryz.prog 142 #[v] w fun e w'=>e=.returned (.tuple #[.agg #[.int .u64 0,.int .u64 0,.int .u64 0,.int .u64 0,.int .u64 0,.int .u64 0],.iface 46 (.int .i64 3)])∧Below w.heap.size w w':=by
 have HR:Hid _:=hr;clear hr;have B0:=Blk.new w (us [0,0,0,0,0,0]) 29 w.heap.size rfl;have bel:=bal w (.cells (us [0,0,0,0,0,0]).toArray 29);have q1:=Zds;go_enter Tryz.func142,Tryz.ntmps142;go_wp2_with fail;simp only[us,List.map_cons,List.map_nil] at B0 bel;generalize w.alloc (Obj.cells #[.int .u64 0,.int .u64 0,.int .u64 0,.int .u64 0,.int .u64 0,.int .u64 0] 29)=W at *;refine (ZqC (h.later (bel.mono (Nat.le_refl _))) hl hB).mono ?_;rintro e w1 ⟨s0,s1,s2,s3,s4,s5,rfl,fS,hs,hb⟩;have HS:Hid _:=hs;replace B0:=B0.later hb;replace bel:=Zaa bel hb;clear hb hs;have lt0:=B0.lt;have HQ:Hid _:=Zpu (A:=v64 [s0,s1,s2,s3,s4,s5]) (by rw[HS.out];exact HR.out);go_wp2_with fail;refine (ZiU fS (Zdp 6) rfl rfl).mono ?_;rintro e w2 ⟨rfl,hb⟩;rw[show v64 [0,0,0,0,0,0]=0 from rfl,HQ.out];have B1:=(Blk.new w1 (us [s0,s1,s2,s3,s4,s5]) 29 w1.heap.size rfl).later hb;replace B0:=(B0.alloc (.cells (us [s0,s1,s2,s3,s4,s5]).toArray 29)).later hb;replace bel:=Zaa (Zah bel) hb;clear hb HQ;obtain ⟨bi,hbi⟩:∃ b,b=w1.heap.size:=⟨_,rfl⟩;rw[← hbi] at B1 lt0 ⊢;clear hbi;have lt2:=B0.lt;have lt3:=B1.lt;have c0:=B0.cell 0 _ rfl;have q0:=B0.frozen 0;have c1:=B0.cell 1 _ rfl;have q1:=B0.frozen 1;have c2:=B0.cell 2 _ rfl;have q2:=B0.frozen 2;have c3:=B0.cell 3 _ rfl;have q3:=B0.frozen 3;have c4:=B0.cell 4 _ rfl;have q4:=B0.frozen 4;have c5:=B0.cell 5 _ rfl;have q5:=B0.frozen 5;go_wp2_with fail;exact bodyPost_ret (v:=.tuple #[.agg #[.int .u64 0,.int .u64 0,.int .u64 0,.int .u64 0,.int .u64 0,.int .u64 0],.iface 46 (.int .i64 3)]) (by simp[results,Tryz.results142,go_sem,c0,c1,c2,c3,c4,c5]) rfl ⟨rfl,ZeB bel (Nat.le_refl _)⟩
theorem ZgZ {v:Value} {bs:List Int} {w:World} (G:Zex w) (h:Bs w v bs) (hl:bs.length=48) (hB:byt bs) (hr:QQ≤beN bs) :
  Calls Tryz.prog 142 #[v] w fun e w'=>e=.returned (.tuple #[.agg #[.int .u64 0,.int .u64 0,.int .u64 0,.int .u64 0,.int .u64 0,.int .u64 0],.iface 46 (.int .i64 3)])∧Below w.heap.size w w':=by
 have HR:Hid _:=hr;clear hr;have B0:=Blk.new w (us [0,0,0,0,0,0]) 29 w.heap.size rfl;have bel:=bal w (.cells (us [0,0,0,0,0,0]).toArray 29);have q1:=Zds;go_enter Tryz.func142,Tryz.ntmps142;go_wp2_with fail;simp only[us,List.map_cons,List.map_nil] at B0 bel;generalize w.alloc (Obj.cells #[.int .u64 0,.int .u64 0,.int .u64 0,.int .u64 0,.int .u64 0,.int .u64 0] 29)=W at *;refine (ZqC (h.later (bel.mono (Nat.le_refl _))) hl hB).mono ?_;rintro e w1 ⟨s0,s1,s2,s3,s4,s5,rfl,fS,hs,hb⟩;have HS:Hid _:=hs;replace B0:=B0.later hb;replace bel:=Zaa bel hb;clear hb hs;have lt0:=B0.lt;have HQ:Hid _:=Zm3 (A:=v64 [s0,s1,s2,s3,s4,s5]) (by rw[HS.out];have:=HR.out;have:=QQ_pos;omega);go_wp2_with fail;refine (ZiU fS (Zdp 6) rfl rfl).mono ?_;rintro e w2 ⟨rfl,hb⟩;rw[show v64 [0,0,0,0,0,0]=0 from rfl,HQ.out];have B1:=(Blk.new w1 (us [s0,s1,s2,s3,s4,s5]) 29 w1.heap.size rfl).later hb;replace B0:=(B0.alloc (.cells (us [s0,s1,s2,s3,s4,s5]).toArray 29)).later hb;replace bel:=Zaa (Zah bel) hb;clear hb HQ;obtain ⟨bi,hbi⟩:∃ b,b=w1.heap.size:=⟨_,rfl⟩;rw[← hbi] at B1 lt0 ⊢;clear hbi;have lt2:=B0.lt;have lt3:=B1.lt;have HL:Hid _:=ZoC (A:=[s0,s1,s2,s3,s4,s5]) (B:=[17072048233947408755,6348401684107011962,14367412456785391071,18446744073709551615,18446744073709551615,18446744073709551615]) (by rw[HS.out,QQ_v];exact HR.out);have GW:=G.below bel;obtain ⟨l0,l1⟩:=GW.lts;obtain ⟨⟨a0,a1,a2,a3,a4,a5⟩,GW1⟩:=GW;clear GW1;have d0:=B1.cell 0 _ rfl;have f0:=B1.frozen 0;have d1:=B1.cell 1 _ rfl;have f1:=B1.frozen 1;have d2:=B1.cell 2 _ rfl;have f2:=B1.frozen 2;have d3:=B1.cell 3 _ rfl;have f3:=B1.frozen 3;have d4:=B1.cell 4 _ rfl;have f4:=B1.frozen 4;have d5:=B1.cell 5 _ rfl;have f5:=B1.frozen 5;go_wp2_with fail;refine (less6 fS fQ).mono ?_;rintro e w3 ⟨rfl,hb⟩;rw[HL.out];replace B1:=B1.later hb;replace B0:=B0.later hb;replace bel:=Zaa bel hb;clear hb HL a0 a1 a2 a3 a4 a5 l0 l1 lt2 lt3 d0 d1 d2 d3 d4 d5 f0 f1 f2 f3 f4 f5;have lt2:=B0.lt;have lt3:=B1.lt;have c0:=B0.cell 0 _ rfl;have q0:=B0.frozen 0;have c1:=B0.cell 1 _ rfl;have q1:=B0.frozen 1;have c2:=B0.cell 2 _ rfl;have q2:=B0.frozen 2;have c3:=B0.cell 3 _ rfl;have q3:=B0.frozen 3;have c4:=B0.cell 4 _ rfl;have q4:=B0.frozen 4;have c5:=B0.cell 5 _ rfl;have q5:=B0.frozen 5;go_wp2_with fail;exact bodyPost_ret (v:=.tuple #[.agg #[.int .u64 0,.int .u64 0,.int .u64 0,.int .u64 0,.int .u64 0,.int .u64 0],.iface 46 (.int .i64 3)]) (by simp[results,Tryz.results142,go_sem,c0,c1,c2,c3,c4,c5]) rfl ⟨rfl,ZeB bel (Nat.le_refl _)⟩
theorem ZkI {v:Value} {bs:List Int} {w:World} (G:Zex w) (h:Bs w v bs) (hl:bs.length=48) (hB:byt bs) (h0:0<beN bs) (hr:beN bs<QQ) :
  Calls Tryz.prog 142 #[v] w fun e w'=>∃ s0 s1 s2 s3 s4 s5:Int,e=.returned (.tuple #[.agg #[.int .u64 s0,.int .u64 s1,.int .u64 s2,.int .u64 s3,.int .u64 s4,.int .u64 s5],.nilIface])∧Zdg [s0,s1,s2,s3,s4,s5]∧v64 [s0,s1,s2,s3,s4,s5]=beN bs∧Below w.heap.size w w':=by
 have HR:Hid _:=hr;clear hr;have H0:Hid _:=h0;clear h0;have B0:=Blk.new w (us [0,0,0,0,0,0]) 29 w.heap.size rfl;have bel:=bal w (.cells (us [0,0,0,0,0,0]).toArray 29);have q1:=Zds;go_enter Tryz.func142,Tryz.ntmps142;go_wp2_with fail;simp only[us,List.map_cons,List.map_nil] at B0 bel;generalize w.alloc (Obj.cells #[.int .u64 0,.int .u64 0,.int .u64 0,.int .u64 0,.int .u64 0,.int .u64 0] 29)=W at *;refine (ZqC (h.later (bel.mono (Nat.le_refl _))) hl hB).mono ?_;rintro e w1 ⟨s0,s1,s2,s3,s4,s5,rfl,fS,hs,hb⟩;have HS:Hid _:=hs;replace B0:=B0.later hb;replace bel:=Zaa bel hb;clear hb hs;have lt0:=B0.lt;have HQ:Hid _:=Zm3 (A:=v64 [s0,s1,s2,s3,s4,s5]) (by rw[HS.out];have:=H0.out;omega);go_wp2_with fail;refine (ZiU fS (Zdp 6) rfl rfl).mono ?_;rintro e w2 ⟨rfl,hb⟩;rw[show v64 [0,0,0,0,0,0]=0 from rfl,HQ.out];have B1:=(Blk.new w1 (us [s0,s1,s2,s3,s4,s5]) 29 w1.heap.size rfl).later hb;replace B0:=(B0.alloc (.cells (us [s0,s1,s2,s3,s4,s5]).toArray 29)).later hb;replace bel:=Zaa (Zah bel) hb;clear hb HQ;obtain ⟨bi,hbi⟩:∃ b,b=w1.heap.size:=⟨_,rfl⟩;rw[← hbi] at B1 lt0 ⊢;clear hbi;have lt2:=B0.lt;have lt3:=B1.lt;have HL:Hid _:=Zmi (A:=[s0,s1,s2,s3,s4,s5]) (B:=[17072048233947408755,6348401684107011962,14367412456785391071,18446744073709551615,18446744073709551615,18446744073709551615]) (by rw[HS.out,QQ_v];exact HR.out);have GW:=G.below bel;obtain ⟨l0,l1⟩:=GW.lts;obtain ⟨⟨a0,a1,a2,a3,a4,a5⟩,GW1⟩:=GW;clear GW1;have d0:=B1.cell 0 _ rfl;have f0:=B1.frozen 0;have d1:=B1.cell 1 _ rfl;have f1:=B1.frozen 1;have d2:=B1.cell 2 _ rfl;have f2:=B1.frozen 2;have d3:=B1.cell 3 _ rfl;have f3:=B1.frozen 3;have d4:=B1.cell 4 _ rfl;have f4:=B1.frozen 4;have d5:=B1.cell 5 _ rfl;have f5:=B1.frozen 5;go_wp2_with fail;refine (less6 fS fQ).mono ?_;rintro e w3 ⟨rfl,hb⟩;rw[HL.out];replace B1:=B1.later hb;replace B0:=B0.later hb;replace bel:=Zaa bel hb;clear hb HL a0 a1 a2 a3 a4 a5 l0 l1 lt2 lt3 d0 d1 d2 d3 d4 d5 f0 f1 f2 f3 f4 f5;have lt2:=B0.lt;have lt3:=B1.lt;have c0:=B0.cell 0 _ rfl;have q0:=B0.frozen 0;have c1:=B0.cell 1 _ rfl;have q1:=B0.frozen 1;have c2:=B0.cell 2 _ rfl;have q2:=B0.frozen 2;have c3:=B0.cell 3 _ rfl;have q3:=B0.frozen 3;have c4:=B0.cell 4 _ rfl;have q4:=B0.frozen 4;have c5:=B0.cell 5 _ rfl;have q5:=B0.frozen 5;have d0:=B1.cell 0 _ rfl;have f0:=B1.frozen 0;have d1:=B1.cell 1 _ rfl;have f1:=B1.frozen 1;have d2:=B1.cell 2 _ rfl;have f2:=B1.frozen 2;have d3:=B1.cell 3 _ rfl;have f3:=B1.frozen 3;have d4:=B1.cell 4 _ rfl;have f4:=B1.frozen 4;have d5:=B1.cell 5 _ rfl;have f5:=B1.frozen 5;go_wp2_with fail;exact bodyPost_ret (v:=.tuple #[.agg #[.int .u64 s0,.int .u64 s1,.int .u64 s2,.int .u64 s3,.int .u64 s4,.int .u64 s5],.nilIface]) (by simp[results,Tryz.results142,go_sem,c0,c1,c2,c3,c4,c5]) rfl ⟨s0,s1,s2,s3,s4,s5,rfl,fS,HS.out,ZeB bel (Nat.le_refl _)⟩
theorem ZoK (a:Int) (h0:0≤a) (k:Nat):a%256 ^ k+256 ^ k*(a/256 ^ k%256)=a%256 ^ (k+1):=by
 obtain⟨n,rfl⟩:=Int.eq_ofNat_of_zero_le h0;have e:=Nat.mod_mul (x:=n) (a:=256 ^ k) (b:=256);have h1:(256:Int) ^ k=((256 ^ k:Nat):Int):=(Int.natCast_pow 256 k).symm;rw[Int.pow_succ,h1];generalize (256:Nat) ^ k=p at e;have e2:((n%p+p*(n/p%256):Nat):Int)=((n%(p*256):Nat):Int):=by rw[e]
 exact e2
theorem ZlZ (a:Int) (h0:0≤a) (Q:List Int) (hQ:∀ r,r<Q.length→Q.getD r 0=a/256 ^ r%256):pv 256 Q=a%256 ^ Q.length:=by
 have key:∀ k,k≤Q.length→pv 256 (Q.take k)=a%256 ^ k:=by
  intro k
  induction k with
  | zero=>intro _;simp[pv,Int.emod_one]
  | succ k ih =>
   intro hk;rw[ZcL _ Q k (by omega),ih (by omega),hQ k (by omega),ZoK a h0 k]
 have:=key Q.length (Nat.le_refl _)
 rwa [List.take_of_length_le (Nat.le_refl _)] at this
theorem ZiG (b:Int) (D:List Int) (k:Nat):pv b (D.take (k+1))=pv b (D.take k)+b ^ k*D.getD k 0:=by
 by_cases h:k<D.length
 ·exact ZcL b D k h
 ·rw[List.take_of_length_le (by omega),List.take_of_length_le (by omega),ZcV D k (by omega)];simp
theorem spread (c:Nat) (hc:0<c) (A R:List Int) (hA:∀ j,0≤A.getD j 0∧A.getD j 0<256 ^ c) (hR:∀ t,t<R.length→R.getD t 0=A.getD (t/c) 0/256 ^ (t%c)%256) :
  ∀ n,c*n≤R.length→pv 256 (R.take (c*n))=pv (256 ^ c) (A.take n):=by
 intro n
 induction n with
 | zero=>intro _;simp[pv]
 | succ n ih =>
  intro hn;have hn':c*n+c≤R.length:=by rw[Nat.mul_succ] at hn;exact hn
  have e1:R.take (c*(n+1))=R.take (c*n)++(R.take (c*n+c)).drop (c*n):=by
   rw[Nat.mul_succ];have:=List.take_append_drop (c*n) (R.take (c*n+c));rw[List.take_take,show min (c*n) (c*n+c)=c*n by omega] at this;exact this.symm
  have hl:((R.take (c*n+c)).drop (c*n)).length=c:=by simp;omega
  have hQ:∀ r,r<((R.take (c*n+c)).drop (c*n)).length→((R.take (c*n+c)).drop (c*n)).getD r 0=A.getD n 0/256 ^ r%256:=by
   intro r hr;rw[hl] at hr;have e:((R.take (c*n+c)).drop (c*n)).getD r 0=R.getD (c*n+r) 0:=by
    simp only[List.getD_eq_getElem?_getD,List.getElem?_drop,List.getElem?_take,show c*n+r<c*n+c by omega,if_true]
   rw[e,hR _ (by omega),Nat.mul_add_div hc,Nat.div_eq_of_lt hr,Nat.mul_add_mod,Nat.mod_eq_of_lt hr,Nat.add_zero]
  have e2:=ZlZ (A.getD n 0) (hA n).1 _ hQ;have e3:(R.take (c*n)).length=c*n:=by simp;omega
  rw[e1,Zcj,ih (by omega),e2,hl,e3,Int.emod_eq_of_lt (hA n).1 (hA n).2,ZiG,Int.pow_mul]
theorem Zh2:∀ (A B:List Int),A.length=B.length→(∀ j,0≤A.getD j 0∧A.getD j 0<256)→(∀ j,0≤B.getD j 0∧B.getD j 0<256)→pv 256 A=pv 256 B→A=B
 | [],[],_,_,_,_=>rfl
 | [],b::B,h,_,_,_=>by simp at h
 | a::A,[],h,_,_,_=>by simp at h
 | a::A,b::B,h,hA,hB,hv=>by
  have ha:0≤a∧a<256:=hA 0;have hb:0≤b∧b<256:=hB 0;simp only[pv] at hv;have h1:a=b:=by omega
  have h2:pv 256 A=pv 256 B:=by omega
  rw[h1,Zh2 A B (by simpa using h) (fun j=>hA (j+1)) (fun j=>hB (j+1)) h2]
theorem Zqg (A B:List Int) (hl:A.length=B.length) (hA:byt A) (hB:byt B) (h:beN A=beN B):A=B:=by
 have:=Zh2 A.reverse B.reverse (by simpa using hl) (ZeC hA) (ZeC hB) h;exact List.reverse_inj.1 this
theorem ZqH:(Tryz.prog.info? 5).map (fun i=>(i.zero,i.size,i.bytes))=some (some (.int .u8 0),1,1):=by kernel_rfl
theorem ZqL (n:Nat):madeCells #[.int .u8 0] n=(u8s (List.replicate n 0)).toArray:=by
 apply Array.ext
 ·simp[madeCells]
 ·intro i h1 h2
  simp[madeCells,Nat.mod_one]
theorem Blk.set8 {w:World} {b:Nat} {S:List Int} (h:Blk w b (u8s S)) (k:Nat) (s:Int):Blk (w.setCell ⟨b,k,none⟩ (.int .u8 s)) b (u8s (S.set k s)):=by
 have:u8s (S.set k s)=(u8s S).set k (.int .u8 s):=by simp[u8s,List.map_set]
 rw[this];exact h.set k _
theorem uODec {v:Value} {D:List Int} {w:World} (G:Zex w) (hv:Bs w v D) (hD:byt D) (hl:D.length=48) (hs:ZbL (beN D)):Calls Tryz.prog 142 #[v] w fun e w'=>∃ es,e=.returned (.tuple #[.agg es.toArray,.nilIface])∧U6 es (beN D)∧Below w.heap.size w w':=by
 refine(ZkI G hv hl hD (by have:=hs.1;omega) hs.2).mono ?_;rintro e w' ⟨y0,y1,y2,y3,y4,y5,rfl,fy,hy,hb⟩;exact ⟨_,rfl,⟨y0,y1,y2,y3,y4,y5,rfl,fy,hy⟩,hb⟩
theorem Zrq {v:Value} {D:List Int} {w:World} (G:Zex w) (hv:Bs w v D) (hD:byt D) (hl:D.length=48) (h0:0≤beN D) (hs:¬ ZbL (beN D)):Calls Tryz.prog 142 #[v] w fun e w'=>e=.returned (.tuple #[.agg #[.int .u64 0,.int .u64 0,.int .u64 0,.int .u64 0,.int .u64 0,.int .u64 0],.iface 46 (.int .i64 3)])∧Below w.heap.size w w':=by
 by_cases z:beN D=0
 ·exact ZhZ hv hl hD z
 ·exact ZgZ G hv hl hD (by unfold ZbL at hs;omega)
def Zoi (c:Int):Value:=.iface 46 (.int .i64 c)
theorem ZlC {c t tag:Int} {m mk:Bool} {b:List Int} {ks:List Tl} {cs:List Value} {w:World} (h:Zav w (.mk c t m b ks) cs) :
  Calls Tryz.prog 110 #[.agg cs.toArray,.int .i64 tag,.bool mk] w fun e w'=>e=.returned (.bool (decide (c=0∧t=tag∧m=mk)))∧Below w.heap.size w w':=by
 rw[Zav] at h;obtain ⟨bv,ka,kc,rfl,hbv,-,-,-⟩:=h;obtain ⟨ba,bc,rfl,-,-,-⟩:=hbv;have B0:=Blk.new w [.int .i64 c,.int .i64 t,.bool m,.slice ba b.length bc,.slice ka ks.length kc] 53 w.heap.size rfl;have bel:=bal w (.cells #[.int .i64 c,.int .i64 t,.bool m,.slice ba b.length bc,.slice ka ks.length kc] 53);go_enter Tryz.func110,Tryz.ntmps110;go_upto_region 1 with fail;generalize w.alloc (.cells #[.int .i64 c,.int .i64 t,.bool m,.slice ba b.length bc,.slice ka ks.length kc] 53)=W at *;have e0:=B0.cell 0 _ rfl;have e1:=B0.cell 1 _ rfl;have e2:=B0.cell 2 _ rfl;have lt0:=B0.lt
 by_cases c1:c=0
 rotate_left
 ·have H:Hid (decide (c=0∧t=tag∧m=mk)=false):=decide_eq_false (fun h=>c1 h.1)
  have d1:(c == 0)=false:=by rw[beq_eq_false_iff_ne];exact c1
  clear c1;go_wp2_with fail;go_ret;exact ⟨by rw[H.out];rfl,bel⟩
 have d1:(c == 0)=true:=by rw[c1];rfl
 by_cases c2:t=tag
 rotate_left
 ·have H:Hid (decide (c=0∧t=tag∧m=mk)=false):=decide_eq_false (fun h=>c2 h.2.1)
  have d2:(t == tag)=false:=by rw[beq_eq_false_iff_ne];exact c2
  clear c1 c2;go_wp2_with fail;go_ret;exact ⟨by rw[H.out];rfl,bel⟩
 have d2:(t == tag)=true:=by rw[c2];exact beq_self_eq_true _
 have HC1:Hid (c=0):=c1;have HC2:Hid (t=tag):=c2;clear c1 c2
 cases m<;>cases mk
 all_goals
  go_wp2_with fail;go_ret;exact ⟨by first|rfl|(simp only[HC1.out,HC2.out,decide_true,Bool.and_self];rfl),bel⟩
def NumR (w:World) (T:Tl) (e:Ending) (w':World):Prop:=(∃ n v',ZcK T=some n∧e=.returned (.tuple #[v',.nilIface])∧Bs w' v' n∧Zbg w v'∧byt n∧n.length≤64∧(48<n.length→QQ≤beN n)∧Below w.heap.size w w')∨(ZcK T=none∧e=.returned (.tuple #[.slice none 0 0,.iface 46 (.int .i64 7)])∧Below w.heap.size w w')
theorem Zfj (c:Int):∀ w:World,(binOp .neq 35 (.iface 46 (.int .i64 c)) .nilIface).run Tryz.prog w=.ok (.bool true) w:=fun _=>by kernel_rfl
theorem ZfO:∀ w:World,(binOp .neq 35 .nilIface .nilIface).run Tryz.prog w=.ok (.bool false) w:=fun _=>by kernel_rfl
theorem Zhv {c t:Int} {m:Bool} {b:List Int} {ks:List Tl} {cs:List Value} {w:World} (h:Zav w (.mk c t m b ks) cs) (bb:byt b) (hl:b.length≤1048576) :
  Calls Tryz.prog 111 #[.agg cs.toArray] w (NumR w (.mk c t m b ks)):=by
 have HT:Hid (Zav w (.mk c t m b ks) cs):=h;rw[Zav] at h;obtain ⟨bv,ka,kc,hcs,hbv,-,-,-⟩:=h;have HBv:Hid (Bs w bv b):=hbv;obtain ⟨ba,bc,rfl,-,-,-⟩:=hbv;have HL5:Hid (cs.length=5):=HT.out.five;have HC3:Hid (cs[3]?=some (.slice ba b.length bc)):=by show _=_;rw[hcs];rfl
 clear hcs;have B0:=Blk.new w cs 53 w.heap.size rfl;have bel:=bal w (.cells cs.toArray 53);go_enter Tryz.func111,Tryz.ntmps111;go_upto_region 1 with fail;generalize w.alloc (.cells cs.toArray 53)=W at *;have lt0:=B0.lt;go_wp2_with (first|(refine Zab (by rfl) (by rfl) (by rfl) (B0.load Tryz.underlying53 rfl Zae HL5.out) ?_)|fail);refine (ZlC (HT.out.later bel)).mono ?_;rintro e w1 ⟨rfl,hb⟩;replace B0:=B0.later hb;replace bel:=Zaa bel hb;clear hb lt0
 by_cases c1:c=0∧t=2∧m=false
 rotate_left
 ·have H:Hid (ZcK (.mk c t m b ks)=none):=Zo1 c1
  rw[decide_eq_false c1];clear c1;go_wp2_with fail;refine bodyPost_ret (results_tmp2 rfl _ _ _) rfl ?_;exact .inr ⟨H.out,rfl,bel⟩
 rw[decide_eq_true c1];obtain ⟨rfl,rfl,rfl⟩:=c1;have lt0:=B0.lt;have e3:=B0.cell 3 _ HC3.out;go_wp2_with fail;refine (Zgk (HBv.out.later bel) bb (by omega)).mono ?_;rintro e w2 ⟨hok,hbad⟩
 cases hp:Zbi b with
 | ok nn =>
  obtain⟨v1,rfl,bs1,hnw,hb⟩:=hok nn hp;have HNw:Hid (Zbg w v1):=hnw.up bel.size;clear hnw;have H:Hid (ZcK (.mk 0 2 false b ks)=some nn):=Zo2 hp;have HGd:Hid _:=ZhX bb hp;have HGr:Hid (48<nn.length→QQ≤beN nn):=ZfP bb hp;have HBn:Hid (Bs w2 v1 nn):=bs1;obtain ⟨na,nc,rfl,-,-,-⟩:=bs1;replace bel:=Zaa bel hb;clear hok hbad hp hb e3 lt0 B0;have q3:=ZfO;go_wp2_with fail;refine bodyPost_ret (results_tmp2 rfl _ _ _) rfl ?_;exact .inl ⟨nn,_,H.out,rfl,HBn.out,HNw.out,HGd.out.1,HGd.out.2,HGr.out,bel⟩
 | error cc =>
  obtain⟨na,nc,rfl,hb⟩:=hbad cc hp;have H:Hid (ZcK (.mk 0 2 false b ks)=none):=ZmH hp;replace bel:=Zaa bel hb;clear hok hbad hp hb e3 lt0 B0;have q3:=Zfj;go_wp2_with fail;refine bodyPost_ret (results_tmp2 rfl _ _ _) rfl ?_;exact .inr ⟨H.out,rfl,bel⟩
def BelR (w:World) (n:List Int) (e:Ending) (w':World):Prop:=(¬ ZbL (beN n)∧e=.returned (.tuple #[.agg #[.int .u64 0,.int .u64 0,.int .u64 0,.int .u64 0,.int .u64 0,.int .u64 0],.iface 46 (.int .i64 3)])∧Below w.heap.size w w')∨(∃ es,ZbL (beN n)∧e=.returned (.tuple #[.agg es.toArray,.nilIface])∧U6 es (beN n)∧Below w.heap.size w w')
theorem info_C:(Tryz.prog.info? 5).map (fun i=>(i.zero,i.size,i.bytes))=some (some (.int .u8 0),1,1):=by kernel_rfl
theorem mk_C (n:Nat) (hn:n≤48):∀ w:World,(Instr.makeSlice 22 (.int .i64 (n:Int)) (.int .i64 (n:Int))).run Tryz.prog w=.ok (.slice (some ⟨w.heap.size,0,none⟩) n n) (w.alloc (.cells (u8s (List.replicate n 0)).toArray 5)):=fun w=>by
 have:=run_make_row' 22 5 (.int .u8 0) 1 Tryz.underlying22 info_C rfl .i64 .i64 n (by omega) (by omega) w;rw[Zmk] at this;exact this
theorem Zgh {v:Value} {n:List Int} {w:World} (G:Zex w) (hv:Bs w v n) (b:byt n) (hl:n.length≤64) (hg:48<n.length→QQ≤beN n) :
  Calls Tryz.prog 112 #[v] w (BelR w n):=by
 have HG:Hid (Zex w):=G;have HB:Hid (byt n):=b;have HGr:Hid (48<n.length→QQ≤beN n):=hg;have HV:Hid (Bs w v n):=hv;obtain ⟨ao,cap,rfl,h1,h2,h3⟩:=hv;clear G b hg h1 h2 h3;have R0:=Blk.new w [.int .u64 0,.int .u64 0,.int .u64 0,.int .u64 0,.int .u64 0,.int .u64 0] 29 w.heap.size rfl;have bel:=bal w (.cells #[.int .u64 0,.int .u64 0,.int .u64 0,.int .u64 0,.int .u64 0,.int .u64 0] 29);have hz:=Zgz.out;go_enter Tryz.func112,Tryz.ntmps112;go_upto_region 1 with fail;generalize w.alloc (.cells #[.int .u64 0,.int .u64 0,.int .u64 0,.int .u64 0,.int .u64 0,.int .u64 0] 29)=W at *;clear hz
 by_cases c1:48<n.length
 ·have H:Hid (¬ ZbL (beN n)):=fun h=>by have:=HGr.out c1;have:=h.2;omega
  have g1:(48:Int)<(n.length:Int):=by omega
  obtain⟨tR,hR⟩:=R0;have HR1:Hid _:=hR;clear hR c1;have hz:=Zgz.out;go_wp2_with (first|(refine wpList_store_row rfl 29 _ _ rfl w.heap.size #[.int .u64 0,.int .u64 0,.int .u64 0,.int .u64 0,.int .u64 0,.int .u64 0] rfl rfl tR _ HR1.out (by rw[Zdi];rfl) rfl (by simp[Value.oneCell']) ?_)|fail);exact bodyPost_ret (Zac rfl _ _ w.heap.size tR #[.int .u64 0,.int .u64 0,.int .u64 0,.int .u64 0,.int .u64 0,.int .u64 0] (0,0) _ rfl (setRow_heap _ _ _ _ _ _ HR1.out) Tryz.underlying29 rfl (by rw[Zdi];rfl)) rfl (.inl ⟨H.out,rfl,below_setRow bel (by omega) _⟩)
 have g1:¬ (48:Int)<(n.length:Int):=by omega
 obtain⟨k,hk⟩:∃ k:Nat,k=48-n.length:=⟨_,rfl⟩;have hk48:k≤48:=by omega
 have HKn:Hid (k+n.length=48):=by show _=_;omega
 have g2:IntKind.i64.wrap (48-(n.length:Int))=(k:Int):=by rw[IntKind.wrap_i64];omega
 have mk:=mk_C k hk48;clear hk;obtain ⟨CZ,hCZ⟩:∃ c,(u8s (List.replicate k 0)).toArray=c:=⟨_,rfl⟩;rw[hCZ] at mk;have HCZ:Hid ((u8s (List.replicate k 0)).toArray=CZ):=hCZ;clear hCZ;have HV1:Hid (Bs (W.alloc (.cells CZ 5)) (.slice ao n.length cap) n):=HV.out.later (bel.trans (((Below.refl _ _).alloc (Nat.le_refl _) _).mono bel.size));have own1:(W.alloc (.cells CZ 5)).ownsRow W.heap.size 5 1 (.slice (some ⟨W.heap.size,0,none⟩) k k) k (u8s (List.replicate k 0)):=by rw[← HCZ.out];exact Zcc W _ k W.heap.size (by simp) (Nat.le_refl _) (by unfold maxLen;omega)
 have bel1:=bal W (.cells CZ 5);have hs1:=bel1.size;go_wp2_with (first|(at_builtin;refine Zad (by rfl) _ _ (by rfl) W.heap.size _ k _ (by rfl) own1 _ n (by rfl) HV1.out (by omega) hs1 ?_;intro v8 w8 own8 hgrow hat)|fail);have bel8:=Zag (base:=W.heap.size) bel1 hgrow hs1 (fun g hg=>ZaI own1 hg) (Nat.le_refl _);have R1:=R0.below bel8 R0.lt;have HL8:Hid ((List.replicate k 0++n).length=48):=by show _=_;rw[List.length_append,List.length_replicate];exact HKn.out
 have HB8:Hid (Bs w8 v8 (List.replicate k 0++n)):=by have own9:=own8;rw[show k+n.length=(List.replicate k 0++n).length by simp] at own9;exact Bs.of_own own9
 have HE8:Hid (beN (List.replicate k 0++n)=beN n):=Zij k n;have HY8:Hid (byt (List.replicate k 0++n)):=Zqi k HB.out;have belw:Below w.heap.size w w8:=bel.trans (bel8.mono bel.size);obtain ⟨va,vc,hva⟩:∃ va vc,v8=.slice va (k+n.length) vc:=by obtain ⟨a,c,e,_⟩:=Zbc own8;exact ⟨a,c,e⟩
 subst hva;clear hgrow hat own8 own1 bel1 hs1 bel8 R0 mk;generalize List.replicate k 0++n=P at *
 by_cases c2:ZbL (beN n)
 ·refine (uODec (HG.out.below belw) HB8.out HY8.out HL8.out (by rw[HE8.out];exact c2)).mono ?_
  rintro e w9 ⟨es,rfl,hu,hb⟩;rw[HE8.out] at hu;have HU:Hid (U6 es (beN n)):=hu;have HC2:Hid (ZbL (beN n)):=c2;have HSe:Hid (es.toArray.size=6):=by show _=_;rw[List.size_toArray];exact hu.len
  have HOe:Hid (Zho es):=hu.ones;replace R1:=R1.later hb;replace belw:=Zaa belw hb;clear hb hu c2;obtain ⟨tR,hR⟩:=R1;have HR1:Hid _:=hR;clear hR;go_wp2_with (first|(refine wpList_store_row rfl 29 _ _ rfl w.heap.size es.toArray rfl rfl tR _ HR1.out (by rw[Zdi,HSe.out]) (by rw[HSe.out];rfl) HOe.out ?_)|fail);exact bodyPost_ret (Zac rfl _ _ w.heap.size tR es.toArray (0,0) _ rfl (setRow_heap _ _ _ _ _ _ HR1.out) Tryz.underlying29 rfl (by rw[Zdi,HSe.out])) rfl (.inr ⟨es,HC2.out,rfl,HU.out,below_setRow belw (by omega) _⟩)
 ·refine (Zrq (HG.out.below belw) HB8.out HY8.out HL8.out (Zdy HY8.out) (by rw[HE8.out];exact c2)).mono ?_
  rintro e w9 ⟨rfl,hb⟩;have HC2:Hid (¬ ZbL (beN n)):=c2;replace R1:=R1.later hb;replace belw:=Zaa belw hb;clear hb c2;obtain ⟨tR,hR⟩:=R1;have HR1:Hid _:=hR;clear hR;go_wp2_with (first|(refine wpList_store_row rfl 29 _ _ rfl w.heap.size #[.int .u64 0,.int .u64 0,.int .u64 0,.int .u64 0,.int .u64 0,.int .u64 0] rfl rfl tR _ HR1.out (by rw[Zdi];rfl) rfl (by simp[Value.oneCell']) ?_)|fail);exact bodyPost_ret (Zac rfl _ _ w.heap.size tR #[.int .u64 0,.int .u64 0,.int .u64 0,.int .u64 0,.int .u64 0,.int .u64 0] (0,0) _ rfl (setRow_heap _ _ _ _ _ _ HR1.out) Tryz.underlying29 rfl (by rw[Zdi];rfl)) rfl (.inl ⟨HC2.out,rfl,below_setRow belw (by omega) _⟩)
def Zii (w:World) (B:List Int) (e:Ending) (w':World):Prop:=(∀ c p,Zaq B=.error (c,p)→∃ er:Value,e=.returned (.tuple #[.agg #[.int .u64 0,.int .u64 0,.int .u64 0,.int .u64 0,.int .u64 0,.int .u64 0,.int .u64 0,.int .u64 0,.int .u64 0,.int .u64 0,.int .u64 0,.int .u64 0],er])∧ZdT w' c p er∧Below w.heap.size w w')∧(∀ T,Zaq B=.ok T→(Zdl T=none→e=.returned (.tuple #[.agg #[.int .u64 0,.int .u64 0,.int .u64 0,.int .u64 0,.int .u64 0,.int .u64 0,.int .u64 0,.int .u64 0,.int .u64 0,.int .u64 0,.int .u64 0,.int .u64 0],Zoi 7])∧Below w.heap.size w w')∧(∀ x y,Zdl T=some (x,y)→(¬ (ZbL (beN x)∧ZbL (beN y))→e=.returned (.tuple #[.agg #[.int .u64 0,.int .u64 0,.int .u64 0,.int .u64 0,.int .u64 0,.int .u64 0,.int .u64 0,.int .u64 0,.int .u64 0,.int .u64 0,.int .u64 0,.int .u64 0],Zoi 3])∧Below w.heap.size w w')∧(ZbL (beN x)→ZbL (beN y)→∃ rs ss,e=.returned (.tuple #[.agg (rs++ss).toArray,.nilIface])∧U6 rs (beN x)∧U6 ss (beN y)∧Below w.heap.size w w')))
theorem Zii.bad {w w':World} {B:List Int} {c p:Nat} {er:Value} (h:Zaq B=.error (c,p)) (k:ZdT w' c p er) (bel:Below w.heap.size w w'):Zii w B (.returned (.tuple #[.agg #[.int .u64 0,.int .u64 0,.int .u64 0,.int .u64 0,.int .u64 0,.int .u64 0,.int .u64 0,.int .u64 0,.int .u64 0,.int .u64 0,.int .u64 0,.int .u64 0],er])) w' :=
 ⟨fun c2 p2 h2=>(by rw[h] at h2;cases h2;exact ⟨er,rfl,k,bel⟩),fun T h2=>(by rw[h] at h2;cases h2)⟩
theorem Zii.form {w w':World} {B:List Int} {T:Tl} (h:Zaq B=.ok T) (k:Zdl T=none) (bel:Below w.heap.size w w'):Zii w B (.returned (.tuple #[.agg #[.int .u64 0,.int .u64 0,.int .u64 0,.int .u64 0,.int .u64 0,.int .u64 0,.int .u64 0,.int .u64 0,.int .u64 0,.int .u64 0,.int .u64 0,.int .u64 0],.iface 46 (.int .i64 7)])) w' :=
 ⟨fun c2 p2 h2=>(by rw[h] at h2;cases h2),fun T2 h2=>(by rw[h] at h2;cases h2;exact ⟨fun _=>⟨rfl,bel⟩,fun x y h3=>(by rw[k] at h3;cases h3)⟩)⟩
theorem Zii.range {w w':World} {B:List Int} {T:Tl} {x y:List Int} (h:Zaq B=.ok T) (k:Zdl T=some (x,y)) (hn:¬ (ZbL (beN x)∧ZbL (beN y))) (bel:Below w.heap.size w w'):Zii w B (.returned (.tuple #[.agg #[.int .u64 0,.int .u64 0,.int .u64 0,.int .u64 0,.int .u64 0,.int .u64 0,.int .u64 0,.int .u64 0,.int .u64 0,.int .u64 0,.int .u64 0,.int .u64 0],.iface 46 (.int .i64 3)])) w' :=
 ⟨fun c2 p2 h2=>(by rw[h] at h2;cases h2),fun T2 h2=>(by rw[h] at h2;cases h2;exact ⟨fun h3=>(by rw[k] at h3;cases h3),fun x2 y2 h3=>(by rw[k] at h3;cases h3;exact ⟨fun _=>⟨rfl,bel⟩,fun a b=>absurd ⟨a,b⟩ hn⟩)⟩)⟩
theorem Zii.ok {w w':World} {B:List Int} {T:Tl} {x y:List Int} {rs ss us:List Value} (h:Zaq B=.ok T) (k:Zdl T=some (x,y)) (hr:U6 rs (beN x)) (hs:U6 ss (beN y)) (h1:ZbL (beN x)) (h2:ZbL (beN y)) (hu:rs++ss=us) (bel:Below w.heap.size w w'):Zii w B (.returned (.tuple #[.agg us.toArray,.nilIface])) w' :=
 ⟨fun c2 p2 h2=>(by rw[h] at h2;cases h2),fun T2 h3=>(by rw[h] at h3;cases h3;exact ⟨fun h4=>(by rw[k] at h4;cases h4),fun x2 y2 h4=>(by rw[k] at h4;cases h4;exact ⟨fun hn=>absurd ⟨h1,h2⟩ hn,fun _ _=>⟨rs,ss,by rw[hu],hr,hs,bel⟩⟩)⟩)⟩
theorem ZdT.ne {w:World} {c p:Nat} {er:Value} (h:ZdT w c p er):∀ w:World,(binOp .neq 35 er .nilIface).run Tryz.prog w=.ok (.bool true) w:=fun w=>by
 rcases h with ⟨_,rfl⟩|⟨_,g,rfl,_⟩
 ·kernel_rfl
 ·kernel_rfl
def Zlf (w:World) (gt:Nat) (ks:List Tl) (i:Nat) (X:List Value):Prop:=(∀ j,j<2→∃ a n c,X[j]?=some (.slice a n c))∧∀ j,j<i→∃ k n v,ks[j]?=some k∧ZcK k=some n∧X[j]?=some v∧Bs w v n∧(∀ a m c,v=.slice (some a) m c→0<m→a.block≠gt)∧byt n∧n.length≤64∧(48<n.length→QQ≤beN n)
theorem Zlf.later {w w':World} {gt i:Nat} {ks:List Tl} {X:List Value} (h:Zlf w gt ks i X) (hb:Below w.heap.size w w'):Zlf w' gt ks i X :=
 ⟨h.1,fun j hj=>by obtain ⟨k,n,v,h1,h2,h3,h4,h5⟩:=h.2 j hj;exact ⟨k,n,v,h1,h2,h3,h4.later hb,h5⟩⟩
theorem Zjb {w:World} {v u:Value} {n:List Int} {g k:Nat} (h:Bs w v n) (hg:∀ a m c,v=.slice (some a) m c→0<m→a.block≠g):Bs (w.setCell ⟨g,k,none⟩ u) v n:=by
 obtain⟨ao,cp,e,h1,h2,h3⟩:=h;refine ⟨ao,cp,e,h1,h2,fun h0=>?_⟩;obtain ⟨b,o,e2,hb,hc⟩:=h3 h0;have hne:b≠g:=hg ⟨b,o,none⟩ _ _ (by rw[e,e2]) h0;refine ⟨b,o,e2,by simpa using hb,fun j hj=>?_⟩;rw[World.cell?_setCell_far _ _ _ _ (by exact fun h=>hne h.symm)];exact hc j hj
theorem Zlf.next {w:World} {gt i:Nat} {ks:List Tl} {X:List Value} {k:Tl} {n:List Int} {a:Option Addr} {m c:Nat} (h:Zlf w gt ks i X) (hX:X.length=2) (hi:i<2) (hk:ks[i]?=some k) (hp:ZcK k=some n) (hv:Bs w (.slice a m c) n) (hg:∀ b m' c',Value.slice a m c=.slice (some b) m' c'→0<m'→b.block≠gt) (hb:byt n) (hl:n.length≤64) (hq:48<n.length→QQ≤beN n):Zlf (w.setCell ⟨gt,i,none⟩ (.slice a m c)) gt ks (i+1) (X.set i (.slice a m c)):=by
 refine⟨fun j hj=>?_,fun j hj=>?_⟩
 ·by_cases e:j=i
  ·subst e
   exact⟨_,_,_,List.getElem?_set_self (by omega)⟩
  ·rw[List.getElem?_set_ne (fun h=>e h.symm)]
   exact h.1 j hj
 ·by_cases e:j=i
  ·subst e
   exact⟨k,n,_,hk,hp,List.getElem?_set_self (by omega),Zjb hv hg,hg,hb,hl,hq⟩
  ·rw[List.getElem?_set_ne (fun h=>e h.symm)]
   obtain⟨k',n',v,h1,h2,h3,h4,h5,h6⟩:=h.2 j (by omega);exact ⟨k',n',v,h1,h2,h3,Zjb h4 h5,h5,h6⟩
theorem Znz {ks:List Tl} {a b:Tl} (h:ks.length=2) (ha:ks[0]?=some a) (hb:ks[1]?=some b):ks=[a,b]:=by
 match ks,h,ha,hb with
 | [x,y],_,ha,hb =>
  simp at ha hb;rw[ha,hb]
theorem Zny {X:List Value} {a b:Value} (h:X.length=2) (ha:X[0]?=some a) (hb:X[1]?=some b):X=[a,b]:=by
 match X,h,ha,hb with
 | [x,y],_,ha,hb =>
  simp at ha hb;rw[ha,hb]
theorem ZnP:Hid (∀ w:World,(zeroValue 180).run Tryz.prog w=.ok (.agg #[.slice none 0 0,.slice none 0 0]) w):=fun w=>by kernel_rfl
theorem er_row {w:World} {c p g:Nat} {er:Value} {cs:Array Value} (h:ZdT w c p er) (hg:∀ k,er=.iface 99 (.pointer (some ⟨k,0,none⟩))→k≠g):ZdT (w.setRow g cs) c p er:=by
 rcases h with h|⟨h,k,rfl,B⟩
 ·exact .inl h
 ·exact .inr ⟨h,k,rfl,B.row (hg k rfl)⟩
theorem Zkc {v:Value} {B:List Int} {w:World} (G:Zex w) (hv:Bs w v B) (b:byt B) :
  Calls Tryz.prog 78 #[v] w (Zii w B):=by
 have HG:Hid (Zex w):=G;have HB:Hid (byt B):=b;have HV:Hid (Bs w v B):=hv;obtain ⟨ao,cap,rfl,h1,h2,h3⟩:=hv;clear G b h1 h2 h3;have R0:=Blk.new w [.int .u64 0,.int .u64 0,.int .u64 0,.int .u64 0,.int .u64 0,.int .u64 0,.int .u64 0,.int .u64 0,.int .u64 0,.int .u64 0,.int .u64 0,.int .u64 0] 31 w.heap.size rfl;have bel:=bal w (.cells #[.int .u64 0,.int .u64 0,.int .u64 0,.int .u64 0,.int .u64 0,.int .u64 0,.int .u64 0,.int .u64 0,.int .u64 0,.int .u64 0,.int .u64 0,.int .u64 0] 31);have hz:=Zf2.out;go_enter Tryz.func78,Tryz.ntmps78;go_upto_region 1 with fail;generalize w.alloc (.cells #[.int .u64 0,.int .u64 0,.int .u64 0,.int .u64 0,.int .u64 0,.int .u64 0,.int .u64 0,.int .u64 0,.int .u64 0,.int .u64 0,.int .u64 0,.int .u64 0] 31)=W at *;clear hz;go_wp2_with fail;refine (ZfB (HV.out.later bel) HB.out).mono ?_;rintro e w1 ⟨hok,hbad⟩
 cases hp:Zaq B with
 | error q =>
  obtain⟨c,p⟩:=q;have R0w:=R0;obtain ⟨cs,er,rfl,htl,her,hfr,hb⟩:=hbad c p hp;have HP:Hid (Zaq B=.error (c,p)):=hp;clear hok hbad hp;have HS5:Hid (cs.toArray.size=5):=by show _=_;rw[List.size_toArray];exact htl.five
  have HO5:Hid (Zca cs):=htl.ones;have HL5:Hid (cs.length=5):=htl.five;replace R0:=(R0.later hb).alloc (.cells cs.toArray 53);replace bel:=Zah (o:=.cells cs.toArray 53) (Zaa bel hb);have HEr:Hid (ZdT (w1.alloc (.cells cs.toArray 53)) c p er):=her.later ((Below.refl _ _).alloc (Nat.le_refl _) _);have q3:=her.ne;have HEl:Hid (∀ g,er=.iface 99 (.pointer (some ⟨g,0,none⟩))→g≠w.heap.size):=fun g hg=>by have:=hfr g hg;have:=R0w.lt;omega
  clear her htl hb hfr R0w;have hz:=Zaj.out;go_upto_region 2 with (first|(refine wpList_store_row rfl 53 _ _ rfl w1.heap.size cs.toArray rfl rfl 53 _ (heap_alloc_last _ _) (by rw[Zae,HS5.out]) (by rw[HS5.out];rfl) HO5.out ?_;rw[World.setRow_alloc_new])|fail);clear hz;generalize w1.alloc (.cells cs.toArray 53)=V1 at *;have lR:=R0.lt;obtain ⟨ty,pv,hev⟩:∃ ty pv,er=.iface ty pv:=by rcases HEr.out with ⟨_,h⟩|⟨_,g,h,_⟩;exact ⟨_,_,h⟩;exact ⟨_,_,h⟩
  subst hev;have HEz:Hid (ZdT (V1.setRow w.heap.size #[.int .u64 0,.int .u64 0,.int .u64 0,.int .u64 0,.int .u64 0,.int .u64 0,.int .u64 0,.int .u64 0,.int .u64 0,.int .u64 0,.int .u64 0,.int .u64 0]) c p (.iface ty pv)):=er_row HEr.out HEl.out;obtain ⟨tR,hR⟩:=R0;have HR1:Hid _:=hR;clear hR;have hz:=Zf2.out;go_wp2_with (first|(refine wpList_store_row rfl 31 _ _ rfl (w.heap.size) #[.int .u64 0,.int .u64 0,.int .u64 0,.int .u64 0,.int .u64 0,.int .u64 0,.int .u64 0,.int .u64 0,.int .u64 0,.int .u64 0,.int .u64 0,.int .u64 0] rfl rfl tR _ HR1.out (by rw[ZcF];rfl) rfl (by simp[Value.oneCell']) ?_)|fail);refine bodyPost_ret (Zac rfl _ _ (w.heap.size) tR #[.int .u64 0,.int .u64 0,.int .u64 0,.int .u64 0,.int .u64 0,.int .u64 0,.int .u64 0,.int .u64 0,.int .u64 0,.int .u64 0,.int .u64 0,.int .u64 0] (0,0) _ rfl (setRow_heap _ _ _ _ _ _ HR1.out) Tryz.underlying31 rfl (by rw[ZcF];rfl)) rfl ?_;exact Zii.bad HP.out HEz.out (below_setRow bel (by omega) _)
 | ok T =>
 obtain⟨cs,rfl,hdep,hb⟩:=hok T hp;have R0w:=R0;have HP:Hid (Zaq B=.ok T):=hp;have HPo:Hid _:=Zg3 HB.out hp;clear hok hbad hp;obtain ⟨c,t,m,bb,ks⟩:=T;have htl:=hdep.now;have HS5:Hid (cs.toArray.size=5):=by show _=_;rw[List.size_toArray];exact htl.five
 have HO5:Hid (Zca cs):=htl.ones;have HL5:Hid (cs.length=5):=htl.five;have HT1:Hid (Zav w1 (.mk c t m bb ks) cs):=htl;have hcs:=htl;rw[Zav] at hcs;obtain ⟨bv,ka,kc,hcs,-,-,-,hkids⟩:=hcs;have HKd:Hid (0<ks.length→∃ g o,ka=some ⟨g,o,none⟩∧Zap w1 ks g o):=hkids;have HC4:Hid (cs[4]?=some (.slice ka ks.length kc)):=by show _=_;rw[hcs];rfl
 replace R0:=(R0.later hb).alloc (.cells cs.toArray 53);replace bel:=Zah (o:=.cells cs.toArray 53) (Zaa bel hb);have KB:=Blk.new w1 cs 53 w1.heap.size rfl;have st:=bal w1 (.cells cs.toArray 53);have HRw:Hid (w.heap.size<w1.heap.size):=by show _<_;have:=(R0w.later hb).lt;exact this
 clear hdep htl hcs hkids hb R0w;have hz:=Zaj.out;go_upto_region 2 with (first|(refine wpList_store_row rfl 53 _ _ rfl w1.heap.size cs.toArray rfl rfl 53 _ (heap_alloc_last _ _) (by rw[Zae,HS5.out]) (by rw[HS5.out];rfl) HO5.out ?_;rw[World.setRow_alloc_new])|fail);clear hz;obtain ⟨gk,hgk⟩:∃ g,g=w1.heap.size:=⟨_,rfl⟩;have HGk:Hid (gk=w1.heap.size):=hgk;rw[← hgk] at KB;generalize w1.alloc (.cells cs.toArray 53)=V1 at *;rw[← hgk];clear hgk;have q3:=ZfO;have lk:=KB.lt;go_wp2_with (first|(refine Zab (by rfl) (by rfl) (by rfl) (KB.load Tryz.underlying53 rfl Zae HL5.out) ?_)|fail);refine (ZlC (HT1.out.later st)).mono ?_;rintro e w2 ⟨rfl,hb⟩;replace R0:=R0.later hb;replace KB:=KB.later hb;replace bel:=Zaa bel hb;replace st:=Zar st hb;clear hb;clear lk q3;have lk:=KB.lt;have e4:=KB.cell 4 _ HC4.out
 by_cases c1:c=0∧t=16∧m=true
 rotate_left
 ·have HN:Hid (Zdl (.mk c t m bb ks)=none):=Zib (fun h=>c1 h.1)
  rw[decide_eq_false c1];clear c1;obtain ⟨tR,hR⟩:=R0;have HR1:Hid _:=hR;clear hR;have hz:=Zf2.out;go_wp2_with (first|(refine wpList_store_row rfl 31 _ _ rfl (w.heap.size) #[.int .u64 0,.int .u64 0,.int .u64 0,.int .u64 0,.int .u64 0,.int .u64 0,.int .u64 0,.int .u64 0,.int .u64 0,.int .u64 0,.int .u64 0,.int .u64 0] rfl rfl tR _ HR1.out (by rw[ZcF];rfl) rfl (by simp[Value.oneCell']) ?_)|fail);refine bodyPost_ret (Zac rfl _ _ (w.heap.size) tR #[.int .u64 0,.int .u64 0,.int .u64 0,.int .u64 0,.int .u64 0,.int .u64 0,.int .u64 0,.int .u64 0,.int .u64 0,.int .u64 0,.int .u64 0,.int .u64 0] (0,0) _ rfl (setRow_heap _ _ _ _ _ _ HR1.out) Tryz.underlying31 rfl (by rw[ZcF];rfl)) rfl ?_;exact Zii.form HP.out HN.out (below_setRow bel (by omega) _)
 rw[decide_eq_true c1];obtain ⟨rfl,rfl,rfl⟩:=c1
 by_cases c2:ks.length=2
 rotate_left
 ·have HN:Hid (Zdl (.mk 0 16 true bb ks)=none):=Zib (fun h=>c2 h.2)
  have g1:((ks.length:Int) == 2)=false:=by rw[beq_eq_false_iff_ne];omega
  have g2:((ks.length:Int) != 2)=true:=by rw[bne,g1];rfl
  clear c2;obtain ⟨tR,hR⟩:=R0;have HR1:Hid _:=hR;clear hR;have hz:=Zf2.out;go_wp2_with (first|(refine wpList_store_row rfl 31 _ _ rfl (w.heap.size) #[.int .u64 0,.int .u64 0,.int .u64 0,.int .u64 0,.int .u64 0,.int .u64 0,.int .u64 0,.int .u64 0,.int .u64 0,.int .u64 0,.int .u64 0,.int .u64 0] rfl rfl tR _ HR1.out (by rw[ZcF];rfl) rfl (by simp[Value.oneCell']) ?_)|fail);refine bodyPost_ret (Zac rfl _ _ (w.heap.size) tR #[.int .u64 0,.int .u64 0,.int .u64 0,.int .u64 0,.int .u64 0,.int .u64 0,.int .u64 0,.int .u64 0,.int .u64 0,.int .u64 0,.int .u64 0,.int .u64 0] (0,0) _ rfl (setRow_heap _ _ _ _ _ _ HR1.out) Tryz.underlying31 rfl (by rw[ZcF];rfl)) rfl ?_;exact Zii.form HP.out HN.out (below_setRow bel (by omega) _)
 have HK2:Hid (ks.length=2):=c2;clear c2;obtain ⟨kn,hkn⟩:∃ kn,ks.length=kn:=⟨_,rfl⟩;have HKn:Hid (kn=2):=by show _=_;rw[← hkn];exact HK2.out
 rw[hkn] at e4;have g1:((kn:Int) == 2)=true:=by rw[HKn.out];rfl
 have g2:((kn:Int) != 2)=false:=by rw[bne,g1];rfl
 have HC4n:Hid (cs[4]?=some (.slice ka kn kc)):=by show _=_;rw[← hkn];exact HC4.out
 clear hkn HC4;obtain ⟨gkk,gko,hka,hks⟩:=HKd.out (by rw[HK2.out];omega);subst hka;have HKs:Hid (Zap w1 ks gkk gko):=hks;clear hks;have hz:=ZnP.out;have HSt2:Hid (w1.heap.size≤w2.heap.size):=st.size;go_upto_region 7 with fail;clear hz g1 g2;have Bt:=Blk.new w2 [.slice none 0 0,.slice none 0 0] 180 w2.heap.size rfl;replace R0:=R0.alloc (.cells #[.slice none 0 0,.slice none 0 0] 180);replace KB:=KB.alloc (.cells #[.slice none 0 0,.slice none 0 0] 180);replace bel:=Zah (o:=.cells #[.slice none 0 0,.slice none 0 0] 180) bel;replace st:=Zah (o:=.cells #[.slice none 0 0,.slice none 0 0] 180) st;obtain ⟨gt,hgt⟩:∃ g,g=w2.heap.size:=⟨_,rfl⟩;have hgt1:w1.heap.size≤gt:=by rw[hgt];exact HSt2.out
 rw[← hgt] at Bt;clear e4 lk;generalize w2.alloc (.cells #[.slice none 0 0,.slice none 0 0] 180)=V2 at *;rw[← hgt];clear hgt HSt2;have lk:=KB.lt;have e4:=KB.cell 4 _ HC4n.out;have hTold:Zlf V2 gt ks 0 [.slice none 0 0,.slice none 0 0]:=⟨fun j hj=>by match j,hj with|0,_=>exact ⟨_,_,_,rfl⟩|1,_=>exact ⟨_,_,_,rfl⟩|j+2,hj=>omega,fun j hj=>absurd hj (by omega)⟩;have HTo:Hid _:=hTold;clear hTold;go_wp2_with fail;clear e4 lk;go_loopw [34] (fun iv wx=>∃ (i:Nat) (X:List Value),i≤2∧iv=.int .i64 (i:Int)∧X.length=2∧Hid (Zlf wx gt ks i X)∧Blk wx gt X∧Blk wx w.heap.size [.int .u64 0,.int .u64 0,.int .u64 0,.int .u64 0,.int .u64 0,.int .u64 0,.int .u64 0,.int .u64 0,.int .u64 0,.int .u64 0,.int .u64 0,.int .u64 0]∧Below w.heap.size w wx∧Below w1.heap.size w1 wx) (fun iv _=>2-(intOf iv).toNat)
 case atStart=>exact ⟨0,_,by omega,rfl,rfl,HTo,Bt,R0,bel,st⟩
 case round =>
  clear R0 KB Bt bel st HTo;obtain ⟨i,X,hi,rfl,hX,HTo,Bt,R0,bel,st⟩:=hrel
  by_cases hil:i<2
  ·have g1:(i:Int)<(kn:Int):=by rw[HKn.out];omega
   have g2:(0:Int)≤(i:Int):=by omega
   have g3:(i:Int)<2:=by omega
   have gi:IntKind.i64.wrap ((i:Int)+1)=(i:Int)+1:=by rw[IntKind.wrap_i64];omega
   obtain⟨k,hkk⟩:=ZbI (show i<ks.length by rw[HK2.out];exact hil);obtain ⟨cs5,hcs,hkt⟩:=HKs.out.get hkk;replace hcs:=hcs.later st;replace hkt:=hkt.later st;have hld:=Zat hcs hkt.five;have hld2:=hld;rw[Nat.mul_comm 5 i] at hld2;have hz:=Zaj.out;have HS6:Hid (cs5.toArray.size=5):=by show _=_;rw[List.size_toArray];exact hkt.five
   have HO6:Hid (Zca cs5):=hkt.ones;have HL6:Hid (cs5.length=5):=hkt.five;have KB:=Blk.new wr cs5 53 wr.heap.size rfl;replace R0:=R0.alloc (.cells cs5.toArray 53);replace Bt:=Bt.alloc (.cells cs5.toArray 53);replace bel:=Zah (o:=.cells cs5.toArray 53) bel;replace st:=Zah (o:=.cells cs5.toArray 53) st;replace HTo:Hid (Zlf (wr.alloc (.cells cs5.toArray 53)) gt ks i X):=HTo.out.later ((Below.refl _ _).alloc (Nat.le_refl _) _);replace hkt:=hkt.later ((Below.refl _ _).alloc (Nat.le_refl _) (.cells cs5.toArray 53));go_upto_region 10 with (first|(refine Zab (by rfl) (by rfl) (by rfl) hld ?_)|(refine Zab (by rfl) (by rfl) (by rfl) hld2 ?_)|(refine wpList_store_row rfl 53 _ _ rfl wr.heap.size cs5.toArray rfl rfl 53 _ (heap_alloc_last _ _) (by rw[Zae,HS6.out]) (by rw[HS6.out];rfl) HO6.out ?_;rw[World.setRow_alloc_new])|fail);clear hz hld hld2 hcs;obtain ⟨g9,hg9⟩:∃ g9,g9=wr.heap.size:=⟨_,rfl⟩;rw[← hg9] at KB;generalize wr.alloc (.cells cs5.toArray 53)=V5 at *;rw[← hg9];clear hg9;have lk:=KB.lt;have HKK:Hid (ks[i]?=some k):=hkk;clear hkk;obtain ⟨kc0,kt0,km0,kb0,kl0⟩:=k;obtain ⟨hB0,hL0⟩:=ZkB HPo.out.2.2.2.1 (by rw[HPo.out.1];exact HPo.out.2.2.2.2) HK2.out HKK.out;go_wp2_with (first|(refine Zab (by rfl) (by rfl) (by rfl) (KB.load Tryz.underlying53 rfl Zae HL6.out) ?_)|fail);refine (Zhv hkt hB0 hL0).mono ?_;rintro e w6 hN;clear hkt hB0 hL0 lk;rcases hN with ⟨nn,v1,hpn,rfl,hbn,hnw,hyn,hln,hgn,hb⟩|⟨hpn,rfl,hb⟩
   ·have HBn:Hid (Bs w6 v1 nn):=hbn
    have HTo6:Hid (Zlf w6 gt ks i X):=HTo.out.later hb;have HNg:Hid (∀ b m' c',v1=.slice (some b) m' c'→0<m'→b.block≠gt):=fun b m' c' e h0=>by have:=hnw b m' c' e h0;have:=Bt.lt;omega
    obtain⟨na,nc,rfl,-,-,-⟩:=hbn;have HTn:Hid (Zlf (w6.setCell ⟨gt,i,none⟩ (.slice na nn.length nc)) gt ks (i+1) (X.set i (.slice na nn.length nc))):=HTo6.out.next hX hil HKK.out hpn HBn.out HNg.out hyn hln hgn;obtain ⟨oa,on,oc,hox⟩:=HTo6.out.1 i hil;replace Bt:=Bt.later hb;replace R0:=R0.later hb;replace bel:=Zaa bel hb;replace st:=Zar st hb;have rd:=RdB.cell (k:=i) Bt (.slice na nn.length nc);have x2:=Bt.cell i _ hox;have fz:=Bt.frozen i;have lt:=Bt.lt;have q3:=ZfO;have HRn:Hid (w.heap.size≠gt):=by show _≠_;have:=HRw.out;omega
    clear hb hox hpn hyn hln hgn hnw HTo HTo6 HNg KB;have R1:=rd.2.1 _ _ HRn.out R0;have bel1:=rd.2.2.1 _ _ (by have:=HRw.out;omega) bel;have st1:=rd.2.2.1 _ _ hgt1 st;have Bt1:=rd.1;have HLx:Hid ((X.set i (Value.slice na nn.length nc)).length=2):=by show _=_;rw[List.length_set];exact hX
    clear rd;go_wp2_with fail;go_roundw
    case rel=>exact ⟨i+1,_,by omega,by go_num,HLx.out,HTn,Bt1,R1,bel1,st1⟩
    case measure=>simp[intOf];omega
   ·have HN:Hid (Zdl (.mk 0 16 true bb ks)=none):=Zrb HKK.out hpn
    obtain⟨oa,on,oc,hox⟩:=HTo.out.1 i hil;replace Bt:=Bt.later hb;replace R0:=R0.later hb;replace bel:=Zaa bel hb;have rd:=RdB.cell (k:=i) Bt (.slice none 0 0);have x2:=Bt.cell i _ hox;have fz:=Bt.frozen i;have lt:=Bt.lt;have HRn:Hid (w.heap.size≠gt):=by show _≠_;have:=HRw.out;omega
    have R1:=rd.2.1 _ _ HRn.out R0;have bel1:=rd.2.2.1 _ _ (by have:=HRw.out;omega) bel;clear hb hox hpn HTo KB rd;go_upto_region 11 with fail;clear x2 fz lt R0 bel Bt st;generalize World.setCell w6 _ _=V6 at *;have q3:=Zfj;obtain ⟨tR,hR⟩:=R1;have HR1:Hid _:=hR;clear hR;have hz:=Zf2.out;go_wp2_with (first|(refine wpList_store_row rfl 31 _ _ rfl (w.heap.size) #[.int .u64 0,.int .u64 0,.int .u64 0,.int .u64 0,.int .u64 0,.int .u64 0,.int .u64 0,.int .u64 0,.int .u64 0,.int .u64 0,.int .u64 0,.int .u64 0] rfl rfl tR _ HR1.out (by rw[ZcF];rfl) rfl (by simp[Value.oneCell']) ?_)|fail);refine bodyPost_ret (Zac rfl _ _ (w.heap.size) tR #[.int .u64 0,.int .u64 0,.int .u64 0,.int .u64 0,.int .u64 0,.int .u64 0,.int .u64 0,.int .u64 0,.int .u64 0,.int .u64 0,.int .u64 0,.int .u64 0] (0,0) _ rfl (setRow_heap _ _ _ _ _ _ HR1.out) Tryz.underlying31 rfl (by rw[ZcF];rfl)) rfl ?_;exact Zii.form HP.out HN.out (below_setRow bel1 (by omega) _)
  ·obtain rfl:i=2:=by omega
   have g1:¬ ((2:Nat):Int)<(kn:Int):=by rw[HKn.out];omega
   obtain⟨k0,n0,v0,h01,h02,h03,h04,-,h05,h06,h07⟩:=HTo.out.2 0 (by omega);obtain ⟨k1,n1,v1,h11,h12,h13,h14,-,h15,h16,h17⟩:=HTo.out.2 1 (by omega);have hks2:=Znz HK2.out h01 h11;have HSg:Hid (Zdl (.mk 0 16 true bb ks)=some (n0,n1)):=by rw[hks2];exact Zng h02 h12
   have hx2:=Zny hX h03 h13;subst hx2;have HB0:Hid (Bs wr v0 n0):=h04;have HB1:Hid (Bs wr v1 n1):=h14;have HG0:Hid _:=And.intro h05 (And.intro h06 h07);have HG1:Hid _:=And.intro h15 (And.intro h16 h17);obtain ⟨a0,c0,rfl,-,-,-⟩:=h04;obtain ⟨a1,c1,rfl,-,-,-⟩:=h14;clear h01 h02 h03 h05 h06 h07 h11 h12 h13 h15 h16 h17 hks2 hX HTo hil st;have x0:=Bt.cell 0 _ rfl;have lt:=Bt.lt;go_wp2_with fail;refine (Zgh (HG.out.below bel) HB0.out HG0.out.1 HG0.out.2.1 HG0.out.2.2).mono ?_;rintro e w7 hL;clear x0 lt;rcases hL with ⟨hn,rfl,hb⟩|⟨es,hsc,rfl,hu,hb⟩
   ·have HN:Hid (¬ (ZbL (beN n0)∧ZbL (beN n1))):=fun h=>hn h.1
    clear hn;replace R0:=R0.later hb;replace bel:=Zaa bel hb;clear hb;obtain ⟨zs,hzs⟩:∃ zs:List Value,[.int .u64 0,.int .u64 0,.int .u64 0,.int .u64 0,.int .u64 0,.int .u64 0]=zs:=⟨_,rfl⟩;have HZs:Hid ([.int .u64 0,.int .u64 0,.int .u64 0,.int .u64 0,.int .u64 0,.int .u64 0]=zs):=hzs;have hza:#[.int .u64 0,.int .u64 0,.int .u64 0,.int .u64 0,.int .u64 0,.int .u64 0]=zs.toArray:=by rw[← hzs]
    rw[hza];clear hza hzs;have HLh:Hid (zs.length=6):=by rw[← HZs.out];rfl
    have HSh:Hid (zs.toArray.size=6):=by show _=_;rw[List.size_toArray];exact HLh.out
    have HOh:Hid (Zho zs):=by rw[← HZs.out];exact U6.zero.ones
    replace R0:=R0.alloc (.cells zs.toArray 29);replace bel:=Zah (o:=.cells zs.toArray 29) bel;have Bh:=Blk.new w7 zs 29 w7.heap.size rfl;have hz:=Zgz.out;go_upto_region 15 with (first|(refine wpList_store_row rfl 29 _ _ rfl w7.heap.size zs.toArray rfl rfl 29 _ (heap_alloc_last _ _) (by rw[Zdi,HSh.out]) (by rw[HSh.out];rfl) HOh.out ?_;rw[World.setRow_alloc_new])|fail);clear hz;obtain ⟨gh,hgh⟩:∃ g,g=w7.heap.size:=⟨_,rfl⟩;rw[← hgh] at Bh;generalize w7.alloc (.cells zs.toArray 29)=Vh at *;rw[← hgh];clear hgh;have q3:=Zfj;obtain ⟨tR,hR⟩:=R0;have HR1:Hid _:=hR;clear hR;have hz:=Zf2.out;go_wp2_with (first|(refine wpList_store_row rfl 31 _ _ rfl (w.heap.size) #[.int .u64 0,.int .u64 0,.int .u64 0,.int .u64 0,.int .u64 0,.int .u64 0,.int .u64 0,.int .u64 0,.int .u64 0,.int .u64 0,.int .u64 0,.int .u64 0] rfl rfl tR _ HR1.out (by rw[ZcF];rfl) rfl (by simp[Value.oneCell']) ?_)|fail);refine bodyPost_ret (Zac rfl _ _ (w.heap.size) tR #[.int .u64 0,.int .u64 0,.int .u64 0,.int .u64 0,.int .u64 0,.int .u64 0,.int .u64 0,.int .u64 0,.int .u64 0,.int .u64 0,.int .u64 0,.int .u64 0] (0,0) _ rfl (setRow_heap _ _ _ _ _ _ HR1.out) Tryz.underlying31 rfl (by rw[ZcF];rfl)) rfl ?_;exact Zii.range HP.out HSg.out HN.out (below_setRow bel (by omega) _)
   have HU0:Hid (U6 es (beN n0)):=hu;have HSc0:Hid (ZbL (beN n0)):=hsc;have HB1w:Hid (Bs w7 (.slice a1 n1.length c1) n1):=HB1.out.later hb;replace R0:=R0.later hb;replace Bt:=Bt.later hb;replace bel:=Zaa bel hb;clear hb;clear hu hsc HB1;have HB1a:Hid (Bs (w7.alloc (.cells es.toArray 29)) (.slice a1 n1.length c1) n1):=HB1w.out.later ((Below.refl _ _).alloc (Nat.le_refl _) _);clear HB1w;have HLr:Hid (es.length=6):=HU0.out.len;have HSr:Hid (es.toArray.size=6):=by show _=_;rw[List.size_toArray];exact HLr.out
   have HOr:Hid (Zho es):=HU0.out.ones;replace R0:=R0.alloc (.cells es.toArray 29);replace Bt:=Bt.alloc (.cells es.toArray 29);replace bel:=Zah (o:=.cells es.toArray 29) bel;have Br:=Blk.new w7 es 29 w7.heap.size rfl;have hz:=Zgz.out;go_upto_region 15 with (first|(refine wpList_store_row rfl 29 _ _ rfl w7.heap.size es.toArray rfl rfl 29 _ (heap_alloc_last _ _) (by rw[Zdi,HSr.out]) (by rw[HSr.out];rfl) HOr.out ?_;rw[World.setRow_alloc_new])|fail);clear hz;obtain ⟨gr,hgr⟩:∃ g,g=w7.heap.size:=⟨_,rfl⟩;rw[← hgr] at Br;generalize w7.alloc (.cells es.toArray 29)=Vr at *;rw[← hgr];clear hgr;have q3:=ZfO;have x1:=Bt.cell 1 _ rfl;have lt:=Bt.lt;go_wp2_with fail;refine (Zgh (HG.out.below bel) HB1a.out HG1.out.1 HG1.out.2.1 HG1.out.2.2).mono ?_;rintro e w8 hL;clear x1 lt q3;rcases hL with ⟨hn,rfl,hb⟩|⟨fs,hsc,rfl,hu,hb⟩
   ·have HN:Hid (¬ (ZbL (beN n0)∧ZbL (beN n1))):=fun h=>hn h.2
    clear hn;replace R0:=R0.later hb;replace bel:=Zaa bel hb;clear hb;obtain ⟨zs,hzs⟩:∃ zs:List Value,[.int .u64 0,.int .u64 0,.int .u64 0,.int .u64 0,.int .u64 0,.int .u64 0]=zs:=⟨_,rfl⟩;have HZs:Hid ([.int .u64 0,.int .u64 0,.int .u64 0,.int .u64 0,.int .u64 0,.int .u64 0]=zs):=hzs;have hza:#[.int .u64 0,.int .u64 0,.int .u64 0,.int .u64 0,.int .u64 0,.int .u64 0]=zs.toArray:=by rw[← hzs]
    rw[hza];clear hza hzs;have HLh:Hid (zs.length=6):=by rw[← HZs.out];rfl
    have HSh:Hid (zs.toArray.size=6):=by show _=_;rw[List.size_toArray];exact HLh.out
    have HOh:Hid (Zho zs):=by rw[← HZs.out];exact U6.zero.ones
    replace R0:=R0.alloc (.cells zs.toArray 29);replace bel:=Zah (o:=.cells zs.toArray 29) bel;have Bh:=Blk.new w8 zs 29 w8.heap.size rfl;have hz:=Zgz.out;go_upto_region 18 with (first|(refine wpList_store_row rfl 29 _ _ rfl w8.heap.size zs.toArray rfl rfl 29 _ (heap_alloc_last _ _) (by rw[Zdi,HSh.out]) (by rw[HSh.out];rfl) HOh.out ?_;rw[World.setRow_alloc_new])|fail);clear hz;obtain ⟨gh,hgh⟩:∃ g,g=w8.heap.size:=⟨_,rfl⟩;rw[← hgh] at Bh;generalize w8.alloc (.cells zs.toArray 29)=Vh at *;rw[← hgh];clear hgh;have q3:=Zfj;obtain ⟨tR,hR⟩:=R0;have HR1:Hid _:=hR;clear hR;have hz:=Zf2.out;go_wp2_with (first|(refine wpList_store_row rfl 31 _ _ rfl (w.heap.size) #[.int .u64 0,.int .u64 0,.int .u64 0,.int .u64 0,.int .u64 0,.int .u64 0,.int .u64 0,.int .u64 0,.int .u64 0,.int .u64 0,.int .u64 0,.int .u64 0] rfl rfl tR _ HR1.out (by rw[ZcF];rfl) rfl (by simp[Value.oneCell']) ?_)|fail);refine bodyPost_ret (Zac rfl _ _ (w.heap.size) tR #[.int .u64 0,.int .u64 0,.int .u64 0,.int .u64 0,.int .u64 0,.int .u64 0,.int .u64 0,.int .u64 0,.int .u64 0,.int .u64 0,.int .u64 0,.int .u64 0] (0,0) _ rfl (setRow_heap _ _ _ _ _ _ HR1.out) Tryz.underlying31 rfl (by rw[ZcF];rfl)) rfl ?_;exact Zii.range HP.out HSg.out HN.out (below_setRow bel (by omega) _)
   have HU1:Hid (U6 fs (beN n1)):=hu;have HSc1:Hid (ZbL (beN n1)):=hsc;replace R0:=R0.later hb;replace Br:=Br.later hb;replace bel:=Zaa bel hb;clear hb;clear hu hsc Bt HB1a;have HLs:Hid (fs.length=6):=HU1.out.len;have HSs:Hid (fs.toArray.size=6):=by show _=_;rw[List.size_toArray];exact HLs.out
   have HOs:Hid (Zho fs):=HU1.out.ones;replace R0:=R0.alloc (.cells fs.toArray 29);replace Br:=Br.alloc (.cells fs.toArray 29);replace bel:=Zah (o:=.cells fs.toArray 29) bel;have BsB:=Blk.new w8 fs 29 w8.heap.size rfl;have hz:=Zgz.out;go_upto_region 18 with (first|(refine wpList_store_row rfl 29 _ _ rfl w8.heap.size fs.toArray rfl rfl 29 _ (heap_alloc_last _ _) (by rw[Zdi,HSs.out]) (by rw[HSs.out];rfl) HOs.out ?_;rw[World.setRow_alloc_new])|fail);clear hz;obtain ⟨gs,hgs⟩:∃ g,g=w8.heap.size:=⟨_,rfl⟩;rw[← hgs] at BsB;generalize w8.alloc (.cells fs.toArray 29)=Vs at *;rw[← hgs];clear hgs;have q3:=ZfO;have l4:=Br.lt;have l6:=BsB.lt;have q7:=Zhq HU0.out HU1.out;have hu2:∃ us,es++fs=us:=⟨_,rfl⟩;obtain ⟨us2,hus⟩:=hu2;have HUs:Hid (es++fs=us2):=hus;have HSu:Hid (us2.toArray.size=12):=by show _=_;rw[List.size_toArray,← hus,List.length_append,HU0.out.len,HU1.out.len]
   have HOu:Hid (Zho us2):=by rw[← hus];exact HU0.out.ones.app HU1.out.ones
   rw[hus] at q7;clear hus;obtain ⟨tR,hR⟩:=R0;have HR1:Hid _:=hR;clear hR;go_wp2_with (first|(refine Zco (by rfl) (by rfl) (by rfl) (v:=.agg us2.toArray) (q7 _) ?_)|(refine wpList_store_row rfl 31 _ _ rfl w.heap.size us2.toArray rfl rfl tR _ HR1.out (by rw[ZcF,HSu.out]) (by rw[HSu.out];rfl) HOu.out ?_)|(refine Zab (by rfl) (by rfl) (by rfl) (Br.load Tryz.underlying29 rfl Zdi HLr.out) ?_)|(refine Zab (by rfl) (by rfl) (by rfl) (BsB.load Tryz.underlying29 rfl Zdi HLs.out) ?_)|fail);refine bodyPost_ret (Zac rfl _ _ w.heap.size tR us2.toArray (0,0) _ rfl (setRow_heap _ _ _ _ _ _ HR1.out) Tryz.underlying31 rfl (by rw[ZcF,HSu.out])) rfl ?_;exact Zii.ok HP.out HSg.out HU0.out HU1.out HSc0.out HSc1.out HUs.out (below_setRow bel (by omega) _)
theorem Zkn {v:Value} {B:List Int} {w:World} (G:Zex w) (hv:Bs w v B) (b:byt B) :
  Calls Tryz.prog 78 #[v] w fun e w'=>(∀ c p,Zaq B=.error (c,p)→∃ er:Value,e=.returned (.tuple #[.agg #[.int .u64 0,.int .u64 0,.int .u64 0,.int .u64 0,.int .u64 0,.int .u64 0,.int .u64 0,.int .u64 0,.int .u64 0,.int .u64 0,.int .u64 0,.int .u64 0],er])∧ZdT w' c p er∧Below w.heap.size w w')∧(∀ T,Zaq B=.ok T→(Zdl T=none→e=.returned (.tuple #[.agg #[.int .u64 0,.int .u64 0,.int .u64 0,.int .u64 0,.int .u64 0,.int .u64 0,.int .u64 0,.int .u64 0,.int .u64 0,.int .u64 0,.int .u64 0,.int .u64 0],Zoi 7])∧Below w.heap.size w w')∧(∀ x y,Zdl T=some (x,y)→(¬ (ZbL (beN x)∧ZbL (beN y))→e=.returned (.tuple #[.agg #[.int .u64 0,.int .u64 0,.int .u64 0,.int .u64 0,.int .u64 0,.int .u64 0,.int .u64 0,.int .u64 0,.int .u64 0,.int .u64 0,.int .u64 0,.int .u64 0],Zoi 3])∧Below w.heap.size w w')∧(ZbL (beN x)→ZbL (beN y)→∃ rs ss,e=.returned (.tuple #[.agg (rs++ss).toArray,.nilIface])∧U6 rs (beN x)∧U6 ss (beN y)∧Below w.heap.size w w'))):=(Zkc G hv b).mono (fun _ _ h=>h)
end Go.Proofs.YtohcdbifhnfcbaaGreatDoor
