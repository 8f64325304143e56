import Derived.Test.YtohcdbifhnfcbaaGreatDoorDrTG
import Derived.Test.YtohcdbifhnfcbaaGreatDoorPmNG
import Derived.Test.YtohcdbifhnfcbaaGreatDoorDrDG
import Derived.Test.YtohcdbifhnfcbaaGreatDoorNlSG
import Derived.Test.YtohcdbifhnfcbaaGreatDoorRows
import Derived.Deep.OwnRows
import Derived.Deep.AppendLies
import Derived.Great.BuildSlice
import Derived.Deep.WholeRow
import Derived.Deep.RegionHeld3
import Derived.Deep.DeepCutAuto
import Derived.Deep.DeepFit
namespace Go.Proofs.YtohcdbifhnfcbaaGreatDoor
open Go.RowKit
set_option linter.unusedSimpArgs false
set_option maxRecDepth 100000
set_option maxHeartbeats 4000000
mutual
def SmT:Tl→Prop
 | .mk _ _ _ b ks=>b.length≤140737488355328∧SmL ks
def SmL:List Tl→Prop
 | []=>True
 | k::ks=>SmT k∧SmL ks
end
theorem SmL.get:∀ {ks:List Tl} {i:Nat} {k:Tl},SmL ks→ks[i]?=some k→SmT k
 | [],i,k,_,h=>by simp at h
 | x::xs,0,k,h,e=>by
  rw[SmL] at h;simp at e;subst e;exact h.1
 | x::xs,i+1,k,h,e=>by
  rw[SmL] at h;rw[List.getElem?_cons_succ] at e;exact SmL.get h.2 e
mutual
theorem Zgx:∀ {T:Tl},(Zak T).length≤1099511627776→SmT T
 | .mk c t m b ks,h=>by
  rw[ZaL,List.length_append] at h;rw[SmT];exact ⟨by omega,Zgw (by omega)⟩
theorem Zgw:∀ {ks:List Tl},(Zal ks).length≤1099511627776→SmL ks
 | [],_=>by rw[SmL];trivial
 | k::ks,h=>by
  rw[Zal,List.length_append] at h;rw[SmL];exact ⟨Zgx (by omega),Zgw (by omega)⟩
end
theorem Zfe:∀ {ks:List Tl} {i:Nat} {k:Tl},ks[i]?=some k→Zct k≤Zb7 ks
 | [],i,k,h=>by simp at h
 | x::xs,0,k,h=>by
  simp at h;subst h;rw[Zb7];omega
 | x::xs,i+1,k,h=>by
  rw[List.getElem?_cons_succ] at h;have:=Zfe h;rw[Zb7];omega
def ZeS (n l:Nat):Prop:=l≤8∧(n<128→l=0)∧(128≤n→n<256→l=1)∧(256≤n→n<65536→l=2)∧(65536≤n→n<16777216→l=3)
theorem ZeS.len {n l:Nat} (h:ZeS n l) (hn:n<16777216):(Zbv n).length=1+l:=by
 obtain⟨_,h0,h1,h2,h3⟩:=h;unfold Zbv
 split
 ·rw[h0 (by assumption)];rfl
 ·split
  ·rw[h1 (by omega) (by assumption)];rfl
  ·split
   ·rw[h2 (by omega) (by assumption)];rfl
   ·rw[h3 (by omega) hn];rfl
def Zbs (n l:Nat):Prop:=n<2 ^ l∧(0<n→2 ^ (l-1)≤n)∧l≤64∧(n=0→l=0)
theorem Zbs.long {n l:Nat} (h:Zbs n l) (hn:128≤n):ZeS n ((l+7)/8):=by
 obtain⟨h1,h2,h3,_⟩:=h;have h2:=h2 (by omega);have up:∀ k,n<2 ^ k→l≤k:=fun k hk=>by
  by_cases c:l≤k
  ·exact c
  ·have:=Nat.pow_le_pow_right (n:=2) (by omega) (show k≤l-1 by omega)
   omega
 have dn:∀ k,2 ^ k≤n→k<l:=fun k hk=>by
  by_cases c:k<l
  ·exact c
  ·have:=Nat.pow_le_pow_right (n:=2) (by omega) (show l≤k by omega)
   omega
 refine⟨by omega,fun h=>by omega,fun a b=>?_,fun a b=>?_,fun a b=>?_⟩
 ·have:=up 8 (by simpa using b);have:=dn 7 (by simpa using a);omega
 ·have:=up 16 (by simpa using b);have:=dn 8 (by simpa using a);omega
 ·have:=up 24 (by simpa using b);have:=dn 16 (by simpa using a);omega
def ZcO (T:Tl) (n:Nat):Prop:=((Zak T).length≤1048576→n=(Zak T).length)∧(1048576<(Zak T).length→1048576<n)∧n≤Zct T*281474976710656
theorem ZcO.end {c t:Int} {m:Bool} {b:List Int} {ks:List Tl} {N l:Nat} (hN:b.length+(Zal ks).length=N) (hl:ZeS N l) (hb:N≤140737488355328):ZcO (.mk c t m b ks) (2+l+N):=by
 have e:=ZaL c t m b ks;rw[List.length_append,hN] at e;have hl8:=hl.1;have hB:=Zfh N;refine ⟨fun h=>?_,fun h=>?_,by rw[Zct];omega⟩
 ·rw[e] at h ⊢
  have:=hl.len (by omega);omega
 ·rw[e] at h
  by_cases c:N<16777216
  ·have:=hl.len c
   omega
  ·omega
theorem ZcO.over {c t:Int} {m:Bool} {b:List Int} {ks:List Tl} {i x y:Nat} {k:Tl} (hk:ks[i]?=some k) (hx:x=b.length+(Zal (ks.take i)).length) (hx2:x≤140737488355328) (hy:ZcO k y) (h:1048576<x+y):ZcO (.mk c t m b ks) (x+y):=by
 have e:=ZaL c t m b ks;rw[List.length_append] at e;have hkl:=ZeE hk;have hd:=Zfe hk;obtain ⟨h1,h2,h3⟩:=hy;have h4:Zct k*281474976710656+281474976710656≤(Zb7 ks+1)*281474976710656:=by omega
 refine⟨fun hh=>?_,fun _=>h,by rw[Zct];omega⟩;rw[e] at hh;have:=h1 (by omega);omega
theorem ZcO.next {b:List Int} {ks:List Tl} {i x y:Nat} {k:Tl} (hk:ks[i]?=some k) (hx:x=b.length+(Zal (ks.take i)).length) (hy:ZcO k y) (h:¬ 1048576<x+y):x+y=b.length+(Zal (ks.take (i+1))).length:=by
 rw[Zc6 hk,List.length_append];obtain ⟨h1,h2,_⟩:=hy
 by_cases c:1048576<(Zak k).length
 ·have:=h2 c
  omega
 ·have:=h1 (by omega)
  omega
theorem Zon {ks:List Tl} {i d:Nat} {k:Tl} (h:ks[i]?=some k) (hk:16<Zct k+d):16<Zb7 ks+d:=by
 have:=Zfe h;omega
theorem ZhF:∀ {ks:List Tl} {d:Nat},d≤16→(∀ (i:Nat) (k:Tl),ks[i]?=some k→Zct k+d≤16)→Zb7 ks+d≤16
 | [],d,hd,_=>by rw[Zb7];omega
 | k::ks,d,hd,h=>by
  have h0:=h 0 k rfl;have h1:=ZhF hd (fun i x hx=>h (i+1) x (by rw[List.getElem?_cons_succ];exact hx));rw[Zb7];omega
def Zf4 (y:Nat):Nat:=if y=0 then 0 else Nat.log2 y+1
def Zeo:ByteArray:=⟨((List.range 256).map (fun y=>UInt8.ofNat (Zf4 y))).toArray⟩
theorem ZbV:∀ y:Nat,y<256→Zeo[y]?=some (UInt8.ofNat (Zf4 y)):=by decide +kernel
theorem Zci:∀ y:Nat,y<256→(UInt8.ofNat (Zf4 y)).toNat=Zf4 y:=by decide +kernel
theorem Zch:∀ y:Nat,y<256→Zbs y (Zf4 y):=by unfold Zbs;decide +kernel
theorem Zdu:∀ y:Nat,y<256→Zf4 y≤8:=by decide +kernel
theorem Zbs.shift {x y s l:Nat} (h:x/2 ^ s=y) (hb:Zbs y l) (h0:s=0∨0<y) (hl:s+l≤64):Zbs x (s+l):=by
 obtain⟨b1,b2,b3,b4⟩:=hb;have hp:0<2 ^ s:=Nat.two_pow_pos s;refine ⟨?_,fun hx=>?_,hl,fun hx=>?_⟩
 ·rw[Nat.pow_add,Nat.mul_comm]
  exact(Nat.div_lt_iff_lt_mul hp).1 (by rw[h];exact b1)
 ·rcases h0 with rfl|h0
  ·rw[Nat.pow_zero,Nat.div_one] at h
   subst h;rw[Nat.zero_add];exact b2 hx
  ·have h1:1≤l:=by
    by_cases c:l=0
    ·subst c
     rw[Nat.pow_zero] at b1;omega
    ·omega
   rw[show s+l-1=(l-1)+s by omega,Nat.pow_add];have h2:=b2 h0;rw[← h] at h2;exact (Nat.le_div_iff_mul_le hp).1 h2
 ·subst hx
  rw[Nat.zero_div] at h;have:=b4 h.symm;rcases h0 with h0|h0<;>omega
theorem Zcg {ty:TypeId} {s:ByteArray} {y:Nat} {b:UInt8} {w:World} (hu:Tryz.prog.underlying ty=some .string) (hb:s[y]?=some b):(Instr.index ty (.string s) (.int .u8 (y:Int))).run Tryz.prog w=.ok (.int .u8 (b.toNat:Int)) w:=by
 have h1:=run_underlying hu (w:=w);unfold Instr.index;simp[asIntOf,h1,hb]
theorem ZaS {P:Program} {ops:Array Oper} {rest:List Oper} {o:Oper} {a:Act} {w:World} {Q:Exit→Act→World→Prop} {ty:TypeId} {x i:Operand} {u j v:Value} (hw:Region.wanted o (yielded ops a.tmps)=true) (ho:o.op=.index ty x i) (hx:a.eval x=u) (hi:a.eval i=j) (h:(Instr.index ty u j).run P w=.ok v w)
  (k:wpList P ops Q rest (a.put o.dst v) w):wpList P ops Q (o::rest) a w:=by
 refine wpList_step fun K hK=>?_;simp only[hw,if_true];unfold Oper.wp execOp;simp only[ho,hx,hi,Sem.run_bind,Sem.run_pure,Result.andThen_ok,h];exact hK _ _ k
theorem Zck:Tryz.prog.underlying 9=some .string:=by kernel_rfl
theorem Zlw {x:Nat} {w:World} (hx:x<9223372036854775808) :
  Calls Tryz.prog 162 #[.int .u64 (x:Int)] w fun e w'=>∃ l:Nat,e=.returned (.int .i64 (l:Int))∧Zbs x l∧w'=w:=by
 go_enter Tryz.func162,Tryz.ntmps162
 by_cases c0:4294967296≤x
 ·have g0:(4294967296:Int)≤(x:Int):=by omega
  obtain⟨y0,hy0⟩:∃ z,x/4294967296=z:=⟨_,rfl⟩;have e0:(x:Int)/4294967296=(y0:Int):=by omega
  go_upto_region 4 with fail
  by_cases c1:65536≤y0
  ·have g1:(65536:Int)≤(y0:Int):=by omega
   obtain⟨y1,hy1⟩:∃ z,y0/65536=z:=⟨_,rfl⟩;have e1:(y0:Int)/65536=(y1:Int):=by omega
   have a1:IntKind.i64.wrap (32+16)=48:=by decide
   go_upto_region 7 with fail
   by_cases c2:256≤y1
   ·have g2:(256:Int)≤(y1:Int):=by omega
    obtain⟨y2,hy2⟩:∃ z,y1/256=z:=⟨_,rfl⟩;have e2:(y1:Int)/256=(y2:Int):=by omega
    have a2:IntKind.i64.wrap (48+8)=56:=by decide
    go_upto_region 10 with fail;have hy:y2<256:=by omega
    have k1:=Zdu y2 hy;have k2:=Zch y2 hy;have HT:Hid _:=Zcg (w:=w) Zck (ZbV y2 hy);rw[Zci y2 hy] at HT;have HB:Hid (Zbs x (56+Zf4 y2)):=Zbs.shift (by omega) k2 (.inr (by omega)) (by omega);clear k2;obtain ⟨l,hl⟩:∃ l,Zf4 y2=l:=⟨_,rfl⟩;rw[hl] at k1 HT HB;clear hl;have w1:IntKind.u8.wrap (y2:Int)=(y2:Int):=by rw[IntKind.wrap_u8];omega
    have w2:IntKind.i64.wrap (l:Int)=(l:Int):=by rw[IntKind.wrap_i64];omega
    have w3:IntKind.i64.wrap (56+(l:Int))=((56+l:Nat):Int):=by rw[IntKind.wrap_i64];omega
    go_wp2_with (first|(refine ZaS (by rfl) (by rfl) (u:=.string Zeo) (by kernel_rfl) (by rfl) HT.out ?_)|fail);go_ret;exact ⟨56+l,by first|rfl|go_num,HB.out,rfl⟩
   ·have g2:¬ (256:Int)≤(y1:Int):=by omega
    go_upto_region 10 with fail;have hy:y1<256:=by omega
    have k1:=Zdu y1 hy;have k2:=Zch y1 hy;have HT:Hid _:=Zcg (w:=w) Zck (ZbV y1 hy);rw[Zci y1 hy] at HT;have HB:Hid (Zbs x (48+Zf4 y1)):=Zbs.shift (by omega) k2 (.inr (by omega)) (by omega);clear k2;obtain ⟨l,hl⟩:∃ l,Zf4 y1=l:=⟨_,rfl⟩;rw[hl] at k1 HT HB;clear hl;have w1:IntKind.u8.wrap (y1:Int)=(y1:Int):=by rw[IntKind.wrap_u8];omega
    have w2:IntKind.i64.wrap (l:Int)=(l:Int):=by rw[IntKind.wrap_i64];omega
    have w3:IntKind.i64.wrap (48+(l:Int))=((48+l:Nat):Int):=by rw[IntKind.wrap_i64];omega
    go_wp2_with (first|(refine ZaS (by rfl) (by rfl) (u:=.string Zeo) (by kernel_rfl) (by rfl) HT.out ?_)|fail);go_ret;exact ⟨48+l,by first|rfl|go_num,HB.out,rfl⟩
  ·have g1:¬ (65536:Int)≤(y0:Int):=by omega
   go_upto_region 7 with fail
   by_cases c2:256≤y0
   ·have g2:(256:Int)≤(y0:Int):=by omega
    obtain⟨y2,hy2⟩:∃ z,y0/256=z:=⟨_,rfl⟩;have e2:(y0:Int)/256=(y2:Int):=by omega
    have a2:IntKind.i64.wrap (32+8)=40:=by decide
    go_upto_region 10 with fail;have hy:y2<256:=by omega
    have k1:=Zdu y2 hy;have k2:=Zch y2 hy;have HT:Hid _:=Zcg (w:=w) Zck (ZbV y2 hy);rw[Zci y2 hy] at HT;have HB:Hid (Zbs x (40+Zf4 y2)):=Zbs.shift (by omega) k2 (.inr (by omega)) (by omega);clear k2;obtain ⟨l,hl⟩:∃ l,Zf4 y2=l:=⟨_,rfl⟩;rw[hl] at k1 HT HB;clear hl;have w1:IntKind.u8.wrap (y2:Int)=(y2:Int):=by rw[IntKind.wrap_u8];omega
    have w2:IntKind.i64.wrap (l:Int)=(l:Int):=by rw[IntKind.wrap_i64];omega
    have w3:IntKind.i64.wrap (40+(l:Int))=((40+l:Nat):Int):=by rw[IntKind.wrap_i64];omega
    go_wp2_with (first|(refine ZaS (by rfl) (by rfl) (u:=.string Zeo) (by kernel_rfl) (by rfl) HT.out ?_)|fail);go_ret;exact ⟨40+l,by first|rfl|go_num,HB.out,rfl⟩
   ·have g2:¬ (256:Int)≤(y0:Int):=by omega
    go_upto_region 10 with fail;have hy:y0<256:=by omega
    have k1:=Zdu y0 hy;have k2:=Zch y0 hy;have HT:Hid _:=Zcg (w:=w) Zck (ZbV y0 hy);rw[Zci y0 hy] at HT;have HB:Hid (Zbs x (32+Zf4 y0)):=Zbs.shift (by omega) k2 (.inr (by omega)) (by omega);clear k2;obtain ⟨l,hl⟩:∃ l,Zf4 y0=l:=⟨_,rfl⟩;rw[hl] at k1 HT HB;clear hl;have w1:IntKind.u8.wrap (y0:Int)=(y0:Int):=by rw[IntKind.wrap_u8];omega
    have w2:IntKind.i64.wrap (l:Int)=(l:Int):=by rw[IntKind.wrap_i64];omega
    have w3:IntKind.i64.wrap (32+(l:Int))=((32+l:Nat):Int):=by rw[IntKind.wrap_i64];omega
    go_wp2_with (first|(refine ZaS (by rfl) (by rfl) (u:=.string Zeo) (by kernel_rfl) (by rfl) HT.out ?_)|fail);go_ret;exact ⟨32+l,by first|rfl|go_num,HB.out,rfl⟩
 ·have g0:¬ (4294967296:Int)≤(x:Int):=by omega
  go_upto_region 4 with fail
  by_cases c1:65536≤x
  ·have g1:(65536:Int)≤(x:Int):=by omega
   obtain⟨y1,hy1⟩:∃ z,x/65536=z:=⟨_,rfl⟩;have e1:(x:Int)/65536=(y1:Int):=by omega
   go_upto_region 7 with fail
   by_cases c2:256≤y1
   ·have g2:(256:Int)≤(y1:Int):=by omega
    obtain⟨y2,hy2⟩:∃ z,y1/256=z:=⟨_,rfl⟩;have e2:(y1:Int)/256=(y2:Int):=by omega
    have a2:IntKind.i64.wrap (16+8)=24:=by decide
    go_upto_region 10 with fail;have hy:y2<256:=by omega
    have k1:=Zdu y2 hy;have k2:=Zch y2 hy;have HT:Hid _:=Zcg (w:=w) Zck (ZbV y2 hy);rw[Zci y2 hy] at HT;have HB:Hid (Zbs x (24+Zf4 y2)):=Zbs.shift (by omega) k2 (.inr (by omega)) (by omega);clear k2;obtain ⟨l,hl⟩:∃ l,Zf4 y2=l:=⟨_,rfl⟩;rw[hl] at k1 HT HB;clear hl;have w1:IntKind.u8.wrap (y2:Int)=(y2:Int):=by rw[IntKind.wrap_u8];omega
    have w2:IntKind.i64.wrap (l:Int)=(l:Int):=by rw[IntKind.wrap_i64];omega
    have w3:IntKind.i64.wrap (24+(l:Int))=((24+l:Nat):Int):=by rw[IntKind.wrap_i64];omega
    go_wp2_with (first|(refine ZaS (by rfl) (by rfl) (u:=.string Zeo) (by kernel_rfl) (by rfl) HT.out ?_)|fail);go_ret;exact ⟨24+l,by first|rfl|go_num,HB.out,rfl⟩
   ·have g2:¬ (256:Int)≤(y1:Int):=by omega
    go_upto_region 10 with fail;have hy:y1<256:=by omega
    have k1:=Zdu y1 hy;have k2:=Zch y1 hy;have HT:Hid _:=Zcg (w:=w) Zck (ZbV y1 hy);rw[Zci y1 hy] at HT;have HB:Hid (Zbs x (16+Zf4 y1)):=Zbs.shift (by omega) k2 (.inr (by omega)) (by omega);clear k2;obtain ⟨l,hl⟩:∃ l,Zf4 y1=l:=⟨_,rfl⟩;rw[hl] at k1 HT HB;clear hl;have w1:IntKind.u8.wrap (y1:Int)=(y1:Int):=by rw[IntKind.wrap_u8];omega
    have w2:IntKind.i64.wrap (l:Int)=(l:Int):=by rw[IntKind.wrap_i64];omega
    have w3:IntKind.i64.wrap (16+(l:Int))=((16+l:Nat):Int):=by rw[IntKind.wrap_i64];omega
    go_wp2_with (first|(refine ZaS (by rfl) (by rfl) (u:=.string Zeo) (by kernel_rfl) (by rfl) HT.out ?_)|fail);go_ret;exact ⟨16+l,by first|rfl|go_num,HB.out,rfl⟩
  ·have g1:¬ (65536:Int)≤(x:Int):=by omega
   go_upto_region 7 with fail
   by_cases c2:256≤x
   ·have g2:(256:Int)≤(x:Int):=by omega
    obtain⟨y2,hy2⟩:∃ z,x/256=z:=⟨_,rfl⟩;have e2:(x:Int)/256=(y2:Int):=by omega
    go_upto_region 10 with fail;have hy:y2<256:=by omega
    have k1:=Zdu y2 hy;have k2:=Zch y2 hy;have HT:Hid _:=Zcg (w:=w) Zck (ZbV y2 hy);rw[Zci y2 hy] at HT;have HB:Hid (Zbs x (8+Zf4 y2)):=Zbs.shift (by omega) k2 (.inr (by omega)) (by omega);clear k2;obtain ⟨l,hl⟩:∃ l,Zf4 y2=l:=⟨_,rfl⟩;rw[hl] at k1 HT HB;clear hl;have w1:IntKind.u8.wrap (y2:Int)=(y2:Int):=by rw[IntKind.wrap_u8];omega
    have w2:IntKind.i64.wrap (l:Int)=(l:Int):=by rw[IntKind.wrap_i64];omega
    have w3:IntKind.i64.wrap (8+(l:Int))=((8+l:Nat):Int):=by rw[IntKind.wrap_i64];omega
    go_wp2_with (first|(refine ZaS (by rfl) (by rfl) (u:=.string Zeo) (by kernel_rfl) (by rfl) HT.out ?_)|fail);go_ret;exact ⟨8+l,by first|rfl|go_num,HB.out,rfl⟩
   ·have g2:¬ (256:Int)≤(x:Int):=by omega
    go_upto_region 10 with fail;have hy:x<256:=by omega
    have k1:=Zdu x hy;have k2:=Zch x hy;have HT:Hid _:=Zcg (w:=w) Zck (ZbV x hy);rw[Zci x hy] at HT;have HB:Hid (Zbs x (0+Zf4 x)):=Zbs.shift (by rw[Nat.pow_zero,Nat.div_one]) k2 (.inl rfl) (by omega);clear k2;obtain ⟨l,hl⟩:∃ l,Zf4 x=l:=⟨_,rfl⟩;rw[hl] at k1 HT HB;clear hl;have w1:IntKind.u8.wrap (x:Int)=(x:Int):=by rw[IntKind.wrap_u8];omega
    have w2:IntKind.i64.wrap (l:Int)=(l:Int):=by rw[IntKind.wrap_i64];omega
    have w3:IntKind.i64.wrap (0+(l:Int))=((0+l:Nat):Int):=by rw[IntKind.wrap_i64];omega
    go_wp2_with (first|(refine ZaS (by rfl) (by rfl) (u:=.string Zeo) (by kernel_rfl) (by rfl) HT.out ?_)|fail);go_ret;exact ⟨l,rfl,by have:=HB.out;rw[Nat.zero_add] at this;exact this,rfl⟩
theorem Zqk {x:Nat} {w:World} (hx:x<9223372036854775808) :
  Calls Tryz.prog 151 #[.int .u64 (x:Int)] w fun e w'=>∃ l:Nat,e=.returned (.int .i64 (l:Int))∧Zbs x l∧w'=w:=by
 go_enter Tryz.func151,Tryz.ntmps151;go_wp2_with fail;refine (Zlw hx).mono ?_;rintro e w2 ⟨l,rfl,hl,rfl⟩;go_wp2_with fail;go_ret;exact ⟨l,rfl,hl,rfl⟩
theorem ZeV {n:Nat} {w:World} (hn:n≤4503599627370496) :
  Calls Tryz.prog 131 #[.int .i64 (n:Int)] w fun e w'=>∃ l:Nat,e=.returned (.int .i64 (l:Int))∧ZeS n l∧w'=w:=by
 go_enter Tryz.func131,Tryz.ntmps131
 by_cases c1:n<128
 ·have g1:(n:Int)<128:=by omega
  go_wp2_with fail;go_ret;exact ⟨0,rfl,⟨by omega,fun _=>rfl,fun _ _=>by omega,fun _ _=>by omega,fun _ _=>by omega⟩,rfl⟩
 ·have g1:¬ (n:Int)<128:=by omega
  have w1:IntKind.u64.wrap (n:Int)=(n:Int):=by rw[IntKind.wrap_u64];omega
  go_wp2_with fail;refine (Zqk (by omega)).mono ?_;rintro e w2 ⟨l,rfl,hl,rfl⟩;have HL:Hid (ZeS n ((l+7)/8)):=hl.long (by omega);have hl64:=hl.2.2.1;clear hl;have w2:IntKind.i64.wrap ((l:Int)+8)=(l:Int)+8:=by rw[IntKind.wrap_i64];omega
  have w3:IntKind.i64.wrap ((l:Int)+8-1)=((l+7:Nat):Int):=by rw[IntKind.wrap_i64];omega
  have w4:((l+7:Nat):Int).tdiv 8=(((l+7)/8:Nat):Int):=by rw[Int.tdiv_eq_ediv_of_nonneg (by omega)];omega
  have w5:IntKind.i64.wrap (((l+7)/8:Nat):Int)=(((l+7)/8:Nat):Int):=by rw[IntKind.wrap_i64];omega
  go_wp2_with fail;go_ret;exact ⟨(l+7)/8,by first|rfl|go_num,HL.out,rfl⟩
theorem Zod (n:Nat):∀ (T:Tl) (w:World) (cs:List Value),szT T≤n→Zct T≤16→SmT T→Zav w T cs →
  Calls Tryz.prog 97 #[.agg cs.toArray] w fun e w'=>∃ z:Nat,e=.returned (.int .i64 (z:Int))∧ZcO T z∧Below w.heap.size w w':=by
 induction n with
 | zero=>intro T w cs hz;have:=ZcN T;omega
 | succ n IH =>
  intro T w cs hz hdp hsm h;obtain ⟨c,t,m,b,ks⟩:=T;have h0:=h;rw[Zav] at h;obtain ⟨bv,ao,cap,rfl,hbv,hk1,hk2,hk3⟩:=h;have HK:Hid (0<ks.length→∃ g o,ao=some ⟨g,o,none⟩∧Zap w ks g o):=hk3;clear hk3 h0;unfold maxLen at hk2;obtain ⟨bao,bcap,rfl,hb1,hb2,hb3⟩:=hbv;clear hb3;unfold maxLen at hb1;have B0:=Blk.new w [.int .i64 c,.int .i64 t,.bool m,.slice bao b.length bcap,.slice ao ks.length cap] 53 w.heap.size rfl;have bel:=bal w (.cells #[.int .i64 c,.int .i64 t,.bool m,.slice bao b.length bcap,.slice ao ks.length cap] 53);rw[szT] at hz;rw[SmT] at hsm;rw[Zct] at hdp;have hbl:=hsm.1;have HSm:Hid (SmL ks):=hsm.2;clear hsm;have e3:=B0.cell 3 _ rfl;have e4:=B0.cell 4 _ rfl;have lt0:=B0.lt;go_enter Tryz.func97,Tryz.ntmps97;go_upto_region 1 with fail;generalize w.alloc (Obj.cells #[.int .i64 c,.int .i64 t,.bool m,.slice bao b.length bcap,.slice ao ks.length cap] 53)=W at *;go_wp2_with fail;go_loopw [3,12] (fun xv iv wx=>∃ i x:Nat,i≤ks.length∧iv=.int .i64 i∧xv=.int .i64 (x:Int)∧Hid (x=b.length+(Zal (ks.take i)).length)∧x≤140737488355328∧Blk wx w.heap.size [.int .i64 c,.int .i64 t,.bool m,.slice bao b.length bcap,.slice ao ks.length cap]∧Below w.heap.size w wx) (fun _ iv _=>ks.length-(intOf iv).toNat)
  case atStart=>exact ⟨0,b.length,by omega,rfl,rfl,by show _=_;rw[List.take_zero,Zal];simp,hbl,B0,bel⟩
  case round =>
   clear B0 bel lt0 e3 e4;obtain ⟨i,x,hi,rfl,rfl,HX,hx1,B0,bel⟩:=hrel
   by_cases hil:i<ks.length
   ·have g1:(i:Int)<(ks.length:Int):=by omega
    have g2:(0:Int)≤(i:Int):=by omega
    have gi:IntKind.i64.wrap ((i:Int)+1)=(i:Int)+1:=by rw[IntKind.wrap_i64];omega
    obtain⟨k,hkk⟩:=ZbI hil;obtain ⟨g,o,hao,hks⟩:=HK.out (by omega);obtain ⟨cs,hcs,hkt⟩:=hks.get hkk;have hsz:=ZcM hkk;replace hcs:=hcs.later bel;replace hkt:=hkt.later bel;have hld:=Zat hcs hkt.five;have hld2:=hld;rw[Nat.mul_comm 5 i] at hld2;subst hao;have hz:=Zaj.out;have HS5:Hid (cs.toArray.size=5):=by show _=_;rw[List.size_toArray];exact hkt.five
    have HO5:Hid (Zca cs):=hkt.ones;have HL5:Hid (cs.length=5):=hkt.five;have KB:=Blk.new wr cs 53 wr.heap.size rfl;replace B0:=B0.alloc (.cells cs.toArray 53);replace bel:=Zah (o:=.cells cs.toArray 53) bel;replace hkt:=hkt.later ((Below.refl _ _).alloc (Nat.le_refl _) (.cells cs.toArray 53));go_upto_region 5 with (first|(refine Zab (by rfl) (by rfl) (by rfl) hld ?_)|(refine Zab (by rfl) (by rfl) (by rfl) hld2 ?_)|(refine wpList_store_row rfl 53 _ _ rfl wr.heap.size cs.toArray rfl rfl 53 _ (heap_alloc_last _ _) (by rw[Zae,HS5.out]) (by rw[HS5.out];rfl) HO5.out ?_;rw[World.setRow_alloc_new])|fail);clear hz hld hld2 hcs;obtain ⟨g1,hg1⟩:∃ g1,g1=wr.heap.size:=⟨_,rfl⟩;rw[← hg1] at KB;generalize wr.alloc (.cells cs.toArray 53)=W2 at *;rw[← hg1];clear hg1;have lk:=KB.lt;have HKK:Hid (ks[i]?=some k):=hkk;have hdk:=Zfe hkk;have hsk:=HSm.out.get hkk;clear hkk;go_wp2_with (first|(refine Zab (by rfl) (by rfl) (by rfl) (KB.load Tryz.underlying53 rfl Zae HL5.out) ?_)|fail);refine (IH k _ _ (by omega) (by omega) hsk hkt).mono ?_;rintro e w2 ⟨y,rfl,hy,hb2⟩;replace B0:=B0.later hb2;replace bel:=Zar bel hb2;clear hb2 hkt lk KB HS5 HO5 HL5;have hyb:=hy.2.2;have HY:Hid _:=hy;clear hy hsk;obtain ⟨z,hz9⟩:∃ z,x+y=z:=⟨_,rfl⟩;have g3:IntKind.i64.wrap ((x:Int)+(y:Int))=(z:Int):=by rw[IntKind.wrap_i64];omega
    by_cases hq:1048576<z
    ·have g4:(1048576:Int)<(z:Int):=by omega
     have HQ:Hid (ZcO (.mk c t m b ks) z):=by rw[← hz9];exact ZcO.over HKK.out HX.out hx1 HY.out (by omega)
     go_wp2_with fail;go_ret;exact ⟨z,rfl,HQ.out,bel⟩
    ·have g4:¬ (1048576:Int)<(z:Int):=by omega
     have HN:Hid (z=b.length+(Zal (ks.take (i+1))).length):=by rw[← hz9];exact ZcO.next HKK.out HX.out HY.out (by omega)
     go_wp2_with fail;go_roundw
     case rel=>exact ⟨i+1,z,by omega,by go_num,rfl,HN,by omega,B0,bel⟩
     case measure=>simp[intOf];omega
   ·have HI:Hid (i=ks.length):=by show i=ks.length;omega
    have g1:¬ (i:Int)<(ks.length:Int):=by omega
    have HE:Hid (b.length+(Zal ks).length=x):=by show _=_;rw[HX.out,HI.out,List.take_of_length_le (Nat.le_refl _)]
    go_wp2_with fail;refine (ZeV (n:=x) (by omega)).mono ?_;rintro e w2 ⟨l,rfl,hl,rfl⟩;have hl8:=hl.1;have HQ:Hid (ZcO (.mk c t m b ks) (2+l+x)):=ZcO.end HE.out hl hx1;clear hl;have w1:IntKind.i64.wrap (2+(l:Int))=2+(l:Int):=by rw[IntKind.wrap_i64];omega
    have w2:IntKind.i64.wrap (2+(l:Int)+(x:Int))=((2+l+x:Nat):Int):=by rw[IntKind.wrap_i64];omega
    go_wp2_with fail;go_ret;exact ⟨_,rfl,HQ.out,bel⟩
theorem Zj8 {c t:Int} {m:Bool} {b:List Int} {ks:List Tl} {w:World} {cs:List Value} (hf:Zby c t m b ks=true) (h:Zav w (.mk c t m b ks) cs) :
  Calls Tryz.prog 98 #[.agg cs.toArray] w fun e w'=>e=.returned (.int .u8 (ZbD c t m))∧Below w.heap.size w w':=by
 have h0:=h;rw[Zav] at h;obtain ⟨bv,ao,cap,rfl,hbv,hk1,hk2,hk3⟩:=h;have HK:Hid (0<ks.length→∃ g o,ao=some ⟨g,o,none⟩∧Zap w ks g o):=hk3;clear hk3 h0;unfold maxLen at hk2;obtain ⟨bao,bcap,rfl,hb1,hb2,hb3⟩:=hbv;clear hb3;unfold maxLen at hb1;have B0:=Blk.new w [.int .i64 c,.int .i64 t,.bool m,.slice bao b.length bcap,.slice ao ks.length cap] 53 w.heap.size rfl;have bel:=bal w (.cells #[.int .i64 c,.int .i64 t,.bool m,.slice bao b.length bcap,.slice ao ks.length cap] 53);have hnum:=Zei hf;have e0:=B0.cell 0 _ rfl;have e1:=B0.cell 1 _ rfl;have e2:=B0.cell 2 _ rfl;have lt0:=B0.lt;go_enter Tryz.func98,Tryz.ntmps98;go_upto_region 1 with fail;generalize w.alloc (Obj.cells #[.int .i64 c,.int .i64 t,.bool m,.slice bao b.length bcap,.slice ao ks.length cap] 53)=W at *;have a1:IntKind.i64.wrap (c*64)=c*64:=by rw[IntKind.wrap_i64];omega
 have a2:IntKind.i64.wrap (c*64+t)=c*64+t:=by rw[IntKind.wrap_i64];omega
 cases m with
 | true =>
  have a3:IntKind.i64.wrap (c*64+t+32)=c*64+t+32:=by rw[IntKind.wrap_i64];omega
  have a4:IntKind.u8.wrap (c*64+t+32)=ZbD c t true:=by rw[IntKind.wrap_u8];simp[ZbD];omega
  go_wp2_with fail;go_ret;exact ⟨rfl,bel⟩
 | false =>
  have a4:IntKind.u8.wrap (c*64+t)=ZbD c t false:=by rw[IntKind.wrap_u8];simp[ZbD];omega
  go_wp2_with fail;go_ret;exact ⟨rfl,bel⟩
theorem ZhO {n l i:Nat} (h:ZeS n l) (hn:n<16777216) (h1:1≤l) (hi:i<l):(Zbv n)[i+1]?=some ((n/2 ^ (8*(l-1-i))%256:Nat):Int)∧(Zbv n)[0]?=some ((128+l:Nat):Int):=by
 obtain⟨_,h0,ha,hb,hc⟩:=h;unfold Zbv
 split
 ·have:=h0 (by assumption);omega
 ·split
  ·have:=ha (by omega) (by assumption)
   subst this;obtain rfl:i=0:=by omega
   refine⟨?_,rfl⟩;simp;omega
  ·split
   ·have:=hb (by omega) (by assumption)
    subst this;refine ⟨?_,rfl⟩;rcases (show i=0∨i=1 by omega) with rfl|rfl
    ·simp;omega
    ·simp
   ·have:=hc (by omega) hn
    subst this;refine ⟨?_,rfl⟩;rcases (show i=0∨i=1∨i=2 by omega) with rfl|rfl|rfl
    ·simp
    ·simp
    ·simp
theorem ZeU {n:Nat} {w:World} (hn:n≤1048576) :
  Calls Tryz.prog 99 #[.int .i64 (n:Int)] w fun e w'=>∃ v':Value,e=.returned v'∧w'.ownsRow w.heap.size 5 1 v' (Zbv n).length (u8s (Zbv n))∧Below w.heap.size w w':=by
 go_enter Tryz.func99,Tryz.ntmps99;go_wp2_with fail;refine (ZeV (n:=n) (by omega)).mono ?_;rintro e w2 ⟨l,rfl,hl,rfl⟩;have HL:Hid (ZeS n l):=hl;have hl0:=hl.2.1;have hl3:l≤3:=by
  obtain⟨q0,q1,q2,q3,q4⟩:=hl
  by_cases c1:n<128
  ·have:=q1 c1;omega
  ·by_cases c2:n<256
   ·have:=q2 (by omega) c2;omega
   ·by_cases c3:n<65536
    ·have:=q3 (by omega) c3;omega
    ·have:=q4 (by omega) (by omega);omega
 have hl1:128≤n→1≤l:=by
  obtain⟨q0,q1,q2,q3,q4⟩:=hl;intro c1
  by_cases c2:n<256
  ·have:=q2 (by omega) c2;omega
  ·by_cases c3:n<65536
   ·have:=q3 (by omega) c3;omega
   ·have:=q4 (by omega) (by omega);omega
 clear hl
 by_cases c1:n<128
 ·have hl:=hl0 c1
  subst hl;have HB:Hid (Zbv n=[(n:Int)]):=by show _=_;unfold Zbv;rw[if_pos c1]
  have a1:IntKind.u8.wrap (n:Int)=(n:Int):=by rw[IntKind.wrap_u8];omega
  go_wp2_with fail;go_ret;refine ⟨_,rfl,?_,(Below.refl _ _).alloc (Nat.le_refl _) _⟩;rw[HB.out];exact Zcc _ [(n:Int)] 1 _ rfl (Nat.le_refl _) (by decide)
 have hl:=hl1 (by omega);clear hl0 hl1;have hl9:((l:Int) == 0)=false:=by rw[beq_eq_false_iff_ne];omega
 have a1:IntKind.i64.wrap (128+(l:Int))=128+(l:Int):=by rw[IntKind.wrap_i64];omega
 have a2:IntKind.u8.wrap (128+(l:Int))=128+(l:Int):=by rw[IntKind.wrap_u8];omega
 have HLen:Hid ((Zbv n).length=1+l):=HL.out.len (by omega);have own0:=Zcc w2 [128+(l:Int)] 1 w2.heap.size rfl (Nat.le_refl _) (by decide);have bel:=bal w2 (.cells #[.int .u8 (128+(l:Int))] 5);replace own0:(w2.alloc (.cells #[.int .u8 (128+(l:Int))] 5)).ownsRow w2.heap.size 5 1 (.slice (some ⟨w2.heap.size,0,none⟩) 1 1) 1 (u8s [128+(l:Int)]):=own0;have HT1:Hid ((Zbv n).take 1=[128+(l:Int)]):=by
  show _=_;have:=(ZhO (i:=0) HL.out (by omega) hl (by omega)).2;rw[List.take_one,List.head?_eq_getElem?,this];simp
 go_wp2_with fail;generalize w2.alloc (.cells #[.int .u8 (128+(l:Int))] 5)=W at *;go_loopw [4,18] (fun av iv wx=>∃ i:Nat,i≤l∧iv=.int .i64 (i:Int)∧wx.ownsRow w2.heap.size 5 1 av (i+1) (u8s ((Zbv n).take (i+1)))∧Below w2.heap.size w2 wx) (fun _ iv _=>l-(intOf iv).toNat)
 case atStart=>exact ⟨0,by omega,rfl,by rw[Nat.zero_add,HT1.out];exact own0,bel⟩
 case round =>
  clear own0 bel;obtain ⟨i,hi,rfl,own,bel⟩:=hrel
  by_cases hil:i<l
  ·have g1:(i:Int)<(l:Int):=by omega
   have gi:IntKind.i64.wrap ((i:Int)+1)=(i:Int)+1:=by rw[IntKind.wrap_i64];omega
   obtain⟨s,hs⟩:∃ s,l-1-i=s:=⟨_,rfl⟩;have HBy:Hid ((Zbv n)[i+1]?=some ((n/2 ^ (8*s)%256:Nat):Int)):=by rw[← hs];exact (ZhO HL.out (by omega) hl hil).1
   have a3:IntKind.i64.wrap ((l:Int)-1)=(l:Int)-1:=by rw[IntKind.wrap_i64];omega
   have a4:IntKind.i64.wrap ((l:Int)-1-(i:Int))=(s:Int):=by rw[IntKind.wrap_i64];omega
   have a5:IntKind.i64.wrap (8*(s:Int))=((8*s:Nat):Int):=by rw[IntKind.wrap_i64];omega
   obtain⟨y,hy⟩:∃ y,n/2 ^ (8*s)%256=y:=⟨_,rfl⟩;rw[hy] at HBy;have a6:(n:Int)/2 ^ (8*s)%256=(y:Int):=by rw[← hy];simp
   clear hy;have own1:=Zbw own (o:=.cells #[.int .u8 (y:Int)] 5);have bl:=Zft wr (y:Int);have bel1:=Zah (o:=.cells #[.int .u8 (y:Int)] 5) bel;have bsz:=bel1.size;go_wp2_with (first|(at_builtin;refine Zad (by rfl) _ _ (by rfl) w2.heap.size _ (i+1) _ (by rfl) own1 _ [(y:Int)] (by rfl) bl (by simp;omega) bsz ?_;intro v8 w8 own8 hgrow hat)|fail);have bel8:=Zag bel1 hgrow bsz (fun g hg=>ZaI own1 hg) (Nat.le_refl _);have HT:Hid ((Zbv n).take (i+1)++[(y:Int)]=(Zbv n).take (i+1+1)):=by show _=_;rw[List.take_add_one (i:=i+1),HBy.out];rfl
   rw[HT.out] at own8;clear hgrow hat own1 bl bel1;go_roundw
   case rel=>exact ⟨i+1,by omega,by go_num,own8,bel8⟩
   case measure=>simp[intOf];omega
  ·have HI:Hid (i=l):=by show i=l;omega
   have g1:¬ (i:Int)<(l:Int):=by omega
   go_wp2_with fail;go_ret;refine ⟨_,rfl,?_,bel⟩;rw[HI.out] at own;rw[List.take_of_length_le (by rw[HLen.out];omega)] at own;rw[HLen.out,Nat.add_comm 1 l];exact own
end Go.Proofs.YtohcdbifhnfcbaaGreatDoor
