/- bits.Len. -/
import Derived.Test.YtnkipgbnnhahbaaGreatDoorDcSound
import Derived.Test.YtnkipgbnnhahbaaGreatDoorDrDep
import Derived.Test.YtnkipgbnnhahbaaGreatDoorRows
import Derived.Deep.OwnRows
import Derived.Deep.AppendLies
import Derived.Great.BuildSlice
import Derived.Deep.WholeRow
import Derived.Deep.RegionHeld3
import Derived.Deep.DeepCutAuto
import Derived.Deep.DeepFit
namespace Go.Proofs.YtnkipgbnnhahbaaGreatDoor
open Go.RowKit
/-- binary digits of a byte -/
def len8 (y:Nat):Nat:=if y=0 then 0 else Nat.log2 y + 1
def lenTab:ByteArray:=⟨((List.range 256).map (fun y=>UInt8.ofNat (len8 y))).toArray⟩
theorem lenTab_get:∀ y:Nat,y < 256→lenTab[y]?=some (UInt8.ofNat (len8 y)):=by decide +kernel
theorem len8_byte:∀ y:Nat,y < 256→(UInt8.ofNat (len8 y)).toNat=len8 y:=by decide +kernel
theorem len8_bits:∀ y:Nat,y < 256→BitLen y (len8 y):=by unfold BitLen;decide +kernel
theorem len8_le:∀ y:Nat,y < 256→len8 y≤8:=by decide +kernel
theorem BitLen.shift {x y s l:Nat} (h:x / 2 ^ s=y) (hb:BitLen y l) (h0:s=0∨0 < y) (hl:s + l≤64):BitLen x (s + l):=by
 obtain ⟨b1,b2,b3,b4⟩:=hb
 have hp:0 < 2 ^ s:=Nat.two_pow_pos s
 refine ⟨?_,fun hx=>?_,hl,fun hx=>?_⟩
 ·rw [Nat.pow_add,Nat.mul_comm]
  exact (Nat.div_lt_iff_lt_mul hp).1 (by rw [h];exact b1)
 ·rcases h0 with rfl|h0
  ·rw [Nat.pow_zero,Nat.div_one] at h
   subst h
   rw [Nat.zero_add]
   exact b2 hx
  ·have h1:1≤l:=by
    by_cases c:l=0
    ·subst c
     rw [Nat.pow_zero] at b1
     omega
    ·omega
   rw [show s + l - 1=(l - 1) + s by omega,Nat.pow_add]
   have h2:=b2 h0
   rw [← h] at h2
   exact (Nat.le_div_iff_mul_le hp).1 h2
 ·subst hx
  rw [Nat.zero_div] at h
  have:=b4 h.symm
  rcases h0 with h0|h0<;>omega
theorem index_str {ty:TypeId} {s:ByteArray} {y:Nat} {b:UInt8} {w:World} (hu:Tryz.prog.underlying ty=some .string) (hb:s[y]?=some b):(Instr.index ty (.string s) (.int .u8 (y:Int))).run Tryz.prog w=.ok (.int .u8 (b.toNat:Int)) w:=by
 have h1:=run_underlying hu (w:=w)
 unfold Instr.index
 simp [asIntOf,h1,hb]
theorem wpList_index_run {P:Program} {ops:Array Oper} {rest:List Oper} {o:Oper} {a:Act} {w:World} {Q:Exit→Act→World→Prop} {ty:TypeId} {x i:Operand} {u j v:Value} (hw:Region.wanted o (yielded ops a.tmps)=true) (ho:o.op=.index ty x i) (hx:a.eval x=u) (hi:a.eval i=j) (h:(Instr.index ty u j).run P w=.ok v w)
  (k:wpList P ops Q rest (a.put o.dst v) w):wpList P ops Q (o :: rest) a w:=by
 refine wpList_step fun K hK=>?_
 simp only [hw,if_true]
 unfold Oper.wp execOp
 simp only [ho,hx,hi,Sem.run_bind,Sem.run_pure,Result.andThen_ok,h]
 exact hK _ _ k
theorem under_str:Tryz.prog.underlying 9=some .string:=by kernel_rfl
set_option linter.unusedSimpArgs false in
set_option maxRecDepth 100000 in
set_option maxHeartbeats 2000000 in
theorem c12_Len64 {x:Nat} {w:World} (hx:x < 9223372036854775808) :
  Calls Tryz.prog 102 #[.int .u64 (x:Int)] w fun e w'=>∃ l:Nat,e=.returned (.int .i64 (l:Int))∧BitLen x l∧w'=w:=by
 go_enter Tryz.func102,Tryz.ntmps102
 by_cases c0:4294967296≤x
 ·have g0:(4294967296:Int)≤(x:Int):=by omega
  obtain ⟨y0,hy0⟩:∃ z,x / 4294967296=z:=⟨_,rfl⟩
  have e0:(x:Int) / 4294967296=(y0:Int):=by omega
  go_upto_region 4 with fail
  by_cases c1:65536≤y0
  ·have g1:(65536:Int)≤(y0:Int):=by omega
   obtain ⟨y1,hy1⟩:∃ z,y0 / 65536=z:=⟨_,rfl⟩
   have e1:(y0:Int) / 65536=(y1:Int):=by omega
   have a1:IntKind.i64.wrap (32 + 16)=48:=by decide
   go_upto_region 7 with fail
   by_cases c2:256≤y1
   ·have g2:(256:Int)≤(y1:Int):=by omega
    obtain ⟨y2,hy2⟩:∃ z,y1 / 256=z:=⟨_,rfl⟩
    have e2:(y1:Int) / 256=(y2:Int):=by omega
    have a2:IntKind.i64.wrap (48 + 8)=56:=by decide
    go_upto_region 10 with fail
    have hy:y2 < 256:=by omega
    have k1:=len8_le y2 hy
    have k2:=len8_bits y2 hy
    have HT:Hid _:=index_str (w:=w) under_str (lenTab_get y2 hy)
    rw [len8_byte y2 hy] at HT
    have HB:Hid (BitLen x (56 + len8 y2)):=BitLen.shift (by omega) k2 (.inr (by omega)) (by omega)
    clear k2
    obtain ⟨l,hl⟩:∃ l,len8 y2=l:=⟨_,rfl⟩
    rw [hl] at k1 HT HB
    clear hl
    have w1:IntKind.u8.wrap (y2:Int)=(y2:Int):=by rw [IntKind.wrap_u8];omega
    have w2:IntKind.i64.wrap (l:Int)=(l:Int):=by rw [IntKind.wrap_i64];omega
    have w3:IntKind.i64.wrap (56 + (l:Int))=((56 + l:Nat):Int):=by rw [IntKind.wrap_i64];omega
    go_wp2_with (first|(refine wpList_index_run (by rfl) (by rfl) (u:=.string lenTab) (by kernel_rfl) (by rfl) HT.out ?_)|fail)
    go_ret
    exact ⟨56 + l,by first|rfl|go_num,HB.out,rfl⟩
   ·have g2:¬ (256:Int)≤(y1:Int):=by omega
    go_upto_region 10 with fail
    have hy:y1 < 256:=by omega
    have k1:=len8_le y1 hy
    have k2:=len8_bits y1 hy
    have HT:Hid _:=index_str (w:=w) under_str (lenTab_get y1 hy)
    rw [len8_byte y1 hy] at HT
    have HB:Hid (BitLen x (48 + len8 y1)):=BitLen.shift (by omega) k2 (.inr (by omega)) (by omega)
    clear k2
    obtain ⟨l,hl⟩:∃ l,len8 y1=l:=⟨_,rfl⟩
    rw [hl] at k1 HT HB
    clear hl
    have w1:IntKind.u8.wrap (y1:Int)=(y1:Int):=by rw [IntKind.wrap_u8];omega
    have w2:IntKind.i64.wrap (l:Int)=(l:Int):=by rw [IntKind.wrap_i64];omega
    have w3:IntKind.i64.wrap (48 + (l:Int))=((48 + l:Nat):Int):=by rw [IntKind.wrap_i64];omega
    go_wp2_with (first|(refine wpList_index_run (by rfl) (by rfl) (u:=.string lenTab) (by kernel_rfl) (by rfl) HT.out ?_)|fail)
    go_ret
    exact ⟨48 + l,by first|rfl|go_num,HB.out,rfl⟩
  ·have g1:¬ (65536:Int)≤(y0:Int):=by omega
   go_upto_region 7 with fail
   by_cases c2:256≤y0
   ·have g2:(256:Int)≤(y0:Int):=by omega
    obtain ⟨y2,hy2⟩:∃ z,y0 / 256=z:=⟨_,rfl⟩
    have e2:(y0:Int) / 256=(y2:Int):=by omega
    have a2:IntKind.i64.wrap (32 + 8)=40:=by decide
    go_upto_region 10 with fail
    have hy:y2 < 256:=by omega
    have k1:=len8_le y2 hy
    have k2:=len8_bits y2 hy
    have HT:Hid _:=index_str (w:=w) under_str (lenTab_get y2 hy)
    rw [len8_byte y2 hy] at HT
    have HB:Hid (BitLen x (40 + len8 y2)):=BitLen.shift (by omega) k2 (.inr (by omega)) (by omega)
    clear k2
    obtain ⟨l,hl⟩:∃ l,len8 y2=l:=⟨_,rfl⟩
    rw [hl] at k1 HT HB
    clear hl
    have w1:IntKind.u8.wrap (y2:Int)=(y2:Int):=by rw [IntKind.wrap_u8];omega
    have w2:IntKind.i64.wrap (l:Int)=(l:Int):=by rw [IntKind.wrap_i64];omega
    have w3:IntKind.i64.wrap (40 + (l:Int))=((40 + l:Nat):Int):=by rw [IntKind.wrap_i64];omega
    go_wp2_with (first|(refine wpList_index_run (by rfl) (by rfl) (u:=.string lenTab) (by kernel_rfl) (by rfl) HT.out ?_)|fail)
    go_ret
    exact ⟨40 + l,by first|rfl|go_num,HB.out,rfl⟩
   ·have g2:¬ (256:Int)≤(y0:Int):=by omega
    go_upto_region 10 with fail
    have hy:y0 < 256:=by omega
    have k1:=len8_le y0 hy
    have k2:=len8_bits y0 hy
    have HT:Hid _:=index_str (w:=w) under_str (lenTab_get y0 hy)
    rw [len8_byte y0 hy] at HT
    have HB:Hid (BitLen x (32 + len8 y0)):=BitLen.shift (by omega) k2 (.inr (by omega)) (by omega)
    clear k2
    obtain ⟨l,hl⟩:∃ l,len8 y0=l:=⟨_,rfl⟩
    rw [hl] at k1 HT HB
    clear hl
    have w1:IntKind.u8.wrap (y0:Int)=(y0:Int):=by rw [IntKind.wrap_u8];omega
    have w2:IntKind.i64.wrap (l:Int)=(l:Int):=by rw [IntKind.wrap_i64];omega
    have w3:IntKind.i64.wrap (32 + (l:Int))=((32 + l:Nat):Int):=by rw [IntKind.wrap_i64];omega
    go_wp2_with (first|(refine wpList_index_run (by rfl) (by rfl) (u:=.string lenTab) (by kernel_rfl) (by rfl) HT.out ?_)|fail)
    go_ret
    exact ⟨32 + l,by first|rfl|go_num,HB.out,rfl⟩
 ·have g0:¬ (4294967296:Int)≤(x:Int):=by omega
  go_upto_region 4 with fail
  by_cases c1:65536≤x
  ·have g1:(65536:Int)≤(x:Int):=by omega
   obtain ⟨y1,hy1⟩:∃ z,x / 65536=z:=⟨_,rfl⟩
   have e1:(x:Int) / 65536=(y1:Int):=by omega
   go_upto_region 7 with fail
   by_cases c2:256≤y1
   ·have g2:(256:Int)≤(y1:Int):=by omega
    obtain ⟨y2,hy2⟩:∃ z,y1 / 256=z:=⟨_,rfl⟩
    have e2:(y1:Int) / 256=(y2:Int):=by omega
    have a2:IntKind.i64.wrap (16 + 8)=24:=by decide
    go_upto_region 10 with fail
    have hy:y2 < 256:=by omega
    have k1:=len8_le y2 hy
    have k2:=len8_bits y2 hy
    have HT:Hid _:=index_str (w:=w) under_str (lenTab_get y2 hy)
    rw [len8_byte y2 hy] at HT
    have HB:Hid (BitLen x (24 + len8 y2)):=BitLen.shift (by omega) k2 (.inr (by omega)) (by omega)
    clear k2
    obtain ⟨l,hl⟩:∃ l,len8 y2=l:=⟨_,rfl⟩
    rw [hl] at k1 HT HB
    clear hl
    have w1:IntKind.u8.wrap (y2:Int)=(y2:Int):=by rw [IntKind.wrap_u8];omega
    have w2:IntKind.i64.wrap (l:Int)=(l:Int):=by rw [IntKind.wrap_i64];omega
    have w3:IntKind.i64.wrap (24 + (l:Int))=((24 + l:Nat):Int):=by rw [IntKind.wrap_i64];omega
    go_wp2_with (first|(refine wpList_index_run (by rfl) (by rfl) (u:=.string lenTab) (by kernel_rfl) (by rfl) HT.out ?_)|fail)
    go_ret
    exact ⟨24 + l,by first|rfl|go_num,HB.out,rfl⟩
   ·have g2:¬ (256:Int)≤(y1:Int):=by omega
    go_upto_region 10 with fail
    have hy:y1 < 256:=by omega
    have k1:=len8_le y1 hy
    have k2:=len8_bits y1 hy
    have HT:Hid _:=index_str (w:=w) under_str (lenTab_get y1 hy)
    rw [len8_byte y1 hy] at HT
    have HB:Hid (BitLen x (16 + len8 y1)):=BitLen.shift (by omega) k2 (.inr (by omega)) (by omega)
    clear k2
    obtain ⟨l,hl⟩:∃ l,len8 y1=l:=⟨_,rfl⟩
    rw [hl] at k1 HT HB
    clear hl
    have w1:IntKind.u8.wrap (y1:Int)=(y1:Int):=by rw [IntKind.wrap_u8];omega
    have w2:IntKind.i64.wrap (l:Int)=(l:Int):=by rw [IntKind.wrap_i64];omega
    have w3:IntKind.i64.wrap (16 + (l:Int))=((16 + l:Nat):Int):=by rw [IntKind.wrap_i64];omega
    go_wp2_with (first|(refine wpList_index_run (by rfl) (by rfl) (u:=.string lenTab) (by kernel_rfl) (by rfl) HT.out ?_)|fail)
    go_ret
    exact ⟨16 + l,by first|rfl|go_num,HB.out,rfl⟩
  ·have g1:¬ (65536:Int)≤(x:Int):=by omega
   go_upto_region 7 with fail
   by_cases c2:256≤x
   ·have g2:(256:Int)≤(x:Int):=by omega
    obtain ⟨y2,hy2⟩:∃ z,x / 256=z:=⟨_,rfl⟩
    have e2:(x:Int) / 256=(y2:Int):=by omega
    go_upto_region 10 with fail
    have hy:y2 < 256:=by omega
    have k1:=len8_le y2 hy
    have k2:=len8_bits y2 hy
    have HT:Hid _:=index_str (w:=w) under_str (lenTab_get y2 hy)
    rw [len8_byte y2 hy] at HT
    have HB:Hid (BitLen x (8 + len8 y2)):=BitLen.shift (by omega) k2 (.inr (by omega)) (by omega)
    clear k2
    obtain ⟨l,hl⟩:∃ l,len8 y2=l:=⟨_,rfl⟩
    rw [hl] at k1 HT HB
    clear hl
    have w1:IntKind.u8.wrap (y2:Int)=(y2:Int):=by rw [IntKind.wrap_u8];omega
    have w2:IntKind.i64.wrap (l:Int)=(l:Int):=by rw [IntKind.wrap_i64];omega
    have w3:IntKind.i64.wrap (8 + (l:Int))=((8 + l:Nat):Int):=by rw [IntKind.wrap_i64];omega
    go_wp2_with (first|(refine wpList_index_run (by rfl) (by rfl) (u:=.string lenTab) (by kernel_rfl) (by rfl) HT.out ?_)|fail)
    go_ret
    exact ⟨8 + l,by first|rfl|go_num,HB.out,rfl⟩
   ·have g2:¬ (256:Int)≤(x:Int):=by omega
    go_upto_region 10 with fail
    have hy:x < 256:=by omega
    have k1:=len8_le x hy
    have k2:=len8_bits x hy
    have HT:Hid _:=index_str (w:=w) under_str (lenTab_get x hy)
    rw [len8_byte x hy] at HT
    have HB:Hid (BitLen x (0 + len8 x)):=BitLen.shift (by rw [Nat.pow_zero,Nat.div_one]) k2 (.inl rfl) (by omega)
    clear k2
    obtain ⟨l,hl⟩:∃ l,len8 x=l:=⟨_,rfl⟩
    rw [hl] at k1 HT HB
    clear hl
    have w1:IntKind.u8.wrap (x:Int)=(x:Int):=by rw [IntKind.wrap_u8];omega
    have w2:IntKind.i64.wrap (l:Int)=(l:Int):=by rw [IntKind.wrap_i64];omega
    have w3:IntKind.i64.wrap (0 + (l:Int))=((0 + l:Nat):Int):=by rw [IntKind.wrap_i64];omega
    go_wp2_with (first|(refine wpList_index_run (by rfl) (by rfl) (u:=.string lenTab) (by kernel_rfl) (by rfl) HT.out ?_)|fail)
    go_ret
    exact ⟨l,rfl,by have:=HB.out;rw [Nat.zero_add] at this;exact this,rfl⟩
set_option linter.unusedSimpArgs false in
set_option maxRecDepth 100000 in
set_option maxHeartbeats 2000000 in
theorem c12_Len {x:Nat} {w:World} (hx:x < 9223372036854775808) :
  Calls Tryz.prog 98 #[.int .u64 (x:Int)] w fun e w'=>∃ l:Nat,e=.returned (.int .i64 (l:Int))∧BitLen x l∧w'=w:=by
 go_enter Tryz.func98,Tryz.ntmps98
 go_wp2_with fail
 refine (c12_Len64 hx).mono ?_
 rintro e w2 ⟨l,rfl,hl,rfl⟩
 go_wp2_with fail
 go_ret
 exact ⟨l,rfl,hl,rfl⟩
set_option linter.unusedSimpArgs false in
set_option maxRecDepth 100000 in
set_option maxHeartbeats 2000000 in
theorem c12_longSize {n:Nat} {w:World} (hn:n≤4503599627370496) :
  Calls Tryz.prog 90 #[.int .i64 (n:Int)] w fun e w'=>∃ l:Nat,e=.returned (.int .i64 (l:Int))∧LongOk n l∧w'=w:=by
 go_enter Tryz.func90,Tryz.ntmps90
 by_cases c1:n < 128
 ·have g1:(n:Int) < 128:=by omega
  go_wp2_with fail
  go_ret
  exact ⟨0,rfl,⟨by omega,fun _=>rfl,fun _ _=>by omega,fun _ _=>by omega,fun _ _=>by omega⟩,rfl⟩
 ·have g1:¬ (n:Int) < 128:=by omega
  have w1:IntKind.u64.wrap (n:Int)=(n:Int):=by rw [IntKind.wrap_u64];omega
  go_wp2_with fail
  refine (c12_Len (by omega)).mono ?_
  rintro e w2 ⟨l,rfl,hl,rfl⟩
  have HL:Hid (LongOk n ((l + 7) / 8)):=hl.long (by omega)
  have hl64:=hl.2.2.1
  clear hl
  have w2:IntKind.i64.wrap ((l:Int) + 8)=(l:Int) + 8:=by rw [IntKind.wrap_i64];omega
  have w3:IntKind.i64.wrap ((l:Int) + 8 - 1)=((l + 7:Nat):Int):=by rw [IntKind.wrap_i64];omega
  have w4:((l + 7:Nat):Int).tdiv 8=(((l + 7) / 8:Nat):Int):=by rw [Int.tdiv_eq_ediv_of_nonneg (by omega)];omega
  have w5:IntKind.i64.wrap (((l + 7) / 8:Nat):Int)=(((l + 7) / 8:Nat):Int):=by rw [IntKind.wrap_i64];omega
  go_wp2_with fail
  go_ret
  exact ⟨(l + 7) / 8,by first|rfl|go_num,HL.out,rfl⟩
end Go.Proofs.YtnkipgbnnhahbaaGreatDoor
