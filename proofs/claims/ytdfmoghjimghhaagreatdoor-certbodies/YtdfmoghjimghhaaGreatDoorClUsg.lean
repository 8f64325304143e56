import Derived.Test.YtdfmoghjimghhaaGreatDoorCtSize
import Derived.Test.YtdfmoghjimghhaaGreatDoorDcG1
import Derived.Test.YtdfmoghjimghhaaGreatDoorBase
import Derived.Test.YtdfmoghjimghhaaGreatDoorClExE
import Derived.Test.YtdfmoghjimghhaaGreatDoorClEl
import Derived.Test.YtdfmoghjimghhaaGreatDoorClCa
import Derived.Test.YtdfmoghjimghhaaGreatDoorLBytes
import Derived.Test.YtdfmoghjimghhaaGreatDoorNlSG
import Derived.Test.YtdfmoghjimghhaaGreatDoorRows
import Derived.Deep.OwnRows
import Derived.Deep.AppendLies
import Derived.Great.BuildSlice
import Derived.Laws.Rows
import Derived.BigQuiet
import Derived.Laws.BitsLemmas
import Derived.Deep.WholeRow
import Derived.Deep.RegionHeld3
import Derived.Deep.DeepCutAuto
import Derived.Deep.DeepFit
namespace Go.Proofs.YtdfmoghjimghhaaGreatDoor
open Go.RowKit
def Zg3:ByteArray:=⟨((List.range 256).map (fun y=>UInt8.ofNat (Zb2 y))).toArray⟩
def ZkP:ByteArray:=⟨((List.range 256).map (fun y=>UInt8.ofNat (Zct 8 y))).toArray⟩
theorem ZfI:∀ y:Nat,y<256→Zg3[y]?=some (UInt8.ofNat (Zb2 y)):=by decide +kernel
theorem Zjp:∀ y:Nat,y<256→ZkP[y]?=some (UInt8.ofNat (Zct 8 y)):=by decide +kernel
theorem Zg2:∀ y:Nat,y<256→(UInt8.ofNat (Zb2 y)).toNat=Zb2 y:=by decide +kernel
theorem ZkF:∀ y:Nat,y<256→(UInt8.ofNat (Zct 8 y)).toNat=Zct 8 y:=by decide +kernel
theorem ZeF:∀ y:Nat,y<256→Zb2 y<256:=by decide +kernel
theorem Zf3:∀ y:Nat,y<256→Zct 8 y≤8:=by decide +kernel
theorem Zix (n:Nat):Zb2 (n%256)=Zb2 n:=by
 unfold Zb2;rw[show n%256%2=n%2 by omega,show n%256/2%2=n/2%2 by omega,show n%256/4%2=n/4%2 by omega,show n%256/8%2=n/8%2 by omega,show n%256/16%2=n/16%2 by omega,show n%256/32%2=n/32%2 by omega,show n%256/64%2=n/64%2 by omega,show n%256/128%2=n/128%2 by omega]
theorem Zed {ty:TypeId} {k:IntKind} {s:ByteArray} {y:Nat} {b:UInt8} {w:World} (hu:Tryz.prog.underlying ty=some .string) (hb:s[y]?=some b):(Instr.index ty (.string s) (.int k (y:Int))).run Tryz.prog w=.ok (.int .u8 (b.toNat:Int)) w:=by
 have h1:=run_underlying hu (w:=w);unfold Instr.index;simp[asIntOf,h1,hb]
theorem Zfw {P:Program} {o:Oper} {a:Act} {w:World} {ty:TypeId} {x i:Operand} {u j v:Value} (ho:o.op=.index ty x i) (hx:a.eval x=u) (hi:a.eval i=j) (h:(Instr.index ty u j).run P w=.ok v w):(execOp a.eval o).run P w=.ok (.value v) w:=by
 unfold execOp;simp only[ho,hx,hi,Sem.run_bind,Sem.run_pure,Result.andThen_ok,h]
theorem Zek:Tryz.prog.underlying 9=some .string:=by kernel_rfl
theorem ZfN {n:Int} (h0:0≤n) (h1:n<65536):IntKind.u16.wrap n=n:=by
 rw[show IntKind.u16.wrap n=n%65536 from by rfl];exact Int.emod_eq_of_lt h0 h1
theorem and16 {n:Nat} (h:n<65536):bits .and .u16 (n:Int) 255=((n%256:Nat):Int):=by
 rw[show (255:Int)=((255:Nat):Int) from rfl,(bits_nat .u16 16 (by decide) (fun n h0 h1=>ZfN h0 h1) n 255 h (by decide)).1];rw[show 255=2 ^ 8-1 from rfl,Nat.and_two_pow_sub_one_eq_mod]
theorem or16 {A B:Nat} (hA:A<256) (hB:B<256):bits .or .u16 (A:Int) ((B*256:Nat):Int)=((A+256*B:Nat):Int):=by
 rw[(bits_nat .u16 16 (by decide) (fun n h0 h1=>ZfN h0 h1) A (B*256) (by omega) (by omega)).2];have h:=Nat.shiftLeft_add_eq_or_of_lt (i:=8) hA B;rw[Nat.shiftLeft_eq] at h;rw[Nat.or_comm,← show B*2 ^ 8=B*256 from rfl,← h]
 congr 1
 omega
set_option linter.unusedSimpArgs false in
set_option maxRecDepth 100000 in
set_option maxHeartbeats 1000000 in
theorem Zj4 {n:Nat} {w:World} (hn:n<65536):Calls Tryz.prog 176 #[.int .u16 (n:Int)] w fun e w'=>e=.returned (.int .u16 ((Zb2 (n/256)+256*Zb2 n:Nat):Int))∧Below w.heap.size w w':=by
 obtain⟨hi,hhi⟩:∃ z,n/256=z:=⟨_,rfl⟩;obtain ⟨lo,hlo⟩:∃ z,n%256=z:=⟨_,rfl⟩;have e1:(n:Int)/256=(hi:Int):=by omega
 have e2:bits .and .u16 (n:Int) 255=(lo:Int):=by rw[and16 hn,hlo]
 have hh:hi<256:=by omega
 have hl:lo<256:=by omega
 have i1:Hid (∀ wx:World,(Instr.index 9 (.string Zg3) (.int .u16 (hi:Int))).run Tryz.prog wx=.ok (.int .u8 (Zb2 hi:Int)) wx):=fun wx=>by rw[Zed Zek (ZfI hi hh),Zg2 hi hh]
 have i2:Hid (∀ wx:World,(Instr.index 9 (.string Zg3) (.int .u16 (lo:Int))).run Tryz.prog wx=.ok (.int .u8 (Zb2 lo:Int)) wx):=fun wx=>by rw[Zed Zek (ZfI lo hl),Zg2 lo hl]
 obtain⟨A,hA⟩:∃ z,Zb2 hi=z:=⟨_,rfl⟩;obtain ⟨B,hB⟩:∃ z,Zb2 lo=z:=⟨_,rfl⟩;have hA2:A<256:=by rw[← hA];exact ZeF hi hh
 have hB2:B<256:=by rw[← hB];exact ZeF lo hl
 have HR:Hid (A=Zb2 (n/256)∧B=Zb2 n):=⟨by rw[hhi,hA],by rw[← Zix,hlo,hB]⟩;rw[hA] at i1;rw[hB] at i2;clear hA hB hhi hlo hh hl;obtain ⟨C,hC⟩:∃ z,A+256*B=z:=⟨_,rfl⟩;obtain ⟨D,hD⟩:∃ z,B*256=z:=⟨_,rfl⟩;have e3:IntKind.u16.wrap (A:Int)=(A:Int):=ZfN (by omega) (by omega);have e4:IntKind.u16.wrap (B:Int)=(B:Int):=ZfN (by omega) (by omega);have e5:IntKind.u16.wrap ((B:Int)*256)=(D:Int):=by rw[← hD];exact (ZfN (by omega) (by omega)).trans (by omega)
 have e6:bits .or .u16 (A:Int) (D:Int)=(C:Int):=by rw[← hD,← hC];exact or16 hA2 hB2
 have HC:Hid (A+256*B=C):=hC;clear hC hD;go_enter Tryz.func176,Tryz.ntmps176;go_upto_region 1 with fail;obtain ⟨S1,hS1,KT1⟩:∃ S:World→Prop,Hd S w.drew∧Hid (∀ wx,Hd S wx→wx=w.drew):=⟨fun wx=>wx=w.drew,rfl,fun _ h=>h⟩;refine wp_region_noPanic ?_;refine wp_region_held_drew (S:=Hd S1) (by kernel_rfl) hS1 (fun hHeld=>?_);clear hS1;refine wpAnyH_take (i:=0) (v:=?_) rfl (by kernel_rfl) (by kernel_rfl) (by kernel_rfl) (fun _ _ _ h=>h) (Or.inl ⟨by rfl,?_⟩) (by assumption) ?_;rotate_left
 ·intro w hSw
  go_simp
  with_reducible rfl
 try simp only[Act.put,List.getElem_toArray,List.getElem_cons_zero,List.getElem_cons_succ,List.setIfInBounds_toArray,List.set_cons_zero,List.set_cons_succ]
 refine wpAnyH_take (i:=1) (v:=?_) rfl (by kernel_rfl) (by kernel_rfl) (by kernel_rfl) (fun _ _ _ h=>h) (Or.inl ⟨by rfl,?_⟩) (by assumption) ?_;rotate_left
 ·intro w hSw
  go_simp
  with_reducible rfl
 try simp only[Act.put,List.getElem_toArray,List.getElem_cons_zero,List.getElem_cons_succ,List.setIfInBounds_toArray,List.set_cons_zero,List.set_cons_succ]
 refine wpAnyH_take (i:=2) (v:=.int .u8 (A:Int)) rfl (by kernel_rfl) (by kernel_rfl) (by kernel_rfl) (fun _ _ _ h=>h) (Or.inl ⟨by rfl,fun wx h=>Zfw (u:=.string Zg3) rfl (by kernel_rfl) (by rfl) (i1.out wx)⟩) (by assumption) ?_
 try simp only[Act.put,List.getElem_toArray,List.getElem_cons_zero,List.getElem_cons_succ,List.setIfInBounds_toArray,List.set_cons_zero,List.set_cons_succ]
 refine wpAnyH_take (i:=3) (v:=?_) rfl (by kernel_rfl) (by kernel_rfl) (by kernel_rfl) (fun _ _ _ h=>h) (Or.inl ⟨by rfl,?_⟩) (by assumption) ?_;rotate_left
 ·intro w hSw
  go_simp
  with_reducible rfl
 try simp only[Act.put,List.getElem_toArray,List.getElem_cons_zero,List.getElem_cons_succ,List.setIfInBounds_toArray,List.set_cons_zero,List.set_cons_succ]
 refine wpAnyH_take (i:=4) (v:=?_) rfl (by kernel_rfl) (by kernel_rfl) (by kernel_rfl) (fun _ _ _ h=>h) (Or.inl ⟨by rfl,?_⟩) (by assumption) ?_;rotate_left
 ·intro w hSw
  go_simp
  with_reducible rfl
 try simp only[Act.put,List.getElem_toArray,List.getElem_cons_zero,List.getElem_cons_succ,List.setIfInBounds_toArray,List.set_cons_zero,List.set_cons_succ]
 refine wpAnyH_take (i:=5) (v:=?_) rfl (by kernel_rfl) (by kernel_rfl) (by kernel_rfl) (fun _ _ _ h=>h) (Or.inl ⟨by rfl,?_⟩) (by assumption) ?_;rotate_left
 ·intro w hSw
  go_simp
  with_reducible rfl
 try simp only[Act.put,List.getElem_toArray,List.getElem_cons_zero,List.getElem_cons_succ,List.setIfInBounds_toArray,List.set_cons_zero,List.set_cons_succ]
 refine wpAnyH_take (i:=6) (v:=.int .u8 (B:Int)) rfl (by kernel_rfl) (by kernel_rfl) (by kernel_rfl) (fun _ _ _ h=>h) (Or.inl ⟨by rfl,fun wx h=>Zfw (u:=.string Zg3) rfl (by kernel_rfl) (by rfl) (i2.out wx)⟩) (by assumption) ?_
 try simp only[Act.put,List.getElem_toArray,List.getElem_cons_zero,List.getElem_cons_succ,List.setIfInBounds_toArray,List.set_cons_zero,List.set_cons_succ]
 refine wpAnyH_take (i:=7) (v:=?_) rfl (by kernel_rfl) (by kernel_rfl) (by kernel_rfl) (fun _ _ _ h=>h) (Or.inl ⟨by rfl,?_⟩) (by assumption) ?_;rotate_left
 ·intro w hSw
  go_simp
  with_reducible rfl
 try simp only[Act.put,List.getElem_toArray,List.getElem_cons_zero,List.getElem_cons_succ,List.setIfInBounds_toArray,List.set_cons_zero,List.set_cons_succ]
 refine wpAnyH_take (i:=8) (v:=?_) rfl (by kernel_rfl) (by kernel_rfl) (by kernel_rfl) (fun _ _ _ h=>h) (Or.inl ⟨by rfl,?_⟩) (by assumption) ?_;rotate_left
 ·intro w hSw
  go_simp
  with_reducible rfl
 try simp only[Act.put,List.getElem_toArray,List.getElem_cons_zero,List.getElem_cons_succ,List.setIfInBounds_toArray,List.set_cons_zero,List.set_cons_succ]
 refine wpAnyH_take (i:=9) (v:=?_) rfl (by kernel_rfl) (by kernel_rfl) (by kernel_rfl) (fun _ _ _ h=>h) (Or.inl ⟨by rfl,?_⟩) (by assumption) ?_;rotate_left
 ·intro w hSw
  go_simp
  with_reducible rfl
 try simp only[Act.put,List.getElem_toArray,List.getElem_cons_zero,List.getElem_cons_succ,List.setIfInBounds_toArray,List.set_cons_zero,List.set_cons_succ]
 refine wpAnyH_ready (rs:=[10]) (by kernel_rfl) (by simp) ?_;refine AllReadyH.cons rfl (fun K hK=>?_) ?_
 ·go_simp
  refine hK.out _ _ ?_ (fun hHeld2=>?_)
  ·exact hHeld
  ·clear hK K
   try clear hHeld
   have hHeld:=hHeld2;clear hHeld2
   try simp only[Act.put,List.getElem_toArray,List.getElem_cons_zero,List.getElem_cons_succ,List.setIfInBounds_toArray,List.set_cons_zero,List.set_cons_succ]
   refine wpAnyH_done (by kernel_rfl) ?_ _;refine NoPanic.normal ?_;go_wp2_with fail;go_ret;exact ⟨by rw[← HR.out.1,← HR.out.2,HC.out];rfl,Below.drew (Below.refl _ _)⟩
 exact AllReadyH.nil
set_option linter.unusedSimpArgs false in
set_option maxRecDepth 100000 in
set_option maxHeartbeats 400000 in
theorem Zh7 {n:Nat} {w:World} (hn:n<256):Calls Tryz.prog 177 #[.int .u8 (n:Int)] w fun e w'=>e=.returned (.int .i64 ((Zct 8 n:Nat):Int))∧w'=w:=by
 have i1:Hid ((Instr.index 9 (.string ZkP) (.int .u8 (n:Int))).run Tryz.prog w=.ok (.int .u8 (Zct 8 n:Int)) w):=by show _=_;rw[Zed Zek (Zjp n hn),ZkF n hn]
 have hA2:=Zf3 n hn;obtain ⟨A,hA⟩:∃ z,Zct 8 n=z:=⟨_,rfl⟩;rw[hA] at i1 hA2 ⊢;clear hA;have e1:IntKind.i64.wrap (A:Int)=(A:Int):=by rw[IntKind.wrap_i64];omega
 go_enter Tryz.func177,Tryz.ntmps177;go_wp2_with (first|(refine ZaF (by rfl) (by rfl) (u:=.string ZkP) (by kernel_rfl) (by rfl) i1.out ?_)|fail);go_ret;exact ⟨rfl,rfl⟩
def Zcj (c:Ct):Option Tl:=if c.usage<1∨65535<c.usage then none else some (ZeA c.usage.toNat)
theorem Zhd {c:Ct} (h:c.usage<1∨65535<c.usage):Zcj c=none:=if_pos h
theorem ZjC {c:Ct} {n:Nat} (h:c.usage=(n:Int)) (h1:1≤n) (h2:n≤65535):Zcj c=some (ZeA n):=by
 unfold Zcj;rw[if_neg (by omega),h]
 rfl
theorem useB_a {n:Nat} (h:Zb2 (n/256)=0):ZjD n=[(Zct 8 (Zb2 n):Int)]++[(Zb2 n:Int)]:=by unfold ZjD;rw[if_pos h];rfl
theorem useB_b {n:Nat} (h:¬ Zb2 (n/256)=0):ZjD n=[(Zct 8 (Zb2 (n/256)):Int)]++([(Zb2 n:Int)]++[(Zb2 (n/256):Int)]):=by unfold ZjD;rw[if_neg h];rfl
theorem Zph {n:Int} (h0:0≤n) (h1:n<256):IntKind.u8.wrap n=n:=by rw[IntKind.wrap_u8];omega
set_option linter.unusedSimpArgs false in
set_option maxRecDepth 100000 in
set_option maxHeartbeats 2000000 in
theorem Zew {c:Ct} {cs:List Value} {w:World} (h:Zds w c cs):Calls Tryz.prog 113 #[.agg cs.toArray] w (ElR w (Zcj c)):=by
 have HC:Hid (Zds w c cs):=h;obtain ⟨sv,iv,jv,xs,ys,uv,pv,ev,bv,rs,zs,hl,q0,q1,q2,q3,q4,q17,q18,q19,q20,q21,q22,q23,q24,-,qk,-,hS,hI,hJ,hX,hY,hU,hP,hE,-,-,-⟩:=h.open;have HL38:Hid (cs.length=38):=hl;clear h hl;have B0:=(Blk.new w cs 35 w.heap.size rfl).alloc (.cells #[.int .i64 0,.int .i64 0,.bool false,.slice none 0 0,.slice none 0 0] 57);have R0:=Blk.new (w.alloc (.cells cs.toArray 35)) [.int .i64 0,.int .i64 0,.bool false,.slice none 0 0,.slice none 0 0] 57 (w.heap.size+1) (by simp);have bel:Below w.heap.size w ((w.alloc (.cells cs.toArray 35)).alloc (.cells #[.int .i64 0,.int .i64 0,.bool false,.slice none 0 0,.slice none 0 0] 57)):=((Below.refl _ _).alloc (Nat.le_refl _) _).alloc (by simp) _;have hz:=Zad.out;go_enter Tryz.func113,Tryz.ntmps113;go_upto_region 1 with fail;have lW:=bel.size;generalize (w.alloc (.cells cs.toArray 35)).alloc (.cells #[.int .i64 0,.int .i64 0,.bool false,.slice none 0 0,.slice none 0 0] 57)=W at *;have lR:=R0.lt;obtain ⟨N0,hN0⟩:∃ n,n=W.heap.size:=⟨_,rfl⟩;rw[← hN0] at lR lW;have hs:N0≤W.heap.size:=by omega
 clear hz;have l0:=B0.lt;have e20:=B0.cell 20 _ q20;obtain ⟨us,hus⟩:∃ z,c.usage=z:=⟨_,rfl⟩;have Hus:Hid (c.usage=us):=hus;rw[hus] at e20;clear hus q0 q1 q2 q3 q4 q17 q18 q19 q20 q21 q22 q23 q24 qk hS hI hJ hX hY hU hP hE
 by_cases k1:us<1
 ·have H:Hid (Zcj c=none):=Zhd (.inl (by rw[Hus.out];exact k1))
  have hz:=Zad.out;obtain ⟨tR,hR⟩:=R0;have HR1:Hid _:=hR;clear hR;go_wp2_with (first|((with_reducible show wpList _ _ _ ({ dst:=_,op:=.store _ _ _,type:=_,pos:=_,after:=_,guard:=_ } :: _) _ _);refine wpList_store_row rfl 57 _ _ rfl (w.heap.size+1) #[.int .i64 0,.int .i64 0,.bool false,.slice none 0 0,.slice none 0 0] rfl rfl tR _ HR1.out (by rw[Zab];rfl) rfl (by simp[Value.oneCell']) ?_)|fail);refine bodyPost_ret (Zag rfl _ _ (w.heap.size+1) tR #[.int .i64 0,.int .i64 0,.bool false,.slice none 0 0,.slice none 0 0] (0,0) _ rfl (setRow_heap _ _ _ _ _ _ HR1.out) Tryz.underlying57 rfl (by rw[Zab];rfl)) rfl ?_;exact ElR.bad H.out (below_setRow bel (by omega) _)
 by_cases k2:65535<us
 ·have H:Hid (Zcj c=none):=Zhd (.inr (by rw[Hus.out];exact k2))
  have hz:=Zad.out;obtain ⟨tR,hR⟩:=R0;have HR1:Hid _:=hR;clear hR;go_wp2_with (first|((with_reducible show wpList _ _ _ ({ dst:=_,op:=.store _ _ _,type:=_,pos:=_,after:=_,guard:=_ } :: _) _ _);refine wpList_store_row rfl 57 _ _ rfl (w.heap.size+1) #[.int .i64 0,.int .i64 0,.bool false,.slice none 0 0,.slice none 0 0] rfl rfl tR _ HR1.out (by rw[Zab];rfl) rfl (by simp[Value.oneCell']) ?_)|fail);refine bodyPost_ret (Zag rfl _ _ (w.heap.size+1) tR #[.int .i64 0,.int .i64 0,.bool false,.slice none 0 0,.slice none 0 0] (0,0) _ rfl (setRow_heap _ _ _ _ _ _ HR1.out) Tryz.underlying57 rfl (by rw[Zab];rfl)) rfl ?_;exact ElR.bad H.out (below_setRow bel (by omega) _)
 obtain⟨n,hn⟩:∃ n:Nat,us=(n:Int):=⟨us.toNat,by omega⟩;subst hn;have hn1:1≤n:=by omega
 have hn2:n≤65535:=by omega
 have H:Hid (Zcj c=some (ZeA n)):=ZjC Hus.out hn1 hn2;have e1:IntKind.u16.wrap (n:Int)=(n:Int):=ZfN (by omega) (by omega);go_wp2_with fail;refine (Zj4 (n:=n) (by omega)).mono ?_;rintro e w1 ⟨rfl,hb⟩;replace R0:=R0.later hb;replace bel:=Zaa bel hb;replace hs:N0≤w1.heap.size:=Nat.le_trans hs hb.size;clear hb e20 l0 B0 e1 k1 k2;obtain ⟨A,hA⟩:∃ z,Zb2 (n/256)=z:=⟨_,rfl⟩;obtain ⟨B,hB⟩:∃ z,Zb2 n=z:=⟨_,rfl⟩;have hA2:A<256:=by rw[← hA];exact ZeF _ (by omega)
 have hB2:B<256:=by rw[← hB,← Zix];exact ZeF _ (by omega)
 have HA:Hid (Zb2 (n/256)=A):=hA;have HB:Hid (Zb2 n=B):=hB;rw[hA,hB];obtain ⟨C,hC⟩:∃ z,A+256*B=z:=⟨_,rfl⟩;rw[hC];have e2:(C:Int)/256=(B:Int):=by omega
 have e3:IntKind.u8.wrap (B:Int)=(B:Int):=Zph (by omega) (by omega);have e4:IntKind.u8.wrap (C:Int)=(A:Int):=by rw[IntKind.wrap_u8];omega
 clear hA hB hC;have ow0:(w1.alloc (.cells (u8s [(B:Int)]).toArray 5)).ownsRow N0 5 1 (.slice (some ⟨w1.heap.size,0,none⟩) 1 1) 1 (u8s [(B:Int)]):=Zax w1 (u8s [(B:Int)]) 5 1 N0 rfl hs (by decide);have bel0:Below w.heap.size w (w1.alloc (.cells (u8s [(B:Int)]).toArray 5)):=Zaf bel;have R1:Blk (w1.alloc (.cells (u8s [(B:Int)]).toArray 5)) (w.heap.size+1) [.int .i64 0,.int .i64 0,.bool false,.slice none 0 0,.slice none 0 0]:=R0.alloc _;have hs4:N0≤(w1.alloc (.cells (u8s [(B:Int)]).toArray 5)).heap.size:=Nat.le_trans hs ((Below.refl _ _).alloc (Nat.le_refl _) _).size;go_upto_region 6 with fail;obtain ⟨g4,hg4⟩:∃ g,g=w1.heap.size:=⟨_,rfl⟩;rw[← hg4] at ow0 ⊢;have hE:w1.alloc (.cells #[.int .u8 (B:Int)] 5)=(w1.alloc (.cells (u8s [(B:Int)]).toArray 5)):=rfl;rw[hE];clear hE;generalize (w1.alloc (.cells (u8s [(B:Int)]).toArray 5))=W4 at *;clear hg4 bel R0 hs
 by_cases kA:A=0
 ·have d1:((A:Int) == 0)=true:=by rw[kA];rfl
  have d2:((A:Int) != 0)=false:=by rw[bne,d1];rfl
  have HK:Hid (Zb2 (n/256)=0):=by rw[HA.out];exact kA
  clear kA;have HBx:Hid (Bs W4 (.slice (some ⟨g4,0,none⟩) 1 1) [(B:Int)]):=Bs.of_own ow0;have HZ:=HBx.out;obtain ⟨ao,cp,ev9,-,-,h9⟩:=HZ;obtain ⟨b9,o9,e9,lt9,hc9⟩:=h9 (by simp);simp only[Value.slice.injEq] at ev9;rw[e9,Option.some.injEq] at ev9;have c9:=hc9 0 (by simp);obtain ⟨e91,-,-⟩:=ev9;simp only[Addr.mk.injEq] at e91;obtain ⟨rfl,rfl,-⟩:=e91;replace c9:W4.cell? ⟨g4,0,none⟩=some (.int .u8 (B:Int)):=c9;clear hc9 ow0 e9;have w9:IntKind.i64.wrap ((1:Int)-1)=0:=by decide
  go_wp2_with fail;refine (Zh7 (n:=B) hB2).mono ?_;rintro e w5 ⟨rfl,hw5⟩;rw[hw5];clear hw5;obtain ⟨U,hU⟩:∃ z,Zct 8 B=z:=⟨_,rfl⟩;have HU:Hid (Zct 8 B=U):=hU;have hU2:U≤8:=by rw[← hU];exact Zf3 _ hB2
  rw[hU];have e5:IntKind.u8.wrap (U:Int)=(U:Int):=Zph (by omega) (by omega);clear hU w9;have ow9:(W4.alloc (.cells (u8s [(U:Int)]).toArray 5)).ownsRow N0 5 1 (.slice (some ⟨W4.heap.size,0,none⟩) 1 1) 1 (u8s [(U:Int)]):=Zax W4 (u8s [(U:Int)]) 5 1 N0 rfl hs4 (by decide);have HB9:Hid (Bs (W4.alloc (.cells (u8s [(U:Int)]).toArray 5)) (.slice (some ⟨g4,0,none⟩) 1 1) [(B:Int)]):=HBx.out.later ((Below.refl _ _).alloc (Nat.le_refl _) _);replace bel0:Below w.heap.size w (W4.alloc (.cells (u8s [(U:Int)]).toArray 5)):=Zaf bel0;replace R1:Blk (W4.alloc (.cells (u8s [(U:Int)]).toArray 5)) (w.heap.size+1) [.int .i64 0,.int .i64 0,.bool false,.slice none 0 0,.slice none 0 0]:=R1.alloc _;replace hs4:N0≤(W4.alloc (.cells (u8s [(U:Int)]).toArray 5)).heap.size:=Nat.le_trans hs4 ((Below.refl _ _).alloc (Nat.le_refl _) _).size;go_wp2_with (first|(at_builtin;refine Zac (by rfl) _ _ (by rfl) N0 _ 1 [(U:Int)] (by rfl) ow9 _ [(B:Int)] (by rfl) HB9.out (by simp) hs4 ?_;intro v8 we own8 hgrow hat;obtain ⟨fa,fc,hfv⟩:=Zf8 own8;subst hfv)|fail);have R0:Blk we (w.heap.size+1) [.int .i64 0,.int .i64 0,.bool false,.slice none 0 0,.slice none 0 0]:=R1.grown hgrow (fun k hk e=>by have:=(Zat ow9 hk).1;omega);have hsz:=bel0.size;have bel:Below w.heap.size w we:=Below.grown bel0 hgrow hsz (fun k hk=>by have:=(Zat ow9 hk).1;omega);have HT:Hid (Dep (fun g=>N0≤g) we (ZeA n) [.int .i64 0,.int .i64 3,.bool false,.slice fa (1+1) fc,.slice none 0 0]):=by
   have h:=Zb0 (S:=fun g=>N0≤g) (b:=[(U:Int)]++[(B:Int)]) own8 (by simp) (fun g hg=>(Zat own8 hg).1) 0 3 false;unfold ZeA;rw[useB_a HK.out,HB.out,HU.out];exact h
  clear ow9 HB9 own8 hgrow hat bel0 R1 hsz;refine ZbT.mono ?_;rintro e w6 ⟨rfl,hb⟩;replace HT:Hid (Dep (fun g=>N0≤g) w6 (ZeA n) [.int .i64 0,.int .i64 3,.bool false,.slice fa (1+1) fc,.slice none 0 0]):=HT.out.next (Agr.below hb) (fun _ h _=>h);replace R0:=R0.later hb;replace bel:=Zaa bel hb;clear hb;obtain ⟨tR,hR⟩:=R0;have HR1:Hid _:=hR;clear hR;go_wp2_with (first|((with_reducible show wpList _ _ _ ({ dst:=_,op:=.store _ _ _,type:=_,pos:=_,after:=_,guard:=_ } :: _) _ _);refine wpList_store_row rfl 57 _ _ rfl (w.heap.size+1) #[.int .i64 0,.int .i64 3,.bool false,.slice fa (1+1) fc,.slice none 0 0] rfl rfl tR _ HR1.out (by rw[Zab];rfl) rfl (by simp[Value.oneCell']) ?_)|fail);refine bodyPost_ret (Zag rfl _ _ (w.heap.size+1) tR #[.int .i64 0,.int .i64 3,.bool false,.slice fa (1+1) fc,.slice none 0 0] (0,0) _ rfl (setRow_heap _ _ _ _ _ _ HR1.out) Tryz.underlying57 rfl (by rw[Zab];rfl)) rfl ?_;exact ElR.ok (cs:=[.int .i64 0,.int .i64 3,.bool false,.slice fa (1+1) fc,.slice none 0 0]) H.out (ZaB HT.out lR lW) (below_setRow bel (by omega) _)
 have d1:((A:Int) == 0)=false:=by rw[beq_eq_false_iff_ne];omega
 have d2:((A:Int) != 0)=true:=by rw[bne,d1];rfl
 have HK:Hid (¬ Zb2 (n/256)=0):=by show ¬ _;rw[HA.out];exact kA
 clear kA;have HB5:Hid (Bs (W4.alloc (.cells (u8s [(A:Int)]).toArray 5)) (.slice (some ⟨W4.heap.size,0,none⟩) 1 1) [(A:Int)]):=Blk.bs (P:=[(A:Int)]) (Blk.new W4 (u8s [(A:Int)]) 5 W4.heap.size rfl) rfl (by decide);have ow5:(W4.alloc (.cells (u8s [(A:Int)]).toArray 5)).ownsRow N0 5 1 (.slice (some ⟨g4,0,none⟩) 1 1) 1 (u8s [(B:Int)]):=Zbr (S:=fun _=>True) ow0 (Agr.below ((Below.refl _ _).alloc (Nat.le_refl _) _)) (fun _ _=>trivial);replace bel0:Below w.heap.size w (W4.alloc (.cells (u8s [(A:Int)]).toArray 5)):=Zaf bel0;replace R1:Blk (W4.alloc (.cells (u8s [(A:Int)]).toArray 5)) (w.heap.size+1) [.int .i64 0,.int .i64 0,.bool false,.slice none 0 0,.slice none 0 0]:=R1.alloc _;replace hs4:N0≤(W4.alloc (.cells (u8s [(A:Int)]).toArray 5)).heap.size:=Nat.le_trans hs4 ((Below.refl _ _).alloc (Nat.le_refl _) _).size;go_upto_region 8 with (first|(at_builtin;refine Zac (by rfl) _ _ (by rfl) N0 _ 1 [(B:Int)] (by rfl) ow5 _ [(A:Int)] (by rfl) HB5.out (by simp) hs4 ?_;intro v7 W7 own7 hgrow7 hat7;obtain ⟨fa7,fc7,hfv7⟩:=Zf8 own7;subst hfv7)|fail);replace R1:Blk W7 (w.heap.size+1) [.int .i64 0,.int .i64 0,.bool false,.slice none 0 0,.slice none 0 0]:=R1.grown hgrow7 (fun k hk e=>by have:=(Zat ow5 hk).1;omega);have hsz7:=bel0.size;replace bel0:Below w.heap.size w W7:=Below.grown bel0 hgrow7 hsz7 (fun k hk=>by have:=(Zat ow5 hk).1;omega);replace hs4:N0≤W7.heap.size:=Nat.le_trans hs4 hgrow7.size;have HBx0:Bs W7 (.slice fa7 (1+1) fc7) ([(B:Int)]++[(A:Int)]):=Bs.of_own own7;clear ow5 HB5 own7 hgrow7 hat7 hsz7 ow0;have HZ:=HBx0;obtain ⟨ao,cp,ev9,-,-,h9⟩:=HZ;obtain ⟨b8,o8,e9,lt9,hc9⟩:=h9 (by simp);simp only[Value.slice.injEq] at ev9;obtain ⟨e91,-,-⟩:=ev9;rw[e9] at e91;subst e91;obtain ⟨c8,hc8⟩:∃ z,fc7=z:=⟨_,rfl⟩;subst hc8;have c9:=hc9 1 (by simp);replace c9:W7.cell? ⟨b8,o8+1,none⟩=some (.int .u8 (A:Int)):=c9;have HBx:Hid (Bs W7 (.slice (some ⟨b8,o8,none⟩) 2 fc7) ([(B:Int)]++[(A:Int)])):=HBx0;clear hc9 e9 HBx0;have w9:IntKind.i64.wrap ((2:Int)-1)=1:=by decide
 go_wp2_with fail;refine (Zh7 (n:=A) hA2).mono ?_;rintro e w5 ⟨rfl,hw5⟩;rw[hw5];clear hw5;obtain ⟨U,hU⟩:∃ z,Zct 8 A=z:=⟨_,rfl⟩;have HU:Hid (Zct 8 A=U):=hU;have hU2:U≤8:=by rw[← hU];exact Zf3 _ hA2
 rw[hU];have e5:IntKind.u8.wrap (U:Int)=(U:Int):=Zph (by omega) (by omega);clear hU w9;have ow9:(W7.alloc (.cells (u8s [(U:Int)]).toArray 5)).ownsRow N0 5 1 (.slice (some ⟨W7.heap.size,0,none⟩) 1 1) 1 (u8s [(U:Int)]):=Zax W7 (u8s [(U:Int)]) 5 1 N0 rfl hs4 (by decide);have HB9:Hid (Bs (W7.alloc (.cells (u8s [(U:Int)]).toArray 5)) (.slice (some ⟨b8,o8,none⟩) 2 fc7) ([(B:Int)]++[(A:Int)])):=HBx.out.later ((Below.refl _ _).alloc (Nat.le_refl _) _);replace bel0:Below w.heap.size w (W7.alloc (.cells (u8s [(U:Int)]).toArray 5)):=Zaf bel0;replace R1:Blk (W7.alloc (.cells (u8s [(U:Int)]).toArray 5)) (w.heap.size+1) [.int .i64 0,.int .i64 0,.bool false,.slice none 0 0,.slice none 0 0]:=R1.alloc _;replace hs4:N0≤(W7.alloc (.cells (u8s [(U:Int)]).toArray 5)).heap.size:=Nat.le_trans hs4 ((Below.refl _ _).alloc (Nat.le_refl _) _).size;go_wp2_with (first|(at_builtin;refine Zac (by rfl) _ _ (by rfl) N0 _ 1 [(U:Int)] (by rfl) ow9 _ ([(B:Int)]++[(A:Int)]) (by rfl) HB9.out (by simp) hs4 ?_;intro v8 we own8 hgrow hat;obtain ⟨fa,fc,hfv⟩:=Zf8 own8;subst hfv)|fail);have R0:Blk we (w.heap.size+1) [.int .i64 0,.int .i64 0,.bool false,.slice none 0 0,.slice none 0 0]:=R1.grown hgrow (fun k hk e=>by have:=(Zat ow9 hk).1;omega);have hsz:=bel0.size;have bel:Below w.heap.size w we:=Below.grown bel0 hgrow hsz (fun k hk=>by have:=(Zat ow9 hk).1;omega);have HT:Hid (Dep (fun g=>N0≤g) we (ZeA n) [.int .i64 0,.int .i64 3,.bool false,.slice fa (1+2) fc,.slice none 0 0]):=by
  have h:=Zb0 (S:=fun g=>N0≤g) (b:=[(U:Int)]++([(B:Int)]++[(A:Int)])) own8 (by simp) (fun g hg=>(Zat own8 hg).1) 0 3 false;unfold ZeA;rw[useB_b HK.out,HA.out,HB.out,HU.out];exact h
 clear ow9 HB9 own8 hgrow hat bel0 R1 hsz;refine ZbT.mono ?_;rintro e w6 ⟨rfl,hb⟩;replace HT:Hid (Dep (fun g=>N0≤g) w6 (ZeA n) [.int .i64 0,.int .i64 3,.bool false,.slice fa (1+2) fc,.slice none 0 0]):=HT.out.next (Agr.below hb) (fun _ h _=>h);replace R0:=R0.later hb;replace bel:=Zaa bel hb;clear hb;obtain ⟨tR,hR⟩:=R0;have HR1:Hid _:=hR;clear hR;go_wp2_with (first|((with_reducible show wpList _ _ _ ({ dst:=_,op:=.store _ _ _,type:=_,pos:=_,after:=_,guard:=_ } :: _) _ _);refine wpList_store_row rfl 57 _ _ rfl (w.heap.size+1) #[.int .i64 0,.int .i64 3,.bool false,.slice fa (1+2) fc,.slice none 0 0] rfl rfl tR _ HR1.out (by rw[Zab];rfl) rfl (by simp[Value.oneCell']) ?_)|fail);refine bodyPost_ret (Zag rfl _ _ (w.heap.size+1) tR #[.int .i64 0,.int .i64 3,.bool false,.slice fa (1+2) fc,.slice none 0 0] (0,0) _ rfl (setRow_heap _ _ _ _ _ _ HR1.out) Tryz.underlying57 rfl (by rw[Zab];rfl)) rfl ?_;exact ElR.ok (cs:=[.int .i64 0,.int .i64 3,.bool false,.slice fa (1+2) fc,.slice none 0 0]) H.out (ZaB HT.out lR lW) (below_setRow bel (by omega) _)
end Go.Proofs.YtdfmoghjimghhaaGreatDoor
