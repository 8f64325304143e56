/- Elements of several, and what der.Write answers, shortly. The law's told and up. -/
import Derived.Test.YtcogndaiamgnbaaGreatDoorClEl
import Derived.Test.YtcogndaiamgnbaaGreatDoorDcG2
import Derived.Test.YtcogndaiamgnbaaGreatDoorDrDG
import Derived.Test.YtcogndaiamgnbaaGreatDoorDrTG
import Derived.Test.YtcogndaiamgnbaaGreatDoorPmNG
import Derived.Test.YtcogndaiamgnbaaGreatDoorClUp0
import Derived.Test.YtcogndaiamgnbaaGreatDoorErG
import Derived.Test.YtcogndaiamgnbaaGreatDoorDrParse
import Derived.Test.YtcogndaiamgnbaaGreatDoorRows
import Derived.Deep.OwnRows
import Derived.Deep.AppendLies
import Derived.Great.BuildSlice
import Derived.Laws.Rows
import Derived.BigQuiet
import Derived.Deep.WholeRow
import Derived.Deep.RegionHeld3
import Derived.Deep.DeepCutAuto
import Derived.Deep.DeepFit
namespace Go.Proofs.YtcogndaiamgnbaaGreatDoor
open Go.RowKit
theorem kc_n {P:Tl→List Value→Prop}:∀ (i:Nat) (k:Tl),([]:List Tl)[i]?=some k→P k ((([]:List Value).drop (5 * i)).take 5):=fun i k h=>by simp at h
theorem kc_c {P:Tl→List Value→Prop} {T:Tl} {cs xs:List Value} {Ts:List Tl} (h:P T cs) (l:cs.length=5) (hr:∀ (i:Nat) (k:Tl),Ts[i]?=some k→P k ((xs.drop (5 * i)).take 5)):∀ (i:Nat) (k:Tl),(T :: Ts)[i]?=some k→P k (((cs++xs).drop (5 * i)).take 5):=fun i k hk=>by
 match i,hk with
 | 0,hk =>
  simp only [List.getElem?_cons_zero,Option.some.injEq] at hk
  subst hk
  rw [Nat.mul_zero,List.drop_zero,List.take_append_of_le_length (by omega),List.take_of_length_le (by omega)]
  exact h
 | i + 1,hk =>
  rw [List.getElem?_cons_succ] at hk
  have:=hr i k hk
  rw [show 5 * (i + 1)=cs.length + 5 * i by omega,← List.drop_drop,List.drop_left]
  exact this
theorem fill_15 {c0 c1 c2:List Value} (h0:c0.length=5) (h1:c1.length=5) (h2:c2.length=5):Instr.fill (fun i=>some (i * 5,5)) ((Array.range (3 * 5)).map ((Value.agg #[.int .i64 0,.int .i64 0,.bool false,.slice none 0 0,.slice none 0 0]).cells[· % (Value.agg #[.int .i64 0,.int .i64 0,.bool false,.slice none 0 0,.slice none 0 0]).cells.size]!)) [(0,.agg c0.toArray),(1,.agg c1.toArray),(2,.agg c2.toArray)]=some (c0++(c1++(c2++[]))).toArray:=by
 obtain ⟨_,_,_,_,_,rfl⟩:=five h0
 obtain ⟨_,_,_,_,_,rfl⟩:=five h1
 obtain ⟨_,_,_,_,_,rfl⟩:=five h2
 kernel_rfl
/-- an error of this number, or none -/
def erN (n:Nat):Value:=if n=0 then .nilIface else .iface 57 (.int .i64 (n:Int))
theorem erN_0:erN 0=.nilIface:=rfl
theorem erN_s {n:Nat} (h:¬ n=0):erN n=.iface 57 (.int .i64 (n:Int)):=if_neg h
/-- what der.Write answers, shortly -/
theorem c17_Write {T:Tl} {cs:List Value} {w:World} (h:TlAt w T cs) (hl:(bytesT T).length≤1099511627776) :
  Calls Tryz.prog 23 #[.agg cs.toArray] w fun e w'=>∃ v':Value,e=.returned (.tuple #[v',erN (wrN T)])∧Bs w' v' (wrB T)∧NewV w v'∧Below w.heap.size w w':=by
 refine (c12_Write (smT_of_len hl) h).mono ?_
 rintro e w' ⟨v,er,rfl,hw,hb⟩
 by_cases k:wrN T=0
 ·obtain ⟨hf,rfl⟩:=hw.1 k
  refine ⟨v,by rw [k,erN_0],?_,?_,hb⟩
  ·unfold wrB
   rw [if_pos k]
   exact hf.bs
  ·obtain ⟨g,o,cap,cur,rfl,-,-,h3,-,-⟩:=hf
   exact fun a m c e h0=>by simp only [Value.slice.injEq,Option.some.injEq] at e;rw [← e.1];exact h3
 ·obtain ⟨hf,rfl⟩:=hw.2 k
  refine ⟨v,by rw [erN_s k],?_,?_,hb⟩
  ·unfold wrB
   rw [if_neg k]
   exact hf
  ·obtain ⟨ao,cap,rfl,-,-,-⟩:=hf
   exact fun a m c e h0=>by simp only [Value.slice.injEq] at e;simp at e;omega
theorem eq_codeT (c:Int):∀ w:World,(binOp .eql 39 (.iface 57 (.int .i64 c)) (.iface 57 (.int .i64 c))).run Tryz.prog w=.ok (.bool true) w:=fun w=>by
 have:(binOp .eql 39 (.iface 57 (.int .i64 c)) (.iface 57 (.int .i64 c))).run Tryz.prog w=.ok (.bool (decide (c=c))) w:=by kernel_rfl
 rw [this];simp
set_option linter.unusedSimpArgs false in
set_option maxRecDepth 100000 in
set_option maxHeartbeats 1000000 in
theorem con_up17 {w:World}:Calls Tryz.prog 8 #[] w fun e w'=>e=.returned (.bool true)∧Below w.heap.size w w':=by
 have HB:Hid (Bs (w.alloc (.cells (u8s [48,0]).toArray 5)) (.slice (some ⟨w.heap.size,0,none⟩) 2 2) [48,0]):=Blk.bs (P:=[48,0]) (Blk.new w (u8s [48,0]) 5 w.heap.size rfl) rfl (by decide)
 have bel:Below w.heap.size w (w.alloc (.cells (u8s [48,0]).toArray 5)):=(Below.refl _ _).alloc (Nat.le_refl _) _
 go_enter Tryz.func8,Tryz.ntmps8
 go_wp2_with fail
 refine (con_CDec0 HB.out).mono ?_
 rintro e w1 ⟨rfl,hb⟩
 replace bel:=below_step bel hb
 clear hb
 have hz:=zero_ct.out
 replace bel:=below_alloc (o:=.cells zC.toArray 35) bel
 have Bc:=Blk.new w1 zC 35 w1.heap.size rfl
 go_upto_region 2 with (first|((with_reducible show wpList _ _ _ ({ dst:=_,op:=.store _ _ _,type:=_,pos:=_,after:=_,guard:=_ } :: _) _ _);refine wpList_store_row rfl 35 _ _ rfl w1.heap.size zC.toArray rfl rfl 35 _ (heap_alloc_last _ _) (by rw [size_ctU,zC_size]) (by first|rfl|(rw [zC_size];rfl)) zC_ones ?_;rw [World.setRow_alloc_new])|fail)
 obtain ⟨gc,hgc⟩:∃ g,g=w1.heap.size:=⟨_,rfl⟩
 rw [← hgc] at Bc ⊢
 generalize w1.alloc (.cells zC.toArray 35)=V1 at *
 clear hgc
 clear Bc
 go_wp2_with fail
 refine con_CBody0.mono ?_
 rintro e w2 ⟨rfl,hb⟩
 replace bel:=below_step bel hb
 clear hb
 have q7:=eq_codeT 7
 have q1:=eq_codeT 1
 go_wp2_with fail
 go_ret
 exact ⟨rfl,bel⟩
set_option linter.unusedSimpArgs false in
set_option maxRecDepth 100000 in
set_option maxHeartbeats 400000 in
theorem con_toldN {n:Nat} {w:World} (h:n≤21):Calls Tryz.prog 15 #[erN n,.int .i64 (n:Int),.int .i64 (-1)] w fun e w'=>e=.returned (.bool true)∧Below w.heap.size w w':=by
 by_cases c:n=0
 ·subst c
  rw [erN_0]
  go_enter Tryz.func15,Tryz.ntmps15
  go_wp2_with fail
  refine con_CodeNil.mono ?_
  rintro e w' ⟨rfl,rfl⟩
  go_wp2_with fail
  go_ret
  exact ⟨rfl,Below.refl _ _⟩
 ·rw [erN_s c]
  go_enter Tryz.func15,Tryz.ntmps15
  go_wp2_with fail
  refine (con_CodeOf (by omega) h).mono ?_
  rintro e w' ⟨rfl,rfl⟩
  have d:((n:Int) == (n:Int))=true:=beq_self_eq_true _
  go_wp2_with fail
  go_ret
  exact ⟨rfl,Below.refl _ _⟩
set_option linter.unusedSimpArgs false in
set_option maxRecDepth 100000 in
set_option maxHeartbeats 400000 in
theorem con_toldE {c p:Nat} {er:Value} {w:World} (G:GlsE w) (h:ErAt w c p er) (h1:1≤c) (h2:c≤21):Calls Tryz.prog 15 #[er,.int .i64 (c:Int),.int .i64 (atP c p)] w fun e w'=>e=.returned (.bool true)∧Below w.heap.size w w':=by
 unfold atP
 rcases h with ⟨rfl,rfl⟩|⟨hc,g,rfl,B⟩
 ·rw [if_pos rfl]
  have k:=con_toldN (n:=2) (w:=w) (by omega)
  rw [erN_s (by omega)] at k
  exact k
 ·rw [if_neg hc]
  have HB:Hid (Blk w g [.int .i64 (p:Int),.iface 57 (.int .i64 (c:Int))]):=B
  have HG:Hid (GlsE w):=G
  clear B G
  have g1:¬ (p:Int) < 0:=by omega
  go_enter Tryz.func15,Tryz.ntmps15
  go_wp2_with fail
  refine (con_IsSpot HG.out HB.out).mono ?_
  rintro e w' ⟨rfl,hb⟩
  rw [show (decide ((c:Int)=(c:Int)) && decide ((p:Int)=(p:Int)))=true by simp]
  go_wp2_with fail
  go_ret
  exact ⟨rfl,hb⟩
end Go.Proofs.YtcogndaiamgnbaaGreatDoor
