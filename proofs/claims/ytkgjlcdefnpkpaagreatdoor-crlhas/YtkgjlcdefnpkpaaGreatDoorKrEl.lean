/- Bytes in a list; a slice that is owned. Elements of several, and what der.Write answers, shortly. Lists and plain elements: what the program answers. -/
import Derived.Test.YtkgjlcdefnpkpaaGreatDoorNlSG
import Derived.Test.YtkgjlcdefnpkpaaGreatDoorCtSize
import Derived.Test.YtkgjlcdefnpkpaaGreatDoorCtRG
import Derived.Test.YtkgjlcdefnpkpaaGreatDoorDrTG
import Derived.Test.YtkgjlcdefnpkpaaGreatDoorDrDG
import Derived.Test.YtkgjlcdefnpkpaaGreatDoorDcG2
import Derived.Test.YtkgjlcdefnpkpaaGreatDoorPmNG
import Derived.Test.YtkgjlcdefnpkpaaGreatDoorKrSpec
import Derived.Test.YtkgjlcdefnpkpaaGreatDoorApBs
import Derived.Test.YtkgjlcdefnpkpaaGreatDoorRows
import Derived.Deep.OwnRows
import Derived.Deep.AppendLies
import Derived.Great.BuildSlice
import Derived.Laws.Rows
import Derived.BigQuiet
import Derived.Deep.WholeRow
import Derived.Deep.RegionHeld3
import Derived.Deep.DeepCutAuto
import Derived.Deep.DeepFit
import Derived.Lib.SlBytesConst
namespace Go.Proofs.YtkgjlcdefnpkpaaGreatDoor
open Go.RowKit
theorem own_slE {w:World} {base size:Nat} {e:TypeId} {v:Value} {n:Nat} {xs:List Value} (h:w.ownsRow base e size v n xs):∃ ao cap,v=.slice ao n cap:=by
 rcases h.2 with ⟨h1,h2⟩|⟨g,cap,cur,h1,_⟩
 ·exact ⟨none,0,by rw [h1,h2]⟩
 ·exact ⟨_,cap,h1⟩
theorem kc_n {P:Tl→List Value→Prop}:∀ (i:Nat) (k:Tl),([]:List Tl)[i]?=some k→P k ((([]:List Value).drop (5 * i)).take 5):=fun i k h=>by simp at h
theorem kc_c {P:Tl→List Value→Prop} {T:Tl} {cs xs:List Value} {Ts:List Tl} (h:P T cs) (l:cs.length=5) (hr:∀ (i:Nat) (k:Tl),Ts[i]?=some k→P k ((xs.drop (5 * i)).take 5)):∀ (i:Nat) (k:Tl),(T :: Ts)[i]?=some k→P k (((cs++xs).drop (5 * i)).take 5):=fun i k hk=>by
 match i,hk with
 | 0,hk =>
  simp only [List.getElem?_cons_zero,Option.some.injEq] at hk
  subst hk
  rw [Nat.mul_zero,List.drop_zero,List.take_append_of_le_length (by omega),List.take_of_length_le (by omega)]
  exact h
 | i + 1,hk =>
  rw [List.getElem?_cons_succ] at hk
  have:=hr i k hk
  rw [show 5 * (i + 1)=cs.length + 5 * i by omega,← List.drop_drop,List.drop_left]
  exact this
/-- an error of this number, or none -/
def erN (n:Nat):Value:=if n=0 then .nilIface else .iface 56 (.int .i64 (n:Int))
theorem erN_0:erN 0=.nilIface:=rfl
theorem erN_s {n:Nat} (h:¬ n=0):erN n=.iface 56 (.int .i64 (n:Int)):=if_neg h
/-- what der.Write answers, shortly -/
theorem c17_Write {T:Tl} {cs:List Value} {w:World} (h:TlAt w T cs) (hl:(bytesT T).length≤1099511627776) :
  Calls Tryz.prog 21 #[.agg cs.toArray] w fun e w'=>∃ v':Value,e=.returned (.tuple #[v',erN (wrN T)])∧Bs w' v' (wrB T)∧NewV w v'∧Below w.heap.size w w':=by
 refine (c12_Write (smT_of_len hl) h).mono ?_
 rintro e w' ⟨v,er,rfl,hw,hb⟩
 by_cases k:wrN T=0
 ·obtain ⟨hf,rfl⟩:=hw.1 k
  refine ⟨v,by rw [k,erN_0],?_,?_,hb⟩
  ·unfold wrB
   rw [if_pos k]
   exact hf.bs
  ·obtain ⟨g,o,cap,cur,rfl,-,-,h3,-,-⟩:=hf
   exact fun a m c e h0=>by simp only [Value.slice.injEq,Option.some.injEq] at e;rw [← e.1];exact h3
 ·obtain ⟨hf,rfl⟩:=hw.2 k
  refine ⟨v,by rw [erN_s k],?_,?_,hb⟩
  ·unfold wrB
   rw [if_neg k]
   exact hf
  ·obtain ⟨ao,cap,rfl,-,-,-⟩:=hf
   exact fun a m c e h0=>by simp only [Value.slice.injEq] at e;simp at e;omega
set_option linter.unusedSimpArgs false in
set_option maxRecDepth 100000 in
set_option maxHeartbeats 400000 in
theorem c18_list {ka:Option Addr} {n kc:Nat} {w:World}:Calls Tryz.prog 32 #[.slice ka n kc] w fun e w'=>e=.returned (.agg #[.int .i64 0,.int .i64 16,.bool true,.slice none 0 0,.slice ka n kc])∧Below w.heap.size w w':=by
 have R0:=Blk.new w [.int .i64 0,.int .i64 0,.bool false,.slice none 0 0,.slice none 0 0] 60 w.heap.size rfl
 have bel:Below w.heap.size w (w.alloc (.cells #[.int .i64 0,.int .i64 0,.bool false,.slice none 0 0,.slice none 0 0] 60)):=(Below.refl _ _).alloc (Nat.le_refl _) _
 have hz:=zero_tlv.out
 go_enter Tryz.func32,Tryz.ntmps32
 go_upto_region 1 with fail
 have lW:=bel.size
 generalize w.alloc (.cells #[.int .i64 0,.int .i64 0,.bool false,.slice none 0 0,.slice none 0 0] 60)=W at *
 obtain ⟨tR,hR⟩:=R0
 have HR1:Hid _:=hR
 clear hR
 go_wp2_with (first|((with_reducible show wpList _ _ _ ({ dst:=_,op:=.store _ _ _,type:=_,pos:=_,after:=_,guard:=_ } :: _) _ _);refine wpList_store_row rfl 60 _ _ rfl w.heap.size #[.int .i64 0,.int .i64 16,.bool true,.slice none 0 0,.slice ka n kc] rfl rfl tR _ HR1.out (by rw [size_tlv];rfl) rfl (by simp [Value.oneCell']) ?_)|fail)
 refine bodyPost_ret (results_cell_row rfl _ _ w.heap.size tR #[.int .i64 0,.int .i64 16,.bool true,.slice none 0 0,.slice ka n kc] (0,0) _ rfl (setRow_heap _ _ _ _ _ _ HR1.out) Tryz.underlying60 rfl (by rw [size_tlv];rfl)) rfl ?_
 exact ⟨rfl,below_setRow bel (by omega) _⟩
set_option linter.unusedSimpArgs false in
set_option maxRecDepth 100000 in
set_option maxHeartbeats 400000 in
theorem c18_plain {t:Int} {ka:Option Addr} {n kc:Nat} {w:World}:Calls Tryz.prog 63 #[.int .i64 t,.slice ka n kc] w fun e w'=>e=.returned (.agg #[.int .i64 0,.int .i64 t,.bool false,.slice ka n kc,.slice none 0 0])∧Below w.heap.size w w':=by
 have R0:=Blk.new w [.int .i64 0,.int .i64 0,.bool false,.slice none 0 0,.slice none 0 0] 60 w.heap.size rfl
 have bel:Below w.heap.size w (w.alloc (.cells #[.int .i64 0,.int .i64 0,.bool false,.slice none 0 0,.slice none 0 0] 60)):=(Below.refl _ _).alloc (Nat.le_refl _) _
 have hz:=zero_tlv.out
 go_enter Tryz.func63,Tryz.ntmps63
 go_upto_region 1 with fail
 have lW:=bel.size
 generalize w.alloc (.cells #[.int .i64 0,.int .i64 0,.bool false,.slice none 0 0,.slice none 0 0] 60)=W at *
 obtain ⟨tR,hR⟩:=R0
 have HR1:Hid _:=hR
 clear hR
 go_wp2_with (first|((with_reducible show wpList _ _ _ ({ dst:=_,op:=.store _ _ _,type:=_,pos:=_,after:=_,guard:=_ } :: _) _ _);refine wpList_store_row rfl 60 _ _ rfl w.heap.size #[.int .i64 0,.int .i64 t,.bool false,.slice ka n kc,.slice none 0 0] rfl rfl tR _ HR1.out (by rw [size_tlv];rfl) rfl (by simp [Value.oneCell']) ?_)|fail)
 refine bodyPost_ret (results_cell_row rfl _ _ w.heap.size tR #[.int .i64 0,.int .i64 t,.bool false,.slice ka n kc,.slice none 0 0] (0,0) _ rfl (setRow_heap _ _ _ _ _ _ HR1.out) Tryz.underlying60 rfl (by rw [size_tlv];rfl)) rfl ?_
 exact ⟨rfl,below_setRow bel (by omega) _⟩
/-- plain, of bytes that lie anew -/
theorem c18_plainN {t:Int} {v:Value} {b:List Int} {N:Nat} {w:World} (h:Bs w v b) (hn:∀ a m c,v=.slice (some a) m c→0 < m→N≤a.block):Calls Tryz.prog 63 #[.int .i64 t,v] w fun e w'=>∃ cs:List Value,e=.returned (.agg cs.toArray)∧Dep (fun g=>N≤g) w' (.mk 0 t false b []) cs∧Below w.heap.size w w':=by
 have h9:=h
 obtain ⟨ao,cap,rfl,-,-,-⟩:=h
 exact c18_plain.mono (fun _ _ ⟨e,hb⟩=>⟨_,e,(leaf_S h9 hn 0 t false).next (Agr.below hb) (fun _ h _=>h),hb⟩)
theorem bs_const8 (w:World) (X:List Int) (n:Nat) (hn:X.length=n) (hm:n≤maxLen) (fr:Nat × Nat):Bs (w.alloc (.cells (u8s X).toArray 5 fr)) (.slice (some ⟨w.heap.size,0,none⟩) n n) X:=by
 refine ⟨_,n,by rw [hn],hm,by omega,fun _=>⟨w.heap.size,0,rfl,by simp,fun j hj=>?_⟩⟩
 have h:(w.alloc (.cells (u8s X).toArray 5 fr)).heap[w.heap.size]?=some (.cells (u8s X).toArray 5 fr):=by
  show (w.heap.push _)[w.heap.size]?=_
  simp
 have e:=u8s_get X j hj
 rw [Nat.zero_add]
 simp only [World.cell?,h,Option.isSome_none,Bool.false_eq_true,if_false]
 simpa using e
set_option linter.unusedSimpArgs false in
set_option maxRecDepth 100000 in
set_option maxHeartbeats 1000000 in
theorem c18_algorithm {w:World}:Calls Tryz.prog 33 #[] w fun e w'=>∃ cs:List Value,e=.returned (.agg cs.toArray)∧Dep (fun g=>w.heap.size≤g) w' algT cs∧Below w.heap.size w w':=by
 have R0:=Blk.new w [.int .i64 0,.int .i64 0,.bool false,.slice none 0 0,.slice none 0 0] 60 w.heap.size rfl
 have bel:Below w.heap.size w (w.alloc (.cells #[.int .i64 0,.int .i64 0,.bool false,.slice none 0 0,.slice none 0 0] 60)):=(Below.refl _ _).alloc (Nat.le_refl _) _
 have hz:=zero_tlv.out
 go_enter Tryz.func33,Tryz.ntmps33
 go_upto_region 1 with fail
 have lW:=bel.size
 generalize w.alloc (.cells #[.int .i64 0,.int .i64 0,.bool false,.slice none 0 0,.slice none 0 0] 60)=W at *
 have lR:=R0.lt
 obtain ⟨N0,hN0⟩:∃ n,n=W.heap.size:=⟨_,rfl⟩
 rw [← hN0] at lR lW
 have hs:N0≤W.heap.size:=by omega
 clear hz
 obtain ⟨jt,hjt,ht0,ht1,ht2⟩:=info_partsD info_tlv
 have q8:=Lib.run_convert_bytes_const (P:=Tryz.prog) W 25 5 #[.int .u8 42,.int .u8 134,.int .u8 72,.int .u8 206,.int .u8 61,.int .u8 4,.int .u8 3,.int .u8 3] 8 8 Tryz.underlying25 Tryz.underlying5
 have HB3:Hid (Bs (W.alloc (.cells #[.int .u8 42,.int .u8 134,.int .u8 72,.int .u8 206,.int .u8 61,.int .u8 4,.int .u8 3,.int .u8 3] 5 (8,9))) (.slice (some ⟨W.heap.size,0,none⟩) 8 8) [42,134,72,206,61,4,3,3]):=bs_const8 W [42,134,72,206,61,4,3,3] 8 rfl (by decide) (8,9)
 have hg3l:N0≤W.heap.size:=by omega
 go_wp2_with fail
 clear q8
 have hb:Below W.heap.size W (W.alloc (.cells #[.int .u8 42,.int .u8 134,.int .u8 72,.int .u8 206,.int .u8 61,.int .u8 4,.int .u8 3,.int .u8 3] 5 (8,9))):=(Below.refl _ _).alloc (Nat.le_refl _) _
 replace R0:=R0.alloc (.cells #[.int .u8 42,.int .u8 134,.int .u8 72,.int .u8 206,.int .u8 61,.int .u8 4,.int .u8 3,.int .u8 3] 5 (8,9))
 replace bel:=below_step bel hb
 replace hs:N0≤(W.alloc (.cells #[.int .u8 42,.int .u8 134,.int .u8 72,.int .u8 206,.int .u8 61,.int .u8 4,.int .u8 3,.int .u8 3] 5 (8,9))).heap.size:=Nat.le_trans hs hb.size
 obtain ⟨g3,hg3⟩:∃ g,g=W.heap.size:=⟨_,rfl⟩
 rw [← hg3] at HB3 hg3l ⊢
 generalize W.alloc (.cells #[.int .u8 42,.int .u8 134,.int .u8 72,.int .u8 206,.int .u8 61,.int .u8 4,.int .u8 3,.int .u8 3] 5 (8,9))=W3 at *
 clear hg3 hb
 refine (c18_plainN (N:=N0) HB3.out (fun a m c e _=>by simp only [Value.slice.injEq,Option.some.injEq] at e;rw [← e.1];exact hg3l)).mono ?_
 rintro e w1 ⟨cs,rfl,hd1,hb⟩
 have HD1:Hid (Dep (fun g=>N0≤g) w1 (oidT [1,2,840,10045,4,3,3]) cs):=hd1
 have HL1:Hid (cs.length=5):=hd1.now.five
 replace R0:=R0.later hb
 replace bel:=below_step bel hb
 replace hs:N0≤w1.heap.size:=Nat.le_trans hs hb.size
 clear hb hd1 HB3
 have HT:Hid (Dep (fun g=>N0≤g) (w1.alloc (.cells (cs).toArray 60)) (algT) [.int .i64 0,.int .i64 16,.bool true,.slice none 0 0,.slice (some ⟨w1.heap.size,0,none⟩) 1 1]):=list_dep (ks:=[oidT [1,2,840,10045,4,3,3]]) (w:=w1) (N:=N0) (xs:=cs) HL1.out hs (show 1≤maxLen by decide) (one_kid (P:=Dep (fun g=>N0≤g) w1) HD1.out HL1.out) 0 16 true
 have HF:Hid _:=fill_5 HL1.out
 replace R0:=R0.alloc (.cells (cs).toArray 60)
 replace bel:=below_alloc (o:=.cells (cs).toArray 60) bel
 replace hs:N0≤(w1.alloc (.cells (cs).toArray 60)).heap.size:=Nat.le_trans hs ((Below.refl _ _).alloc (Nat.le_refl _) _).size
 have hz:=zero_tlv.out
 go_wp2_with (first|((with_reducible show wpList _ _ _ ({ dst:=_,op:=.buildSlice _ _ _,type:=_,pos:=_,after:=_,guard:=_ } :: _) _ _);refine Go.wpList_buildSlice rfl 58 60 1 _ rfl (cs).toArray jt _ Tryz.underlying58 hjt ht0 (by rw [ht1];decide) (by rw [ht1];decide) (by rw [ht1];refine (congrArg _ (?_:_=[(0,Value.agg cs.toArray)])).trans HF.out;kernel_rfl) ?_)|fail)
 clear hz HF
 obtain ⟨g9,hg9⟩:∃ g,g=w1.heap.size:=⟨_,rfl⟩
 rw [← hg9] at HT ⊢
 generalize w1.alloc (.cells (cs).toArray 60)=V9 at *
 clear hg9
 refine c18_list.mono ?_
 rintro e w8 ⟨rfl,hb⟩
 replace HT:Hid (Dep (fun g=>N0≤g) w8 (algT) [.int .i64 0,.int .i64 16,.bool true,.slice none 0 0,.slice (some ⟨g9,0,none⟩) 1 1]):=HT.out.next (Agr.below hb) (fun _ h _=>h)
 replace R0:=R0.later hb
 replace bel:=below_step bel hb
 clear hb
 obtain ⟨tR,hR⟩:=R0
 have HR1:Hid _:=hR
 clear hR
 go_wp2_with (first|((with_reducible show wpList _ _ _ ({ dst:=_,op:=.store _ _ _,type:=_,pos:=_,after:=_,guard:=_ } :: _) _ _);refine wpList_store_row rfl 60 _ _ rfl w.heap.size #[.int .i64 0,.int .i64 16,.bool true,.slice none 0 0,.slice (some ⟨g9,0,none⟩) 1 1] rfl rfl tR _ HR1.out (by rw [size_tlv];rfl) rfl (by simp [Value.oneCell']) ?_)|fail)
 refine bodyPost_ret (results_cell_row rfl _ _ w.heap.size tR #[.int .i64 0,.int .i64 16,.bool true,.slice none 0 0,.slice (some ⟨g9,0,none⟩) 1 1] (0,0) _ rfl (setRow_heap _ _ _ _ _ _ HR1.out) Tryz.underlying60 rfl (by rw [size_tlv];rfl)) rfl ?_
 exact ⟨_,rfl,dep_ret HT.out lR lW,below_setRow bel (by omega) _⟩
set_option linter.unusedSimpArgs false in
set_option maxRecDepth 100000 in
set_option maxHeartbeats 400000 in
theorem c18_version {w:World}:Calls Tryz.prog 46 #[] w fun e w'=>∃ cs:List Value,e=.returned (.agg cs.toArray)∧Dep (fun g=>w.heap.size≤g) w' (intT 1) cs∧Below w.heap.size w w':=by
 have R0:=Blk.new w [.int .i64 0,.int .i64 0,.bool false,.slice none 0 0,.slice none 0 0] 60 w.heap.size rfl
 have bel:Below w.heap.size w (w.alloc (.cells #[.int .i64 0,.int .i64 0,.bool false,.slice none 0 0,.slice none 0 0] 60)):=(Below.refl _ _).alloc (Nat.le_refl _) _
 have hz:=zero_tlv.out
 go_enter Tryz.func46,Tryz.ntmps46
 go_upto_region 1 with fail
 have lW:=bel.size
 generalize w.alloc (.cells #[.int .i64 0,.int .i64 0,.bool false,.slice none 0 0,.slice none 0 0] 60)=W at *
 have lR:=R0.lt
 obtain ⟨N0,hN0⟩:∃ n,n=W.heap.size:=⟨_,rfl⟩
 rw [← hN0] at lR lW
 have hs:N0≤W.heap.size:=by omega
 clear hz
 have B1:=Blk.new W [.int .u8 1] 5 W.heap.size rfl
 replace R0:=R0.alloc (.cells #[.int .u8 1] 5)
 replace bel:=below_alloc (o:=.cells #[.int .u8 1] 5) bel
 have HD3:Hid (Dep (fun g=>N0≤g) (W.alloc (.cells #[.int .u8 1] 5)) (intT 1) [.int .i64 0,.int .i64 2,.bool false,.slice (some ⟨W.heap.size,0,none⟩) 1 1,.slice none 0 0]):=leaf_S (Blk.bs (P:=[1]) B1 rfl (by decide)) (fun a m c e _=>by simp only [Value.slice.injEq,Option.some.injEq] at e;rw [← e.1];exact hs) 0 2 false
 clear B1
 go_wp2_with fail
 obtain ⟨g3,hg3⟩:∃ g,g=W.heap.size:=⟨_,rfl⟩
 rw [← hg3] at HD3 ⊢
 generalize W.alloc (.cells #[.int .u8 1] 5)=W1 at *
 clear hg3
 refine c18_plain.mono ?_
 rintro e w4 ⟨rfl,hb⟩
 replace HD3:Hid (Dep (fun g=>N0≤g) w4 (intT 1) [.int .i64 0,.int .i64 2,.bool false,.slice (some ⟨g3,0,none⟩) 1 1,.slice none 0 0]):=HD3.out.next (Agr.below hb) (fun _ h _=>h)
 replace R0:=R0.later hb
 replace bel:=below_step bel hb
 clear hb
 obtain ⟨tR,hR⟩:=R0
 have HR1:Hid _:=hR
 clear hR
 go_wp2_with (first|((with_reducible show wpList _ _ _ ({ dst:=_,op:=.store _ _ _,type:=_,pos:=_,after:=_,guard:=_ } :: _) _ _);refine wpList_store_row rfl 60 _ _ rfl w.heap.size #[.int .i64 0,.int .i64 2,.bool false,.slice (some ⟨g3,0,none⟩) 1 1,.slice none 0 0] rfl rfl tR _ HR1.out (by rw [size_tlv];rfl) rfl (by simp [Value.oneCell']) ?_)|fail)
 refine bodyPost_ret (results_cell_row rfl _ _ w.heap.size tR #[.int .i64 0,.int .i64 2,.bool false,.slice (some ⟨g3,0,none⟩) 1 1,.slice none 0 0] (0,0) _ rfl (setRow_heap _ _ _ _ _ _ HR1.out) Tryz.underlying60 rfl (by rw [size_tlv];rfl)) rfl ?_
 exact ⟨_,rfl,dep_ret HD3.out lR lW,below_setRow bel (by omega) _⟩
end Go.Proofs.YtkgjlcdefnpkpaaGreatDoor
