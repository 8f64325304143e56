/- Lists and plain elements: what the program answers. -/
import Derived.Test.YtohcdbifhnfcbaaGreatDoorKrSpec
import Derived.Test.YtohcdbifhnfcbaaGreatDoorClWr
import Derived.Test.YtohcdbifhnfcbaaGreatDoorDcG1
import Derived.Test.YtohcdbifhnfcbaaGreatDoorDrDG
import Derived.Test.YtohcdbifhnfcbaaGreatDoorDrTG
import Derived.Test.YtohcdbifhnfcbaaGreatDoorRows
import Derived.Deep.OwnRows
import Derived.Deep.AppendLies
import Derived.Great.BuildSlice
import Derived.Laws.Rows
import Derived.BigQuiet
import Derived.Lib.SlBytesConst
import Derived.Deep.WholeRow
import Derived.Deep.RegionHeld3
import Derived.Deep.DeepCutAuto
import Derived.Deep.DeepFit
namespace Go.Proofs.YtohcdbifhnfcbaaGreatDoor
open Go.RowKit
set_option linter.unusedSimpArgs false
set_option maxRecDepth 100000
set_option maxHeartbeats 1000000
theorem c18_list {ka:Option Addr} {n kc:Nat} {w:World}:Calls Tryz.prog 24 #[.slice ka n kc] w fun e w'=>e=.returned (.agg #[.int .i64 0,.int .i64 16,.bool true,.slice none 0 0,.slice ka n kc])∧Below w.heap.size w w':=by
 have R0:=Blk.new w [.int .i64 0,.int .i64 0,.bool false,.slice none 0 0,.slice none 0 0] 53 w.heap.size rfl
 have bel:=bal w (.cells #[.int .i64 0,.int .i64 0,.bool false,.slice none 0 0,.slice none 0 0] 53)
 have hz:=zero_tlv.out
 go_enter Tryz.func24,Tryz.ntmps24
 go_upto_region 1 with fail
 have lW:=bel.size
 generalize w.alloc (.cells #[.int .i64 0,.int .i64 0,.bool false,.slice none 0 0,.slice none 0 0] 53)=W at *
 obtain ⟨tR,hR⟩:=R0
 have HR1:Hid _:=hR
 clear hR
 go_wp2_with (first|((with_reducible show wpList _ _ _ ({ dst:=_,op:=.store _ _ _,type:=_,pos:=_,after:=_,guard:=_ } :: _) _ _);refine wpList_store_row rfl 53 _ _ rfl w.heap.size #[.int .i64 0,.int .i64 16,.bool true,.slice none 0 0,.slice ka n kc] rfl rfl tR _ HR1.out (by rw [size_tlv];rfl) rfl (by simp [Value.oneCell']) ?_)|fail)
 refine bodyPost_ret (results_cell_row rfl _ _ w.heap.size tR #[.int .i64 0,.int .i64 16,.bool true,.slice none 0 0,.slice ka n kc] (0,0) _ rfl (setRow_heap _ _ _ _ _ _ HR1.out) Tryz.underlying53 rfl (by rw [size_tlv];rfl)) rfl ?_
 exact ⟨rfl,below_setRow bel (by omega) _⟩
theorem c18_plain {t:Int} {ka:Option Addr} {n kc:Nat} {w:World}:Calls Tryz.prog 59 #[.int .i64 t,.slice ka n kc] w fun e w'=>e=.returned (.agg #[.int .i64 0,.int .i64 t,.bool false,.slice ka n kc,.slice none 0 0])∧Below w.heap.size w w':=by
 have R0:=Blk.new w [.int .i64 0,.int .i64 0,.bool false,.slice none 0 0,.slice none 0 0] 53 w.heap.size rfl
 have bel:=bal w (.cells #[.int .i64 0,.int .i64 0,.bool false,.slice none 0 0,.slice none 0 0] 53)
 have hz:=zero_tlv.out
 go_enter Tryz.func59,Tryz.ntmps59
 go_upto_region 1 with fail
 have lW:=bel.size
 generalize w.alloc (.cells #[.int .i64 0,.int .i64 0,.bool false,.slice none 0 0,.slice none 0 0] 53)=W at *
 obtain ⟨tR,hR⟩:=R0
 have HR1:Hid _:=hR
 clear hR
 go_wp2_with (first|((with_reducible show wpList _ _ _ ({ dst:=_,op:=.store _ _ _,type:=_,pos:=_,after:=_,guard:=_ } :: _) _ _);refine wpList_store_row rfl 53 _ _ rfl w.heap.size #[.int .i64 0,.int .i64 t,.bool false,.slice ka n kc,.slice none 0 0] rfl rfl tR _ HR1.out (by rw [size_tlv];rfl) rfl (by simp [Value.oneCell']) ?_)|fail)
 refine bodyPost_ret (results_cell_row rfl _ _ w.heap.size tR #[.int .i64 0,.int .i64 t,.bool false,.slice ka n kc,.slice none 0 0] (0,0) _ rfl (setRow_heap _ _ _ _ _ _ HR1.out) Tryz.underlying53 rfl (by rw [size_tlv];rfl)) rfl ?_
 exact ⟨rfl,below_setRow bel (by omega) _⟩
/-- plain, of bytes that lie anew -/
theorem c18_plainN {t:Int} {v:Value} {b:List Int} {N:Nat} {w:World} (h:Bs w v b) (hn:∀ a m c,v=.slice (some a) m c→0 < m→N≤a.block):Calls Tryz.prog 59 #[.int .i64 t,v] w fun e w'=>∃ cs:List Value,e=.returned (.agg cs.toArray)∧Dep (fun g=>N≤g) w' (.mk 0 t false b []) cs∧Below w.heap.size w w':=by
 have h9:=h
 obtain ⟨ao,cap,rfl,-,-,-⟩:=h
 exact c18_plain.mono (fun _ _ ⟨e,hb⟩=>⟨_,e,(leaf_S h9 hn 0 t false).next (Agr.below hb) (fun _ h _=>h),hb⟩)
theorem c18_wholeBits {v:Value} {b:List Int} {w:World} (hv:Bs w v b) (hl:b.length≤1000000000):Calls Tryz.prog 26 #[v] w fun e w'=>∃ cs:List Value,e=.returned (.agg cs.toArray)∧Dep (fun g=>w.heap.size≤g) w' (.mk 0 3 false (0 :: b) []) cs∧Below w.heap.size w w':=by
 have HV:Hid (Bs w v b):=hv
 obtain ⟨ao,cap,rfl,-,-,-⟩:=hv
 obtain ⟨L,hL⟩:∃ L,b.length=L:=⟨_,rfl⟩
 have HL:Hid (b.length=L):=hL
 rw [hL] at HV hl ⊢
 clear hL
 have R0:=Blk.new w [.int .i64 0,.int .i64 0,.bool false,.slice none 0 0,.slice none 0 0] 53 w.heap.size rfl
 have bel:=bal w (.cells #[.int .i64 0,.int .i64 0,.bool false,.slice none 0 0,.slice none 0 0] 53)
 have hz:=zero_tlv.out
 go_enter Tryz.func26,Tryz.ntmps26
 go_upto_region 1 with fail
 have lW:=bel.size
 generalize w.alloc (.cells #[.int .i64 0,.int .i64 0,.bool false,.slice none 0 0,.slice none 0 0] 53)=W at *
 have lR:=R0.lt
 obtain ⟨N0,hN0⟩:∃ n,n=W.heap.size:=⟨_,rfl⟩
 rw [← hN0] at lR lW
 have hs:N0≤W.heap.size:=by omega
 clear hz
 have ow0:(W.alloc (.cells (u8s [0]).toArray 5)).ownsRow N0 5 1 (.slice (some ⟨W.heap.size,0,none⟩) 1 1) 1 (u8s [0]):=own_made W (u8s [0]) 5 1 N0 rfl hs (by decide)
 have HB2:Hid (Bs (W.alloc (.cells (u8s [0]).toArray 5)) (.slice ao L cap) b):=(HV.out.later bel).later ((Below.refl _ _).alloc (Nat.le_refl _) _)
 have bel0:Below w.heap.size w (W.alloc (.cells (u8s [0]).toArray 5)):=below_alloc bel
 have R1:Blk (W.alloc (.cells (u8s [0]).toArray 5)) w.heap.size [.int .i64 0,.int .i64 0,.bool false,.slice none 0 0,.slice none 0 0]:=R0.alloc _
 clear R0
 go_wp2_with (first|(at_builtin;refine wpList_append_bs (by rfl) _ _ (by rfl) N0 _ 1 [0] (by rfl) ow0 _ b (by rfl) HB2.out (by rw [HL.out];omega) (by simp;omega) ?_;intro v8 we own8 hgrow hat;rw [HL.out] at own8;obtain ⟨fa,fc,hfv⟩:=own_slE own8;subst hfv)|fail)
 have R0:Blk we w.heap.size [.int .i64 0,.int .i64 0,.bool false,.slice none 0 0,.slice none 0 0]:=R1.grown hgrow (fun k hk e=>by have:=(own_geK ow0 hk).1;omega)
 have hsz:=bel0.size
 replace bel:Below w.heap.size w we:=Below.grown bel0 hgrow hsz (fun k hk=>by have:=(own_geK ow0 hk).1;omega)
 have HD3:Hid (Dep (fun g=>N0≤g) we (.mk 0 3 false (0 :: b) []) [.int .i64 0,.int .i64 3,.bool false,.slice fa (1 + L) fc,.slice none 0 0]):=leaf_own (S:=fun g=>N0≤g) (b:=0 :: b) own8 (by rw [List.length_cons,HL.out];omega) (fun g hg=>(own_geK own8 hg).1) 0 3 false
 clear ow0 HB2 own8 hgrow hat bel0 R1 hsz
 refine c18_plain.mono ?_
 rintro e w4 ⟨rfl,hb⟩
 replace HD3:=dpl HD3 hb
 replace R0:=R0.later hb
 replace bel:=below_step bel hb
 clear hb
 obtain ⟨tR,hR⟩:=R0
 have HR1:Hid _:=hR
 clear hR
 go_wp2_with (first|((with_reducible show wpList _ _ _ ({ dst:=_,op:=.store _ _ _,type:=_,pos:=_,after:=_,guard:=_ } :: _) _ _);refine wpList_store_row rfl 53 _ _ rfl w.heap.size #[.int .i64 0,.int .i64 3,.bool false,.slice fa (1 + L) fc,.slice none 0 0] rfl rfl tR _ HR1.out (by rw [size_tlv];rfl) rfl (by simp [Value.oneCell']) ?_)|fail)
 refine bodyPost_ret (results_cell_row rfl _ _ w.heap.size tR #[.int .i64 0,.int .i64 3,.bool false,.slice fa (1 + L) fc,.slice none 0 0] (0,0) _ rfl (setRow_heap _ _ _ _ _ _ HR1.out) Tryz.underlying53 rfl (by rw [size_tlv];rfl)) rfl ?_
 exact ⟨_,rfl,dep_ret HD3.out lR lW,below_setRow bel (by omega) _⟩
theorem bs_const8 (w:World) (X:List Int) (n:Nat) (hn:X.length=n) (hm:n≤maxLen) (fr:Nat × Nat):Bs (w.alloc (.cells (u8s X).toArray 5 fr)) (.slice (some ⟨w.heap.size,0,none⟩) n n) X:=by
 refine ⟨_,n,by rw [hn],hm,by omega,fun _=>⟨w.heap.size,0,rfl,by simp,fun j hj=>?_⟩⟩
 have h:(w.alloc (.cells (u8s X).toArray 5 fr)).heap[w.heap.size]?=some (.cells (u8s X).toArray 5 fr):=by
  show (w.heap.push _)[w.heap.size]?=_
  simp
 have e:=u8s_get X j hj
 rw [Nat.zero_add]
 simp only [World.cell?,h,Option.isSome_none,Bool.false_eq_true,if_false]
 simpa using e
theorem c18_algorithm {w:World}:Calls Tryz.prog 25 #[] w fun e w'=>∃ cs:List Value,e=.returned (.agg cs.toArray)∧Dep (fun g=>w.heap.size≤g) w' algT cs∧Below w.heap.size w w':=by
 have R0:=Blk.new w [.int .i64 0,.int .i64 0,.bool false,.slice none 0 0,.slice none 0 0] 53 w.heap.size rfl
 have bel:=bal w (.cells #[.int .i64 0,.int .i64 0,.bool false,.slice none 0 0,.slice none 0 0] 53)
 have hz:=zero_tlv.out
 go_enter Tryz.func25,Tryz.ntmps25
 go_upto_region 1 with fail
 have lW:=bel.size
 generalize w.alloc (.cells #[.int .i64 0,.int .i64 0,.bool false,.slice none 0 0,.slice none 0 0] 53)=W at *
 have lR:=R0.lt
 obtain ⟨N0,hN0⟩:∃ n,n=W.heap.size:=⟨_,rfl⟩
 rw [← hN0] at lR lW
 have hs:N0≤W.heap.size:=by omega
 clear hz
 obtain ⟨jt,hjt,ht0,ht1,ht2⟩:=info_partsD info_tlv
 have q8:=Lib.run_convert_bytes_const (P:=Tryz.prog) W 22 5 #[.int .u8 42,.int .u8 134,.int .u8 72,.int .u8 206,.int .u8 61,.int .u8 4,.int .u8 3,.int .u8 3] 8 8 Tryz.underlying22 Tryz.underlying5
 have HB3:Hid (Bs (W.alloc (.cells #[.int .u8 42,.int .u8 134,.int .u8 72,.int .u8 206,.int .u8 61,.int .u8 4,.int .u8 3,.int .u8 3] 5 (8,9))) (.slice (some ⟨W.heap.size,0,none⟩) 8 8) [42,134,72,206,61,4,3,3]):=bs_const8 W [42,134,72,206,61,4,3,3] 8 rfl (by decide) (8,9)
 have hg3l:N0≤W.heap.size:=by omega
 go_wp2_with fail
 clear q8
 have hb:=bal W (.cells #[.int .u8 42,.int .u8 134,.int .u8 72,.int .u8 206,.int .u8 61,.int .u8 4,.int .u8 3,.int .u8 3] 5 (8,9))
 replace R0:=R0.alloc (.cells #[.int .u8 42,.int .u8 134,.int .u8 72,.int .u8 206,.int .u8 61,.int .u8 4,.int .u8 3,.int .u8 3] 5 (8,9))
 replace bel:=below_step bel hb
 replace hs:=hsl hs hb
 obtain ⟨g3,hg3⟩:∃ g,g=W.heap.size:=⟨_,rfl⟩
 rw [← hg3] at HB3 hg3l ⊢
 generalize W.alloc (.cells #[.int .u8 42,.int .u8 134,.int .u8 72,.int .u8 206,.int .u8 61,.int .u8 4,.int .u8 3,.int .u8 3] 5 (8,9))=W3 at *
 clear hg3 hb
 refine (c18_plainN (N:=N0) HB3.out (fun a m c e _=>by simp only [Value.slice.injEq,Option.some.injEq] at e;rw [← e.1];exact hg3l)).mono ?_
 rintro e w1 ⟨cs,rfl,hd1,hb⟩
 have HD1:Hid (Dep (fun g=>N0≤g) w1 (oidT [1,2,840,10045,4,3,3]) cs):=hd1
 have HL1:Hid (cs.length=5):=hd1.now.five
 replace R0:=R0.later hb
 replace bel:=below_step bel hb
 replace hs:=hsl hs hb
 clear hb hd1 HB3
 have HT:Hid (Dep (fun g=>N0≤g) (w1.alloc (.cells (cs).toArray 53)) (algT) [.int .i64 0,.int .i64 16,.bool true,.slice none 0 0,.slice (some ⟨w1.heap.size,0,none⟩) 1 1]):=list_dep (ks:=[oidT [1,2,840,10045,4,3,3]]) (w:=w1) (N:=N0) (xs:=cs) HL1.out hs (show 1≤maxLen by decide) (one_kid (P:=Dep (fun g=>N0≤g) w1) HD1.out HL1.out) 0 16 true
 have HF:Hid _:=fill_5 HL1.out
 replace R0:=R0.alloc (.cells (cs).toArray 53)
 replace bel:=below_alloc (o:=.cells (cs).toArray 53) bel
 replace hs:N0≤(w1.alloc (.cells (cs).toArray 53)).heap.size:=Nat.le_trans hs ((Below.refl _ _).alloc (Nat.le_refl _) _).size
 have hz:=zero_tlv.out
 go_wp2_with (first|((with_reducible show wpList _ _ _ ({ dst:=_,op:=.buildSlice _ _ _,type:=_,pos:=_,after:=_,guard:=_ } :: _) _ _);refine Go.wpList_buildSlice rfl 51 53 1 _ rfl (cs).toArray jt _ Tryz.underlying51 hjt ht0 (by rw [ht1];decide) (by rw [ht1];decide) (by rw [ht1];refine (congrArg _ (?_:_=[(0,Value.agg cs.toArray)])).trans HF.out;kernel_rfl) ?_)|fail)
 clear hz HF
 obtain ⟨g9,hg9⟩:∃ g,g=w1.heap.size:=⟨_,rfl⟩
 rw [← hg9] at HT ⊢
 generalize w1.alloc (.cells (cs).toArray 53)=V9 at *
 clear hg9
 refine c18_list.mono ?_
 rintro e w8 ⟨rfl,hb⟩
 replace HT:=dpl HT hb
 replace R0:=R0.later hb
 replace bel:=below_step bel hb
 clear hb
 obtain ⟨tR,hR⟩:=R0
 have HR1:Hid _:=hR
 clear hR
 go_wp2_with (first|((with_reducible show wpList _ _ _ ({ dst:=_,op:=.store _ _ _,type:=_,pos:=_,after:=_,guard:=_ } :: _) _ _);refine wpList_store_row rfl 53 _ _ rfl w.heap.size #[.int .i64 0,.int .i64 16,.bool true,.slice none 0 0,.slice (some ⟨g9,0,none⟩) 1 1] rfl rfl tR _ HR1.out (by rw [size_tlv];rfl) rfl (by simp [Value.oneCell']) ?_)|fail)
 refine bodyPost_ret (results_cell_row rfl _ _ w.heap.size tR #[.int .i64 0,.int .i64 16,.bool true,.slice none 0 0,.slice (some ⟨g9,0,none⟩) 1 1] (0,0) _ rfl (setRow_heap _ _ _ _ _ _ HR1.out) Tryz.underlying53 rfl (by rw [size_tlv];rfl)) rfl ?_
 exact ⟨_,rfl,dep_ret HT.out lR lW,below_setRow bel (by omega) _⟩
theorem c18_version {w:World}:Calls Tryz.prog 52 #[] w fun e w'=>∃ cs:List Value,e=.returned (.agg cs.toArray)∧Dep (fun g=>w.heap.size≤g) w' (intT 1) cs∧Below w.heap.size w w':=by
 have R0:=Blk.new w [.int .i64 0,.int .i64 0,.bool false,.slice none 0 0,.slice none 0 0] 53 w.heap.size rfl
 have bel:=bal w (.cells #[.int .i64 0,.int .i64 0,.bool false,.slice none 0 0,.slice none 0 0] 53)
 have hz:=zero_tlv.out
 go_enter Tryz.func52,Tryz.ntmps52
 go_upto_region 1 with fail
 have lW:=bel.size
 generalize w.alloc (.cells #[.int .i64 0,.int .i64 0,.bool false,.slice none 0 0,.slice none 0 0] 53)=W at *
 have lR:=R0.lt
 obtain ⟨N0,hN0⟩:∃ n,n=W.heap.size:=⟨_,rfl⟩
 rw [← hN0] at lR lW
 have hs:N0≤W.heap.size:=by omega
 clear hz
 have B1:=Blk.new W [.int .u8 1] 5 W.heap.size rfl
 replace R0:=R0.alloc (.cells #[.int .u8 1] 5)
 replace bel:=below_alloc (o:=.cells #[.int .u8 1] 5) bel
 have HD3:Hid (Dep (fun g=>N0≤g) (W.alloc (.cells #[.int .u8 1] 5)) (intT 1) [.int .i64 0,.int .i64 2,.bool false,.slice (some ⟨W.heap.size,0,none⟩) 1 1,.slice none 0 0]):=leaf_S (Blk.bs (P:=[1]) B1 rfl (by decide)) (fun a m c e _=>by simp only [Value.slice.injEq,Option.some.injEq] at e;rw [← e.1];exact hs) 0 2 false
 clear B1
 go_wp2_with fail
 obtain ⟨g3,hg3⟩:∃ g,g=W.heap.size:=⟨_,rfl⟩
 rw [← hg3] at HD3 ⊢
 generalize W.alloc (.cells #[.int .u8 1] 5)=W1 at *
 clear hg3
 refine c18_plain.mono ?_
 rintro e w4 ⟨rfl,hb⟩
 replace HD3:=dpl HD3 hb
 replace R0:=R0.later hb
 replace bel:=below_step bel hb
 clear hb
 obtain ⟨tR,hR⟩:=R0
 have HR1:Hid _:=hR
 clear hR
 go_wp2_with (first|((with_reducible show wpList _ _ _ ({ dst:=_,op:=.store _ _ _,type:=_,pos:=_,after:=_,guard:=_ } :: _) _ _);refine wpList_store_row rfl 53 _ _ rfl w.heap.size #[.int .i64 0,.int .i64 2,.bool false,.slice (some ⟨g3,0,none⟩) 1 1,.slice none 0 0] rfl rfl tR _ HR1.out (by rw [size_tlv];rfl) rfl (by simp [Value.oneCell']) ?_)|fail)
 refine bodyPost_ret (results_cell_row rfl _ _ w.heap.size tR #[.int .i64 0,.int .i64 2,.bool false,.slice (some ⟨g3,0,none⟩) 1 1,.slice none 0 0] (0,0) _ rfl (setRow_heap _ _ _ _ _ _ HR1.out) Tryz.underlying53 rfl (by rw [size_tlv];rfl)) rfl ?_
 exact ⟨_,rfl,dep_ret HD3.out lR lW,below_setRow bel (by omega) _⟩
end Go.Proofs.YtohcdbifhnfcbaaGreatDoor
