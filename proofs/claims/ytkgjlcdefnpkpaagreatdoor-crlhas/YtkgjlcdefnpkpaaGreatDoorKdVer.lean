/- The document's times. The document's version; serial numbers and times, with a truth. -/
import Derived.Test.YtkgjlcdefnpkpaaGreatDoorKrUp0
import Derived.Test.YtkgjlcdefnpkpaaGreatDoorCtOid
import Derived.Test.YtkgjlcdefnpkpaaGreatDoorPmTofR
import Derived.Test.YtkgjlcdefnpkpaaGreatDoorPmNG
import Derived.Test.YtkgjlcdefnpkpaaGreatDoorDrTG
import Derived.Test.YtkgjlcdefnpkpaaGreatDoorDrDG
import Derived.Test.YtkgjlcdefnpkpaaGreatDoorCtRG
import Derived.Test.YtkgjlcdefnpkpaaGreatDoorKrSpec
import Derived.Test.YtkgjlcdefnpkpaaGreatDoorCtSer
import Derived.Test.YtkgjlcdefnpkpaaGreatDoorCtElm
import Derived.Test.YtkgjlcdefnpkpaaGreatDoorRows
import Derived.Deep.OwnRows
import Derived.Deep.AppendLies
import Derived.Great.BuildSlice
import Derived.Laws.Rows
import Derived.BigQuiet
import Derived.Deep.WholeRow
import Derived.Deep.RegionHeld3
import Derived.Deep.DeepCutAuto
import Derived.Deep.DeepFit
namespace Go.Proofs.YtkgjlcdefnpkpaaGreatDoor
open Go.RowKit
theorem time_err {t:Int} {c:Nat} (h:timeOf t=.error c):¬ c=0:=by
 unfold timeOf at h
 repeat' split at h
 all_goals first|(cases h;decide)|cases h
set_option linter.unusedSimpArgs false in
set_option maxRecDepth 100000 in
set_option maxHeartbeats 1000000 in
theorem r16_TimeElement {t:Int} {w:World} (ht:-9223372036854775808≤t∧t≤9223372036854775807) :
  Calls Tryz.prog 22 #[.int .i64 t] w fun e w'=>(timT t=none→e=.returned (.tuple #[.agg #[.int .i64 0,.int .i64 0,.bool false,.slice none 0 0,.slice none 0 0],.bool false])∧Below w.heap.size w w')∧(∀ T,timT t=some T→∃ cs:List Value,e=.returned (.tuple #[.agg cs.toArray,.bool true])∧Dep (fun g=>w.heap.size≤g) w' T cs∧Below w.heap.size w w'):=by
 have R0:=Blk.new w [.int .i64 0,.int .i64 0,.bool false,.slice none 0 0,.slice none 0 0] 60 w.heap.size rfl
 have bel:Below w.heap.size w (w.alloc (.cells #[.int .i64 0,.int .i64 0,.bool false,.slice none 0 0,.slice none 0 0] 60)):=(Below.refl _ _).alloc (Nat.le_refl _) _
 have hz:=zero_tlv.out
 go_enter Tryz.func22,Tryz.ntmps22
 go_upto_region 1 with fail
 have lW:=bel.size
 generalize w.alloc (.cells #[.int .i64 0,.int .i64 0,.bool false,.slice none 0 0,.slice none 0 0] 60)=W at *
 have lR:=R0.lt
 clear hz
 go_wp2_with fail
 refine (r13_TimeOfN ht).mono ?_
 rintro e w1 ⟨hok,hbad⟩
 cases ho:timeOf t with
 | ok aX =>
  obtain ⟨ta,X⟩:=aX
  obtain ⟨v',rfl,k1,k2,hb⟩:=hok ta X ho
  have HD:Hid (Dep (fun g=>W.heap.size≤g) w1 (.mk 0 ta false X []) [.int .i64 0,.int .i64 ta,.bool false,v',.slice none 0 0]):=leaf_new k1 k2 0 ta false
  obtain ⟨ba,bc,rfl,-,-,-⟩:=k1
  obtain ⟨m,hm⟩:∃ m,X.length=m:=⟨_,rfl⟩
  rw [hm] at HD ⊢
  have H:Hid (timT t=some (.mk 0 ta false X [])):=by show _=_;unfold timT;rw [ho]
  replace R0:=R0.later hb
  replace bel:=below_step bel hb
  clear hok hbad hb k2 hm ho
  obtain ⟨tR,hR⟩:=R0
  have HR1:Hid _:=hR
  clear hR
  have hz:=zero_tlv.out
  go_wp2_with (first|((with_reducible show wpList _ _ _ ({ dst:=_,op:=.store _ _ _,type:=_,pos:=_,after:=_,guard:=_ } :: _) _ _);refine wpList_store_row rfl 60 _ _ rfl w.heap.size #[.int .i64 0,.int .i64 ta,.bool false,.slice ba m bc,.slice none 0 0] rfl rfl tR _ HR1.out (by rw [size_tlv];rfl) rfl (by simp [Value.oneCell']) ?_)|fail)
  refine bodyPost_ret (results_row_tmp rfl _ _ w.heap.size tR #[.int .i64 0,.int .i64 ta,.bool false,.slice ba m bc,.slice none 0 0] (0,0) _ rfl (setRow_heap _ _ _ _ _ _ HR1.out) Tryz.underlying60 rfl (by rw [size_tlv];rfl)) rfl ?_
  exact ⟨fun hT=>(by rw [H.out] at hT;cases hT),fun T hT=>by rw [H.out] at hT;cases hT;exact ⟨_,rfl,dep_ret HD.out lR lW,below_setRow bel (by omega) _⟩⟩
 | error c =>
  obtain ⟨rfl,hb⟩:=hbad c ho
  have H:Hid (timT t=none):=by show _=_;unfold timT;rw [ho]
  have hc:¬ c=0:=time_err ho
  have d1:((c:Int) == 0)=false:=by rw [beq_eq_false_iff_ne];omega
  replace R0:=R0.later hb
  replace bel:=below_step bel hb
  clear hok hbad hb ho hc
  obtain ⟨tR,hR⟩:=R0
  have HR1:Hid _:=hR
  clear hR
  have hz:=zero_tlv.out
  go_wp2_with (first|((with_reducible show wpList _ _ _ ({ dst:=_,op:=.store _ _ _,type:=_,pos:=_,after:=_,guard:=_ } :: _) _ _);refine wpList_store_row rfl 60 _ _ rfl w.heap.size #[.int .i64 0,.int .i64 0,.bool false,.slice none 0 0,.slice none 0 0] rfl rfl tR _ HR1.out (by rw [size_tlv];rfl) rfl (by simp [Value.oneCell']) ?_)|fail)
  refine bodyPost_ret (results_row_tmp rfl _ _ w.heap.size tR #[.int .i64 0,.int .i64 0,.bool false,.slice none 0 0,.slice none 0 0] (0,0) _ rfl (setRow_heap _ _ _ _ _ _ HR1.out) Tryz.underlying60 rfl (by rw [size_tlv];rfl)) rfl ?_
  exact ⟨fun _=>⟨rfl,below_setRow bel (by omega) _⟩,fun T hT=>by rw [H.out] at hT;cases hT⟩
set_option linter.unusedSimpArgs false in
set_option maxRecDepth 100000 in
set_option maxHeartbeats 400000 in
theorem r18_version {w:World}:Calls Tryz.prog 24 #[] w fun e w'=>∃ cs:List Value,e=.returned (.agg cs.toArray)∧Dep (fun g=>w.heap.size≤g) w' (intT 1) cs∧Below w.heap.size w w':=by
 have R0:=Blk.new w [.int .i64 0,.int .i64 0,.bool false,.slice none 0 0,.slice none 0 0] 60 w.heap.size rfl
 have bel:Below w.heap.size w (w.alloc (.cells #[.int .i64 0,.int .i64 0,.bool false,.slice none 0 0,.slice none 0 0] 60)):=(Below.refl _ _).alloc (Nat.le_refl _) _
 have hz:=zero_tlv.out
 go_enter Tryz.func24,Tryz.ntmps24
 go_upto_region 1 with fail
 have lW:=bel.size
 generalize w.alloc (.cells #[.int .i64 0,.int .i64 0,.bool false,.slice none 0 0,.slice none 0 0] 60)=W at *
 have lR:=R0.lt
 have B1:=Blk.new W [.int .u8 1] 5 W.heap.size rfl
 replace R0:=R0.alloc (.cells #[.int .u8 1] 5)
 replace bel:=below_alloc (o:=.cells #[.int .u8 1] 5) bel
 have HB1:Hid (Blk (W.alloc (.cells #[.int .u8 1] 5)) W.heap.size [.int .u8 1]):=B1
 have hlt:w.heap.size < W.heap.size:=lR
 clear B1
 obtain ⟨tR,hR⟩:=R0
 have HR1:Hid _:=hR
 clear hR
 go_wp2_with (first|((with_reducible show wpList _ _ _ ({ dst:=_,op:=.store _ _ _,type:=_,pos:=_,after:=_,guard:=_ } :: _) _ _);refine wpList_store_row rfl 60 _ _ rfl w.heap.size #[.int .i64 0,.int .i64 2,.bool false,.slice (some ⟨W.heap.size,0,none⟩) 1 1,.slice none 0 0] rfl rfl tR _ HR1.out (by rw [size_tlv];rfl) rfl (by simp [Value.oneCell']) ?_)|fail)
 refine bodyPost_ret (results_cell_row rfl _ _ w.heap.size tR #[.int .i64 0,.int .i64 2,.bool false,.slice (some ⟨W.heap.size,0,none⟩) 1 1,.slice none 0 0] (0,0) _ rfl (setRow_heap _ _ _ _ _ _ HR1.out) Tryz.underlying60 rfl (by rw [size_tlv];rfl)) rfl ?_
 exact ⟨_,rfl,leaf_S (Blk.bs (P:=[1]) (HB1.out.row (by omega)) rfl (by decide)) (fun a m c e _=>by simp only [Value.slice.injEq,Option.some.injEq] at e;rw [← e.1];exact Nat.le_of_lt hlt) 0 2 false,below_setRow bel (by omega) _⟩
/-- an element, or none, with a truth that tells it -/
def OptR (w:World) (r:Option Tl) (e:Ending) (w':World):Prop:=∃ (cs:List Value) (b:Bool),e=.returned (.tuple #[.agg cs.toArray,.bool b])∧cs.length=5∧OneC cs∧(b=true→∃ T,r=some T∧Dep (fun g=>w.heap.size≤g) w' T cs)∧(b=false→r=none)∧Below w.heap.size w w'
theorem OptR.of {w w':World} {r:Option Tl} {e:Ending} (h1:r=none→e=.returned (.tuple #[.agg #[.int .i64 0,.int .i64 0,.bool false,.slice none 0 0,.slice none 0 0],.bool false])∧Below w.heap.size w w') (h2:∀ T,r=some T→∃ cs:List Value,e=.returned (.tuple #[.agg cs.toArray,.bool true])∧Dep (fun g=>w.heap.size≤g) w' T cs∧Below w.heap.size w w'):OptR w r e w':=by
 cases r with
 | none =>
  obtain ⟨rfl,hb⟩:=h1 rfl
  exact ⟨[.int .i64 0,.int .i64 0,.bool false,.slice none 0 0,.slice none 0 0],false,rfl,rfl,(by simp [OneC,Value.oneCell']),fun h=>(by cases h),fun _=>rfl,hb⟩
 | some T =>
  obtain ⟨cs,rfl,hd,hb⟩:=h2 T rfl
  exact ⟨cs,true,rfl,hd.now.five,hd.now.ones,fun _=>⟨T,rfl,hd⟩,fun h=>(by cases h),hb⟩
theorem k18_Serial {v:Value} {n:List Int} {w:World} (hv:Bs w v n) (b:byt n):Calls Tryz.prog 27 #[v] w (OptR w (serT n)):=(r16_SerialElement hv b).mono (fun _ _ h=>OptR.of h.1 h.2)
theorem k18_Time {t t2:Int} {w:World} (e:t=t2) (ht:-9223372036854775808≤t∧t < 9223372036854775808):Calls Tryz.prog 22 #[.int .i64 t2] w (OptR w (timT t)):=by
 subst e
 exact (r16_TimeElement (by omega)).mono (fun _ _ h=>OptR.of h.1 h.2)
theorem k18_Element {v:Value} {n:List Pn} {w:World} (hn:NmAt w v n) (wn:WfN n) (hmay:mayN n=true):Calls Tryz.prog 26 #[v] w fun e w'=>∃ cs:List Value,e=.returned (.agg cs.toArray)∧Dep (fun g=>w.heap.size≤g) w' (elemN n) cs∧Below w.heap.size w w':=by
 refine (r16_Element hn wn hmay).mono ?_
 rintro e w' ⟨kv,xs,rfl,h1,h2,hb⟩
 exact ⟨_,rfl,ElemR.tl h1 h2,hb⟩
theorem k16_ListL {ka:Option Addr} {n kc:Nat} {w:World}:Calls Tryz.prog 28 #[.slice ka n kc] w fun e w'=>∃ cs:List Value,e=.returned (.agg cs.toArray)∧Hid (cs=[.int .i64 0,.int .i64 16,.bool true,.slice none 0 0,.slice ka n kc])∧Below w.heap.size w w':=r16_List.mono (fun _ _ ⟨h,hb⟩=>⟨_,h,rfl,hb⟩)
end Go.Proofs.YtkgjlcdefnpkpaaGreatDoor
