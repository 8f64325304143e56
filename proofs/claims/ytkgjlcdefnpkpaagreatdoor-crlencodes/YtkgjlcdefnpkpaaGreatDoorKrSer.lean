/- What each part of a body is, or none. A serial number's and a time's element: what the program answers. -/
import Derived.Test.YtkgjlcdefnpkpaaGreatDoorClWr
import Derived.Test.YtkgjlcdefnpkpaaGreatDoorCtRG
import Derived.Test.YtkgjlcdefnpkpaaGreatDoorNlElem
import Derived.Test.YtkgjlcdefnpkpaaGreatDoorDrTG
import Derived.Test.YtkgjlcdefnpkpaaGreatDoorDrDG
import Derived.Test.YtkgjlcdefnpkpaaGreatDoorKrEl
import Derived.Test.YtkgjlcdefnpkpaaGreatDoorPrG
import Derived.Test.YtkgjlcdefnpkpaaGreatDoorPrTimeOf
import Derived.Test.YtkgjlcdefnpkpaaGreatDoorNlSG
import Derived.Test.YtkgjlcdefnpkpaaGreatDoorRows
import Derived.Deep.OwnRows
import Derived.Deep.AppendLies
import Derived.Great.BuildSlice
import Derived.Laws.Rows
import Derived.BigQuiet
import Derived.Deep.WholeRow
import Derived.Deep.RegionHeld3
import Derived.Deep.DeepCutAuto
import Derived.Deep.DeepFit
namespace Go.Proofs.YtkgjlcdefnpkpaaGreatDoor
open Go.RowKit
theorem with_keyK {T G:Prop} (main:T→G) (kp:T):G:=main kp
/-- what a function tells that makes an element, or an error -/
def ElR (w:World) (r:Option Tl) (e:Ending) (w':World):Prop:=Below w.heap.size w w'∧(r=none→∃ c:Int,e=.returned (.tuple #[.agg #[.int .i64 0,.int .i64 0,.bool false,.slice none 0 0,.slice none 0 0],.iface 56 (.int .i64 c)]))∧(∀ T,r=some T→∃ cs:List Value,e=.returned (.tuple #[.agg cs.toArray,.nilIface])∧Dep (fun g=>w.heap.size≤g) w' T cs)
theorem ElR.bad {w w':World} {r:Option Tl} {c:Int} (h:r=none) (hb:Below w.heap.size w w'):ElR w r (.returned (.tuple #[.agg #[.int .i64 0,.int .i64 0,.bool false,.slice none 0 0,.slice none 0 0],.iface 56 (.int .i64 c)])) w':=⟨hb,fun _=>⟨c,rfl⟩,fun T k=>(by rw [h] at k;cases k)⟩
theorem ElR.ok {w w':World} {r:Option Tl} {T:Tl} {cs:List Value} (h:r=some T) (hd:Dep (fun g=>w.heap.size≤g) w' T cs) (hb:Below w.heap.size w w'):ElR w r (.returned (.tuple #[.agg cs.toArray,.nilIface])) w':=⟨hb,fun k=>(by rw [h] at k;cases k),fun T' k=>(by rw [h] at k;cases k;exact ⟨cs,rfl,hd⟩)⟩
theorem RwT.cell {w:World} {N c k:Nat} {kv v:Value} {Ts:List Tl} (h:RwT w N kv Ts) (hc:c < N):RwT (w.setCell ⟨c,k,none⟩ v) N kv Ts:=by
 obtain ⟨xs,h1,h2⟩:=h
 exact ⟨xs,own_agr (S:=fun b=>N≤b) h1 ((Agr.refl _ _).cell (by omega)) (fun g hg=>(own_geK h1 hg).1),fun i t ht=>(h2 i t ht).next ((Agr.refl _ _).cell (fun h=>by have:=h.1;omega)) (fun _ h _=>h)⟩
theorem RwT.ltE {w:World} {N b:Nat} {kv:Value} {Ts:List Tl} (h:RwT w N kv Ts) (hb:kv.ownBlock=some b):N≤b∧b < w.heap.size:=by
 obtain ⟨xs,h1,_⟩:=h
 exact own_geK h1 hb
/-- may it be a serial number? -/
def serB (n:List Int):Bool:=decide (¬ (n.length < 1∨20 < n.length∨n.getD 0 0=0))
theorem serT_no {n:List Int} (h:serB n=false):serT n=none:=by
 unfold serB at h
 unfold serT
 rw [if_pos (Decidable.not_not.1 (of_decide_eq_false h))]
theorem serT_yes {n:List Int} (h:serB n=true):∃ b,numOf n=.ok b∧serT n=some (.mk 0 2 false b []):=by
 have h1:=of_decide_eq_true h
 unfold serT
 rw [if_neg h1]
 cases hn:numOf n with
 | ok b=>exact ⟨b,rfl,rfl⟩
 | error c =>
  exfalso
  unfold numOf at hn
  have hz:∀ X:List Int,(lessZ X).length≤X.length:=by
   intro X
   induction X with
   | nil=>simp [lessZ]
   | cons x X ih =>
    rw [lessZ]
    split
    ·rw [List.length_cons];omega
    ·exact Nat.le_refl _
  have:=hz n
  rw [if_neg (by omega)] at hn
  split at hn<;>cases hn
theorem timT_no {t:Int} {c:Nat} (h:timeOf t=.error c):timT t=none:=by unfold timT;rw [h]
theorem timT_yes {t a:Int} {b:List Int} (h:timeOf t=.ok (a,b)):timT t=some (.mk 0 a false b []):=by unfold timT;rw [h]
/-- a name's element, or none -/
def nameO (n:List Pn):Option Tl:=if mayN n=true then some (elemN n) else none
theorem take_mem {α:Type} {L:List α} {i:Nat} {x:α} {P:α→Prop} (h:∀ l∈L.take i,P l) (hx:L[i]?=some x) (k:P x):∀ l∈L.take (i + 1),P l:=fun l hl=>by
 rw [List.take_add_one,hx,List.mem_append] at hl
 rcases hl with hl|hl
 ·exact h l hl
 ·simp at hl
  subst hl
  exact k
theorem map_next {α β:Type} {L:List α} {i:Nat} {x:α} {f:α→β} (hx:L[i]?=some x):(L.take (i + 1)).map f=(L.take i).map f++[f x]:=by
 rw [List.take_add_one,hx,List.map_append]
 rfl
theorem con_NElemO {v:Value} {n:List Pn} {w:World} (hn:NmAt w v n) (wn:WfN n):Calls Tryz.prog 44 #[v] w (ElR w (nameO n)):=by
 refine (con_NElem hn wn).mono ?_
 rintro e w' ⟨h1,h2⟩
 unfold nameO
 cases hm:mayN n with
 | false =>
  obtain ⟨rfl,hb⟩:=h1 hm
  exact ElR.bad (by simp) hb
 | true =>
  obtain ⟨kv,xs,rfl,h3,h4,hb⟩:=h2 hm
  exact ElR.ok (by simp) (ElemR.tl h3 h4) hb
/-- two blocks that are known whole -/
def Two (w:World) (g:Nat) (X:List Value) (h:Nat) (Y:List Value):Prop:=Blk w g X∧Blk w h Y
theorem Two.later {w w':World} {g h:Nat} {X Y:List Value} (B:Two w g X h Y) (hb:Below w.heap.size w w'):Two w' g X h Y:=⟨B.1.later hb,B.2.later hb⟩
theorem Two.alloc {w:World} {g h:Nat} {X Y:List Value} (B:Two w g X h Y) (o:Obj):Two (w.alloc o) g X h Y:=⟨B.1.alloc o,B.2.alloc o⟩
theorem Two.grown {w w':World} {row:Option Nat} {g h:Nat} {X Y:List Value} (B:Two w g X h Y) (hg:w.grownBy w' row) (hr:∀ k,row=some k→¬ (k=g∨k=h)):Two w' g X h Y:=⟨B.1.grown hg (fun k hk e=>hr k hk (.inl e)),B.2.grown hg (fun k hk e=>hr k hk (.inr e))⟩
theorem Two.other {w:World} {g h:Nat} {X Y:List Value} (B:Two w g X h Y) (a:Addr) (v:Value) (hne:¬ (g=a.block∨h=a.block)):Two (w.setCell a v) g X h Y:=⟨B.1.other a v (fun e=>hne (.inl e)),B.2.other a v (fun e=>hne (.inr e))⟩
set_option linter.unusedSimpArgs false in
set_option maxRecDepth 100000 in
set_option maxHeartbeats 400000 in
theorem c18_isSerial {v:Value} {n:List Int} {w:World} (hv:Bs w v n):Calls Tryz.prog 129 #[v] w fun e w'=>e=.returned (.bool (serB n))∧w'=w:=by
 obtain ⟨ao,cap,rfl,h2,h1,h3⟩:=hv
 obtain ⟨L,hL⟩:∃ L,n.length=L:=⟨_,rfl⟩
 have HL:Hid (n.length=L):=hL
 rw [hL] at h1 h3 ⊢
 clear hL
 go_enter Tryz.func129,Tryz.ntmps129
 by_cases c1:0 < L
 rotate_left
 ·have H:Hid (serB n=false):=decide_eq_false (fun h=>h (.inl (by rw [HL.out];omega)))
  have g1:¬ (0:Int) < (L:Int):=by omega
  clear c1 h3
  go_wp2_with fail
  go_ret
  exact ⟨by rw [H.out];rfl,rfl⟩
 obtain ⟨b,o,rfl,hb,hc⟩:=h3 c1
 have g1:(0:Int) < (L:Int):=by omega
 by_cases c2:L≤20
 rotate_left
 ·have H:Hid (serB n=false):=decide_eq_false (fun h=>h (.inr (.inl (by rw [HL.out];omega))))
  have g2:¬ (L:Int)≤20:=by omega
  clear c1 c2 hc h3
  go_wp2_with fail
  go_ret
  exact ⟨by rw [H.out];rfl,rfl⟩
 have g2:(L:Int)≤20:=by omega
 have e0:=hc 0 c1
 rw [Nat.add_zero] at e0
 obtain ⟨x,hx⟩:∃ x,n.getD 0 0=x:=⟨_,rfl⟩
 have HX:Hid (n.getD 0 0=x):=hx
 rw [hx] at e0
 clear hx hc h3
 by_cases c3:x=0
 ·have H:Hid (serB n=false):=decide_eq_false (fun h=>h (.inr (.inr (by rw [HX.out];exact c3))))
  subst c3
  clear c1 c2
  go_wp2_with fail
  go_ret
  exact ⟨by rw [H.out];rfl,rfl⟩
 ·have H:Hid (serB n=true):=decide_eq_true (fun h=>by rw [HL.out,HX.out] at h;omega)
  have d1:(x == 0)=false:=by rw [beq_eq_false_iff_ne];exact c3
  have d2:(x != 0)=true:=by rw [bne,d1];rfl
  clear c1 c2 c3
  go_wp2_with fail
  go_ret
  exact ⟨by rw [H.out];rfl,rfl⟩
set_option linter.unusedSimpArgs false in
set_option maxRecDepth 100000 in
set_option maxHeartbeats 1000000 in
theorem c18_serialElement {v:Value} {n:List Int} {w:World} (hv:Bs w v n) (b:byt n) (hl:n.length≤140737488351232):Calls Tryz.prog 84 #[v] w (ElR w (serT n)):=by
 have HV:Hid (Bs w v n):=hv
 have HB:Hid (byt n):=b
 have HLn:Hid (n.length≤140737488351232):=hl
 obtain ⟨ao,cap,rfl,-,-,-⟩:=hv
 clear b hl
 have R0:=Blk.new w [.int .i64 0,.int .i64 0,.bool false,.slice none 0 0,.slice none 0 0] 60 w.heap.size rfl
 have bel:Below w.heap.size w (w.alloc (.cells #[.int .i64 0,.int .i64 0,.bool false,.slice none 0 0,.slice none 0 0] 60)):=(Below.refl _ _).alloc (Nat.le_refl _) _
 have hz:=zero_tlv.out
 go_enter Tryz.func84,Tryz.ntmps84
 go_upto_region 1 with fail
 have lW:=bel.size
 generalize w.alloc (.cells #[.int .i64 0,.int .i64 0,.bool false,.slice none 0 0,.slice none 0 0] 60)=W at *
 have lR:=R0.lt
 obtain ⟨N0,hN0⟩:∃ n,n=W.heap.size:=⟨_,rfl⟩
 rw [← hN0] at lR lW
 have hs:N0≤W.heap.size:=by omega
 clear hz
 go_wp2_with fail
 refine (c18_isSerial (HV.out.later bel)).mono ?_
 rintro e w1 ⟨rfl,hw1⟩
 rw [hw1]
 clear hw1 w1
 cases hsb:serB n with
 | false =>
  have H:Hid (serT n=none):=serT_no hsb
  clear hsb
  have hz:=zero_tlv.out
  obtain ⟨tR,hR⟩:=R0
  have HR1:Hid _:=hR
  clear hR
  go_wp2_with (first|((with_reducible show wpList _ _ _ ({ dst:=_,op:=.store _ _ _,type:=_,pos:=_,after:=_,guard:=_ } :: _) _ _);refine wpList_store_row rfl 60 _ _ rfl (w.heap.size) #[.int .i64 0,.int .i64 0,.bool false,.slice none 0 0,.slice none 0 0] rfl rfl tR _ HR1.out (by rw [size_tlv];rfl) rfl (by simp [Value.oneCell']) ?_)|fail)
  refine bodyPost_ret (results_row_tmp rfl _ _ (w.heap.size) tR #[.int .i64 0,.int .i64 0,.bool false,.slice none 0 0,.slice none 0 0] (0,0) _ rfl (setRow_heap _ _ _ _ _ _ HR1.out) Tryz.underlying60 rfl (by rw [size_tlv];rfl)) rfl ?_
  exact ElR.bad H.out (below_setRow bel (by omega) _)
 | true =>
  obtain ⟨X,hX,hS⟩:=serT_yes hsb
  have H:Hid (serT n=some (.mk 0 2 false X [])):=hS
  have HX:Hid (numOf n=.ok X):=hX
  clear hsb hX hS
  go_wp2_with fail
  refine (con_NumberOf (HV.out.later bel) HB.out HLn.out).mono ?_
  rintro e w2 ⟨hok,-⟩
  obtain ⟨v2,rfl,hv2,hn2,hb⟩:=hok X HX.out
  have HB2:Hid (Bs w2 v2 X):=hv2
  have HN2:Hid (NewV W v2):=hn2
  obtain ⟨va,vc,hv3,-,-,-⟩:=id hv2
  obtain ⟨L2,hL2⟩:∃ z,X.length=z:=⟨_,rfl⟩
  rw [hL2] at hv3
  subst hv3
  replace R0:=R0.later hb
  replace bel:=below_step bel hb
  clear hb hok hv2 hn2 hL2
  have q:=ne_nilL
  go_wp2_with fail
  refine c18_plain.mono ?_
  rintro e w3 ⟨rfl,hb⟩
  have HT:Hid (Dep (fun g=>N0≤g) w3 (.mk 0 2 false X []) [.int .i64 0,.int .i64 2,.bool false,.slice va L2 vc,.slice none 0 0]):=by rw [hN0];exact leaf_new (HB2.out.later hb) HN2.out 0 2 false
  replace R0:=R0.later hb
  replace bel:=below_step bel hb
  clear hb HB2 HN2
  obtain ⟨tR,hR⟩:=R0
  have HR1:Hid _:=hR
  clear hR
  go_wp2_with (first|((with_reducible show wpList _ _ _ ({ dst:=_,op:=.store _ _ _,type:=_,pos:=_,after:=_,guard:=_ } :: _) _ _);refine wpList_store_row rfl 60 _ _ rfl (w.heap.size) #[.int .i64 0,.int .i64 2,.bool false,.slice va L2 vc,.slice none 0 0] rfl rfl tR _ HR1.out (by rw [size_tlv];rfl) rfl (by simp [Value.oneCell']) ?_)|fail)
  refine bodyPost_ret (results_row_tmp rfl _ _ (w.heap.size) tR #[.int .i64 0,.int .i64 2,.bool false,.slice va L2 vc,.slice none 0 0] (0,0) _ rfl (setRow_heap _ _ _ _ _ _ HR1.out) Tryz.underlying60 rfl (by rw [size_tlv];rfl)) rfl ?_
  exact ElR.ok (cs:=[.int .i64 0,.int .i64 2,.bool false,.slice va L2 vc,.slice none 0 0]) H.out (dep_ret HT.out lR lW) (below_setRow bel (by omega) _)
set_option linter.unusedSimpArgs false in
set_option maxRecDepth 100000 in
set_option maxHeartbeats 1000000 in
theorem c18_timeElement {t:Int} {w:World} (ht:-9223372036854775808≤t∧t≤9223372036854775807):Calls Tryz.prog 45 #[.int .i64 t] w (ElR w (timT t)):=by
 have HTb:Hid (-9223372036854775808≤t∧t≤9223372036854775807):=ht
 clear ht
 have R0:=Blk.new w [.int .i64 0,.int .i64 0,.bool false,.slice none 0 0,.slice none 0 0] 60 w.heap.size rfl
 have bel:Below w.heap.size w (w.alloc (.cells #[.int .i64 0,.int .i64 0,.bool false,.slice none 0 0,.slice none 0 0] 60)):=(Below.refl _ _).alloc (Nat.le_refl _) _
 have hz:=zero_tlv.out
 go_enter Tryz.func45,Tryz.ntmps45
 go_upto_region 1 with fail
 have lW:=bel.size
 generalize w.alloc (.cells #[.int .i64 0,.int .i64 0,.bool false,.slice none 0 0,.slice none 0 0] 60)=W at *
 have lR:=R0.lt
 obtain ⟨N0,hN0⟩:∃ n,n=W.heap.size:=⟨_,rfl⟩
 rw [← hN0] at lR lW
 have hs:N0≤W.heap.size:=by omega
 clear hz
 go_wp2_with fail
 refine (con_TimeOf HTb.out).mono ?_
 rintro e w2 ⟨hok,hbad⟩
 cases ht:timeOf t with
 | error c =>
  obtain ⟨va,vc,rfl,hb⟩:=hbad c ht
  have H:Hid (timT t=none):=timT_no ht
  replace R0:=R0.later hb
  replace bel:=below_step bel hb
  clear hok hbad hb ht
  have q:=ne_codeL (c:Int)
  have hz:=zero_tlv.out
  obtain ⟨tR,hR⟩:=R0
  have HR1:Hid _:=hR
  clear hR
  go_wp2_with (first|((with_reducible show wpList _ _ _ ({ dst:=_,op:=.store _ _ _,type:=_,pos:=_,after:=_,guard:=_ } :: _) _ _);refine wpList_store_row rfl 60 _ _ rfl (w.heap.size) #[.int .i64 0,.int .i64 0,.bool false,.slice none 0 0,.slice none 0 0] rfl rfl tR _ HR1.out (by rw [size_tlv];rfl) rfl (by simp [Value.oneCell']) ?_)|fail)
  refine bodyPost_ret (results_row_tmp rfl _ _ (w.heap.size) tR #[.int .i64 0,.int .i64 0,.bool false,.slice none 0 0,.slice none 0 0] (0,0) _ rfl (setRow_heap _ _ _ _ _ _ HR1.out) Tryz.underlying60 rfl (by rw [size_tlv];rfl)) rfl ?_
  exact ElR.bad H.out (below_setRow bel (by omega) _)
 | ok q9 =>
  obtain ⟨a9,X⟩:=q9
  obtain ⟨v2,rfl,hv2,hn2,hb⟩:=hok a9 X ht
  have H:Hid (timT t=some (.mk 0 a9 false X [])):=timT_yes ht
  have HB2:Hid (Bs w2 v2 X):=hv2
  have HN2:Hid (NewV W v2):=hn2
  obtain ⟨va,vc,hv3,-,-,-⟩:=id hv2
  obtain ⟨L2,hL2⟩:∃ z,X.length=z:=⟨_,rfl⟩
  rw [hL2] at hv3
  subst hv3
  replace R0:=R0.later hb
  replace bel:=below_step bel hb
  clear hb hok hbad ht hv2 hn2 hL2
  have q:=ne_nilL
  go_wp2_with fail
  refine c18_plain.mono ?_
  rintro e w3 ⟨rfl,hb⟩
  have HT:Hid (Dep (fun g=>N0≤g) w3 (.mk 0 a9 false X []) [.int .i64 0,.int .i64 a9,.bool false,.slice va L2 vc,.slice none 0 0]):=by rw [hN0];exact leaf_new (HB2.out.later hb) HN2.out 0 a9 false
  replace R0:=R0.later hb
  replace bel:=below_step bel hb
  clear hb HB2 HN2
  obtain ⟨tR,hR⟩:=R0
  have HR1:Hid _:=hR
  clear hR
  go_wp2_with (first|((with_reducible show wpList _ _ _ ({ dst:=_,op:=.store _ _ _,type:=_,pos:=_,after:=_,guard:=_ } :: _) _ _);refine wpList_store_row rfl 60 _ _ rfl (w.heap.size) #[.int .i64 0,.int .i64 a9,.bool false,.slice va L2 vc,.slice none 0 0] rfl rfl tR _ HR1.out (by rw [size_tlv];rfl) rfl (by simp [Value.oneCell']) ?_)|fail)
  refine bodyPost_ret (results_row_tmp rfl _ _ (w.heap.size) tR #[.int .i64 0,.int .i64 a9,.bool false,.slice va L2 vc,.slice none 0 0] (0,0) _ rfl (setRow_heap _ _ _ _ _ _ HR1.out) Tryz.underlying60 rfl (by rw [size_tlv];rfl)) rfl ?_
  exact ElR.ok (cs:=[.int .i64 0,.int .i64 a9,.bool false,.slice va L2 vc,.slice none 0 0]) H.out (dep_ret HT.out lR lW) (below_setRow bel (by omega) _)
end Go.Proofs.YtkgjlcdefnpkpaaGreatDoor
