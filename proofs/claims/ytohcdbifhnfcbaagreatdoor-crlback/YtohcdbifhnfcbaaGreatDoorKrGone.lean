/- What each part of a body is, or none. A serial number's and a time's element: what the program answers. Those that are revoked: what the program answers. -/
import Derived.Test.YtohcdbifhnfcbaaGreatDoorClWr
import Derived.Test.YtohcdbifhnfcbaaGreatDoorDcG1
import Derived.Test.YtohcdbifhnfcbaaGreatDoorNlElem
import Derived.Test.YtohcdbifhnfcbaaGreatDoorDrTG
import Derived.Test.YtohcdbifhnfcbaaGreatDoorDrDG
import Derived.Test.YtohcdbifhnfcbaaGreatDoorKrEl
import Derived.Test.YtohcdbifhnfcbaaGreatDoorPrG
import Derived.Test.YtohcdbifhnfcbaaGreatDoorPrTimeOf
import Derived.Test.YtohcdbifhnfcbaaGreatDoorNlSG
import Derived.Test.YtohcdbifhnfcbaaGreatDoorRows
import Derived.Deep.OwnRows
import Derived.Deep.AppendLies
import Derived.Great.BuildSlice
import Derived.Laws.Rows
import Derived.BigQuiet
import Derived.Deep.WholeRow
import Derived.Deep.RegionHeld3
import Derived.Deep.DeepCutAuto
import Derived.Deep.DeepFit
namespace Go.Proofs.YtohcdbifhnfcbaaGreatDoor
open Go.RowKit
set_option linter.unusedSimpArgs false
set_option maxRecDepth 100000
set_option maxHeartbeats 4000000
theorem with_keyK {T G:Prop} (main:T→G) (kp:T):G:=main kp
/-- what a function tells that makes an element, or an error -/
def ElR (w:World) (r:Option Tl) (e:Ending) (w':World):Prop:=Below w.heap.size w w'∧(r=none→∃ c:Int,e=.returned (.tuple #[.agg #[.int .i64 0,.int .i64 0,.bool false,.slice none 0 0,.slice none 0 0],.iface 46 (.int .i64 c)]))∧(∀ T,r=some T→∃ cs:List Value,e=.returned (.tuple #[.agg cs.toArray,.nilIface])∧Dep (fun g=>w.heap.size≤g) w' T cs)
theorem ElR.bad {w w':World} {r:Option Tl} {c:Int} (h:r=none) (hb:Below w.heap.size w w'):ElR w r (.returned (.tuple #[.agg #[.int .i64 0,.int .i64 0,.bool false,.slice none 0 0,.slice none 0 0],.iface 46 (.int .i64 c)])) w':=⟨hb,fun _=>⟨c,rfl⟩,fun T k=>(by rw [h] at k;cases k)⟩
theorem ElR.ok {w w':World} {r:Option Tl} {T:Tl} {cs:List Value} (h:r=some T) (hd:Dep (fun g=>w.heap.size≤g) w' T cs) (hb:Below w.heap.size w w'):ElR w r (.returned (.tuple #[.agg cs.toArray,.nilIface])) w':=⟨hb,fun k=>(by rw [h] at k;cases k),fun T' k=>(by rw [h] at k;cases k;exact ⟨cs,rfl,hd⟩)⟩
theorem RwT.cell {w:World} {N c k:Nat} {kv v:Value} {Ts:List Tl} (h:RwT w N kv Ts) (hc:c < N):RwT (w.setCell ⟨c,k,none⟩ v) N kv Ts:=by
 obtain ⟨xs,h1,h2⟩:=h
 exact ⟨xs,own_agr (S:=fun b=>N≤b) h1 ((Agr.refl _ _).cell (by omega)) (fun g hg=>(own_geK h1 hg).1),fun i t ht=>(h2 i t ht).next ((Agr.refl _ _).cell (fun h=>by have:=h.1;omega)) (fun _ h _=>h)⟩
theorem RwT.ltE {w:World} {N b:Nat} {kv:Value} {Ts:List Tl} (h:RwT w N kv Ts) (hb:kv.ownBlock=some b):N≤b∧b < w.heap.size:=by
 obtain ⟨xs,h1,_⟩:=h
 exact own_geK h1 hb
/-- may it be a serial number? -/
def serB (n:List Int):Bool:=decide (¬ (n.length < 1∨20 < n.length∨n.getD 0 0=0))
theorem serT_no {n:List Int} (h:serB n=false):serT n=none:=by
 unfold serB at h
 unfold serT
 rw [if_pos (Decidable.not_not.1 (of_decide_eq_false h))]
theorem serT_yes {n:List Int} (h:serB n=true):∃ b,numOf n=.ok b∧serT n=some (.mk 0 2 false b []):=by
 have h1:=of_decide_eq_true h
 unfold serT
 rw [if_neg h1]
 cases hn:numOf n with
 | ok b=>exact ⟨b,rfl,rfl⟩
 | error c =>
  exfalso
  unfold numOf at hn
  have hz:∀ X:List Int,(lessZ X).length≤X.length:=by
   intro X
   induction X with
   | nil=>simp [lessZ]
   | cons x X ih =>
    rw [lessZ]
    split
    ·rw [List.length_cons];omega
    ·exact Nat.le_refl _
  have:=hz n
  rw [if_neg (by omega)] at hn
  split at hn<;>cases hn
theorem timT_no {t:Int} {c:Nat} (h:timeOf t=.error c):timT t=none:=by unfold timT;rw [h]
theorem timT_yes {t a:Int} {b:List Int} (h:timeOf t=.ok (a,b)):timT t=some (.mk 0 a false b []):=by unfold timT;rw [h]
/-- a name's element, or none -/
def nameO (n:List Pn):Option Tl:=if mayN n=true then some (elemN n) else none
theorem take_mem {α:Type} {L:List α} {i:Nat} {x:α} {P:α→Prop} (h:∀ l∈L.take i,P l) (hx:L[i]?=some x) (k:P x):∀ l∈L.take (i + 1),P l:=fun l hl=>by
 rw [List.take_add_one,hx,List.mem_append] at hl
 rcases hl with hl|hl
 ·exact h l hl
 ·simp at hl
  subst hl
  exact k
theorem map_next {α β:Type} {L:List α} {i:Nat} {x:α} {f:α→β} (hx:L[i]?=some x):(L.take (i + 1)).map f=(L.take i).map f++[f x]:=by
 rw [List.take_add_one,hx,List.map_append]
 rfl
theorem con_NElemO {v:Value} {n:List Pn} {w:World} (hn:NmAt w v n) (wn:WfN n):Calls Tryz.prog 50 #[v] w (ElR w (nameO n)):=by
 refine (con_NElem hn wn).mono ?_
 rintro e w' ⟨h1,h2⟩
 unfold nameO
 cases hm:mayN n with
 | false =>
  obtain ⟨rfl,hb⟩:=h1 hm
  exact ElR.bad (by simp) hb
 | true =>
  obtain ⟨kv,xs,rfl,h3,h4,hb⟩:=h2 hm
  exact ElR.ok (by simp) (ElemR.tl h3 h4) hb
/-- two blocks that are known whole -/
def Two (w:World) (g:Nat) (X:List Value) (h:Nat) (Y:List Value):Prop:=Blk w g X∧Blk w h Y
theorem Two.later {w w':World} {g h:Nat} {X Y:List Value} (B:Two w g X h Y) (hb:Below w.heap.size w w'):Two w' g X h Y:=⟨B.1.later hb,B.2.later hb⟩
theorem Two.alloc {w:World} {g h:Nat} {X Y:List Value} (B:Two w g X h Y) (o:Obj):Two (w.alloc o) g X h Y:=⟨B.1.alloc o,B.2.alloc o⟩
theorem Two.grown {w w':World} {row:Option Nat} {g h:Nat} {X Y:List Value} (B:Two w g X h Y) (hg:w.grownBy w' row) (hr:∀ k,row=some k→¬ (k=g∨k=h)):Two w' g X h Y:=⟨B.1.grown hg (fun k hk e=>hr k hk (.inl e)),B.2.grown hg (fun k hk e=>hr k hk (.inr e))⟩
theorem Two.other {w:World} {g h:Nat} {X Y:List Value} (B:Two w g X h Y) (a:Addr) (v:Value) (hne:¬ (g=a.block∨h=a.block)):Two (w.setCell a v) g X h Y:=⟨B.1.other a v (fun e=>hne (.inl e)),B.2.other a v (fun e=>hne (.inr e))⟩
theorem c18_isSerial {v:Value} {n:List Int} {w:World} (hv:Bs w v n):Calls Tryz.prog 130 #[v] w fun e w'=>e=.returned (.bool (serB n))∧w'=w:=by
 obtain ⟨ao,cap,rfl,h2,h1,h3⟩:=hv
 obtain ⟨L,hL⟩:∃ L,n.length=L:=⟨_,rfl⟩
 have HL:Hid (n.length=L):=hL
 rw [hL] at h1 h3 ⊢
 clear hL
 go_enter Tryz.func130,Tryz.ntmps130
 by_cases c1:0 < L
 rotate_left
 ·have H:Hid (serB n=false):=decide_eq_false (fun h=>h (.inl (by rw [HL.out];omega)))
  have g1:¬ (0:Int) < (L:Int):=by omega
  clear c1 h3
  go_wp2_with fail
  go_ret
  exact ⟨by rw [H.out];rfl,rfl⟩
 obtain ⟨b,o,rfl,hb,hc⟩:=h3 c1
 have g1:(0:Int) < (L:Int):=by omega
 by_cases c2:L≤20
 rotate_left
 ·have H:Hid (serB n=false):=decide_eq_false (fun h=>h (.inr (.inl (by rw [HL.out];omega))))
  have g2:¬ (L:Int)≤20:=by omega
  clear c1 c2 hc h3
  go_wp2_with fail
  go_ret
  exact ⟨by rw [H.out];rfl,rfl⟩
 have g2:(L:Int)≤20:=by omega
 have e0:=hc 0 c1
 rw [Nat.add_zero] at e0
 obtain ⟨x,hx⟩:∃ x,n.getD 0 0=x:=⟨_,rfl⟩
 have HX:Hid (n.getD 0 0=x):=hx
 rw [hx] at e0
 clear hx hc h3
 by_cases c3:x=0
 ·have H:Hid (serB n=false):=decide_eq_false (fun h=>h (.inr (.inr (by rw [HX.out];exact c3))))
  subst c3
  clear c1 c2
  go_wp2_with fail
  go_ret
  exact ⟨by rw [H.out];rfl,rfl⟩
 ·have H:Hid (serB n=true):=decide_eq_true (fun h=>by rw [HL.out,HX.out] at h;omega)
  have d1:(x == 0)=false:=by rw [beq_eq_false_iff_ne];exact c3
  have d2:(x != 0)=true:=by rw [bne,d1];rfl
  clear c1 c2 c3
  go_wp2_with fail
  go_ret
  exact ⟨by rw [H.out];rfl,rfl⟩
theorem c18_serialElement {v:Value} {n:List Int} {w:World} (hv:Bs w v n) (b:byt n) (hl:n.length≤140737488351232):Calls Tryz.prog 94 #[v] w (ElR w (serT n)):=by
 have HV:Hid (Bs w v n):=hv
 have HB:Hid (byt n):=b
 have HLn:Hid (n.length≤140737488351232):=hl
 obtain ⟨ao,cap,rfl,-,-,-⟩:=hv
 clear b hl
 have R0:=Blk.new w [.int .i64 0,.int .i64 0,.bool false,.slice none 0 0,.slice none 0 0] 53 w.heap.size rfl
 have bel:=bal w (.cells #[.int .i64 0,.int .i64 0,.bool false,.slice none 0 0,.slice none 0 0] 53)
 have hz:=zero_tlv.out
 go_enter Tryz.func94,Tryz.ntmps94
 go_upto_region 1 with fail
 have lW:=bel.size
 generalize w.alloc (.cells #[.int .i64 0,.int .i64 0,.bool false,.slice none 0 0,.slice none 0 0] 53)=W at *
 have lR:=R0.lt
 obtain ⟨N0,hN0⟩:∃ n,n=W.heap.size:=⟨_,rfl⟩
 rw [← hN0] at lR lW
 have hs:N0≤W.heap.size:=by omega
 clear hz
 go_wp2_with fail
 refine (c18_isSerial (HV.out.later bel)).mono ?_
 rintro e w1 ⟨rfl,hw1⟩
 rw [hw1]
 clear hw1 w1
 cases hsb:serB n with
 | false =>
  have H:Hid (serT n=none):=serT_no hsb
  clear hsb
  have hz:=zero_tlv.out
  obtain ⟨tR,hR⟩:=R0
  have HR1:Hid _:=hR
  clear hR
  go_wp2_with (first|((with_reducible show wpList _ _ _ ({ dst:=_,op:=.store _ _ _,type:=_,pos:=_,after:=_,guard:=_ } :: _) _ _);refine wpList_store_row rfl 53 _ _ rfl (w.heap.size) #[.int .i64 0,.int .i64 0,.bool false,.slice none 0 0,.slice none 0 0] rfl rfl tR _ HR1.out (by rw [size_tlv];rfl) rfl (by simp [Value.oneCell']) ?_)|fail)
  refine bodyPost_ret (results_row_tmp rfl _ _ (w.heap.size) tR #[.int .i64 0,.int .i64 0,.bool false,.slice none 0 0,.slice none 0 0] (0,0) _ rfl (setRow_heap _ _ _ _ _ _ HR1.out) Tryz.underlying53 rfl (by rw [size_tlv];rfl)) rfl ?_
  exact ElR.bad H.out (below_setRow bel (by omega) _)
 | true =>
  obtain ⟨X,hX,hS⟩:=serT_yes hsb
  have H:Hid (serT n=some (.mk 0 2 false X [])):=hS
  have HX:Hid (numOf n=.ok X):=hX
  clear hsb hX hS
  go_wp2_with fail
  refine (con_NumberOf (HV.out.later bel) HB.out HLn.out).mono ?_
  rintro e w2 ⟨hok,-⟩
  obtain ⟨v2,rfl,hv2,hn2,hb⟩:=hok X HX.out
  have HB2:Hid (Bs w2 v2 X):=hv2
  have HN2:Hid (NewV W v2):=hn2
  obtain ⟨va,vc,hv3,-,-,-⟩:=id hv2
  obtain ⟨L2,hL2⟩:∃ z,X.length=z:=⟨_,rfl⟩
  rw [hL2] at hv3
  subst hv3
  replace R0:=R0.later hb
  replace bel:=below_step bel hb
  clear hb hok hv2 hn2 hL2
  have q:=ne_nilL
  go_wp2_with fail
  refine c18_plain.mono ?_
  rintro e w3 ⟨rfl,hb⟩
  have HT:Hid (Dep (fun g=>N0≤g) w3 (.mk 0 2 false X []) [.int .i64 0,.int .i64 2,.bool false,.slice va L2 vc,.slice none 0 0]):=by rw [hN0];exact leaf_new (HB2.out.later hb) HN2.out 0 2 false
  replace R0:=R0.later hb
  replace bel:=below_step bel hb
  clear hb HB2 HN2
  obtain ⟨tR,hR⟩:=R0
  have HR1:Hid _:=hR
  clear hR
  go_wp2_with (first|((with_reducible show wpList _ _ _ ({ dst:=_,op:=.store _ _ _,type:=_,pos:=_,after:=_,guard:=_ } :: _) _ _);refine wpList_store_row rfl 53 _ _ rfl (w.heap.size) #[.int .i64 0,.int .i64 2,.bool false,.slice va L2 vc,.slice none 0 0] rfl rfl tR _ HR1.out (by rw [size_tlv];rfl) rfl (by simp [Value.oneCell']) ?_)|fail)
  refine bodyPost_ret (results_row_tmp rfl _ _ (w.heap.size) tR #[.int .i64 0,.int .i64 2,.bool false,.slice va L2 vc,.slice none 0 0] (0,0) _ rfl (setRow_heap _ _ _ _ _ _ HR1.out) Tryz.underlying53 rfl (by rw [size_tlv];rfl)) rfl ?_
  exact ElR.ok (cs:=[.int .i64 0,.int .i64 2,.bool false,.slice va L2 vc,.slice none 0 0]) H.out (dep_ret HT.out lR lW) (below_setRow bel (by omega) _)
theorem c18_timeElement {t:Int} {w:World} (ht:-9223372036854775808≤t∧t≤9223372036854775807):Calls Tryz.prog 51 #[.int .i64 t] w (ElR w (timT t)):=by
 have HTb:Hid (-9223372036854775808≤t∧t≤9223372036854775807):=ht
 clear ht
 have R0:=Blk.new w [.int .i64 0,.int .i64 0,.bool false,.slice none 0 0,.slice none 0 0] 53 w.heap.size rfl
 have bel:=bal w (.cells #[.int .i64 0,.int .i64 0,.bool false,.slice none 0 0,.slice none 0 0] 53)
 have hz:=zero_tlv.out
 go_enter Tryz.func51,Tryz.ntmps51
 go_upto_region 1 with fail
 have lW:=bel.size
 generalize w.alloc (.cells #[.int .i64 0,.int .i64 0,.bool false,.slice none 0 0,.slice none 0 0] 53)=W at *
 have lR:=R0.lt
 obtain ⟨N0,hN0⟩:∃ n,n=W.heap.size:=⟨_,rfl⟩
 rw [← hN0] at lR lW
 have hs:N0≤W.heap.size:=by omega
 clear hz
 go_wp2_with fail
 refine (con_TimeOf HTb.out).mono ?_
 rintro e w2 ⟨hok,hbad⟩
 cases ht:timeOf t with
 | error c =>
  obtain ⟨va,vc,rfl,hb⟩:=hbad c ht
  have H:Hid (timT t=none):=timT_no ht
  replace R0:=R0.later hb
  replace bel:=below_step bel hb
  clear hok hbad hb ht
  have q:=ne_codeL (c:Int)
  have hz:=zero_tlv.out
  obtain ⟨tR,hR⟩:=R0
  have HR1:Hid _:=hR
  clear hR
  go_wp2_with (first|((with_reducible show wpList _ _ _ ({ dst:=_,op:=.store _ _ _,type:=_,pos:=_,after:=_,guard:=_ } :: _) _ _);refine wpList_store_row rfl 53 _ _ rfl (w.heap.size) #[.int .i64 0,.int .i64 0,.bool false,.slice none 0 0,.slice none 0 0] rfl rfl tR _ HR1.out (by rw [size_tlv];rfl) rfl (by simp [Value.oneCell']) ?_)|fail)
  refine bodyPost_ret (results_row_tmp rfl _ _ (w.heap.size) tR #[.int .i64 0,.int .i64 0,.bool false,.slice none 0 0,.slice none 0 0] (0,0) _ rfl (setRow_heap _ _ _ _ _ _ HR1.out) Tryz.underlying53 rfl (by rw [size_tlv];rfl)) rfl ?_
  exact ElR.bad H.out (below_setRow bel (by omega) _)
 | ok q9 =>
  obtain ⟨a9,X⟩:=q9
  obtain ⟨v2,rfl,hv2,hn2,hb⟩:=hok a9 X ht
  have H:Hid (timT t=some (.mk 0 a9 false X [])):=timT_yes ht
  have HB2:Hid (Bs w2 v2 X):=hv2
  have HN2:Hid (NewV W v2):=hn2
  obtain ⟨va,vc,hv3,-,-,-⟩:=id hv2
  obtain ⟨L2,hL2⟩:∃ z,X.length=z:=⟨_,rfl⟩
  rw [hL2] at hv3
  subst hv3
  replace R0:=R0.later hb
  replace bel:=below_step bel hb
  clear hb hok hbad ht hv2 hn2 hL2
  have q:=ne_nilL
  go_wp2_with fail
  refine c18_plain.mono ?_
  rintro e w3 ⟨rfl,hb⟩
  have HT:Hid (Dep (fun g=>N0≤g) w3 (.mk 0 a9 false X []) [.int .i64 0,.int .i64 a9,.bool false,.slice va L2 vc,.slice none 0 0]):=by rw [hN0];exact leaf_new (HB2.out.later hb) HN2.out 0 a9 false
  replace R0:=R0.later hb
  replace bel:=below_step bel hb
  clear hb HB2 HN2
  obtain ⟨tR,hR⟩:=R0
  have HR1:Hid _:=hR
  clear hR
  go_wp2_with (first|((with_reducible show wpList _ _ _ ({ dst:=_,op:=.store _ _ _,type:=_,pos:=_,after:=_,guard:=_ } :: _) _ _);refine wpList_store_row rfl 53 _ _ rfl (w.heap.size) #[.int .i64 0,.int .i64 a9,.bool false,.slice va L2 vc,.slice none 0 0] rfl rfl tR _ HR1.out (by rw [size_tlv];rfl) rfl (by simp [Value.oneCell']) ?_)|fail)
  refine bodyPost_ret (results_row_tmp rfl _ _ (w.heap.size) tR #[.int .i64 0,.int .i64 a9,.bool false,.slice va L2 vc,.slice none 0 0] (0,0) _ rfl (setRow_heap _ _ _ _ _ _ HR1.out) Tryz.underlying53 rfl (by rw [size_tlv];rfl)) rfl ?_
  exact ElR.ok (cs:=[.int .i64 0,.int .i64 a9,.bool false,.slice va L2 vc,.slice none 0 0]) H.out (dep_ret HT.out lR lW) (below_setRow bel (by omega) _)
theorem c18_listL {ka:Option Addr} {n kc:Nat} {w:World}:Calls Tryz.prog 24 #[.slice ka n kc] w fun e w'=>∃ cs:List Value,e=.returned (.agg cs.toArray)∧Hid (cs=[.int .i64 0,.int .i64 16,.bool true,.slice none 0 0,.slice ka n kc])∧Below w.heap.size w w':=c18_list.mono (fun _ _ ⟨h,hb⟩=>⟨_,h,rfl,hb⟩)
theorem size_gn:(Tryz.prog.info? 64).map (·.size)=some 2:=by kernel_rfl
theorem zero_gn:∀ w:World,(zeroValue 64).run Tryz.prog w=.ok (.agg #[.slice none 0 0,.int .i64 0]) w:=fun w=>by kernel_rfl
/-- serial numbers that are not too great for any machine -/
def SmG (L:List Gn):Prop:=∀ g∈L,g.1.length≤140737488351232
def okG (L:List Gn):Prop:=L.length≤64∧∀ g∈L,∃ T,goneO g=some T
/-- one that is revoked, as an element -/
noncomputable def gonT (g:Gn):Tl:=orT (goneO g)
noncomputable def gnO (L:List Gn):Option Tl:=open Classical in if okG L then some (listT (L.map gonT)) else none
theorem gnO_no {L:List Gn} (h:¬ okG L):gnO L=none:=by unfold gnO;rw [if_neg h]
theorem gnO_yes {L:List Gn} (h:okG L):gnO L=some (listT (L.map gonT)):=by unfold gnO;rw [if_pos h]
theorem gonT_is {g:Gn} {a b:Tl} (h:serT g.1=some a) (k:timT g.2=some b):gonT g=listT [a,b]:=by unfold gonT;rw [goneO_yes h k];rfl
theorem c18_goneElement {v:Value} {L:List Gn} {w:World} (hU:GnAt w v L) (wf:WfG L) (hsg:SmG L):Calls Tryz.prog 53 #[v] w (ElR w (gnO L)):=by
 have HWn:Hid (WfG L):=wf
 have HSg:Hid (SmG L):=hsg
 clear wf hsg
 obtain ⟨ua,uc,hue,hu1,hu2,hu3⟩:=hU
 have HVc:Hid (0 < L.length→∃ b o,ua=some ⟨b,o,none⟩∧b < w.heap.size∧∀ i g,L[i]?=some g→∃ u,w.cell? ⟨b,o + i * 2,none⟩=some u∧Bs w u g.1∧w.cell? ⟨b,o + i * 2 + 1,none⟩=some (.int .i64 g.2)):=hu3
 obtain ⟨LN,hLN⟩:∃ z,L.length=z:=⟨_,rfl⟩
 have HLN:Hid (L.length=LN):=hLN
 rw [hLN] at hue hu1 HVc
 subst hue
 unfold maxLen at hu2
 clear hu3 hLN
 have R0:=Blk.new w [.int .i64 0,.int .i64 0,.bool false,.slice none 0 0,.slice none 0 0] 53 w.heap.size rfl
 have bel:=bal w (.cells #[.int .i64 0,.int .i64 0,.bool false,.slice none 0 0,.slice none 0 0] 53)
 have hz:=zero_tlv.out
 go_enter Tryz.func53,Tryz.ntmps53
 go_upto_region 1 with fail
 have lW:=bel.size
 generalize w.alloc (.cells #[.int .i64 0,.int .i64 0,.bool false,.slice none 0 0,.slice none 0 0] 53)=W at *
 clear hz
 obtain ⟨jt,hjt,ht0,ht1,ht2⟩:=info_partsD info_tlv

 by_cases k1:64 < LN
 ·have H:Hid (gnO L=none):=gnO_no (fun h=>by have:=h.1;rw [HLN.out] at this;omega)
  have g1:(64:Int) < (LN:Int):=by omega
  clear k1
  have hz:=zero_tlv.out
  obtain ⟨tR,hR⟩:=R0
  have HR1:Hid _:=hR
  clear hR
  go_wp2_with (first|((with_reducible show wpList _ _ _ ({ dst:=_,op:=.store _ _ _,type:=_,pos:=_,after:=_,guard:=_ } :: _) _ _);refine wpList_store_row rfl 53 _ _ rfl (w.heap.size) #[.int .i64 0,.int .i64 0,.bool false,.slice none 0 0,.slice none 0 0] rfl rfl tR _ HR1.out (by rw [size_tlv];rfl) rfl (by simp [Value.oneCell']) ?_)|fail)
  refine bodyPost_ret (results_row_tmp rfl _ _ (w.heap.size) tR #[.int .i64 0,.int .i64 0,.bool false,.slice none 0 0,.slice none 0 0] (0,0) _ rfl (setRow_heap _ _ _ _ _ _ HR1.out) Tryz.underlying53 rfl (by rw [size_tlv];rfl)) rfl ?_
  exact ElR.bad H.out (below_setRow bel (by omega) _)
 have g1:¬ (64:Int) < (LN:Int):=by omega
 have HL8:Hid (LN≤64):=by show _≤_;omega
 clear k1
 go_wp2_with fail
 refine c18_list.mono ?_
 rintro e w1 ⟨rfl,hb⟩
 replace R0:=R0.later hb
 replace bel:=below_step bel hb
 have lt1:w.heap.size < w1.heap.size:=R0.lt
 clear hb g1
 have hz:=zero_tlv.out
 have Bv:=Blk.new w1 [.int .i64 0,.int .i64 16,.bool true,.slice none 0 0,.slice none 0 0] 53 w1.heap.size rfl
 replace R0:=R0.alloc (.cells #[.int .i64 0,.int .i64 16,.bool true,.slice none 0 0,.slice none 0 0] 53)
 replace bel:=below_alloc (o:=.cells #[.int .i64 0,.int .i64 16,.bool true,.slice none 0 0,.slice none 0 0] 53) bel
 go_upto_region 4 with (first|((with_reducible show wpList _ _ _ ({ dst:=_,op:=.store _ _ _,type:=_,pos:=_,after:=_,guard:=_ } :: _) _ _);refine wpList_store_row rfl 53 _ _ rfl w1.heap.size #[.int .i64 0,.int .i64 16,.bool true,.slice none 0 0,.slice none 0 0] rfl rfl 53 _ (heap_alloc_last _ _) (by rw [size_tlv];rfl) rfl (by simp [Value.oneCell']) ?_;rw [World.setRow_alloc_new])|fail)
 clear hz
 obtain ⟨gt,hgt⟩:∃ g,g=w1.heap.size:=⟨_,rfl⟩
 rw [← hgt] at Bv lt1 ⊢
 have ltv:gt < (w1.alloc (.cells #[.int .i64 0,.int .i64 16,.bool true,.slice none 0 0,.slice none 0 0] 53)).heap.size:=Bv.lt
 generalize w1.alloc (.cells #[.int .i64 0,.int .i64 16,.bool true,.slice none 0 0,.slice none 0 0] 53)=V1 at *
 clear hgt
 go_wp2_with fail
 obtain ⟨N1,hN1⟩:∃ n,n=V1.heap.size:=⟨_,rfl⟩
 rw [← hN1] at ltv
 have hs1:N1≤V1.heap.size:=by omega
 clear hN1
 go_loopw [18] (fun iv wx=>∃ (i:Nat) (ka:Option Addr) (kc:Nat),i≤LN∧iv=.int .i64 (i:Int)∧Blk wx gt [.int .i64 0,.int .i64 16,.bool true,.slice none 0 0,Value.slice ka i kc]∧Hid (RwT wx N1 (.slice ka i kc) ((L.take i).map gonT))∧Hid (∀ g∈L.take i,∃ T,goneO g=some T)∧Blk wx w.heap.size [.int .i64 0,.int .i64 0,.bool false,.slice none 0 0,.slice none 0 0]∧Below w.heap.size w wx∧N1≤wx.heap.size) (fun iv _=>LN - (intOf iv).toNat)
 case atStart=>exact ⟨0,none,0,by omega,rfl,Bv,by rw [List.take_zero,List.map_nil];exact RwT.nil0 _ _,fun l hl=>by simp at hl,R0,bel,hs1⟩
 case round =>
  clear Bv R0 bel hs1
  obtain ⟨i,ka,kc,hi,rfl,Bv,HR,HA,R0,bel,hs1⟩:=hrel
  have h8:=HL8.out
  have HLi:Hid (((L.take i).map gonT).length=i):=by show _=_;rw [List.length_map,List.length_take,HLN.out];omega
  by_cases hil:i < LN
  rotate_left
  ·obtain rfl:i=LN:=by omega
   have HD:Hid (Dep (fun b=>N1≤b) wr (listT (L.map gonT)) [.int .i64 0,.int .i64 16,.bool true,.slice none 0 0,.slice ka i kc]):=by
    have h:=HR.out.dep 0 16 true
    rw [List.take_of_length_le (by rw [HLN.out];omega)] at h
    exact h
   have H:Hid (gnO L=some (listT (L.map gonT))):=gnO_yes ⟨by rw [HLN.out];exact h8,by have h:=HA.out;rw [List.take_of_length_le (by rw [HLN.out];omega)] at h;exact h⟩
   clear HA HLi HR
   have g1:¬ (i:Int) < (i:Int):=by omega
   have hld:(loadVar 53 ⟨gt,0,none⟩).run Tryz.prog wr=.ok (.agg #[.int .i64 0,.int .i64 16,.bool true,.slice none 0 0,.slice ka i kc]) wr:=Bv.load Tryz.underlying53 rfl size_tlv rfl
   have l0:=Bv.lt
   obtain ⟨tR,hR⟩:=R0
   have HR1:Hid _:=hR
   clear hR
   go_wp2_with (first|((with_reducible show wpList _ _ _ ({ dst:=_,op:=.load _ _,type:=_,pos:=_,after:=_,guard:=_ } :: _) _ _);refine wpList_load_run (by rfl) (by rfl) (by rfl) hld ?_)|((with_reducible show wpList _ _ _ ({ dst:=_,op:=.store _ _ _,type:=_,pos:=_,after:=_,guard:=_ } :: _) _ _);refine wpList_store_row rfl 53 _ _ rfl (w.heap.size) #[.int .i64 0,.int .i64 16,.bool true,.slice none 0 0,.slice ka i kc] rfl rfl tR _ HR1.out (by rw [size_tlv];rfl) rfl (by simp [Value.oneCell']) ?_)|fail)
   refine bodyPost_ret (results_row_tmp rfl _ _ (w.heap.size) tR #[.int .i64 0,.int .i64 16,.bool true,.slice none 0 0,.slice ka i kc] (0,0) _ rfl (setRow_heap _ _ _ _ _ _ HR1.out) Tryz.underlying53 rfl (by rw [size_tlv];rfl)) rfl ?_
   exact ElR.ok (cs:=[.int .i64 0,.int .i64 16,.bool true,.slice none 0 0,.slice ka i kc]) H.out (dep_ret HD.out (by omega) (by omega)) (below_setRow bel (by omega) _)
  obtain ⟨x,hx⟩:∃ x,L[i]?=some x:=⟨_,List.getElem?_eq_getElem (by rw [HLN.out];exact hil)⟩
  obtain ⟨ub,uo,hua,ult,ucl⟩:=HVc.out (by omega)
  subst hua
  have HX:Hid (L[i]?=some x):=hx
  have HXw:Hid _:=HWn.out x (List.mem_of_getElem? hx)
  obtain ⟨y,c0,c1,c2⟩:=ucl i x hx
  have HUs:Hid (Bs w y x.1):=c1
  have x0:=cell_later c0 bel
  have x1:=cell_later c2 bel
  have ly:ub < wr.heap.size:=Nat.lt_of_lt_of_le ult bel.size
  obtain ⟨ns,ta⟩:=x
  simp only at x1 HUs HXw
  obtain ⟨ya,yc,hye,-,-,-⟩:=id HUs.out
  obtain ⟨YL,hYL⟩:∃ z,ns.length=z:=⟨_,rfl⟩
  have HYb:Hid (ns.length≤140737488351232):=HSg.out _ (List.mem_of_getElem? HX.out)
  rw [hYL] at hye
  subst hye
  clear hx ucl ult hYL c0 c1 c2
  have g1:(i:Int) < (LN:Int):=by omega
  have g2:(0:Int)≤(i:Int):=by omega
  have gi:IntKind.i64.wrap ((i:Int) + 1)=(i:Int) + 1:=by rw [IntKind.wrap_i64];omega
  obtain ⟨M,hM⟩:∃ n,n=wr.heap.size:=⟨_,rfl⟩
  have HM:Hid (∀ b,(Value.slice ka i kc).ownBlock=some b→b < M):=fun b h9=>by rw [hM];exact (HR.out.ltE h9).2
  have hNM:N1≤M:=by omega
  have hz:=zero_gn
  have B1:=Blk.new wr [.slice ya YL yc,.int .i64 ta] 64 wr.heap.size rfl
  have hbg:=bal wr (.cells #[.slice ya YL yc,.int .i64 ta] 64)
  replace Bv:=Bv.later hbg
  replace R0:=R0.later hbg
  replace HR:=RwTL HR hbg
  replace bel:=below_step bel hbg
  have hs:M≤(wr.alloc (.cells #[.slice ya YL yc,.int .i64 ta] 64)).heap.size:=by rw [hM];exact hbg.size
  clear hbg
  go_upto_region 7 with (first|((with_reducible show wpList _ _ _ ({ dst:=_,op:=.store _ _ _,type:=_,pos:=_,after:=_,guard:=_ } :: _) _ _);refine wpList_store_row rfl 64 _ _ rfl wr.heap.size #[.slice ya YL yc,.int .i64 ta] rfl rfl 64 _ (heap_alloc_last _ _) (by rw [size_gn];rfl) rfl (by simp [Value.oneCell']) ?_;rw [World.setRow_alloc_new])|fail)
  clear hz x0 x1 ly
  rw [← hM] at B1 ⊢
  generalize wr.alloc (.cells #[.slice ya YL yc,.int .i64 ta] 64)=V0 at *
  clear hM
  have e0:=B1.cell 0 _ rfl
  have l1:=B1.lt
  go_wp2_with fail
  refine (c18_serialElement (HUs.out.later bel) HXw.out.1 HYb.out).mono ?_
  rintro e w2 ⟨hb,hbad,hok⟩
  clear e0 l1
  replace B1:=B1.later hb
  replace Bv:=Bv.later hb
  replace R0:=R0.later hb
  replace HR:=RwTL HR hb
  replace bel:=below_step bel hb
  have hs2:M≤w2.heap.size:=Nat.le_trans hs hb.size
  have HSz:Hid (V0.heap.size≤w2.heap.size):=hb.size
  have HSm:Hid (M≤V0.heap.size):=hs
  clear hb hs
  cases ht:serT ns with
  | none =>
   obtain ⟨c9,rfl⟩:=hbad ht
   have H:Hid (gnO L=none):=gnO_no (fun h=>by obtain ⟨T,h2⟩:=h.2 (ns,ta) (List.mem_of_getElem? HX.out);rw [goneO_no (Or.inl ht)] at h2;cases h2)
   clear hok hbad ht HR Bv B1
   have q:=ne_codeL c9
   have hz:=zero_tlv.out
   replace R0:=R0.alloc (.cells #[.int .i64 0,.int .i64 0,.bool false,.slice none 0 0,.slice none 0 0] 53)
   replace bel:=below_alloc (o:=.cells #[.int .i64 0,.int .i64 0,.bool false,.slice none 0 0,.slice none 0 0] 53) bel
   go_upto_region 8 with (first|((with_reducible show wpList _ _ _ ({ dst:=_,op:=.store _ _ _,type:=_,pos:=_,after:=_,guard:=_ } :: _) _ _);refine wpList_store_row rfl 53 _ _ rfl w2.heap.size #[.int .i64 0,.int .i64 0,.bool false,.slice none 0 0,.slice none 0 0] rfl rfl 53 _ (heap_alloc_last _ _) (by rw [size_tlv];rfl) rfl (by simp [Value.oneCell']) ?_;rw [World.setRow_alloc_new])|fail)
   generalize w2.alloc (.cells #[.int .i64 0,.int .i64 0,.bool false,.slice none 0 0,.slice none 0 0] 53)=V9 at *
   clear hz
   have hz:=zero_tlv.out
   obtain ⟨tR,hR⟩:=R0
   have HR1:Hid _:=hR
   clear hR
   go_wp2_with (first|((with_reducible show wpList _ _ _ ({ dst:=_,op:=.store _ _ _,type:=_,pos:=_,after:=_,guard:=_ } :: _) _ _);refine wpList_store_row rfl 53 _ _ rfl (w.heap.size) #[.int .i64 0,.int .i64 0,.bool false,.slice none 0 0,.slice none 0 0] rfl rfl tR _ HR1.out (by rw [size_tlv];rfl) rfl (by simp [Value.oneCell']) ?_)|fail)
   refine bodyPost_ret (results_row_tmp rfl _ _ (w.heap.size) tR #[.int .i64 0,.int .i64 0,.bool false,.slice none 0 0,.slice none 0 0] (0,0) _ rfl (setRow_heap _ _ _ _ _ _ HR1.out) Tryz.underlying53 rfl (by rw [size_tlv];rfl)) rfl ?_
   exact ElR.bad H.out (below_setRow bel (by omega) _)
  | some T1 =>
   obtain ⟨es,rfl,hde⟩:=hok T1 ht
   have HS1:Hid (serT ns=some T1):=ht
   have HDe:Hid (Dep (fun b=>M≤b) w2 T1 es):=hde.next (Agr.refl _ _) (fun _ h _=>Nat.le_trans HSm.out h)
   have HLe:Hid (es.length=5):=hde.now.five
   have HOe:Hid (OneC es):=hde.now.ones
   clear hok hbad ht hde
   have lge:M≤w2.heap.size:=hs2
   have HS5e:Hid (es.toArray.size=5):=by show _=_;rw [List.size_toArray];exact HLe.out
   have hz:=zero_tlv.out
   have hbx:=bal w2 (.cells es.toArray 53)
   replace Bv:=Bv.later hbx
   replace R0:=R0.later hbx
   replace B1:=B1.later hbx
   replace bel:=below_step bel hbx
   replace HDe:=dpl HDe hbx
   replace HR:=RwTL HR hbx
   replace hs2:=hsl hs2 hbx
   have BE:=Blk.new w2 es 53 w2.heap.size rfl
   go_upto_region 8 with (first|((with_reducible show wpList _ _ _ ({ dst:=_,op:=.store _ _ _,type:=_,pos:=_,after:=_,guard:=_ } :: _) _ _);refine wpList_store_row rfl 53 _ _ rfl w2.heap.size es.toArray rfl rfl 53 _ (heap_alloc_last _ _) (by rw [size_tlv,HS5e.out]) (by rw [HS5e.out];rfl) HOe.out ?_;rw [World.setRow_alloc_new])|fail)
   clear hz HS5e hbx
   obtain ⟨ge,hge⟩:∃ g,g=w2.heap.size:=⟨_,rfl⟩
   rw [← hge] at BE lge ⊢
   generalize w2.alloc (.cells es.toArray 53)=V2 at *
   clear hge
   have q:=ne_nilL
   go_upto_region 10 with fail
   clear q
   have e1:=B1.cell 1 _ rfl
   have l1:=B1.lt
   go_wp2_with fail
   refine (c18_timeElement ⟨HXw.out.2.1,by have:=HXw.out.2.2;omega⟩).mono ?_
   rintro e w3 ⟨hb,hbad,hok⟩
   clear e1 l1
   replace BE:=BE.later hb
   replace Bv:=Bv.later hb
   replace R0:=R0.later hb
   replace HR:=RwTL HR hb
   replace HDe:=dpl HDe hb
   replace bel:=below_step bel hb
   have HSn:Hid (M≤V2.heap.size):=hs2
   replace hs2:=hsl hs2 hb
   clear hb B1
   cases ht:timT ta with
   | none =>
    obtain ⟨c9,rfl⟩:=hbad ht
    have H:Hid (gnO L=none):=gnO_no (fun h=>by obtain ⟨T,h2⟩:=h.2 (ns,ta) (List.mem_of_getElem? HX.out);rw [goneO_no (Or.inr ht)] at h2;cases h2)
    clear hok hbad ht HR Bv BE HDe
    have q:=ne_codeL c9
    have hz:=zero_tlv.out
    replace R0:=R0.alloc (.cells #[.int .i64 0,.int .i64 0,.bool false,.slice none 0 0,.slice none 0 0] 53)
    replace bel:=below_alloc (o:=.cells #[.int .i64 0,.int .i64 0,.bool false,.slice none 0 0,.slice none 0 0] 53) bel
    go_upto_region 11 with (first|((with_reducible show wpList _ _ _ ({ dst:=_,op:=.store _ _ _,type:=_,pos:=_,after:=_,guard:=_ } :: _) _ _);refine wpList_store_row rfl 53 _ _ rfl w3.heap.size #[.int .i64 0,.int .i64 0,.bool false,.slice none 0 0,.slice none 0 0] rfl rfl 53 _ (heap_alloc_last _ _) (by rw [size_tlv];rfl) rfl (by simp [Value.oneCell']) ?_;rw [World.setRow_alloc_new])|fail)
    generalize w3.alloc (.cells #[.int .i64 0,.int .i64 0,.bool false,.slice none 0 0,.slice none 0 0] 53)=V9 at *
    clear hz
    have hz:=zero_tlv.out
    obtain ⟨tR,hR⟩:=R0
    have HR1:Hid _:=hR
    clear hR
    go_wp2_with (first|((with_reducible show wpList _ _ _ ({ dst:=_,op:=.store _ _ _,type:=_,pos:=_,after:=_,guard:=_ } :: _) _ _);refine wpList_store_row rfl 53 _ _ rfl (w.heap.size) #[.int .i64 0,.int .i64 0,.bool false,.slice none 0 0,.slice none 0 0] rfl rfl tR _ HR1.out (by rw [size_tlv];rfl) rfl (by simp [Value.oneCell']) ?_)|fail)
    refine bodyPost_ret (results_row_tmp rfl _ _ (w.heap.size) tR #[.int .i64 0,.int .i64 0,.bool false,.slice none 0 0,.slice none 0 0] (0,0) _ rfl (setRow_heap _ _ _ _ _ _ HR1.out) Tryz.underlying53 rfl (by rw [size_tlv];rfl)) rfl ?_
    exact ElR.bad H.out (below_setRow bel (by omega) _)
   | some T2 =>
    obtain ⟨fs,rfl,hde⟩:=hok T2 ht
    have HS2:Hid (timT ta=some T2):=ht
    have HDf:Hid (Dep (fun b=>M≤b) w3 T2 fs):=hde.next (Agr.refl _ _) (fun _ h _=>Nat.le_trans HSn.out h)
    have HLf:Hid (fs.length=5):=hde.now.five
    have HOf:Hid (OneC fs):=hde.now.ones
    clear hok hbad ht hde
    have lgf:M≤w3.heap.size:=hs2
    have HS5f:Hid (fs.toArray.size=5):=by show _=_;rw [List.size_toArray];exact HLf.out
    have hz:=zero_tlv.out
    have hbx:=bal w3 (.cells fs.toArray 53)
    replace Bv:=Bv.later hbx
    replace R0:=R0.later hbx
    replace BE:=BE.later hbx
    replace bel:=below_step bel hbx
    replace HDe:=dpl HDe hbx
    replace HDf:=dpl HDf hbx
    replace HR:=RwTL HR hbx
    have hs:M≤(w3.alloc (.cells fs.toArray 53)).heap.size:=Nat.le_trans hs2 hbx.size
    have BF:=Blk.new w3 fs 53 w3.heap.size rfl
    go_upto_region 11 with (first|((with_reducible show wpList _ _ _ ({ dst:=_,op:=.store _ _ _,type:=_,pos:=_,after:=_,guard:=_ } :: _) _ _);refine wpList_store_row rfl 53 _ _ rfl w3.heap.size fs.toArray rfl rfl 53 _ (heap_alloc_last _ _) (by rw [size_tlv,HS5f.out]) (by rw [HS5f.out];rfl) HOf.out ?_;rw [World.setRow_alloc_new])|fail)
    clear hz HS5f hbx
    obtain ⟨gf,hgf⟩:∃ g,g=w3.heap.size:=⟨_,rfl⟩
    rw [← hgf] at BF lgf ⊢
    generalize w3.alloc (.cells fs.toArray 53)=V3 at *
    clear hgf
    have q:=ne_nilL
    go_upto_region 13 with fail
    clear q hs2
    have HGx:Hid (gonT (ns,ta)=listT [T1,T2]):=gonT_is HS1.out HS2.out
    have B2:Two V3 ge es gf fs:=⟨BE,BF⟩
    clear BE BF
    have BE:=B2
    clear B2
    obtain ⟨S1,hS1,KB1,KI1⟩:∃ S:World→Prop,Hd S V3∧Hid (∀ wx,Hd S wx→Two wx ge es gf fs)∧Hid (∀ wx,Two wx ge es gf fs→Hd S wx):=⟨fun wx=>Two wx ge es gf fs,BE,fun _ h=>h,fun _ h=>h⟩
    refine wp_region_noPanic ?_
    have hdr:Below V3.heap.size V3 V3.drew:=Below.drew (Below.refl _ _)
    replace Bv:=Bv.later hdr
    replace R0:=R0.later hdr
    replace HR:=RwTL HR hdr
    replace HDe:=dpl HDe hdr
    replace HDf:=dpl HDf hdr
    replace BE:=BE.later hdr
    replace bel:=below_step bel hdr
    replace hs:=hsl hs hdr

    clear hdr
    refine wp_region_held_drew (S:=Hd S1) (by kernel_rfl) (KI1.out _ BE) (fun hHeld=>?_)
    clear hS1
    generalize World.drew _=wd1 at *
    have rt:Hid (∀ wx,Hd S1 wx→(loadVar 53 ⟨ge,0,none⟩).run Tryz.prog wx=.ok (.agg es.toArray) wx):=fun wx h=>(KB1.out wx h).1.load Tryz.underlying53 rfl size_tlv HLe.out
    have ru:Hid (∀ wx,Hd S1 wx→(loadVar 53 ⟨gf,0,none⟩).run Tryz.prog wx=.ok (.agg fs.toArray) wx):=fun wx h=>(KB1.out wx h).2.load Tryz.underlying53 rfl size_tlv HLf.out
    refine wpAnyH_take (i:=0) (v:=?_) rfl (by kernel_rfl) (by kernel_rfl) (by kernel_rfl) (fun _ _ _ h=>h) (Or.inl ⟨by rfl,?_⟩) (by assumption) ?_
    rotate_left
    ·intro w hSw
     go_simp
     with_reducible rfl
    refine wpAnyH_take (i:=2) (v:=.agg es.toArray) rfl (by kernel_rfl) (by kernel_rfl) (by kernel_rfl) (fun _ _ _ h=>h) (Or.inl ⟨by rfl,fun wx h=>exec_load rfl rfl (rt.out wx h)⟩) (by assumption) ?_
    refine wpAnyH_take (i:=3) (v:=.agg fs.toArray) rfl (by kernel_rfl) (by kernel_rfl) (by kernel_rfl) (fun _ _ _ h=>h) (Or.inl ⟨by rfl,fun wx h=>exec_load rfl rfl (ru.out wx h)⟩) (by assumption) ?_
    apply with_keyK (T:=∀ (wz:World) (g5:Nat) (cs5:List Value) (g3:Nat),Hd S1 wz→Blk wz gt [.int .i64 0,.int .i64 16,.bool true,.slice none 0 0,Value.slice ka i kc]→Blk wz (w.heap.size) [.int .i64 0,.int .i64 0,.bool false,.slice none 0 0,.slice none 0 0]→Hid (RwT wz N1 (Value.slice ka i kc) (((L.take i).map gonT)))→Below w.heap.size w wz→M≤wz.heap.size→Blk wz g5 cs5→Hid (Dep (fun b=>M≤b) wz (gonT (ns,ta)) cs5)→Hid (cs5.length=5)→Hid (OneC cs5)→wpAnyH _ _ _ _ _ _ _ _ wz)
    case main =>
     intro k5
     refine wpAnyH_ready (rs:=[1,4]) (by kernel_rfl) (by simp) ?_
     refine AllReadyH.cons rfl (fun K hK=>?_) ?_
     ·have e4:=Bv.cell 4 _ rfl
      have l4:=Bv.lt
      go_simp
      refine hK.out _ _ ?_ (fun hHeld2=>?_)
      ·exact hHeld
      ·clear hK K
       try clear hHeld
       have hHeld:=hHeld2
       clear hHeld2
       clear e4 l4
       refine wpAnyH_ready (rs:=[4]) (by kernel_rfl) (by simp) ?_
       refine AllReadyH.cons rfl (fun K hK=>?_) ?_
       ·have HS3:Hid (M≤wd1.heap.size):=hs
        rw [if_pos (by rfl)]
        refine wp_buildSlice 51 53 2 _ rfl (es++fs).toArray jt _ Tryz.underlying51 hjt ht0 (by rw [ht1];decide) (by rw [ht1];decide) (by rw [ht1];refine (congrArg _ (?_:_=[(0,Value.agg es.toArray),(1,Value.agg fs.toArray)])).trans (fill_10 HLe.out HLf.out);kernel_rfl) ?_
        refine hK.out _ _ ?_ (fun hHeld2=>?_)
        ·exact KI1.out _ ((KB1.out _ hHeld).alloc _)
        ·clear hK K
         try clear hHeld
         have hHeld:=hHeld2
         clear hHeld2
         have hb:=bal wd1 (.cells (es++fs).toArray 53)
         replace Bv:=Bv.later hb
         replace R0:=R0.later hb
         replace HR:=RwTL HR hb
         replace bel:=below_step bel hb
         replace hs:=hsl hs hb
         have HD3:Hid (Dep (fun b=>M≤b) (wd1.alloc (.cells (es++fs).toArray 53)) (gonT (ns,ta)) [.int .i64 0,.int .i64 16,.bool true,.slice none 0 0,.slice (some ⟨wd1.heap.size,0,none⟩) 2 2]):=by rw [HGx.out];exact list_dep (ks:=[T1,T2]) (by rw [List.length_append,HLe.out,HLf.out];rfl) HS3.out (by show 2≤maxLen;decide) (two_kids (P:=Dep (fun b=>M≤b) wd1) HDe.out HDf.out HLe.out HLf.out) 0 16 true
         obtain ⟨g3,hg9⟩:∃ g,g=wd1.heap.size:=⟨_,rfl⟩
         rw [← hg9] at HD3 ⊢
         clear hg9 HS3
         clear hb
         generalize (wd1.alloc (.cells (es++fs).toArray 53))=z4 at *
         refine wpAnyH_ready (rs:=[5]) (by kernel_rfl) (by simp) ?_
         refine AllReadyH.cons rfl (fun K hK=>?_) ?_
         ·go_simp
          refine c18_listL.mono ?_
          rintro e z5 ⟨cs5,rfl,hc5,hb⟩
          refine hK.out _ _ ?_ (fun hHeld2=>?_)
          ·exact KI1.out _ ((KB1.out _ hHeld).later hb)
          ·clear hK K
           try clear hHeld
           have hHeld:=hHeld2
           clear hHeld2
           replace Bv:=Bv.later hb
           replace R0:=R0.later hb
           replace HR:=RwTL HR hb
           replace bel:=below_step bel hb
           replace hs:=hsl hs hb
           have HD5:Hid (Dep (fun b=>M≤b) z5 (gonT (ns,ta)) cs5):=by rw [hc5.out];exact HD3.out.next (Agr.below hb) (fun _ h _=>h)
           have HL5:Hid (cs5.length=5):=by rw [hc5.out];rfl
           have HO5:Hid (OneC cs5):=HD5.out.now.ones
           clear hc5 HD3
           clear hb
           refine wpAnyH_ready (rs:=[6]) (by kernel_rfl) (by simp) ?_
           refine AllReadyH.cons rfl (fun K hK=>?_) ?_
           ·rw [if_pos (by rfl)]
            refine wp_buildSlice 51 53 1 _ rfl cs5.toArray jt _ Tryz.underlying51 hjt ht0 (by rw [ht1];decide) (by rw [ht1];decide) (by rw [ht1];refine (congrArg _ (?_:_=[(0,Value.agg cs5.toArray)])).trans (fill_5 HL5.out);kernel_rfl) ?_
            refine hK.out _ _ ?_ (fun hHeld2=>?_)
            ·exact KI1.out _ ((KB1.out _ hHeld).alloc _)
            ·clear hK K
             try clear hHeld
             have hHeld:=hHeld2
             clear hHeld2
             have hb:=bal z5 (.cells cs5.toArray 53)
             replace Bv:=Bv.later hb
             replace R0:=R0.later hb
             replace HR:=RwTL HR hb
             replace bel:=below_step bel hb
             replace hs:=hsl hs hb
             replace HD5:=dpl HD5 hb
             have B5:=Blk.new z5 cs5 53 z5.heap.size rfl
             obtain ⟨g5,hg9⟩:∃ g,g=z5.heap.size:=⟨_,rfl⟩
             rw [← hg9] at B5 ⊢
             clear hg9 hb
             generalize (z5.alloc (.cells cs5.toArray 53))=zb at *
             exact k5 zb g5 cs5 g3 hHeld Bv R0 HR bel hs B5 HD5 HL5 HO5
           exact AllReadyH.nil
         exact AllReadyH.nil
       exact AllReadyH.nil
     refine AllReadyH.cons rfl (fun K hK=>?_) ?_
     ·have HS3:Hid (M≤wd1.heap.size):=hs
      rw [if_pos (by rfl)]
      refine wp_buildSlice 51 53 2 _ rfl (es++fs).toArray jt _ Tryz.underlying51 hjt ht0 (by rw [ht1];decide) (by rw [ht1];decide) (by rw [ht1];refine (congrArg _ (?_:_=[(0,Value.agg es.toArray),(1,Value.agg fs.toArray)])).trans (fill_10 HLe.out HLf.out);kernel_rfl) ?_
      refine hK.out _ _ ?_ (fun hHeld2=>?_)
      ·exact KI1.out _ ((KB1.out _ hHeld).alloc _)
      ·clear hK K
       try clear hHeld
       have hHeld:=hHeld2
       clear hHeld2
       have hb:=bal wd1 (.cells (es++fs).toArray 53)
       replace Bv:=Bv.later hb
       replace R0:=R0.later hb
       replace HR:=RwTL HR hb
       replace bel:=below_step bel hb
       replace hs:=hsl hs hb
       have HD3:Hid (Dep (fun b=>M≤b) (wd1.alloc (.cells (es++fs).toArray 53)) (gonT (ns,ta)) [.int .i64 0,.int .i64 16,.bool true,.slice none 0 0,.slice (some ⟨wd1.heap.size,0,none⟩) 2 2]):=by rw [HGx.out];exact list_dep (ks:=[T1,T2]) (by rw [List.length_append,HLe.out,HLf.out];rfl) HS3.out (by show 2≤maxLen;decide) (two_kids (P:=Dep (fun b=>M≤b) wd1) HDe.out HDf.out HLe.out HLf.out) 0 16 true
       obtain ⟨g3,hg9⟩:∃ g,g=wd1.heap.size:=⟨_,rfl⟩
       rw [← hg9] at HD3 ⊢
       clear hg9 HS3
       clear hb
       generalize (wd1.alloc (.cells (es++fs).toArray 53))=z4 at *
       refine wpAnyH_ready (rs:=[1,5]) (by kernel_rfl) (by simp) ?_
       refine AllReadyH.cons rfl (fun K hK=>?_) ?_
       ·have e4:=Bv.cell 4 _ rfl
        have l4:=Bv.lt
        go_simp
        refine hK.out _ _ ?_ (fun hHeld2=>?_)
        ·exact hHeld
        ·clear hK K
         try clear hHeld
         have hHeld:=hHeld2
         clear hHeld2
         clear e4 l4
         refine wpAnyH_ready (rs:=[5]) (by kernel_rfl) (by simp) ?_
         refine AllReadyH.cons rfl (fun K hK=>?_) ?_
         ·go_simp
          refine c18_listL.mono ?_
          rintro e z5 ⟨cs5,rfl,hc5,hb⟩
          refine hK.out _ _ ?_ (fun hHeld2=>?_)
          ·exact KI1.out _ ((KB1.out _ hHeld).later hb)
          ·clear hK K
           try clear hHeld
           have hHeld:=hHeld2
           clear hHeld2
           replace Bv:=Bv.later hb
           replace R0:=R0.later hb
           replace HR:=RwTL HR hb
           replace bel:=below_step bel hb
           replace hs:=hsl hs hb
           have HD5:Hid (Dep (fun b=>M≤b) z5 (gonT (ns,ta)) cs5):=by rw [hc5.out];exact HD3.out.next (Agr.below hb) (fun _ h _=>h)
           have HL5:Hid (cs5.length=5):=by rw [hc5.out];rfl
           have HO5:Hid (OneC cs5):=HD5.out.now.ones
           clear hc5 HD3
           clear hb
           refine wpAnyH_ready (rs:=[6]) (by kernel_rfl) (by simp) ?_
           refine AllReadyH.cons rfl (fun K hK=>?_) ?_
           ·rw [if_pos (by rfl)]
            refine wp_buildSlice 51 53 1 _ rfl cs5.toArray jt _ Tryz.underlying51 hjt ht0 (by rw [ht1];decide) (by rw [ht1];decide) (by rw [ht1];refine (congrArg _ (?_:_=[(0,Value.agg cs5.toArray)])).trans (fill_5 HL5.out);kernel_rfl) ?_
            refine hK.out _ _ ?_ (fun hHeld2=>?_)
            ·exact KI1.out _ ((KB1.out _ hHeld).alloc _)
            ·clear hK K
             try clear hHeld
             have hHeld:=hHeld2
             clear hHeld2
             have hb:=bal z5 (.cells cs5.toArray 53)
             replace Bv:=Bv.later hb
             replace R0:=R0.later hb
             replace HR:=RwTL HR hb
             replace bel:=below_step bel hb
             replace hs:=hsl hs hb
             replace HD5:=dpl HD5 hb
             have B5:=Blk.new z5 cs5 53 z5.heap.size rfl
             obtain ⟨g5,hg9⟩:∃ g,g=z5.heap.size:=⟨_,rfl⟩
             rw [← hg9] at B5 ⊢
             clear hg9 hb
             generalize (z5.alloc (.cells cs5.toArray 53))=zb at *
             exact k5 zb g5 cs5 g3 hHeld Bv R0 HR bel hs B5 HD5 HL5 HO5
           exact AllReadyH.nil
         exact AllReadyH.nil
       refine AllReadyH.cons rfl (fun K hK=>?_) ?_
       ·go_simp
        refine c18_listL.mono ?_
        rintro e z5 ⟨cs5,rfl,hc5,hb⟩
        refine hK.out _ _ ?_ (fun hHeld2=>?_)
        ·exact KI1.out _ ((KB1.out _ hHeld).later hb)
        ·clear hK K
         try clear hHeld
         have hHeld:=hHeld2
         clear hHeld2
         replace Bv:=Bv.later hb
         replace R0:=R0.later hb
         replace HR:=RwTL HR hb
         replace bel:=below_step bel hb
         replace hs:=hsl hs hb
         have HD5:Hid (Dep (fun b=>M≤b) z5 (gonT (ns,ta)) cs5):=by rw [hc5.out];exact HD3.out.next (Agr.below hb) (fun _ h _=>h)
         have HL5:Hid (cs5.length=5):=by rw [hc5.out];rfl
         have HO5:Hid (OneC cs5):=HD5.out.now.ones
         clear hc5 HD3
         clear hb
         refine wpAnyH_ready (rs:=[1,6]) (by kernel_rfl) (by simp) ?_
         refine AllReadyH.cons rfl (fun K hK=>?_) ?_
         ·have e4:=Bv.cell 4 _ rfl
          have l4:=Bv.lt
          go_simp
          refine hK.out _ _ ?_ (fun hHeld2=>?_)
          ·exact hHeld
          ·clear hK K
           try clear hHeld
           have hHeld:=hHeld2
           clear hHeld2
           clear e4 l4
           refine wpAnyH_ready (rs:=[6]) (by kernel_rfl) (by simp) ?_
           refine AllReadyH.cons rfl (fun K hK=>?_) ?_
           ·rw [if_pos (by rfl)]
            refine wp_buildSlice 51 53 1 _ rfl cs5.toArray jt _ Tryz.underlying51 hjt ht0 (by rw [ht1];decide) (by rw [ht1];decide) (by rw [ht1];refine (congrArg _ (?_:_=[(0,Value.agg cs5.toArray)])).trans (fill_5 HL5.out);kernel_rfl) ?_
            refine hK.out _ _ ?_ (fun hHeld2=>?_)
            ·exact KI1.out _ ((KB1.out _ hHeld).alloc _)
            ·clear hK K
             try clear hHeld
             have hHeld:=hHeld2
             clear hHeld2
             have hb:=bal z5 (.cells cs5.toArray 53)
             replace Bv:=Bv.later hb
             replace R0:=R0.later hb
             replace HR:=RwTL HR hb
             replace bel:=below_step bel hb
             replace hs:=hsl hs hb
             replace HD5:=dpl HD5 hb
             have B5:=Blk.new z5 cs5 53 z5.heap.size rfl
             obtain ⟨g5,hg9⟩:∃ g,g=z5.heap.size:=⟨_,rfl⟩
             rw [← hg9] at B5 ⊢
             clear hg9 hb
             generalize (z5.alloc (.cells cs5.toArray 53))=zb at *
             exact k5 zb g5 cs5 g3 hHeld Bv R0 HR bel hs B5 HD5 HL5 HO5
           exact AllReadyH.nil
         refine AllReadyH.cons rfl (fun K hK=>?_) ?_
         ·rw [if_pos (by rfl)]
          refine wp_buildSlice 51 53 1 _ rfl cs5.toArray jt _ Tryz.underlying51 hjt ht0 (by rw [ht1];decide) (by rw [ht1];decide) (by rw [ht1];refine (congrArg _ (?_:_=[(0,Value.agg cs5.toArray)])).trans (fill_5 HL5.out);kernel_rfl) ?_
          refine hK.out _ _ ?_ (fun hHeld2=>?_)
          ·exact KI1.out _ ((KB1.out _ hHeld).alloc _)
          ·clear hK K
           try clear hHeld
           have hHeld:=hHeld2
           clear hHeld2
           have hb:=bal z5 (.cells cs5.toArray 53)
           replace Bv:=Bv.later hb
           replace R0:=R0.later hb
           replace HR:=RwTL HR hb
           replace bel:=below_step bel hb
           replace hs:=hsl hs hb
           replace HD5:=dpl HD5 hb
           have B5:=Blk.new z5 cs5 53 z5.heap.size rfl
           obtain ⟨g5,hg9⟩:∃ g,g=z5.heap.size:=⟨_,rfl⟩
           rw [← hg9] at B5 ⊢
           clear hg9 hb
           generalize (z5.alloc (.cells cs5.toArray 53))=zb at *
           refine wpAnyH_ready (rs:=[1]) (by kernel_rfl) (by simp) ?_
           refine AllReadyH.cons rfl (fun K hK=>?_) ?_
           ·have e4:=Bv.cell 4 _ rfl
            have l4:=Bv.lt
            go_simp
            refine hK.out _ _ ?_ (fun hHeld2=>?_)
            ·exact hHeld
            ·clear hK K
             try clear hHeld
             have hHeld:=hHeld2
             clear hHeld2
             clear e4 l4
             exact k5 zb g5 cs5 g3 hHeld Bv R0 HR bel hs B5 HD5 HL5 HO5
           exact AllReadyH.nil
         exact AllReadyH.nil
       exact AllReadyH.nil
     exact AllReadyH.nil
    case kp =>
     intro wz g5 cs5 g3 hHeld Bv R0 HR bel hs B5 HD5 HL5 HO5
     refine wpAnyH_ready (rs:=[7]) (by kernel_rfl) (by simp) ?_
     refine AllReadyH.cons rfl (fun K hK=>?_) ?_
     ·have HM9:Hid (∀ b,(Value.slice ka i kc).ownBlock=some b→b < M):=HM
      rw [if_pos (show Region.wanted _ _=true from rfl)]
      refine wp_of_list (ops:=#[]) rfl ?_
      refine wpList_append_tlv (by rfl) _ _ (by rfl) N1 (Value.slice ka i kc) (((L.take i).map gonT)) (by rfl) HR.out g5 (by rfl) cs5 B5 HL5.out HO5.out (gonT (ns,ta)) (HD5.out.next (Agr.refl _ _) (fun b h9 _=>⟨by omega,fun e9=>by have:=HM9.out b e9;omega⟩)) (by rw [HLi.out];omega) (by omega) ?_
      intro kv9 w9 hr9 hgrow9 hge9 hat9
      obtain ⟨ka9,kc9,hkv9⟩:=hr9.sl
      obtain ⟨K9,hK9⟩:∃ z,(((L.take i).map gonT)++[gonT (ns,ta)]).length=z:=⟨_,rfl⟩
      have HK9:Hid ((((L.take i).map gonT)++[gonT (ns,ta)]).length=K9):=hK9
      rw [hK9] at hkv9
      subst hkv9
      clear hK9
      have hzb:=bel.size
      have hsz9:=hgrow9.size
      replace Bv:=Bv.grown hgrow9 (fun k hk e=>by have:=hge9 k hk;omega)
      replace R0:=R0.grown hgrow9 (fun k hk e=>by have:=hge9 k hk;omega)
      have HBE9:Hid (Two w9 ge es gf fs):=(KB1.out _ hHeld).grown hgrow9 (fun k hk e=>by have:=HM9.out k hk;omega)
      replace bel:=Below.grown bel hgrow9 hzb (fun k hk=>by have:=hge9 k hk;omega)
      replace HR:Hid (RwT w9 N1 (Value.slice ka9 K9 kc9) (((L.take i).map gonT)++[gonT (ns,ta)])):=hr9
      clear hgrow9 hge9 hat9 hr9 hzb
      refine ⟨rfl,?_⟩
      refine hK.out _ _ ?_ (fun hHeld2=>?_)
      ·exact KI1.out _ (HBE9.out)
      ·clear hK K
       try clear hHeld
       have hHeld:=hHeld2
       clear hHeld2
       clear B5 HD5
       refine wpAnyH_take (i:=8) (v:=?_) rfl (by kernel_rfl) (by kernel_rfl) (by kernel_rfl) (fun _ _ _ h=>h) (Or.inl ⟨by rfl,?_⟩) (by assumption) ?_
       rotate_left
       ·intro w hSw
        go_simp
        with_reducible rfl
       refine wpAnyH_ready (rs:=[9]) (by kernel_rfl) (by simp) ?_
       refine AllReadyH.cons rfl (fun K hK=>?_) ?_
       ·have e4:=Bv.cell 4 _ rfl
        have l4:=Bv.lt
        have f4:=Bv.frozen 4
        go_simp
        refine hK.out _ _ ?_ (fun hHeld2=>?_)
        ·exact KI1.out _ ((KB1.out _ hHeld).other _ _ (by show ¬ (_=gt∨_=gt);omega))
        ·clear hK K
         try clear hHeld
         have hHeld:=hHeld2
         clear hHeld2
         clear e4 l4 f4
         replace Bv:Blk (w9.setCell ⟨gt,4,none⟩ (Value.slice ka9 K9 kc9)) gt [.int .i64 0,.int .i64 16,.bool true,.slice none 0 0,Value.slice ka9 K9 kc9]:=Bv.set 4 _
         replace HR:Hid (RwT (w9.setCell ⟨gt,4,none⟩ (Value.slice ka9 K9 kc9)) N1 (Value.slice ka9 K9 kc9) (((L.take i).map gonT)++[gonT (ns,ta)])):=HR.out.cell (by omega)
         replace R0:=R0.other ⟨gt,4,none⟩ (Value.slice ka9 K9 kc9) (by show _≠gt;omega)
         replace bel:Below w.heap.size w (w9.setCell ⟨gt,4,none⟩ (Value.slice ka9 K9 kc9)):=bel.setCell (by show _≤gt;omega) _
         replace hsz9:M≤(w9.setCell ⟨gt,4,none⟩ (Value.slice ka9 K9 kc9)).heap.size:=Nat.le_trans (show M≤w9.heap.size by omega) ((Below.refl 0 w9).setCell (Nat.zero_le _) (Value.slice ka9 K9 kc9)).size
         generalize (w9.setCell ⟨gt,4,none⟩ (Value.slice ka9 K9 kc9))=w10 at *
         refine wpAnyH_done (by kernel_rfl) ?_ _
         refine NoPanic.normal ?_
         try clear hHeld
         have HNx:Hid (RwT w10 N1 (.slice ka9 K9 kc9) ((L.take (i + 1)).map gonT)):=by
          have h:=HR.out
          rw [← map_next (f:=gonT) HX.out] at h
          exact h
         obtain rfl:K9=i + 1:=by rw [← HK9.out,List.length_append,HLi.out];rfl
         have HAn:Hid (∀ g∈L.take (i + 1),∃ T,goneO g=some T):=take_mem HA.out HX.out ⟨_,goneO_yes HS1.out HS2.out⟩
         go_wp2_with fail
         go_roundw
         case rel=>exact ⟨i + 1,ka9,kc9,by omega,by go_num,Bv,HNx,HAn,R0,bel,by omega⟩
         case measure=>simp [intOf];omega
       exact AllReadyH.nil
     exact AllReadyH.nil
end Go.Proofs.YtohcdbifhnfcbaaGreatDoor
