/- Lists and plain elements: what manifest answers. element: what the program answers. -/
import Derived.Test.YtnkipgbnnhahbaaClOpt
import Derived.Test.YtnkipgbnnhahbaaCtBase
import Derived.Test.YtnkipgbnnhahbaaRwT
import Derived.Test.YtnkipgbnnhahbaaApBs
import Derived.Test.YtnkipgbnnhahbaaDrDep
import Derived.Test.YtnkipgbnnhahbaaMfSpec
import Derived.Test.YtnkipgbnnhahbaaRwS
import Derived.Test.YtnkipgbnnhahbaaPrSmallOf
import Derived.Test.YtnkipgbnnhahbaaMfFits
import Derived.Test.YtnkipgbnnhahbaaRows
import Derived.ChangeArms
import Derived.ChangeOld
import Derived.Lib.ConvBytes
import Derived.Laws.AppendOwn
import Derived.Deep.WholeRow
import Derived.Deep.RegionHeld3
import Derived.Deep.DeepCutAuto
import Derived.Deep.DeepFit
import Derived.Deep.OwnRows
import Derived.Deep.AppendLies
import Derived.Great.BuildSlice
import Derived.Laws.Rows
import Derived.BigQuiet
namespace Go.Proofs.Ytnkipgbnnhahbaa
open Go.RowKit
set_option linter.unusedSimpArgs false in
set_option maxRecDepth 100000 in
set_option maxHeartbeats 400000 in
theorem c20_list {ka:Option Addr} {n kc:Nat} {w:World}:Calls Try.prog 19 #[.slice ka n kc] w fun e w'=>e=.returned (.agg #[.int .i64 0,.int .i64 16,.bool true,.slice none 0 0,.slice ka n kc])∧Below w.heap.size w w':=by
 have R0:=Blk.new w [.int .i64 0,.int .i64 0,.bool false,.slice none 0 0,.slice none 0 0] 42 w.heap.size rfl
 have bel:Below w.heap.size w (w.alloc (.cells #[.int .i64 0,.int .i64 0,.bool false,.slice none 0 0,.slice none 0 0] 42)):=(Below.refl _ _).alloc (Nat.le_refl _) _
 have hz:=zero_tlv.out
 go_enter Try.func19,Try.ntmps19
 go_upto_region 1 with fail
 have lW:=bel.size
 generalize w.alloc (.cells #[.int .i64 0,.int .i64 0,.bool false,.slice none 0 0,.slice none 0 0] 42)=W at *
 obtain ⟨tR,hR⟩:=R0
 have HR1:Hid _:=hR
 clear hR
 go_wp2_with (first|((with_reducible show wpList _ _ _ ({ dst:=_,op:=.store _ _ _,type:=_,pos:=_,after:=_,guard:=_ } :: _) _ _);refine wpList_store_row rfl 42 _ _ rfl w.heap.size #[.int .i64 0,.int .i64 16,.bool true,.slice none 0 0,.slice ka n kc] rfl rfl tR _ HR1.out (by rw [size_tlv];rfl) rfl (by simp [Value.oneCell']) ?_)|fail)
 refine bodyPost_ret (results_cell_row rfl _ _ w.heap.size tR #[.int .i64 0,.int .i64 16,.bool true,.slice none 0 0,.slice ka n kc] (0,0) _ rfl (setRow_heap _ _ _ _ _ _ HR1.out) Try.underlying42 rfl (by rw [size_tlv];rfl)) rfl ?_
 exact ⟨rfl,below_setRow bel (by omega) _⟩
set_option linter.unusedSimpArgs false in
set_option maxRecDepth 100000 in
set_option maxHeartbeats 400000 in
theorem c20_plain {t:Int} {ka:Option Addr} {n kc:Nat} {w:World}:Calls Try.prog 21 #[.int .i64 t,.slice ka n kc] w fun e w'=>e=.returned (.agg #[.int .i64 0,.int .i64 t,.bool false,.slice ka n kc,.slice none 0 0])∧Below w.heap.size w w':=by
 have R0:=Blk.new w [.int .i64 0,.int .i64 0,.bool false,.slice none 0 0,.slice none 0 0] 42 w.heap.size rfl
 have bel:Below w.heap.size w (w.alloc (.cells #[.int .i64 0,.int .i64 0,.bool false,.slice none 0 0,.slice none 0 0] 42)):=(Below.refl _ _).alloc (Nat.le_refl _) _
 have hz:=zero_tlv.out
 go_enter Try.func21,Try.ntmps21
 go_upto_region 1 with fail
 have lW:=bel.size
 generalize w.alloc (.cells #[.int .i64 0,.int .i64 0,.bool false,.slice none 0 0,.slice none 0 0] 42)=W at *
 obtain ⟨tR,hR⟩:=R0
 have HR1:Hid _:=hR
 clear hR
 go_wp2_with (first|((with_reducible show wpList _ _ _ ({ dst:=_,op:=.store _ _ _,type:=_,pos:=_,after:=_,guard:=_ } :: _) _ _);refine wpList_store_row rfl 42 _ _ rfl w.heap.size #[.int .i64 0,.int .i64 t,.bool false,.slice ka n kc,.slice none 0 0] rfl rfl tR _ HR1.out (by rw [size_tlv];rfl) rfl (by simp [Value.oneCell']) ?_)|fail)
 refine bodyPost_ret (results_cell_row rfl _ _ w.heap.size tR #[.int .i64 0,.int .i64 t,.bool false,.slice ka n kc,.slice none 0 0] (0,0) _ rfl (setRow_heap _ _ _ _ _ _ HR1.out) Try.underlying42 rfl (by rw [size_tlv];rfl)) rfl ?_
 exact ⟨rfl,below_setRow bel (by omega) _⟩
theorem RwS.nil0 {S:Nat→Prop} (w:World):RwS S w (.slice none 0 0) []:=⟨[],⟨rfl,.inl ⟨rfl,rfl⟩⟩,fun i t h=>by simp at h⟩
theorem bs_ltM {w:World} {v:Value} {b:List Int} (h:Bs w v b):∀ a m c,v=.slice (some a) m c→0 < m→a.block < w.heap.size:=fun a m c e hm=>by
 obtain ⟨ao,cap,rfl,-,-,h3⟩:=h
 simp only [Value.slice.injEq] at e
 obtain ⟨rfl,rfl,rfl⟩:=e
 obtain ⟨b',o,e2,hl,-⟩:=h3 hm
 simp only [Option.some.injEq] at e2
 subst e2
 exact hl
/-- plain, of bytes that lie anew, or of old -/
theorem c20_plainM {t:Int} {v:Value} {b:List Int} {L N:Nat} {w:World} (h:Bs w v b) (hn:∀ a m c,v=.slice (some a) m c→0 < m→a.block < L∨N≤a.block):Calls Try.prog 21 #[.int .i64 t,v] w fun e w'=>∃ cs:List Value,e=.returned (.agg cs.toArray)∧Dep (fun g=>g < L∨N≤g) w' (.mk 0 t false b []) cs∧Below w.heap.size w w':=by
 have h9:=h
 obtain ⟨ao,cap,rfl,-,-,-⟩:=h
 exact c20_plain.mono (fun _ _ ⟨e,hb⟩=>⟨_,e,(leaf_S h9 hn 0 t false).next (Agr.below hb) (fun _ h _=>h),hb⟩)
/-- what element tells -/
def EltR (w:World) (m:Mf) (e:Ending) (w':World):Prop:=Below w.heap.size w w'∧(¬ MayM m→∃ c:Int,e=.returned (.tuple #[.agg #[.int .i64 0,.int .i64 0,.bool false,.slice none 0 0,.slice none 0 0],.iface 38 (.int .i64 c)]))∧(MayM m→∃ cs:List Value,e=.returned (.tuple #[.agg cs.toArray,.nilIface])∧TlAt w' (mfT m) cs)
theorem EltR.bad {w w':World} {m:Mf} {c:Int} (h:¬ MayM m) (hb:Below w.heap.size w w'):EltR w m (.returned (.tuple #[.agg #[.int .i64 0,.int .i64 0,.bool false,.slice none 0 0,.slice none 0 0],.iface 38 (.int .i64 c)])) w':=⟨hb,fun _=>⟨c,rfl⟩,fun k=>absurd k h⟩
theorem EltR.ok {w w':World} {m:Mf} {cs:List Value} (h:MayM m) (hv:TlAt w' (mfT m) cs) (hb:Below w.heap.size w w'):EltR w m (.returned (.tuple #[.agg cs.toArray,.nilIface])) w':=⟨hb,fun k=>absurd h k,fun _=>⟨cs,rfl,hv⟩⟩
/-- a manifest's numbers, and its elements -/
def numsM (m:Mf):List Int:=[m.ver,m.cls,m.ld,m.ln]
noncomputable def kidsM (m:Mf):List Tl:=[orT (smlT m.ver),orT (smlT m.cls),orT (smlT m.ld),orT (smlT m.ln),bytT m.nonce,bytT m.wrapped,bytT m.digest]
def bssM (m:Mf):List (List Int):=[m.nonce,m.wrapped,m.digest]
theorem may_num {m:Mf} {i:Nat} {x:Int} (h:MayM m) (hx:(numsM m)[i]?=some x):∃ T,smlT x=some T:=by
 obtain ⟨h0,h1,h2,h3,-⟩:=h
 unfold numsM at hx
 match i,hx with
 | 0,hx=>cases hx;exact h0
 | 1,hx=>cases hx;exact h1
 | 2,hx=>cases hx;exact h2
 | 3,hx=>cases hx;exact h3
 | n + 4,hx=>simp at hx
theorem may_all {m:Mf} (h:∀ j x,j < 4→(numsM m)[j]?=some x→∃ T,smlT x=some T) (k:lensM m):MayM m:=⟨h 0 _ (by omega) rfl,h 1 _ (by omega) rfl,h 2 _ (by omega) rfl,h 3 _ (by omega) rfl,k⟩
theorem nums_wf {m:Mf} {i:Nat} {x:Int} (h:i64B m.ver∧i64B m.cls∧i64B m.ld∧i64B m.ln) (hx:(numsM m)[i]?=some x):i64B x:=by
 unfold numsM at hx
 match i,hx with
 | 0,hx=>cases hx;exact h.1
 | 1,hx=>cases hx;exact h.2.1
 | 2,hx=>cases hx;exact h.2.2.1
 | 3,hx=>cases hx;exact h.2.2.2
 | n + 4,hx=>simp at hx
theorem kidsM_num {m:Mf} {i:Nat} {x:Int} (hx:(numsM m)[i]?=some x):(kidsM m)[i]?=some (orT (smlT x)):=by
 unfold numsM at hx
 unfold kidsM
 match i,hx with
 | 0,hx=>cases hx;rfl
 | 1,hx=>cases hx;rfl
 | 2,hx=>cases hx;rfl
 | 3,hx=>cases hx;rfl
 | n + 4,hx=>simp at hx
theorem kidsM_bs {m:Mf} {i:Nat} {b:List Int} (hx:(bssM m)[i]?=some b):(kidsM m)[4 + i]?=some (bytT b):=by
 unfold bssM at hx
 unfold kidsM
 match i,hx with
 | 0,hx=>cases hx;rfl
 | 1,hx=>cases hx;rfl
 | 2,hx=>cases hx;rfl
 | n + 3,hx=>simp at hx
theorem take_nextM {L:List Tl} {i:Nat} {x:Tl} (h:L[i]?=some x):L.take i++[x]=L.take (i + 1):=by
 rw [List.take_add_one,h]
 rfl
theorem size_mfE:(Try.prog.info? 24).map (·.size)=some 7:=by kernel_rfl
theorem with_keyL {T G:Prop} (main:T→G) (kp:T):G:=main kp
set_option linter.unusedSimpArgs false in
set_option maxRecDepth 100000 in
set_option maxHeartbeats 4000000 in
theorem c20_element {m:Mf} {cs:List Value} {w:World} (h:MfAt w m cs) (wf:WfM m):Calls Try.prog 12 #[.agg cs.toArray] w (EltR w m):=by
 have HWf:Hid (i64B m.ver∧i64B m.cls∧i64B m.ld∧i64B m.ln):=wf.1
 obtain ⟨na,nc,wa,wc,da,dc,⟨q0,q1,q2,q3⟩,⟨q4,q5,q6⟩,hN,hW,hD⟩:=h.open
 obtain ⟨NL,hNL⟩:∃ z,m.nonce.length=z:=⟨_,rfl⟩
 obtain ⟨WL,hWL⟩:∃ z,m.wrapped.length=z:=⟨_,rfl⟩
 obtain ⟨DL,hDL⟩:∃ z,m.digest.length=z:=⟨_,rfl⟩
 have HLn:Hid (m.nonce.length=NL∧m.wrapped.length=WL∧m.digest.length=DL):=⟨hNL,hWL,hDL⟩
 rw [hNL] at q4 hN
 rw [hWL] at q5 hW
 rw [hDL] at q6 hD
 have HBs:Hid (Bs w (.slice na NL nc) m.nonce∧Bs w (.slice wa WL wc) m.wrapped∧Bs w (.slice da DL dc) m.digest):=⟨hN,hW,hD⟩
 obtain ⟨ver,hver⟩:∃ z,m.ver=z:=⟨_,rfl⟩
 obtain ⟨cls,hcls⟩:∃ z,m.cls=z:=⟨_,rfl⟩
 obtain ⟨ldn,hldn⟩:∃ z,m.ld=z:=⟨_,rfl⟩
 obtain ⟨lnn,hlnn⟩:∃ z,m.ln=z:=⟨_,rfl⟩
 have HNs:Hid (numsM m=[ver,cls,ldn,lnn]):=by show _=_;unfold numsM;rw [hver,hcls,hldn,hlnn]
 have HWn:Hid (∀ i x,(numsM m)[i]?=some x→i64B x):=fun i x hx=>nums_wf HWf.out hx
 rw [hver] at q0
 rw [hcls] at q1
 rw [hldn] at q2
 rw [hlnn] at q3
 have HQ:Hid ((cs[0]?=some (.int .i64 ver)∧cs[1]?=some (.int .i64 cls)∧cs[2]?=some (.int .i64 ldn)∧cs[3]?=some (.int .i64 lnn))∧cs[4]?=some (.slice na NL nc)∧cs[5]?=some (.slice wa WL wc)∧cs[6]?=some (.slice da DL dc)):=⟨⟨q0,q1,q2,q3⟩,q4,q5,q6⟩
 clear hN hW hD hNL hWL hDL q0 q1 q2 q3 q4 q5 q6 hver hcls hldn hlnn wf h
 have B0:=(Blk.new w cs 24 w.heap.size rfl).alloc (.cells #[.int .i64 0,.int .i64 0,.bool false,.slice none 0 0,.slice none 0 0] 42)
 have R0:=Blk.new (w.alloc (.cells cs.toArray 24)) [.int .i64 0,.int .i64 0,.bool false,.slice none 0 0,.slice none 0 0] 42 (w.heap.size + 1) (by simp)
 have bel:Below w.heap.size w ((w.alloc (.cells cs.toArray 24)).alloc (.cells #[.int .i64 0,.int .i64 0,.bool false,.slice none 0 0,.slice none 0 0] 42)):=((Below.refl _ _).alloc (Nat.le_refl _) _).alloc (by simp) _
 have hz:=zero_tlv.out
 go_enter Try.func12,Try.ntmps12
 go_upto_region 1 with fail
 clear hz
 generalize ((w.alloc (.cells cs.toArray 24)).alloc (.cells #[.int .i64 0,.int .i64 0,.bool false,.slice none 0 0,.slice none 0 0] 42))=W at *
 obtain ⟨jt,hjt,ht0,ht1,ht2⟩:=info_partsD info_tlv

 go_wp2_with fail
 refine c20_list.mono ?_
 rintro e w1 ⟨rfl,hb⟩
 replace B0:=B0.later hb
 replace R0:=R0.later hb
 replace bel:=below_step bel hb
 clear hb
 have lt1:w.heap.size + 1 < w1.heap.size:=R0.lt
 have hz:=zero_tlv.out
 have Bv:=Blk.new w1 [.int .i64 0,.int .i64 16,.bool true,.slice none 0 0,.slice none 0 0] 42 w1.heap.size rfl
 replace B0:=B0.alloc (.cells #[.int .i64 0,.int .i64 16,.bool true,.slice none 0 0,.slice none 0 0] 42)
 replace R0:=R0.alloc (.cells #[.int .i64 0,.int .i64 16,.bool true,.slice none 0 0,.slice none 0 0] 42)
 replace bel:=below_alloc (o:=.cells #[.int .i64 0,.int .i64 16,.bool true,.slice none 0 0,.slice none 0 0] 42) bel
 go_upto_region 2 with (first|((with_reducible show wpList _ _ _ ({ dst:=_,op:=.store _ _ _,type:=_,pos:=_,after:=_,guard:=_ } :: _) _ _);refine wpList_store_row rfl 42 _ _ rfl w1.heap.size #[.int .i64 0,.int .i64 16,.bool true,.slice none 0 0,.slice none 0 0] rfl rfl 42 _ (heap_alloc_last _ _) (by rw [size_tlv];rfl) rfl (by simp [Value.oneCell']) ?_;rw [World.setRow_alloc_new])|fail)
 clear hz
 obtain ⟨gt,hgt⟩:∃ g,g=w1.heap.size:=⟨_,rfl⟩
 rw [← hgt] at Bv lt1 ⊢
 have ltv:gt < (w1.alloc (.cells #[.int .i64 0,.int .i64 16,.bool true,.slice none 0 0,.slice none 0 0] 42)).heap.size:=Bv.lt
 generalize w1.alloc (.cells #[.int .i64 0,.int .i64 16,.bool true,.slice none 0 0,.slice none 0 0] 42)=V1 at *
 clear hgt
 have e0:=B0.cell 0 _ HQ.out.1.1
 have e1:=B0.cell 1 _ HQ.out.1.2.1
 have e2:=B0.cell 2 _ HQ.out.1.2.2.1
 have e3:=B0.cell 3 _ HQ.out.1.2.2.2
 have l0:=B0.lt
 have Bl:=Blk.new V1 [.int .i64 ver,.int .i64 cls,.int .i64 ldn,.int .i64 lnn] 3 V1.heap.size rfl
 replace B0:=B0.alloc (.cells #[.int .i64 ver,.int .i64 cls,.int .i64 ldn,.int .i64 lnn] 3)
 replace R0:=R0.alloc (.cells #[.int .i64 ver,.int .i64 cls,.int .i64 ldn,.int .i64 lnn] 3)
 replace Bv:=Bv.alloc (.cells #[.int .i64 ver,.int .i64 cls,.int .i64 ldn,.int .i64 lnn] 3)
 replace bel:=below_alloc (o:=.cells #[.int .i64 ver,.int .i64 cls,.int .i64 ldn,.int .i64 lnn] 3) bel
 go_wp2_with fail
 clear e0 e1 e2 e3 l0
 obtain ⟨gl,hgl⟩:∃ g,g=V1.heap.size:=⟨_,rfl⟩
 rw [← hgl] at Bl ltv ⊢
 have lt3:gl < (V1.alloc (.cells #[.int .i64 ver,.int .i64 cls,.int .i64 ldn,.int .i64 lnn] 3)).heap.size:=Bl.lt
 generalize V1.alloc (.cells #[.int .i64 ver,.int .i64 cls,.int .i64 ldn,.int .i64 lnn] 3)=V2 at *
 clear hgl
 obtain ⟨N1,hN1⟩:∃ n,n=V2.heap.size:=⟨_,rfl⟩
 rw [← hN1] at lt3
 have hs1:N1≤V2.heap.size:=by omega
 clear hN1
 have HLt:Hid (w.heap.size + 1 < gt∧gt < gl∧gl < N1):=⟨lt1,ltv,lt3⟩
 clear lt1 ltv lt3
 go_loopw [22] (fun iv wx=>∃ (i:Nat) (ka:Option Addr) (kc:Nat),i≤4∧iv=.int .i64 (i:Int)∧Blk wx gt [.int .i64 0,.int .i64 16,.bool true,.slice none 0 0,Value.slice ka i kc]∧Hid (RwS (fun b=>b≠gt∧b≠w.heap.size + 1) wx (.slice ka i kc) ((kidsM m).take i))∧Hid (∀ g,(Value.slice ka i kc).ownBlock=some g→N1≤g∧g≠gl)∧Hid (∀ j x,j < i→(numsM m)[j]?=some x→∃ T,smlT x=some T)∧Blk wx gl [.int .i64 ver,.int .i64 cls,.int .i64 ldn,.int .i64 lnn]∧Blk wx w.heap.size cs∧Blk wx (w.heap.size + 1) [.int .i64 0,.int .i64 0,.bool false,.slice none 0 0,.slice none 0 0]∧Below w.heap.size w wx∧N1≤wx.heap.size) (fun iv _=>4 - (intOf iv).toNat)
 case atStart=>exact ⟨0,none,0,by omega,rfl,Bv,by rw [List.take_zero];exact RwS.nil0 _,fun g hg=>by simp [Value.ownBlock] at hg,fun j x hj=>absurd hj (by omega),Bl,B0,R0,bel,hs1⟩
 case round =>
  clear Bv Bl B0 R0 bel hs1
  obtain ⟨i,ka,kc,hi,rfl,Bv,HR,HOw,HA,Bl,B0,R0,bel,hs1⟩:=hrel
  have HLi:Hid (((kidsM m).take i).length=i):=by show _=_;rw [List.length_take];unfold kidsM;simp;omega
  by_cases hil:i < 4
  rotate_left
  ·obtain rfl:i=4:=by omega
   clear hil hi HLi Bl
   have g1:¬ ((4:Nat):Int) < 4:=by omega
   have e4:=B0.cell 4 _ HQ.out.2.1
   have e5:=B0.cell 5 _ HQ.out.2.2.1
   have e6:=B0.cell 6 _ HQ.out.2.2.2
   have l0:=B0.lt
   by_cases k0:NL=12
   rotate_left
   ·have H:Hid (¬ MayM m):=fun h=>k0 (by rw [← HLn.out.1];exact h.2.2.2.2.1)
    have d1:((NL:Int) == 12)=false:=by rw [beq_eq_false_iff_ne];omega
    have d2:((NL:Int) != 12)=true:=by rw [bne,d1];rfl
    clear k0 HR HOw HA
    have hz:=zero_tlv.out
    obtain ⟨tR,hR⟩:=R0
    have HR1:Hid _:=hR
    clear hR
    go_wp2_with (first|((with_reducible show wpList _ _ _ ({ dst:=_,op:=.store _ _ _,type:=_,pos:=_,after:=_,guard:=_ } :: _) _ _);refine wpList_store_row rfl 42 _ _ rfl (w.heap.size + 1) #[.int .i64 0,.int .i64 0,.bool false,.slice none 0 0,.slice none 0 0] rfl rfl tR _ HR1.out (by rw [size_tlv];rfl) rfl (by simp [Value.oneCell']) ?_)|fail)
    refine bodyPost_ret (results_row_tmp rfl _ _ (w.heap.size + 1) tR #[.int .i64 0,.int .i64 0,.bool false,.slice none 0 0,.slice none 0 0] (0,0) _ rfl (setRow_heap _ _ _ _ _ _ HR1.out) Try.underlying42 rfl (by rw [size_tlv];rfl)) rfl ?_
    exact EltR.bad H.out (below_setRow bel (by omega) _)
   have d3:((NL:Int) != 12)=false:=by rw [k0];rfl
   by_cases k1:WL=145
   rotate_left
   ·have H:Hid (¬ MayM m):=fun h=>k1 (by rw [← HLn.out.2.1];exact h.2.2.2.2.2.1)
    have d1:((WL:Int) == 145)=false:=by rw [beq_eq_false_iff_ne];omega
    have d2:((WL:Int) != 145)=true:=by rw [bne,d1];rfl
    clear k1 HR HOw HA
    have hz:=zero_tlv.out
    obtain ⟨tR,hR⟩:=R0
    have HR1:Hid _:=hR
    clear hR
    go_wp2_with (first|((with_reducible show wpList _ _ _ ({ dst:=_,op:=.store _ _ _,type:=_,pos:=_,after:=_,guard:=_ } :: _) _ _);refine wpList_store_row rfl 42 _ _ rfl (w.heap.size + 1) #[.int .i64 0,.int .i64 0,.bool false,.slice none 0 0,.slice none 0 0] rfl rfl tR _ HR1.out (by rw [size_tlv];rfl) rfl (by simp [Value.oneCell']) ?_)|fail)
    refine bodyPost_ret (results_row_tmp rfl _ _ (w.heap.size + 1) tR #[.int .i64 0,.int .i64 0,.bool false,.slice none 0 0,.slice none 0 0] (0,0) _ rfl (setRow_heap _ _ _ _ _ _ HR1.out) Try.underlying42 rfl (by rw [size_tlv];rfl)) rfl ?_
    exact EltR.bad H.out (below_setRow bel (by omega) _)
   have d4:((WL:Int) != 145)=false:=by rw [k1];rfl
   by_cases k2:DL=48
   rotate_left
   ·have H:Hid (¬ MayM m):=fun h=>k2 (by rw [← HLn.out.2.2];exact h.2.2.2.2.2.2)
    have d1:((DL:Int) == 48)=false:=by rw [beq_eq_false_iff_ne];omega
    have d2:((DL:Int) != 48)=true:=by rw [bne,d1];rfl
    clear k2 HR HOw HA
    have hz:=zero_tlv.out
    obtain ⟨tR,hR⟩:=R0
    have HR1:Hid _:=hR
    clear hR
    go_wp2_with (first|((with_reducible show wpList _ _ _ ({ dst:=_,op:=.store _ _ _,type:=_,pos:=_,after:=_,guard:=_ } :: _) _ _);refine wpList_store_row rfl 42 _ _ rfl (w.heap.size + 1) #[.int .i64 0,.int .i64 0,.bool false,.slice none 0 0,.slice none 0 0] rfl rfl tR _ HR1.out (by rw [size_tlv];rfl) rfl (by simp [Value.oneCell']) ?_)|fail)
    refine bodyPost_ret (results_row_tmp rfl _ _ (w.heap.size + 1) tR #[.int .i64 0,.int .i64 0,.bool false,.slice none 0 0,.slice none 0 0] (0,0) _ rfl (setRow_heap _ _ _ _ _ _ HR1.out) Try.underlying42 rfl (by rw [size_tlv];rfl)) rfl ?_
    exact EltR.bad H.out (below_setRow bel (by omega) _)
   have d5:((DL:Int) != 48)=false:=by rw [k2];rfl
   have HLs:Hid (lensM m):=⟨by rw [HLn.out.1];exact k0,by rw [HLn.out.2.1];exact k1,by rw [HLn.out.2.2];exact k2⟩
   clear k0 k1 k2
   have H:Hid (MayM m):=may_all HA.out HLs.out
   clear HA
   go_upto_region 12 with fail
   clear g1 d3 d4 d5
   have Bl:=Blk.new wr [.slice na NL nc,.slice wa WL wc,.slice da DL dc] 22 wr.heap.size rfl
   have HOz:Hid (∀ g,(Value.slice ka 4 kc).ownBlock=some g→N1≤g∧g≠wr.heap.size):=fun g hg=>⟨(HOw.out g hg).1,by have:=HR.out.lt hg;omega⟩
   have hba:Below wr.heap.size wr (wr.alloc (.cells #[.slice na NL nc,.slice wa WL wc,.slice da DL dc] 22)):=(Below.refl _ _).alloc (Nat.le_refl _) _
   replace B0:=B0.later hba
   replace R0:=R0.later hba
   replace Bv:=Bv.later hba
   replace HR:Hid (RwS (fun b=>b≠gt∧b≠w.heap.size + 1) (wr.alloc (.cells #[.slice na NL nc,.slice wa WL wc,.slice da DL dc] 22)) (.slice ka 4 kc) ((kidsM m).take 4)):=HR.out.later hba
   replace bel:=below_step bel hba
   have hs2:N1≤(wr.alloc (.cells #[.slice na NL nc,.slice wa WL wc,.slice da DL dc] 22)).heap.size:=Nat.le_trans hs1 hba.size
   clear hba
   go_wp2_with fail
   clear e4 e5 e6 l0
   obtain ⟨gz,hgz⟩:∃ g,g=wr.heap.size:=⟨_,rfl⟩
   rw [← hgz] at Bl hs1 HOz ⊢
   generalize wr.alloc (.cells #[.slice na NL nc,.slice wa WL wc,.slice da DL dc] 22)=V3 at *
   clear hgz
   go_loopw [69] (fun iv wx=>∃ (i:Nat) (ka:Option Addr) (kc:Nat),i≤3∧iv=.int .i64 (i:Int)∧Blk wx gt [.int .i64 0,.int .i64 16,.bool true,.slice none 0 0,Value.slice ka (4 + i) kc]∧Hid (RwS (fun b=>b≠gt∧b≠w.heap.size + 1) wx (.slice ka (4 + i) kc) ((kidsM m).take (4 + i)))∧Hid (∀ g,(Value.slice ka (4 + i) kc).ownBlock=some g→N1≤g∧g≠gz)∧Blk wx gz [.slice na NL nc,.slice wa WL wc,.slice da DL dc]∧Blk wx w.heap.size cs∧Blk wx (w.heap.size + 1) [.int .i64 0,.int .i64 0,.bool false,.slice none 0 0,.slice none 0 0]∧Below w.heap.size w wx∧N1≤wx.heap.size) (fun iv _=>3 - (intOf iv).toNat)
   case atStart=>exact ⟨0,ka,kc,by omega,rfl,Bv,HR,HOz,Bl,B0,R0,bel,hs2⟩
   case round =>
    clear Bv Bl B0 R0 bel hs2 HR HOw HOz
    obtain ⟨i,ka,kc,hi,rfl,Bv,HR,HOw,Bl,B0,R0,bel,hs2⟩:=hrel
    have HLi:Hid (((kidsM m).take (4 + i)).length=4 + i):=by show _=_;rw [List.length_take];unfold kidsM;simp;omega
    by_cases hil:i < 3
    rotate_left
    ·obtain rfl:i=3:=by omega
     clear hil hi HLi Bl B0
     have g1:¬ ((3:Nat):Int) < 3:=by omega
     have HD:Hid (Dep (fun b=>b≠w.heap.size + 1) wr (mfT m) [.int .i64 0,.int .i64 16,.bool true,.slice none 0 0,.slice ka (4 + 3) kc]):=by
      have h:=HR.out.dep (S':=fun b=>b≠w.heap.size + 1) 0 16 true (fun b h=>h.2) (fun g hg=>by have:=(HOw.out g hg).1;have:=HLt.out;omega)
      exact h
     clear HR HOw
     have hld:(loadVar 42 ⟨gt,0,none⟩).run Try.prog wr=.ok (.agg #[.int .i64 0,.int .i64 16,.bool true,.slice none 0 0,.slice ka (4 + 3) kc]) wr:=Bv.load Try.underlying42 rfl size_tlv rfl
     have l0:=Bv.lt
     obtain ⟨tR,hR⟩:=R0
     have HR1:Hid _:=hR
     clear hR
     go_wp2_with (first|((with_reducible show wpList _ _ _ ({ dst:=_,op:=.load _ _,type:=_,pos:=_,after:=_,guard:=_ } :: _) _ _);refine wpList_load_run (by rfl) (by rfl) (by rfl) hld ?_)|((with_reducible show wpList _ _ _ ({ dst:=_,op:=.store _ _ _,type:=_,pos:=_,after:=_,guard:=_ } :: _) _ _);refine wpList_store_row rfl 42 _ _ rfl (w.heap.size + 1) #[.int .i64 0,.int .i64 16,.bool true,.slice none 0 0,.slice ka (4 + 3) kc] rfl rfl tR _ HR1.out (by rw [size_tlv];rfl) rfl (by simp [Value.oneCell']) ?_)|fail)
     refine bodyPost_ret (results_row_tmp rfl _ _ (w.heap.size + 1) tR #[.int .i64 0,.int .i64 16,.bool true,.slice none 0 0,.slice ka (4 + 3) kc] (0,0) _ rfl (setRow_heap _ _ _ _ _ _ HR1.out) Try.underlying42 rfl (by rw [size_tlv];rfl)) rfl ?_
     exact EltR.ok (cs:=[.int .i64 0,.int .i64 16,.bool true,.slice none 0 0,.slice ka (4 + 3) kc]) H.out (HD.out.next ((Agr.refl _ _).row (by simp)) (fun _ h _=>h)).now (below_setRow bel (by omega) _)
    obtain ⟨b,ya,YL,yc,hx,hyb,hyc⟩:∃ (b:List Int) (ya:Option Addr) (YL yc:Nat),(bssM m)[i]?=some b∧Bs w (.slice ya YL yc) b∧[.slice na NL nc,.slice wa WL wc,.slice da DL dc][i]?=some (Value.slice ya YL yc):=by
     match i,hil with
     | 0,_=>exact ⟨_,_,_,_,rfl,HBs.out.1,rfl⟩
     | 1,_=>exact ⟨_,_,_,_,rfl,HBs.out.2.1,rfl⟩
     | 2,_=>exact ⟨_,_,_,_,rfl,HBs.out.2.2,rfl⟩
    have HX:Hid ((bssM m)[i]?=some b):=hx
    have HYb:Hid (Bs w (.slice ya YL yc) b):=hyb
    have ei:=Bl.cell i _ hyc
    have li:=Bl.lt
    clear hx hyb hyc
    obtain ⟨M,hM⟩:∃ n,n=wr.heap.size:=⟨_,rfl⟩
    have HN2:Hid (∀ a m c,Value.slice ya YL yc=.slice (some a) m c→0 < m→a.block < w.heap.size∨M≤a.block):=fun a m c e h=>.inl (bs_ltM HYb.out a m c e h)
    have HM:Hid (∀ b,(Value.slice ka (4 + i) kc).ownBlock=some b→(N1≤b∧b≠gz)∧b < M):=fun b h9=>⟨HOw.out b h9,by rw [hM];exact HR.out.lt h9⟩
    have hs:M≤wr.heap.size:=by omega
    have hNM:N1≤M:=by omega
    clear hM HOw
    have g1:(i:Int) < 3:=by omega
    have g2:(0:Int)≤(i:Int):=by omega
    have gi:IntKind.i64.wrap ((i:Int) + 1)=(i:Int) + 1:=by rw [IntKind.wrap_i64];omega
    go_upto_region 15 with fail
    clear ei li
    obtain ⟨S1,hS1,KT1⟩:∃ S:World→Prop,Hd S wr∧Hid (∀ wx,Hd S wx):=⟨fun _=>True,trivial,fun _=>trivial⟩
    refine wp_region_noPanic ?_
    have hdr:Below wr.heap.size wr wr.drew:=Below.drew (Below.refl _ _)
    replace Bv:=Bv.later hdr
    replace R0:=R0.later hdr
    replace Bl:=Bl.later hdr
    replace B0:=B0.later hdr
    replace HR:Hid (RwS (fun b=>b≠gt∧b≠w.heap.size + 1) wr.drew (Value.slice ka (4 + i) kc) ((kidsM m).take (4 + i))):=HR.out.later hdr
    replace bel:=below_step bel hdr
    replace hs:M≤wr.drew.heap.size:=Nat.le_trans hs hdr.size
    clear hdr
    refine wp_region_held_drew (S:=Hd S1) (by kernel_rfl) (KT1.out _) (fun hHeld=>?_)
    clear hS1
    generalize World.drew _=wd1 at *
    refine wpAnyH_take (i:=0) (v:=?_) rfl (by kernel_rfl) (by kernel_rfl) (by kernel_rfl) (fun _ _ _ h=>h) (Or.inl ⟨by rfl,?_⟩) (by assumption) ?_
    rotate_left
    ·intro w hSw
     go_simp
     with_reducible rfl
    try simp only [Act.put,List.getElem_toArray,List.getElem_cons_zero,List.getElem_cons_succ,List.setIfInBounds_toArray,List.set_cons_zero,List.set_cons_succ]
    refine wpAnyH_take (i:=2) (v:=?_) rfl (by kernel_rfl) (by kernel_rfl) (by kernel_rfl) (fun _ _ _ h=>h) (Or.inl ⟨by rfl,?_⟩) (by assumption) ?_
    rotate_left
    ·intro w hSw
     go_simp
     with_reducible rfl
    try simp only [Act.put,List.getElem_toArray,List.getElem_cons_zero,List.getElem_cons_succ,List.setIfInBounds_toArray,List.set_cons_zero,List.set_cons_succ]
    apply with_keyL (T:=∀ (wz:World) (g5:Nat) (cs5:List Value),Hd S1 wz→Blk wz gt [.int .i64 0,.int .i64 16,.bool true,.slice none 0 0,Value.slice ka (4 + i) kc]→Blk wz (w.heap.size + 1) [.int .i64 0,.int .i64 0,.bool false,.slice none 0 0,.slice none 0 0]→Hid (RwS (fun b=>b≠gt∧b≠w.heap.size + 1) wz (Value.slice ka (4 + i) kc) (((kidsM m).take (4 + i))))→Below w.heap.size w wz→M≤wz.heap.size→Blk wz g5 cs5→Hid (Dep (fun b=>b < w.heap.size∨M≤b) wz (Tl.mk 0 4 false b []) cs5)→Hid (cs5.length=5)→Hid (OneC cs5)→Blk wz gz [.slice na NL nc,.slice wa WL wc,.slice da DL dc]→Blk wz w.heap.size cs→wpAnyH _ _ _ _ _ _ _ _ wz)
    case main =>
     intro k5
     refine wpAnyH_ready (rs:=[1,3]) (by kernel_rfl) (by simp) ?_
     refine AllReadyH.cons rfl (fun K hK=>?_) ?_
     ·have e4:=Bv.cell 4 _ rfl
      have l4:=Bv.lt
      go_simp
      refine hK.out _ _ ?_ (fun hHeld2=>?_)
      ·exact hHeld
      ·clear hK K
       try clear hHeld
       have hHeld:=hHeld2
       clear hHeld2
       try simp only [Act.put,List.getElem_toArray,List.getElem_cons_zero,List.getElem_cons_succ,List.setIfInBounds_toArray,List.set_cons_zero,List.set_cons_succ]
       clear e4 l4
       refine wpAnyH_ready (rs:=[3]) (by kernel_rfl) (by simp) ?_
       refine AllReadyH.cons rfl (fun K hK=>?_) ?_
       ·have HBz:Hid (Bs wd1 (.slice ya YL yc) b):=HYb.out.later bel
        go_simp
        refine (c20_plainM (L:=w.heap.size) (N:=M) HBz.out HN2.out).mono ?_
        rintro e z4 ⟨cs5,rfl,hd5,hb⟩
        refine hK.out _ _ ?_ (fun hHeld2=>?_)
        ·exact KT1.out _
        ·clear hK K
         try clear hHeld
         have hHeld:=hHeld2
         clear hHeld2
         try simp only [Act.put,List.getElem_toArray,List.getElem_cons_zero,List.getElem_cons_succ,List.setIfInBounds_toArray,List.set_cons_zero,List.set_cons_succ]
         replace Bv:=Bv.later hb
         replace R0:=R0.later hb
         replace Bl:=Bl.later hb
         replace B0:=B0.later hb
         replace HR:Hid (RwS (fun b=>b≠gt∧b≠w.heap.size + 1) z4 (Value.slice ka (4 + i) kc) ((kidsM m).take (4 + i))):=HR.out.later hb
         replace bel:=below_step bel hb
         replace hs:M≤z4.heap.size:=Nat.le_trans hs hb.size
         have HD5:Hid (Dep (fun b=>b < w.heap.size∨M≤b) z4 (Tl.mk 0 4 false b []) cs5):=hd5
         have HL5:Hid (cs5.length=5):=hd5.now.five
         have HO5:Hid (OneC cs5):=hd5.now.ones
         clear hd5 HBz
         clear hb
         refine wpAnyH_ready (rs:=[4]) (by kernel_rfl) (by simp) ?_
         refine AllReadyH.cons rfl (fun K hK=>?_) ?_
         ·rw [if_pos (by rfl)]
          refine wp_buildSlice 40 42 1 _ rfl cs5.toArray jt _ Try.underlying40 hjt ht0 (by rw [ht1];decide) (by rw [ht1];decide) (by rw [ht1];refine (congrArg _ (?_:_=[(0,Value.agg cs5.toArray)])).trans (fill_5 HL5.out);kernel_rfl) ?_
          refine hK.out _ _ ?_ (fun hHeld2=>?_)
          ·exact KT1.out _
          ·clear hK K
           try clear hHeld
           have hHeld:=hHeld2
           clear hHeld2
           try simp only [Act.put,List.getElem_toArray,List.getElem_cons_zero,List.getElem_cons_succ,List.setIfInBounds_toArray,List.set_cons_zero,List.set_cons_succ]
           have hb:Below z4.heap.size z4 (z4.alloc (.cells cs5.toArray 42)):=(Below.refl _ _).alloc (Nat.le_refl _) _
           replace Bv:=Bv.later hb
           replace R0:=R0.later hb
           replace Bl:=Bl.later hb
           replace B0:=B0.later hb
           replace HR:Hid (RwS (fun b=>b≠gt∧b≠w.heap.size + 1) (z4.alloc (.cells cs5.toArray 42)) (Value.slice ka (4 + i) kc) ((kidsM m).take (4 + i))):=HR.out.later hb
           replace bel:=below_step bel hb
           replace hs:M≤(z4.alloc (.cells cs5.toArray 42)).heap.size:=Nat.le_trans hs hb.size
           replace HD5:Hid (Dep (fun b=>b < w.heap.size∨M≤b) (z4.alloc (.cells cs5.toArray 42)) (Tl.mk 0 4 false b []) cs5):=HD5.out.next (Agr.below hb) (fun _ h _=>h)
           have B5:=Blk.new z4 cs5 42 z4.heap.size rfl
           obtain ⟨g5,hg9⟩:∃ g,g=z4.heap.size:=⟨_,rfl⟩
           rw [← hg9] at B5 ⊢
           clear hg9 hb
           generalize (z4.alloc (.cells cs5.toArray 42))=zb at *
           exact k5 zb g5 cs5 hHeld Bv R0 HR bel hs B5 HD5 HL5 HO5 Bl B0
         exact AllReadyH.nil
       exact AllReadyH.nil
     refine AllReadyH.cons rfl (fun K hK=>?_) ?_
     ·have HBz:Hid (Bs wd1 (.slice ya YL yc) b):=HYb.out.later bel
      go_simp
      refine (c20_plainM (L:=w.heap.size) (N:=M) HBz.out HN2.out).mono ?_
      rintro e z4 ⟨cs5,rfl,hd5,hb⟩
      refine hK.out _ _ ?_ (fun hHeld2=>?_)
      ·exact KT1.out _
      ·clear hK K
       try clear hHeld
       have hHeld:=hHeld2
       clear hHeld2
       try simp only [Act.put,List.getElem_toArray,List.getElem_cons_zero,List.getElem_cons_succ,List.setIfInBounds_toArray,List.set_cons_zero,List.set_cons_succ]
       replace Bv:=Bv.later hb
       replace R0:=R0.later hb
       replace Bl:=Bl.later hb
       replace B0:=B0.later hb
       replace HR:Hid (RwS (fun b=>b≠gt∧b≠w.heap.size + 1) z4 (Value.slice ka (4 + i) kc) ((kidsM m).take (4 + i))):=HR.out.later hb
       replace bel:=below_step bel hb
       replace hs:M≤z4.heap.size:=Nat.le_trans hs hb.size
       have HD5:Hid (Dep (fun b=>b < w.heap.size∨M≤b) z4 (Tl.mk 0 4 false b []) cs5):=hd5
       have HL5:Hid (cs5.length=5):=hd5.now.five
       have HO5:Hid (OneC cs5):=hd5.now.ones
       clear hd5 HBz
       clear hb
       refine wpAnyH_ready (rs:=[1,4]) (by kernel_rfl) (by simp) ?_
       refine AllReadyH.cons rfl (fun K hK=>?_) ?_
       ·have e4:=Bv.cell 4 _ rfl
        have l4:=Bv.lt
        go_simp
        refine hK.out _ _ ?_ (fun hHeld2=>?_)
        ·exact hHeld
        ·clear hK K
         try clear hHeld
         have hHeld:=hHeld2
         clear hHeld2
         try simp only [Act.put,List.getElem_toArray,List.getElem_cons_zero,List.getElem_cons_succ,List.setIfInBounds_toArray,List.set_cons_zero,List.set_cons_succ]
         clear e4 l4
         refine wpAnyH_ready (rs:=[4]) (by kernel_rfl) (by simp) ?_
         refine AllReadyH.cons rfl (fun K hK=>?_) ?_
         ·rw [if_pos (by rfl)]
          refine wp_buildSlice 40 42 1 _ rfl cs5.toArray jt _ Try.underlying40 hjt ht0 (by rw [ht1];decide) (by rw [ht1];decide) (by rw [ht1];refine (congrArg _ (?_:_=[(0,Value.agg cs5.toArray)])).trans (fill_5 HL5.out);kernel_rfl) ?_
          refine hK.out _ _ ?_ (fun hHeld2=>?_)
          ·exact KT1.out _
          ·clear hK K
           try clear hHeld
           have hHeld:=hHeld2
           clear hHeld2
           try simp only [Act.put,List.getElem_toArray,List.getElem_cons_zero,List.getElem_cons_succ,List.setIfInBounds_toArray,List.set_cons_zero,List.set_cons_succ]
           have hb:Below z4.heap.size z4 (z4.alloc (.cells cs5.toArray 42)):=(Below.refl _ _).alloc (Nat.le_refl _) _
           replace Bv:=Bv.later hb
           replace R0:=R0.later hb
           replace Bl:=Bl.later hb
           replace B0:=B0.later hb
           replace HR:Hid (RwS (fun b=>b≠gt∧b≠w.heap.size + 1) (z4.alloc (.cells cs5.toArray 42)) (Value.slice ka (4 + i) kc) ((kidsM m).take (4 + i))):=HR.out.later hb
           replace bel:=below_step bel hb
           replace hs:M≤(z4.alloc (.cells cs5.toArray 42)).heap.size:=Nat.le_trans hs hb.size
           replace HD5:Hid (Dep (fun b=>b < w.heap.size∨M≤b) (z4.alloc (.cells cs5.toArray 42)) (Tl.mk 0 4 false b []) cs5):=HD5.out.next (Agr.below hb) (fun _ h _=>h)
           have B5:=Blk.new z4 cs5 42 z4.heap.size rfl
           obtain ⟨g5,hg9⟩:∃ g,g=z4.heap.size:=⟨_,rfl⟩
           rw [← hg9] at B5 ⊢
           clear hg9 hb
           generalize (z4.alloc (.cells cs5.toArray 42))=zb at *
           exact k5 zb g5 cs5 hHeld Bv R0 HR bel hs B5 HD5 HL5 HO5 Bl B0
         exact AllReadyH.nil
       refine AllReadyH.cons rfl (fun K hK=>?_) ?_
       ·rw [if_pos (by rfl)]
        refine wp_buildSlice 40 42 1 _ rfl cs5.toArray jt _ Try.underlying40 hjt ht0 (by rw [ht1];decide) (by rw [ht1];decide) (by rw [ht1];refine (congrArg _ (?_:_=[(0,Value.agg cs5.toArray)])).trans (fill_5 HL5.out);kernel_rfl) ?_
        refine hK.out _ _ ?_ (fun hHeld2=>?_)
        ·exact KT1.out _
        ·clear hK K
         try clear hHeld
         have hHeld:=hHeld2
         clear hHeld2
         try simp only [Act.put,List.getElem_toArray,List.getElem_cons_zero,List.getElem_cons_succ,List.setIfInBounds_toArray,List.set_cons_zero,List.set_cons_succ]
         have hb:Below z4.heap.size z4 (z4.alloc (.cells cs5.toArray 42)):=(Below.refl _ _).alloc (Nat.le_refl _) _
         replace Bv:=Bv.later hb
         replace R0:=R0.later hb
         replace Bl:=Bl.later hb
         replace B0:=B0.later hb
         replace HR:Hid (RwS (fun b=>b≠gt∧b≠w.heap.size + 1) (z4.alloc (.cells cs5.toArray 42)) (Value.slice ka (4 + i) kc) ((kidsM m).take (4 + i))):=HR.out.later hb
         replace bel:=below_step bel hb
         replace hs:M≤(z4.alloc (.cells cs5.toArray 42)).heap.size:=Nat.le_trans hs hb.size
         replace HD5:Hid (Dep (fun b=>b < w.heap.size∨M≤b) (z4.alloc (.cells cs5.toArray 42)) (Tl.mk 0 4 false b []) cs5):=HD5.out.next (Agr.below hb) (fun _ h _=>h)
         have B5:=Blk.new z4 cs5 42 z4.heap.size rfl
         obtain ⟨g5,hg9⟩:∃ g,g=z4.heap.size:=⟨_,rfl⟩
         rw [← hg9] at B5 ⊢
         clear hg9 hb
         generalize (z4.alloc (.cells cs5.toArray 42))=zb at *
         refine wpAnyH_ready (rs:=[1]) (by kernel_rfl) (by simp) ?_
         refine AllReadyH.cons rfl (fun K hK=>?_) ?_
         ·have e4:=Bv.cell 4 _ rfl
          have l4:=Bv.lt
          go_simp
          refine hK.out _ _ ?_ (fun hHeld2=>?_)
          ·exact hHeld
          ·clear hK K
           try clear hHeld
           have hHeld:=hHeld2
           clear hHeld2
           try simp only [Act.put,List.getElem_toArray,List.getElem_cons_zero,List.getElem_cons_succ,List.setIfInBounds_toArray,List.set_cons_zero,List.set_cons_succ]
           clear e4 l4
           exact k5 zb g5 cs5 hHeld Bv R0 HR bel hs B5 HD5 HL5 HO5 Bl B0
         exact AllReadyH.nil
       exact AllReadyH.nil
     exact AllReadyH.nil
    case kp =>
     intro wz g5 cs5 hHeld Bv R0 HR bel hs B5 HD5 HL5 HO5 Bl B0
     refine wpAnyH_ready (rs:=[5]) (by kernel_rfl) (by simp) ?_
     refine AllReadyH.cons rfl (fun K hK=>?_) ?_
     ·have HM9:Hid (∀ b,(Value.slice ka (4 + i) kc).ownBlock=some b→(N1≤b∧b≠gz)∧b < M):=HM
      have hbl9:=Bl.lt
      have hlt9:=HLt.out
      rw [if_pos (show Region.wanted _ _=true from rfl)]
      refine wp_of_list (ops:=#[]) rfl ?_
      refine wpList_append_rws (by rfl) _ _ (by rfl) (fun b=>b≠gt∧b≠w.heap.size + 1) (Value.slice ka (4 + i) kc) (((kidsM m).take (4 + i))) (by rfl) HR.out g5 (by rfl) cs5 B5 HL5.out HO5.out (Tl.mk 0 4 false b []) (HD5.out.next (Agr.refl _ _) (fun b h9 _=>⟨⟨by rcases h9 with h9|h9<;>omega,by rcases h9 with h9|h9<;>omega⟩,fun e9=>by have:=HM9.out b e9;rcases h9 with h9|h9<;>omega⟩)) (by rw [HLi.out];omega) ?_
      intro kv9 w9 hr9 hgrow9 hat9
      obtain ⟨ka9,kc9,hkv9⟩:=hr9.sl
      have HK9:(((kidsM m).take (4 + i))++[Tl.mk 0 4 false b []]).length=(4 + i) + 1:=by rw [List.length_append,HLi.out];rfl
      rw [HK9] at hkv9
      subst hkv9
      clear HK9
      have hzb:=bel.size
      have hsz9:=hgrow9.size
      have hge9:∀ k,(Value.slice ka (4 + i) kc).ownBlock=some k→N1≤k∧k≠gz:=fun k hk=>(HM9.out k hk).1
      replace Bv:=Bv.grown hgrow9 (fun k hk e=>by have:=hge9 k hk;omega)
      replace R0:=R0.grown hgrow9 (fun k hk e=>by have:=hge9 k hk;omega)
      replace Bl:=Bl.grown hgrow9 (fun k hk e=>by have:=hge9 k hk;omega)
      replace B0:=B0.grown hgrow9 (fun k hk e=>by have:=hge9 k hk;omega)
      replace bel:=Below.grown bel hgrow9 hzb (fun k hk=>by have:=hge9 k hk;omega)
      have HOw:Hid (∀ g,(Value.slice ka9 ((4 + i) + 1) kc9).ownBlock=some g→N1≤g∧g≠gz):=fun g hg=>by rcases hat9 with h|h<;>rw [h] at hg;exact hge9 g hg;(simp only [Option.some.injEq] at hg;omega)
      replace HR:Hid (RwS (fun b=>b≠gt∧b≠w.heap.size + 1) w9 (Value.slice ka9 ((4 + i) + 1) kc9) (((kidsM m).take (4 + i))++[Tl.mk 0 4 false b []])):=hr9
      clear hgrow9 hge9 hat9 hr9 hzb
      refine ⟨rfl,?_⟩
      refine hK.out _ _ ?_ (fun hHeld2=>?_)
      ·exact KT1.out _
      ·clear hK K
       try clear hHeld
       have hHeld:=hHeld2
       clear hHeld2
       try simp only [Act.put,List.getElem_toArray,List.getElem_cons_zero,List.getElem_cons_succ,List.setIfInBounds_toArray,List.set_cons_zero,List.set_cons_succ]
       clear B5 HD5
       refine wpAnyH_take (i:=6) (v:=?_) rfl (by kernel_rfl) (by kernel_rfl) (by kernel_rfl) (fun _ _ _ h=>h) (Or.inl ⟨by rfl,?_⟩) (by assumption) ?_
       rotate_left
       ·intro w hSw
        go_simp
        with_reducible rfl
       try simp only [Act.put,List.getElem_toArray,List.getElem_cons_zero,List.getElem_cons_succ,List.setIfInBounds_toArray,List.set_cons_zero,List.set_cons_succ]
       refine wpAnyH_ready (rs:=[7]) (by kernel_rfl) (by simp) ?_
       refine AllReadyH.cons rfl (fun K hK=>?_) ?_
       ·have e4:=Bv.cell 4 _ rfl
        have l4:=Bv.lt
        have f4:=Bv.frozen 4
        go_simp
        refine hK.out _ _ ?_ (fun hHeld2=>?_)
        ·exact KT1.out _
        ·clear hK K
         try clear hHeld
         have hHeld:=hHeld2
         clear hHeld2
         try simp only [Act.put,List.getElem_toArray,List.getElem_cons_zero,List.getElem_cons_succ,List.setIfInBounds_toArray,List.set_cons_zero,List.set_cons_succ]
         clear e4 l4 f4
         replace Bv:Blk (w9.setCell ⟨gt,4,none⟩ (Value.slice ka9 ((4 + i) + 1) kc9)) gt [.int .i64 0,.int .i64 16,.bool true,.slice none 0 0,Value.slice ka9 ((4 + i) + 1) kc9]:=Bv.set 4 _
         replace HR:Hid (RwS (fun b=>b≠gt∧b≠w.heap.size + 1) (w9.setCell ⟨gt,4,none⟩ (Value.slice ka9 ((4 + i) + 1) kc9)) (Value.slice ka9 ((4 + i) + 1) kc9) (((kidsM m).take (4 + i))++[Tl.mk 0 4 false b []])):=RwS.cell HR.out (fun h=>h.1 rfl) (fun e=>by have:=(HOw.out _ e).1;have:=HLt.out;omega)
         replace R0:=R0.other ⟨gt,4,none⟩ (Value.slice ka9 ((4 + i) + 1) kc9) (by show _≠gt;have:=HLt.out;omega)
         replace Bl:=Bl.other ⟨gt,4,none⟩ (Value.slice ka9 ((4 + i) + 1) kc9) (by show _≠gt;have:=HLt.out;omega)
         replace B0:=B0.other ⟨gt,4,none⟩ (Value.slice ka9 ((4 + i) + 1) kc9) (by show _≠gt;have:=HLt.out;omega)
         replace bel:Below w.heap.size w (w9.setCell ⟨gt,4,none⟩ (Value.slice ka9 ((4 + i) + 1) kc9)):=bel.setCell (by show _≤gt;have:=HLt.out;omega) _
         replace hsz9:M≤(w9.setCell ⟨gt,4,none⟩ (Value.slice ka9 ((4 + i) + 1) kc9)).heap.size:=Nat.le_trans (show M≤w9.heap.size by omega) ((Below.refl 0 w9).setCell (Nat.zero_le _) (Value.slice ka9 ((4 + i) + 1) kc9)).size
         generalize (w9.setCell ⟨gt,4,none⟩ (Value.slice ka9 ((4 + i) + 1) kc9))=w10 at *
         refine wpAnyH_done (by kernel_rfl) ?_ _
         refine NoPanic.normal ?_
         try clear hHeld
         have HNx:Hid (RwS (fun b=>b≠gt∧b≠w.heap.size + 1) w10 (Value.slice ka9 (4 + i + 1) kc9) ((kidsM m).take (4 + i + 1))):=by
          have h:=HR.out
          rw [take_nextM (x:=Tl.mk 0 4 false b []) (by rw [kidsM_bs HX.out];rfl)] at h
          exact h
         go_wp2_with fail
         go_roundw
         case rel =>
          (repeat apply Exists.intro)
          refine ⟨?relx,rfl⟩
          exact ⟨i + 1,ka9,kc9,by omega,by go_num,Bv,HNx,HOw,Bl,B0,R0,bel,by omega⟩
         case measure=>simp [intOf];omega
       exact AllReadyH.nil
     exact AllReadyH.nil
  obtain ⟨x,hx⟩:∃ x,(numsM m)[i]?=some x:=⟨_,List.getElem?_eq_getElem (by unfold numsM;simp;omega)⟩
  have HX:Hid ((numsM m)[i]?=some x):=hx
  have hxb:=HWn.out i x hx
  have ei:=Bl.cell i (.int .i64 x) (by rw [HNs.out] at hx;match i,hil,hx with|0,_,hx=>(cases hx;rfl)|1,_,hx=>(cases hx;rfl)|2,_,hx=>(cases hx;rfl)|3,_,hx=>(cases hx;rfl))
  have li:=Bl.lt
  clear hx
  have g1:(i:Int) < 4:=by omega
  have g2:(0:Int)≤(i:Int):=by omega
  have gi:IntKind.i64.wrap ((i:Int) + 1)=(i:Int) + 1:=by rw [IntKind.wrap_i64];omega
  go_wp2_with fail
  refine (con_SmallOf hxb).mono ?_
  rintro e w2 ⟨hok,hbad⟩
  clear ei li hxb
  cases ht:smallOf x with
  | error c =>
   obtain ⟨va,vc,rfl,hb⟩:=hbad c ht
   have H:Hid (¬ MayM m):=fun h=>by obtain ⟨T,hT⟩:=may_num h HX.out;rw [smlT_no ht] at hT;cases hT
   replace R0:=R0.later hb
   replace bel:=below_step bel hb
   clear hok hbad hb ht HR Bv Bl B0 HOw HA
   have q:=ne_codeL (c:Int)
   have hz:=zero_tlv.out
   obtain ⟨tR,hR⟩:=R0
   have HR1:Hid _:=hR
   clear hR
   go_wp2_with (first|((with_reducible show wpList _ _ _ ({ dst:=_,op:=.store _ _ _,type:=_,pos:=_,after:=_,guard:=_ } :: _) _ _);refine wpList_store_row rfl 42 _ _ rfl (w.heap.size + 1) #[.int .i64 0,.int .i64 0,.bool false,.slice none 0 0,.slice none 0 0] rfl rfl tR _ HR1.out (by rw [size_tlv];rfl) rfl (by simp [Value.oneCell']) ?_)|fail)
   refine bodyPost_ret (results_row_tmp rfl _ _ (w.heap.size + 1) tR #[.int .i64 0,.int .i64 0,.bool false,.slice none 0 0,.slice none 0 0] (0,0) _ rfl (setRow_heap _ _ _ _ _ _ HR1.out) Try.underlying42 rfl (by rw [size_tlv];rfl)) rfl ?_
   exact EltR.bad H.out (below_setRow bel (by omega) _)
  | ok X =>
   obtain ⟨v2,rfl,hv2,hn2,hb⟩:=hok X ht
   have HTm:Hid (smlT x=some (.mk 0 2 false X [])):=smlT_ok ht
   have HB2:Hid (Bs w2 v2 X):=hv2
   obtain ⟨M,hM⟩:∃ n,n=wr.heap.size:=⟨_,rfl⟩
   have HN2:Hid (∀ a m c,v2=.slice (some a) m c→0 < m→a.block < w.heap.size∨M≤a.block):=by rw [hM];exact fun a m c e h=>.inr (hn2 a m c e h)
   have HM:Hid (∀ b,(Value.slice ka i kc).ownBlock=some b→(N1≤b∧b≠gl)∧b < M):=fun b h9=>⟨HOw.out b h9,by rw [hM];exact HR.out.lt h9⟩
   have hs:M≤w2.heap.size:=by rw [hM];exact hb.size
   have hNM:N1≤M:=by omega
   clear hM hok hbad ht hn2 HOw
   obtain ⟨va,vc,hv3,-,-,-⟩:=id hv2
   obtain ⟨L2,hL2⟩:∃ z,X.length=z:=⟨_,rfl⟩
   rw [hL2] at hv3
   subst hv3
   replace Bv:=Bv.later hb
   replace Bl:=Bl.later hb
   replace B0:=B0.later hb
   replace R0:=R0.later hb
   replace HR:Hid (RwS (fun b=>b≠gt∧b≠w.heap.size + 1) w2 (.slice ka i kc) ((kidsM m).take i)):=HR.out.later hb
   replace bel:=below_step bel hb
   clear hb hv2 hL2
   have q:=ne_nilL
   go_upto_region 8 with fail
   clear q
   obtain ⟨S1,hS1,KT1⟩:∃ S:World→Prop,Hd S w2∧Hid (∀ wx,Hd S wx):=⟨fun _=>True,trivial,fun _=>trivial⟩
   refine wp_region_noPanic ?_
   have hdr:Below w2.heap.size w2 w2.drew:=Below.drew (Below.refl _ _)
   replace Bv:=Bv.later hdr
   replace R0:=R0.later hdr
   replace Bl:=Bl.later hdr
   replace B0:=B0.later hdr
   replace HR:Hid (RwS (fun b=>b≠gt∧b≠w.heap.size + 1) w2.drew (Value.slice ka i kc) ((kidsM m).take i)):=HR.out.later hdr
   replace bel:=below_step bel hdr
   replace hs:M≤w2.drew.heap.size:=Nat.le_trans hs hdr.size
   replace HB2:=HB2.out.later hdr
   clear hdr
   refine wp_region_held_drew (S:=Hd S1) (by kernel_rfl) (KT1.out _) (fun hHeld=>?_)
   clear hS1
   generalize World.drew _=wd1 at *
   refine wpAnyH_take (i:=0) (v:=?_) rfl (by kernel_rfl) (by kernel_rfl) (by kernel_rfl) (fun _ _ _ h=>h) (Or.inl ⟨by rfl,?_⟩) (by assumption) ?_
   rotate_left
   ·intro w hSw
    go_simp
    with_reducible rfl
   try simp only [Act.put,List.getElem_toArray,List.getElem_cons_zero,List.getElem_cons_succ,List.setIfInBounds_toArray,List.set_cons_zero,List.set_cons_succ]
   refine wpAnyH_take (i:=2) (v:=?_) rfl (by kernel_rfl) (by kernel_rfl) (by kernel_rfl) (fun _ _ _ h=>h) (Or.inl ⟨by rfl,?_⟩) (by assumption) ?_
   rotate_left
   ·intro w hSw
    go_simp
    with_reducible rfl
   try simp only [Act.put,List.getElem_toArray,List.getElem_cons_zero,List.getElem_cons_succ,List.setIfInBounds_toArray,List.set_cons_zero,List.set_cons_succ]
   apply with_keyL (T:=∀ (wz:World) (g5:Nat) (cs5:List Value),Hd S1 wz→Blk wz gt [.int .i64 0,.int .i64 16,.bool true,.slice none 0 0,Value.slice ka i kc]→Blk wz (w.heap.size + 1) [.int .i64 0,.int .i64 0,.bool false,.slice none 0 0,.slice none 0 0]→Hid (RwS (fun b=>b≠gt∧b≠w.heap.size + 1) wz (Value.slice ka i kc) (((kidsM m).take i)))→Below w.heap.size w wz→M≤wz.heap.size→Blk wz g5 cs5→Hid (Dep (fun b=>b < w.heap.size∨M≤b) wz (Tl.mk 0 2 false X []) cs5)→Hid (cs5.length=5)→Hid (OneC cs5)→Blk wz gl [.int .i64 ver,.int .i64 cls,.int .i64 ldn,.int .i64 lnn]→Blk wz w.heap.size cs→wpAnyH _ _ _ _ _ _ _ _ wz)
   case main =>
    intro k5
    refine wpAnyH_ready (rs:=[1,3]) (by kernel_rfl) (by simp) ?_
    refine AllReadyH.cons rfl (fun K hK=>?_) ?_
    ·have e4:=Bv.cell 4 _ rfl
     have l4:=Bv.lt
     go_simp
     refine hK.out _ _ ?_ (fun hHeld2=>?_)
     ·exact hHeld
     ·clear hK K
      try clear hHeld
      have hHeld:=hHeld2
      clear hHeld2
      try simp only [Act.put,List.getElem_toArray,List.getElem_cons_zero,List.getElem_cons_succ,List.setIfInBounds_toArray,List.set_cons_zero,List.set_cons_succ]
      clear e4 l4
      refine wpAnyH_ready (rs:=[3]) (by kernel_rfl) (by simp) ?_
      refine AllReadyH.cons rfl (fun K hK=>?_) ?_
      ·have HBz:Hid (Bs wd1 (.slice va L2 vc) X):=HB2
       go_simp
       refine (c20_plainM (L:=w.heap.size) (N:=M) HBz.out HN2.out).mono ?_
       rintro e z4 ⟨cs5,rfl,hd5,hb⟩
       refine hK.out _ _ ?_ (fun hHeld2=>?_)
       ·exact KT1.out _
       ·clear hK K
        try clear hHeld
        have hHeld:=hHeld2
        clear hHeld2
        try simp only [Act.put,List.getElem_toArray,List.getElem_cons_zero,List.getElem_cons_succ,List.setIfInBounds_toArray,List.set_cons_zero,List.set_cons_succ]
        replace Bv:=Bv.later hb
        replace R0:=R0.later hb
        replace Bl:=Bl.later hb
        replace B0:=B0.later hb
        replace HR:Hid (RwS (fun b=>b≠gt∧b≠w.heap.size + 1) z4 (Value.slice ka i kc) ((kidsM m).take i)):=HR.out.later hb
        replace bel:=below_step bel hb
        replace hs:M≤z4.heap.size:=Nat.le_trans hs hb.size
        have HD5:Hid (Dep (fun b=>b < w.heap.size∨M≤b) z4 (Tl.mk 0 2 false X []) cs5):=hd5
        have HL5:Hid (cs5.length=5):=hd5.now.five
        have HO5:Hid (OneC cs5):=hd5.now.ones
        clear hd5 HBz
        clear hb
        refine wpAnyH_ready (rs:=[4]) (by kernel_rfl) (by simp) ?_
        refine AllReadyH.cons rfl (fun K hK=>?_) ?_
        ·rw [if_pos (by rfl)]
         refine wp_buildSlice 40 42 1 _ rfl cs5.toArray jt _ Try.underlying40 hjt ht0 (by rw [ht1];decide) (by rw [ht1];decide) (by rw [ht1];refine (congrArg _ (?_:_=[(0,Value.agg cs5.toArray)])).trans (fill_5 HL5.out);kernel_rfl) ?_
         refine hK.out _ _ ?_ (fun hHeld2=>?_)
         ·exact KT1.out _
         ·clear hK K
          try clear hHeld
          have hHeld:=hHeld2
          clear hHeld2
          try simp only [Act.put,List.getElem_toArray,List.getElem_cons_zero,List.getElem_cons_succ,List.setIfInBounds_toArray,List.set_cons_zero,List.set_cons_succ]
          have hb:Below z4.heap.size z4 (z4.alloc (.cells cs5.toArray 42)):=(Below.refl _ _).alloc (Nat.le_refl _) _
          replace Bv:=Bv.later hb
          replace R0:=R0.later hb
          replace Bl:=Bl.later hb
          replace B0:=B0.later hb
          replace HR:Hid (RwS (fun b=>b≠gt∧b≠w.heap.size + 1) (z4.alloc (.cells cs5.toArray 42)) (Value.slice ka i kc) ((kidsM m).take i)):=HR.out.later hb
          replace bel:=below_step bel hb
          replace hs:M≤(z4.alloc (.cells cs5.toArray 42)).heap.size:=Nat.le_trans hs hb.size
          replace HD5:Hid (Dep (fun b=>b < w.heap.size∨M≤b) (z4.alloc (.cells cs5.toArray 42)) (Tl.mk 0 2 false X []) cs5):=HD5.out.next (Agr.below hb) (fun _ h _=>h)
          have B5:=Blk.new z4 cs5 42 z4.heap.size rfl
          obtain ⟨g5,hg9⟩:∃ g,g=z4.heap.size:=⟨_,rfl⟩
          rw [← hg9] at B5 ⊢
          clear hg9 hb
          generalize (z4.alloc (.cells cs5.toArray 42))=zb at *
          exact k5 zb g5 cs5 hHeld Bv R0 HR bel hs B5 HD5 HL5 HO5 Bl B0
        exact AllReadyH.nil
      exact AllReadyH.nil
    refine AllReadyH.cons rfl (fun K hK=>?_) ?_
    ·have HBz:Hid (Bs wd1 (.slice va L2 vc) X):=HB2
     go_simp
     refine (c20_plainM (L:=w.heap.size) (N:=M) HBz.out HN2.out).mono ?_
     rintro e z4 ⟨cs5,rfl,hd5,hb⟩
     refine hK.out _ _ ?_ (fun hHeld2=>?_)
     ·exact KT1.out _
     ·clear hK K
      try clear hHeld
      have hHeld:=hHeld2
      clear hHeld2
      try simp only [Act.put,List.getElem_toArray,List.getElem_cons_zero,List.getElem_cons_succ,List.setIfInBounds_toArray,List.set_cons_zero,List.set_cons_succ]
      replace Bv:=Bv.later hb
      replace R0:=R0.later hb
      replace Bl:=Bl.later hb
      replace B0:=B0.later hb
      replace HR:Hid (RwS (fun b=>b≠gt∧b≠w.heap.size + 1) z4 (Value.slice ka i kc) ((kidsM m).take i)):=HR.out.later hb
      replace bel:=below_step bel hb
      replace hs:M≤z4.heap.size:=Nat.le_trans hs hb.size
      have HD5:Hid (Dep (fun b=>b < w.heap.size∨M≤b) z4 (Tl.mk 0 2 false X []) cs5):=hd5
      have HL5:Hid (cs5.length=5):=hd5.now.five
      have HO5:Hid (OneC cs5):=hd5.now.ones
      clear hd5 HBz
      clear hb
      refine wpAnyH_ready (rs:=[1,4]) (by kernel_rfl) (by simp) ?_
      refine AllReadyH.cons rfl (fun K hK=>?_) ?_
      ·have e4:=Bv.cell 4 _ rfl
       have l4:=Bv.lt
       go_simp
       refine hK.out _ _ ?_ (fun hHeld2=>?_)
       ·exact hHeld
       ·clear hK K
        try clear hHeld
        have hHeld:=hHeld2
        clear hHeld2
        try simp only [Act.put,List.getElem_toArray,List.getElem_cons_zero,List.getElem_cons_succ,List.setIfInBounds_toArray,List.set_cons_zero,List.set_cons_succ]
        clear e4 l4
        refine wpAnyH_ready (rs:=[4]) (by kernel_rfl) (by simp) ?_
        refine AllReadyH.cons rfl (fun K hK=>?_) ?_
        ·rw [if_pos (by rfl)]
         refine wp_buildSlice 40 42 1 _ rfl cs5.toArray jt _ Try.underlying40 hjt ht0 (by rw [ht1];decide) (by rw [ht1];decide) (by rw [ht1];refine (congrArg _ (?_:_=[(0,Value.agg cs5.toArray)])).trans (fill_5 HL5.out);kernel_rfl) ?_
         refine hK.out _ _ ?_ (fun hHeld2=>?_)
         ·exact KT1.out _
         ·clear hK K
          try clear hHeld
          have hHeld:=hHeld2
          clear hHeld2
          try simp only [Act.put,List.getElem_toArray,List.getElem_cons_zero,List.getElem_cons_succ,List.setIfInBounds_toArray,List.set_cons_zero,List.set_cons_succ]
          have hb:Below z4.heap.size z4 (z4.alloc (.cells cs5.toArray 42)):=(Below.refl _ _).alloc (Nat.le_refl _) _
          replace Bv:=Bv.later hb
          replace R0:=R0.later hb
          replace Bl:=Bl.later hb
          replace B0:=B0.later hb
          replace HR:Hid (RwS (fun b=>b≠gt∧b≠w.heap.size + 1) (z4.alloc (.cells cs5.toArray 42)) (Value.slice ka i kc) ((kidsM m).take i)):=HR.out.later hb
          replace bel:=below_step bel hb
          replace hs:M≤(z4.alloc (.cells cs5.toArray 42)).heap.size:=Nat.le_trans hs hb.size
          replace HD5:Hid (Dep (fun b=>b < w.heap.size∨M≤b) (z4.alloc (.cells cs5.toArray 42)) (Tl.mk 0 2 false X []) cs5):=HD5.out.next (Agr.below hb) (fun _ h _=>h)
          have B5:=Blk.new z4 cs5 42 z4.heap.size rfl
          obtain ⟨g5,hg9⟩:∃ g,g=z4.heap.size:=⟨_,rfl⟩
          rw [← hg9] at B5 ⊢
          clear hg9 hb
          generalize (z4.alloc (.cells cs5.toArray 42))=zb at *
          exact k5 zb g5 cs5 hHeld Bv R0 HR bel hs B5 HD5 HL5 HO5 Bl B0
        exact AllReadyH.nil
      refine AllReadyH.cons rfl (fun K hK=>?_) ?_
      ·rw [if_pos (by rfl)]
       refine wp_buildSlice 40 42 1 _ rfl cs5.toArray jt _ Try.underlying40 hjt ht0 (by rw [ht1];decide) (by rw [ht1];decide) (by rw [ht1];refine (congrArg _ (?_:_=[(0,Value.agg cs5.toArray)])).trans (fill_5 HL5.out);kernel_rfl) ?_
       refine hK.out _ _ ?_ (fun hHeld2=>?_)
       ·exact KT1.out _
       ·clear hK K
        try clear hHeld
        have hHeld:=hHeld2
        clear hHeld2
        try simp only [Act.put,List.getElem_toArray,List.getElem_cons_zero,List.getElem_cons_succ,List.setIfInBounds_toArray,List.set_cons_zero,List.set_cons_succ]
        have hb:Below z4.heap.size z4 (z4.alloc (.cells cs5.toArray 42)):=(Below.refl _ _).alloc (Nat.le_refl _) _
        replace Bv:=Bv.later hb
        replace R0:=R0.later hb
        replace Bl:=Bl.later hb
        replace B0:=B0.later hb
        replace HR:Hid (RwS (fun b=>b≠gt∧b≠w.heap.size + 1) (z4.alloc (.cells cs5.toArray 42)) (Value.slice ka i kc) ((kidsM m).take i)):=HR.out.later hb
        replace bel:=below_step bel hb
        replace hs:M≤(z4.alloc (.cells cs5.toArray 42)).heap.size:=Nat.le_trans hs hb.size
        replace HD5:Hid (Dep (fun b=>b < w.heap.size∨M≤b) (z4.alloc (.cells cs5.toArray 42)) (Tl.mk 0 2 false X []) cs5):=HD5.out.next (Agr.below hb) (fun _ h _=>h)
        have B5:=Blk.new z4 cs5 42 z4.heap.size rfl
        obtain ⟨g5,hg9⟩:∃ g,g=z4.heap.size:=⟨_,rfl⟩
        rw [← hg9] at B5 ⊢
        clear hg9 hb
        generalize (z4.alloc (.cells cs5.toArray 42))=zb at *
        refine wpAnyH_ready (rs:=[1]) (by kernel_rfl) (by simp) ?_
        refine AllReadyH.cons rfl (fun K hK=>?_) ?_
        ·have e4:=Bv.cell 4 _ rfl
         have l4:=Bv.lt
         go_simp
         refine hK.out _ _ ?_ (fun hHeld2=>?_)
         ·exact hHeld
         ·clear hK K
          try clear hHeld
          have hHeld:=hHeld2
          clear hHeld2
          try simp only [Act.put,List.getElem_toArray,List.getElem_cons_zero,List.getElem_cons_succ,List.setIfInBounds_toArray,List.set_cons_zero,List.set_cons_succ]
          clear e4 l4
          exact k5 zb g5 cs5 hHeld Bv R0 HR bel hs B5 HD5 HL5 HO5 Bl B0
        exact AllReadyH.nil
      exact AllReadyH.nil
    exact AllReadyH.nil
   case kp =>
    intro wz g5 cs5 hHeld Bv R0 HR bel hs B5 HD5 HL5 HO5 Bl B0
    refine wpAnyH_ready (rs:=[5]) (by kernel_rfl) (by simp) ?_
    refine AllReadyH.cons rfl (fun K hK=>?_) ?_
    ·have HM9:Hid (∀ b,(Value.slice ka i kc).ownBlock=some b→(N1≤b∧b≠gl)∧b < M):=HM
     have hbl9:=Bl.lt
     have hlt9:=HLt.out
     rw [if_pos (show Region.wanted _ _=true from rfl)]
     refine wp_of_list (ops:=#[]) rfl ?_
     refine wpList_append_rws (by rfl) _ _ (by rfl) (fun b=>b≠gt∧b≠w.heap.size + 1) (Value.slice ka i kc) (((kidsM m).take i)) (by rfl) HR.out g5 (by rfl) cs5 B5 HL5.out HO5.out (Tl.mk 0 2 false X []) (HD5.out.next (Agr.refl _ _) (fun b h9 _=>⟨⟨by rcases h9 with h9|h9<;>omega,by rcases h9 with h9|h9<;>omega⟩,fun e9=>by have:=HM9.out b e9;rcases h9 with h9|h9<;>omega⟩)) (by rw [HLi.out];omega) ?_
     intro kv9 w9 hr9 hgrow9 hat9
     obtain ⟨ka9,kc9,hkv9⟩:=hr9.sl
     have HK9:(((kidsM m).take i)++[Tl.mk 0 2 false X []]).length=i + 1:=by rw [List.length_append,HLi.out];rfl
     rw [HK9] at hkv9
     subst hkv9
     clear HK9
     have hzb:=bel.size
     have hsz9:=hgrow9.size
     have hge9:∀ k,(Value.slice ka i kc).ownBlock=some k→N1≤k∧k≠gl:=fun k hk=>(HM9.out k hk).1
     replace Bv:=Bv.grown hgrow9 (fun k hk e=>by have:=hge9 k hk;omega)
     replace R0:=R0.grown hgrow9 (fun k hk e=>by have:=hge9 k hk;omega)
     replace Bl:=Bl.grown hgrow9 (fun k hk e=>by have:=hge9 k hk;omega)
     replace B0:=B0.grown hgrow9 (fun k hk e=>by have:=hge9 k hk;omega)
     replace bel:=Below.grown bel hgrow9 hzb (fun k hk=>by have:=hge9 k hk;omega)
     have HOw:Hid (∀ g,(Value.slice ka9 (i + 1) kc9).ownBlock=some g→N1≤g∧g≠gl):=fun g hg=>by rcases hat9 with h|h<;>rw [h] at hg;exact hge9 g hg;(simp only [Option.some.injEq] at hg;omega)
     replace HR:Hid (RwS (fun b=>b≠gt∧b≠w.heap.size + 1) w9 (Value.slice ka9 (i + 1) kc9) (((kidsM m).take i)++[Tl.mk 0 2 false X []])):=hr9
     clear hgrow9 hge9 hat9 hr9 hzb
     refine ⟨rfl,?_⟩
     refine hK.out _ _ ?_ (fun hHeld2=>?_)
     ·exact KT1.out _
     ·clear hK K
      try clear hHeld
      have hHeld:=hHeld2
      clear hHeld2
      try simp only [Act.put,List.getElem_toArray,List.getElem_cons_zero,List.getElem_cons_succ,List.setIfInBounds_toArray,List.set_cons_zero,List.set_cons_succ]
      clear B5 HD5
      refine wpAnyH_take (i:=6) (v:=?_) rfl (by kernel_rfl) (by kernel_rfl) (by kernel_rfl) (fun _ _ _ h=>h) (Or.inl ⟨by rfl,?_⟩) (by assumption) ?_
      rotate_left
      ·intro w hSw
       go_simp
       with_reducible rfl
      try simp only [Act.put,List.getElem_toArray,List.getElem_cons_zero,List.getElem_cons_succ,List.setIfInBounds_toArray,List.set_cons_zero,List.set_cons_succ]
      refine wpAnyH_ready (rs:=[7]) (by kernel_rfl) (by simp) ?_
      refine AllReadyH.cons rfl (fun K hK=>?_) ?_
      ·have e4:=Bv.cell 4 _ rfl
       have l4:=Bv.lt
       have f4:=Bv.frozen 4
       go_simp
       refine hK.out _ _ ?_ (fun hHeld2=>?_)
       ·exact KT1.out _
       ·clear hK K
        try clear hHeld
        have hHeld:=hHeld2
        clear hHeld2
        try simp only [Act.put,List.getElem_toArray,List.getElem_cons_zero,List.getElem_cons_succ,List.setIfInBounds_toArray,List.set_cons_zero,List.set_cons_succ]
        clear e4 l4 f4
        replace Bv:Blk (w9.setCell ⟨gt,4,none⟩ (Value.slice ka9 (i + 1) kc9)) gt [.int .i64 0,.int .i64 16,.bool true,.slice none 0 0,Value.slice ka9 (i + 1) kc9]:=Bv.set 4 _
        replace HR:Hid (RwS (fun b=>b≠gt∧b≠w.heap.size + 1) (w9.setCell ⟨gt,4,none⟩ (Value.slice ka9 (i + 1) kc9)) (Value.slice ka9 (i + 1) kc9) (((kidsM m).take i)++[Tl.mk 0 2 false X []])):=RwS.cell HR.out (fun h=>h.1 rfl) (fun e=>by have:=(HOw.out _ e).1;have:=HLt.out;omega)
        replace R0:=R0.other ⟨gt,4,none⟩ (Value.slice ka9 (i + 1) kc9) (by show _≠gt;have:=HLt.out;omega)
        replace Bl:=Bl.other ⟨gt,4,none⟩ (Value.slice ka9 (i + 1) kc9) (by show _≠gt;have:=HLt.out;omega)
        replace B0:=B0.other ⟨gt,4,none⟩ (Value.slice ka9 (i + 1) kc9) (by show _≠gt;have:=HLt.out;omega)
        replace bel:Below w.heap.size w (w9.setCell ⟨gt,4,none⟩ (Value.slice ka9 (i + 1) kc9)):=bel.setCell (by show _≤gt;have:=HLt.out;omega) _
        replace hsz9:M≤(w9.setCell ⟨gt,4,none⟩ (Value.slice ka9 (i + 1) kc9)).heap.size:=Nat.le_trans (show M≤w9.heap.size by omega) ((Below.refl 0 w9).setCell (Nat.zero_le _) (Value.slice ka9 (i + 1) kc9)).size
        generalize (w9.setCell ⟨gt,4,none⟩ (Value.slice ka9 (i + 1) kc9))=w10 at *
        refine wpAnyH_done (by kernel_rfl) ?_ _
        refine NoPanic.normal ?_
        try clear hHeld
        have HNx:Hid (RwS (fun b=>b≠gt∧b≠w.heap.size + 1) w10 (Value.slice ka9 (i + 1) kc9) ((kidsM m).take (i + 1))):=by
         have h:=HR.out
         rw [take_nextM (by rw [kidsM_num HX.out,HTm.out];rfl)] at h
         exact h
        have HAn:Hid (∀ j x,j < i + 1→(numsM m)[j]?=some x→∃ T,smlT x=some T):=fun j y hj hy=>by
         by_cases e:j < i
         ·exact HA.out j y e hy
         ·obtain rfl:j=i:=by omega
          rw [HX.out] at hy
          cases hy
          exact ⟨_,HTm.out⟩
        go_wp2_with fail
        go_roundw
        case rel=>exact ⟨i + 1,ka9,kc9,by omega,by go_num,Bv,HNx,HOw,HAn,Bl,B0,R0,bel,by omega⟩
        case measure=>simp [intOf];omega
      exact AllReadyH.nil
    exact AllReadyH.nil
end Go.Proofs.Ytnkipgbnnhahbaa
