/- The program's Text of layer 13. The kinds that there are, and their identifiers: what the program answers. Elements made and looked at: what the program answers. A part's element: what the program answers. -/
import Derived.Test.YtohcdbifhnfcbaaGreatDoorPmOidN
import Derived.Test.YtohcdbifhnfcbaaGreatDoorDrTG
import Derived.Test.YtohcdbifhnfcbaaGreatDoorClWr
import Derived.Test.YtohcdbifhnfcbaaGreatDoorDrDG
import Derived.Test.YtohcdbifhnfcbaaGreatDoorDcG1
import Derived.Test.YtohcdbifhnfcbaaGreatDoorPrOidOf
import Derived.Test.YtohcdbifhnfcbaaGreatDoorRows
import Derived.Deep.OwnRows
import Derived.Deep.AppendLies
import Derived.Great.BuildSlice
import Derived.Deep.WholeRow
import Derived.Deep.RegionHeld3
import Derived.Deep.DeepCutAuto
import Derived.Deep.DeepFit
import Derived.Laws.Rows
import Derived.BigQuiet
namespace Go.Proofs.YtohcdbifhnfcbaaGreatDoor
open Go.RowKit
set_option linter.unusedSimpArgs false
set_option maxRecDepth 100000
set_option maxHeartbeats 2000000
theorem con_Text {v:Value} {B:List Int} {w:World} (hv:Bs w v B) (b:byt B) :
  Calls Tryz.prog 125 #[v] w fun e w'=>(∀ n,textP B=.ok n→e=.returned (.tuple #[.string (strOfNums n),.nilIface])∧Below w.heap.size w w')∧(∀ c,textP B=.error c→e=.returned (.tuple #[.string (strOfNums []),.iface 46 (.int .i64 (c:Int))])∧Below w.heap.size w w'):=by
 have cv:=conv_any hv
 have HB:Hid (byt B):=b
 obtain ⟨ao,cap,rfl,h1,h2,h3⟩:=hv
 obtain ⟨N,hN⟩:∃ N,B.length=N:=⟨_,rfl⟩
 have HN:Hid (B.length=N):=hN
 rw [hN] at h2 h3 cv ⊢
 have HC:Hid (∀ j,j < N→∃ g o,ao=some ⟨g,o,none⟩∧w.cell? ⟨g,o + j,none⟩=some (.int .u8 (B.getD j 0))∧g < w.heap.size):=fun j hj=>by
  obtain ⟨g,o,e1,e2,e3⟩:=h3 (by omega)
  exact ⟨g,o,e1,e3 j hj,e2⟩
 unfold maxLen at h1
 clear b h3 hN
 by_cases c0:64 < N
 ·have H:Hid (textP B=.error 2):=by show _=_;unfold textP;rw [if_pos (by rw [HN.out];exact c0)]
  have g0:(64:Int) < (N:Int):=by omega
  go_enter Tryz.func125,Tryz.ntmps125
  go_wp2_with fail
  refine bodyPost_ret (results_tmp2 rfl _ _ _) rfl ?_
  exact ⟨fun n h=>(by rw [H.out] at h;cases h),fun c h=>(by rw [H.out] at h;cases h;exact ⟨rfl,Below.refl _ _⟩)⟩
 have g0:¬ (64:Int) < (N:Int):=by omega
 by_cases c1:N=0
 ·have H:Hid (textP B=.error 7):=by show _=_;unfold textP;rw [if_neg (by rw [HN.out];exact c0),if_pos (by rw [HN.out];exact c1)]
  have g1:(N:Int)=0:=by omega
  go_enter Tryz.func125,Tryz.ntmps125
  go_wp2_with fail
  refine bodyPost_ret (results_tmp2 rfl _ _ _) rfl ?_
  exact ⟨fun n h=>(by rw [H.out] at h;cases h),fun c h=>(by rw [H.out] at h;cases h;exact ⟨rfl,Below.refl _ _⟩)⟩
 have g1:¬ (N:Int)=0:=by omega
 have H0:Hid (textP B=if ∃ j,j < N∧(B.getD j 0 < 32∨126 < B.getD j 0) then .error 7 else .ok B):=by show _=_;unfold textP;rw [HN.out,if_neg c0,if_neg c1]
 go_enter Tryz.func125,Tryz.ntmps125
 go_wp2_with fail
 go_loop [16] (fun iv=>∃ (i:Nat),i≤N∧iv=.int .i64 (i:Int)∧Hid (∀ j,j < i→¬ (B.getD j 0 < 32∨126 < B.getD j 0))) (fun iv=>N - (intOf iv).toNat)
 case atStart=>exact ⟨0,by omega,rfl,fun j h=>absurd h (by omega)⟩
 case round =>
  obtain ⟨i,hi,rfl,HE⟩:=hrel
  by_cases hil:i < N
  ·have k1:(i:Int) < (N:Int):=by omega
   have k2:(0:Int)≤(i:Int):=by omega
   have gi:IntKind.i64.wrap ((i:Int) + 1)=(i:Int) + 1:=by rw [IntKind.wrap_i64];omega
   obtain ⟨g,o,rfl,cy,lg⟩:=HC.out i hil
   have yb:=HB.out i
   obtain ⟨y,hy⟩:∃ y,B.getD i 0=y:=⟨_,rfl⟩
   have HY:Hid (B.getD i 0=y):=hy
   rw [hy] at cy yb
   clear hy
   by_cases d1:y < 32
   ·have H:Hid (textP B=.error 7):=by show _=_;rw [H0.out,if_pos ⟨i,hil,.inl (by rw [HY.out];exact d1)⟩]
    go_wp2_with fail
    refine bodyPost_ret (results_tmp2 rfl _ _ _) rfl ?_
    exact ⟨fun n h=>(by rw [H.out] at h;cases h),fun c h=>(by rw [H.out] at h;cases h;exact ⟨rfl,Below.refl _ _⟩)⟩
   by_cases d2:126 < y
   ·have H:Hid (textP B=.error 7):=by show _=_;rw [H0.out,if_pos ⟨i,hil,.inr (by rw [HY.out];exact d2)⟩]
    go_wp2_with fail
    refine bodyPost_ret (results_tmp2 rfl _ _ _) rfl ?_
    exact ⟨fun n h=>(by rw [H.out] at h;cases h),fun c h=>(by rw [H.out] at h;cases h;exact ⟨rfl,Below.refl _ _⟩)⟩
   have HE2:Hid (∀ j,j < i + 1→¬ (B.getD j 0 < 32∨126 < B.getD j 0)):=fun j hj=>by
    by_cases hji:j < i
    ·exact HE.out j hji
    ·obtain rfl:j=i:=by omega
     rw [HY.out];omega
   go_wp2_with fail
   go_round
   case rel=>exact ⟨i + 1,by omega,by go_num,HE2⟩
   case measure=>simp [intOf];omega
  ·have k1:¬ (i:Int) < (N:Int):=by omega
   have H:Hid (textP B=.ok B):=by
    show _=_
    rw [H0.out,if_neg (by rintro ⟨j,hj,h⟩;exact HE.out j (by omega) h)]
   go_wp2_with fail
   refine bodyPost_ret (results_tmp2 rfl _ _ _) rfl ?_
   exact ⟨fun n h=>(by rw [H.out] at h;cases h;exact ⟨rfl,Below.refl _ _⟩),fun c h=>(by rw [H.out] at h;cases h)⟩
theorem c16_isKind {k:Int} {w:World}:Calls Tryz.prog 124 #[.int .i64 k] w fun e w'=>e=.returned (.bool (kindN k))∧w'=w:=by
 have e3:(k == 3)=decide (k=3):=rfl
 have e6:(k == 6)=decide (k=6):=rfl
 have e10:(k == 10)=decide (k=10):=rfl
 have e11:(k == 11)=decide (k=11):=rfl
 have HK:Hid (kindN k=(decide (k=3) || decide (k=6) || decide (k=10) || decide (k=11))):=rfl
 generalize decide (k=3)=b3 at *
 generalize decide (k=6)=b6 at *
 generalize decide (k=10)=b10 at *
 generalize decide (k=11)=b11 at *
 go_enter Tryz.func124,Tryz.ntmps124
 cases b3
 ·cases b6
  ·cases b10
   ·cases b11
    ·go_wp2_with fail
     go_ret
     exact ⟨by rw [HK.out];rfl,rfl⟩
    ·go_wp2_with fail
     go_ret
     exact ⟨by rw [HK.out];rfl,rfl⟩
   ·go_wp2_with fail
    go_ret
    exact ⟨by rw [HK.out];rfl,rfl⟩
  ·go_wp2_with fail
   go_ret
   exact ⟨by rw [HK.out];rfl,rfl⟩
 ·go_wp2_with fail
  go_ret
  exact ⟨by rw [HK.out];rfl,rfl⟩
theorem c16_kindId {k:Int} {w:World}:Calls Tryz.prog 123 #[.int .i64 k] w fun e w'=>∃ g,e=.returned (.slice (some ⟨g,0,none⟩) 4 4)∧w.heap.size≤g∧Us w' (.slice (some ⟨g,0,none⟩) 4 4) [2,5,4,IntKind.u64.wrap k]∧Below w.heap.size w w':=by
 obtain ⟨u,hu⟩:∃ u,IntKind.u64.wrap k=u:=⟨_,rfl⟩
 rw [hu]
 go_enter Tryz.func123,Tryz.ntmps123
 go_wp2_with fail
 go_ret
 exact ⟨w.heap.size,rfl,Nat.le_refl _,us_blk (Blk.new w (us [2,5,4,u]) 27 w.heap.size rfl) rfl (by decide),(Below.refl _ _).alloc (Nat.le_refl _) _⟩
theorem ne_codeL (c:Int):∀ w:World,(binOp .neq 35 (.iface 46 (.int .i64 c)) .nilIface).run Tryz.prog w=.ok (.bool true) w:=fun _=>by kernel_rfl
theorem ne_nilL:∀ w:World,(binOp .neq 35 .nilIface .nilIface).run Tryz.prog w=.ok (.bool false) w:=fun _=>by kernel_rfl
theorem c16_made {t:Int} {ka:Option Addr} {n kc:Nat} {w:World}:Calls Tryz.prog 92 #[.int .i64 t,.slice ka n kc] w fun e w'=>e=.returned (.agg #[.int .i64 0,.int .i64 t,.bool true,.slice none 0 0,.slice ka n kc])∧Below w.heap.size w w':=by
 have R0:=Blk.new w [.int .i64 0,.int .i64 0,.bool false,.slice none 0 0,.slice none 0 0] 53 w.heap.size rfl
 have bel:=bal w (.cells #[.int .i64 0,.int .i64 0,.bool false,.slice none 0 0,.slice none 0 0] 53)
 have hz:=zero_tlv.out
 go_enter Tryz.func92,Tryz.ntmps92
 go_upto_region 1 with fail
 have lW:=bel.size
 generalize w.alloc (.cells #[.int .i64 0,.int .i64 0,.bool false,.slice none 0 0,.slice none 0 0] 53)=W at *
 obtain ⟨tR,hR⟩:=R0
 have HR1:Hid _:=hR
 clear hR
 go_wp2_with (first|((with_reducible show wpList _ _ _ ({ dst:=_,op:=.store _ _ _,type:=_,pos:=_,after:=_,guard:=_ } :: _) _ _);refine wpList_store_row rfl 53 _ _ rfl w.heap.size #[.int .i64 0,.int .i64 t,.bool true,.slice none 0 0,.slice ka n kc] rfl rfl tR _ HR1.out (by rw [size_tlv];rfl) rfl (by simp [Value.oneCell']) ?_)|fail)
 refine bodyPost_ret (results_cell_row rfl _ _ w.heap.size tR #[.int .i64 0,.int .i64 t,.bool true,.slice none 0 0,.slice ka n kc] (0,0) _ rfl (setRow_heap _ _ _ _ _ _ HR1.out) Tryz.underlying53 rfl (by rw [size_tlv];rfl)) rfl ?_
 exact ⟨rfl,below_setRow bel (by omega) _⟩
theorem c16_plain {t:Int} {ka:Option Addr} {n kc:Nat} {w:World}:Calls Tryz.prog 126 #[.int .i64 t,.slice ka n kc] w fun e w'=>e=.returned (.agg #[.int .i64 0,.int .i64 t,.bool false,.slice ka n kc,.slice none 0 0])∧Below w.heap.size w w':=by
 have R0:=Blk.new w [.int .i64 0,.int .i64 0,.bool false,.slice none 0 0,.slice none 0 0] 53 w.heap.size rfl
 have bel:=bal w (.cells #[.int .i64 0,.int .i64 0,.bool false,.slice none 0 0,.slice none 0 0] 53)
 have hz:=zero_tlv.out
 go_enter Tryz.func126,Tryz.ntmps126
 go_upto_region 1 with fail
 have lW:=bel.size
 generalize w.alloc (.cells #[.int .i64 0,.int .i64 0,.bool false,.slice none 0 0,.slice none 0 0] 53)=W at *
 obtain ⟨tR,hR⟩:=R0
 have HR1:Hid _:=hR
 clear hR
 go_wp2_with (first|((with_reducible show wpList _ _ _ ({ dst:=_,op:=.store _ _ _,type:=_,pos:=_,after:=_,guard:=_ } :: _) _ _);refine wpList_store_row rfl 53 _ _ rfl w.heap.size #[.int .i64 0,.int .i64 t,.bool false,.slice ka n kc,.slice none 0 0] rfl rfl tR _ HR1.out (by rw [size_tlv];rfl) rfl (by simp [Value.oneCell']) ?_)|fail)
 refine bodyPost_ret (results_cell_row rfl _ _ w.heap.size tR #[.int .i64 0,.int .i64 t,.bool false,.slice ka n kc,.slice none 0 0] (0,0) _ rfl (setRow_heap _ _ _ _ _ _ HR1.out) Tryz.underlying53 rfl (by rw [size_tlv];rfl)) rfl ?_
 exact ⟨rfl,below_setRow bel (by omega) _⟩
/-- is it made of others, and holds no bytes? holds it bytes, and no others? -/
def madeB (tg:Int):Tl→Bool
 | .mk c t m b _=>decide (c=0∧t=tg∧m=true∧b.length=0)
def plainB (tg:Int):Tl→Bool
 | .mk c t m _ ks=>decide (c=0∧t=tg∧m=false∧ks.length=0)
theorem c16_isMade {c t tg:Int} {m:Bool} {b:List Int} {ks:List Tl} {cs:List Value} {w:World} (h:TlAt w (.mk c t m b ks) cs) :
  Calls Tryz.prog 106 #[.agg cs.toArray,.int .i64 tg] w fun e w'=>e=.returned (.bool (madeB tg (.mk c t m b ks)))∧Below w.heap.size w w':=by
 rw [TlAt] at h
 obtain ⟨bv,ka,kc,rfl,hbv,-,-,-⟩:=h
 obtain ⟨ba,bc,rfl,-,-,-⟩:=hbv
 obtain ⟨N,hN⟩:∃ N,b.length=N:=⟨_,rfl⟩
 obtain ⟨K,hK⟩:∃ K,ks.length=K:=⟨_,rfl⟩
 have HN:Hid (b.length=N):=hN
 have HK:Hid (ks.length=K):=hK
 rw [hN,hK]
 clear hN hK
 have B0:=Blk.new w [.int .i64 c,.int .i64 t,.bool m,.slice ba N bc,.slice ka K kc] 53 w.heap.size rfl
 have bel:=bal w (.cells #[.int .i64 c,.int .i64 t,.bool m,.slice ba N bc,.slice ka K kc] 53)
 go_enter Tryz.func106,Tryz.ntmps106
 go_upto_region 1 with fail
 generalize w.alloc (.cells #[.int .i64 c,.int .i64 t,.bool m,.slice ba N bc,.slice ka K kc] 53)=W at *
 have e0:=B0.cell 0 _ rfl
 have e1:=B0.cell 1 _ rfl
 have e2:=B0.cell 2 _ rfl
 have e3:=B0.cell 3 _ rfl
 have e4:=B0.cell 4 _ rfl
 have lt0:=B0.lt
 by_cases c1:c=0
 rotate_left
 ·have H:Hid (madeB tg (.mk c t m b ks)=false):=decide_eq_false (fun h=>c1 h.1)
  have d1:(c == 0)=false:=by rw [beq_eq_false_iff_ne];exact c1
  clear c1
  go_wp2_with fail
  go_ret
  exact ⟨by rw [H.out];rfl,bel⟩
 subst c1
 by_cases c2:t=tg
 rotate_left
 ·have H:Hid (madeB tg (.mk 0 t m b ks)=false):=decide_eq_false (fun h=>c2 h.2.1)
  have d2:(t == tg)=false:=by rw [beq_eq_false_iff_ne];exact c2
  clear c2
  go_wp2_with fail
  go_ret
  exact ⟨by rw [H.out];rfl,bel⟩
 subst c2
 have d2:(t == t)=true:=beq_self_eq_true _
 by_cases c3:m=true
 rotate_left
 ·have H:Hid (madeB t (.mk 0 t m b ks)=false):=decide_eq_false (fun h=>c3 h.2.2.1)
  obtain rfl:m=!true:=by cases m<;>simp_all
  clear c3
  go_wp2_with fail
  go_ret
  exact ⟨by rw [H.out];rfl,bel⟩
 subst c3
 by_cases c4:N=0
 ·have H:Hid (madeB t (.mk 0 t true b ks)=true):=decide_eq_true ⟨rfl,rfl,rfl,by rw [HN.out,c4]⟩
  have d4:((N:Int) == 0)=true:=by rw [c4];rfl
  clear c4
  go_wp2_with fail
  go_ret
  exact ⟨by rw [H.out];rfl,bel⟩
 ·have H:Hid (madeB t (.mk 0 t true b ks)=false):=decide_eq_false (fun h=>c4 (by rw [← HN.out];exact h.2.2.2))
  have d4:((N:Int) == 0)=false:=by rw [beq_eq_false_iff_ne];omega
  clear c4
  go_wp2_with fail
  go_ret
  exact ⟨by rw [H.out];rfl,bel⟩
theorem c16_isPlain {c t tg:Int} {m:Bool} {b:List Int} {ks:List Tl} {cs:List Value} {w:World} (h:TlAt w (.mk c t m b ks) cs) :
  Calls Tryz.prog 135 #[.agg cs.toArray,.int .i64 tg] w fun e w'=>e=.returned (.bool (plainB tg (.mk c t m b ks)))∧Below w.heap.size w w':=by
 rw [TlAt] at h
 obtain ⟨bv,ka,kc,rfl,hbv,-,-,-⟩:=h
 obtain ⟨ba,bc,rfl,-,-,-⟩:=hbv
 obtain ⟨N,hN⟩:∃ N,b.length=N:=⟨_,rfl⟩
 obtain ⟨K,hK⟩:∃ K,ks.length=K:=⟨_,rfl⟩
 have HN:Hid (b.length=N):=hN
 have HK:Hid (ks.length=K):=hK
 rw [hN,hK]
 clear hN hK
 have B0:=Blk.new w [.int .i64 c,.int .i64 t,.bool m,.slice ba N bc,.slice ka K kc] 53 w.heap.size rfl
 have bel:=bal w (.cells #[.int .i64 c,.int .i64 t,.bool m,.slice ba N bc,.slice ka K kc] 53)
 go_enter Tryz.func135,Tryz.ntmps135
 go_upto_region 1 with fail
 generalize w.alloc (.cells #[.int .i64 c,.int .i64 t,.bool m,.slice ba N bc,.slice ka K kc] 53)=W at *
 have e0:=B0.cell 0 _ rfl
 have e1:=B0.cell 1 _ rfl
 have e2:=B0.cell 2 _ rfl
 have e3:=B0.cell 3 _ rfl
 have e4:=B0.cell 4 _ rfl
 have lt0:=B0.lt
 by_cases c1:c=0
 rotate_left
 ·have H:Hid (plainB tg (.mk c t m b ks)=false):=decide_eq_false (fun h=>c1 h.1)
  have d1:(c == 0)=false:=by rw [beq_eq_false_iff_ne];exact c1
  clear c1
  go_wp2_with fail
  go_ret
  exact ⟨by rw [H.out];rfl,bel⟩
 subst c1
 by_cases c2:t=tg
 rotate_left
 ·have H:Hid (plainB tg (.mk 0 t m b ks)=false):=decide_eq_false (fun h=>c2 h.2.1)
  have d2:(t == tg)=false:=by rw [beq_eq_false_iff_ne];exact c2
  clear c2
  go_wp2_with fail
  go_ret
  exact ⟨by rw [H.out];rfl,bel⟩
 subst c2
 have d2:(t == t)=true:=beq_self_eq_true _
 by_cases c3:m=false
 rotate_left
 ·have H:Hid (plainB t (.mk 0 t m b ks)=false):=decide_eq_false (fun h=>c3 h.2.2.1)
  obtain rfl:m=!false:=by cases m<;>simp_all
  clear c3
  go_wp2_with fail
  go_ret
  exact ⟨by rw [H.out];rfl,bel⟩
 subst c3
 by_cases c4:K=0
 ·have H:Hid (plainB t (.mk 0 t false b ks)=true):=decide_eq_true ⟨rfl,rfl,rfl,by rw [HK.out,c4]⟩
  have d4:((K:Int) == 0)=true:=by rw [c4];rfl
  clear c4
  go_wp2_with fail
  go_ret
  exact ⟨by rw [H.out];rfl,bel⟩
 ·have H:Hid (plainB t (.mk 0 t false b ks)=false):=decide_eq_false (fun h=>c4 (by rw [← HK.out];exact h.2.2.2))
  have d4:((K:Int) == 0)=false:=by rw [beq_eq_false_iff_ne];omega
  clear c4
  go_wp2_with fail
  go_ret
  exact ⟨by rw [H.out];rfl,bel⟩
/-- a text that may be one -/
def textL (B:List Int):Bool:=match textP B with|.ok _=>true|.error _=>false
/-- what setOf tells -/
def SetR (w:World) (p:Pn) (e:Ending) (w':World):Prop:=Below w.heap.size w w'∧(partN p=false→e=.returned (.tuple #[.agg #[.int .i64 0,.int .i64 0,.bool false,.slice none 0 0,.slice none 0 0],.iface 46 (.int .i64 1)]))∧(partN p=true→∃ cs:List Value,e=.returned (.tuple #[.agg cs.toArray,.nilIface])∧Dep (fun b=>w.heap.size≤b) w' (setN p) cs)
theorem SetR.bad {w w':World} {p:Pn} (h:partN p=false) (hb:Below w.heap.size w w'):SetR w p (.returned (.tuple #[.agg #[.int .i64 0,.int .i64 0,.bool false,.slice none 0 0,.slice none 0 0],.iface 46 (.int .i64 1)])) w':=⟨hb,fun _=>rfl,fun k=>(by rw [h] at k;cases k)⟩
theorem SetR.ok {w w':World} {p:Pn} {cs:List Value} (h:partN p=true) (hd:Dep (fun b=>w.heap.size≤b) w' (setN p) cs) (hb:Below w.heap.size w w'):SetR w p (.returned (.tuple #[.agg cs.toArray,.nilIface])) w':=⟨hb,fun k=>(by rw [h] at k;cases k),fun _=>⟨cs,rfl,hd⟩⟩
theorem kind_small {k:Int} (h:kindN k=true):k=3∨k=6∨k=10∨k=11:=by
 unfold kindN at h
 simp only [Bool.or_eq_true,decide_eq_true_eq] at h
 omega
theorem kind_wrap {k:Int} (h:kindN k=true):IntKind.u64.wrap k=k:=by
 have:=kind_small h
 rw [IntKind.wrap_u64]
 omega
theorem kind_oid {k:Int} (h:kindN k=true):oidOf [2,5,4,k]=.ok [85,4,k]:=by
 have n4:∀ {x:Int},x < 100→¬ ∃ j,j < [2,5,4,x].length∧4294967295 < [2,5,4,x].getD j 0:=by
  rintro x hx ⟨j,h1,h2⟩
  match j,h1,h2 with
  | 0,_,h2=>exact absurd (show (4294967295:Int) < 2 from h2) (by decide)
  | 1,_,h2=>exact absurd (show (4294967295:Int) < 5 from h2) (by decide)
  | 2,_,h2=>exact absurd (show (4294967295:Int) < 4 from h2) (by decide)
  | 3,_,h2 =>
   have h3:4294967295 < x:=h2
   omega
  | j + 4,h1,_ =>
   have h3:j + 4 < 4:=h1
   omega
 have hk:=kind_small h
 unfold oidOf
 rw [if_neg (by simp),if_neg (n4 (by omega))]
 rcases hk with rfl|rfl|rfl|rfl<;>rfl
theorem kind_wrd {k:Int}:wrd [2,5,4,IntKind.u64.wrap k]:=wrd_mem (by
 intro x hx
 simp only [List.mem_cons,List.not_mem_nil,or_false] at hx
 rcases hx with rfl|rfl|rfl|rfl
 ·decide
 ·decide
 ·decide
 ·rw [IntKind.wrap_u64];omega)
theorem part_text {k:Int} {s:List Int} (h:kindN k=true):partN (k,s)=textL s:=by
 show (kindN k && _)=_
 rw [h];rfl
theorem c16_plainL {t:Int} {ka:Option Addr} {n kc:Nat} {w:World}:Calls Tryz.prog 126 #[.int .i64 t,.slice ka n kc] w fun e w'=>∃ cs:List Value,e=.returned (.agg cs.toArray)∧Hid (cs=[.int .i64 0,.int .i64 t,.bool false,.slice ka n kc,.slice none 0 0])∧Below w.heap.size w w':=c16_plain.mono (fun _ _ ⟨h,hb⟩=>⟨_,h,rfl,hb⟩)
theorem c16_madeL {t:Int} {ka:Option Addr} {n kc:Nat} {w:World}:Calls Tryz.prog 92 #[.int .i64 t,.slice ka n kc] w fun e w'=>∃ cs:List Value,e=.returned (.agg cs.toArray)∧Hid (cs=[.int .i64 0,.int .i64 t,.bool true,.slice none 0 0,.slice ka n kc])∧Below w.heap.size w w':=c16_made.mono (fun _ _ ⟨h,hb⟩=>⟨_,h,rfl,hb⟩)
theorem c16_setOf {k:Int} {s:List Int} {w:World} (hk:-9223372036854775808≤k∧k < 9223372036854775808) (hs:byt s) (hl:s.length≤maxLen) :
  Calls Tryz.prog 91 #[.agg #[.int .i64 k,.string (strOfNums s)]] w (SetR w (k,s)):=by
 have HKr:Hid (-9223372036854775808≤k∧k < 9223372036854775808):=hk
 have HY:Hid (byt s):=hs
 have HLs:Hid (s.length≤maxLen):=hl
 obtain ⟨s9,hs9⟩:∃ z,strOfNums s=z:=⟨_,rfl⟩
 have HS9:Hid (strOfNums s=s9):=hs9
 rw [hs9]
 clear hk hs hl hs9
 have P0:=(Blk.new w [.int .i64 k,.string s9] 106 w.heap.size rfl).alloc (.cells #[.int .i64 0,.int .i64 0,.bool false,.slice none 0 0,.slice none 0 0] 53)
 have R0:=Blk.new (w.alloc (.cells #[.int .i64 k,.string s9] 106)) [.int .i64 0,.int .i64 0,.bool false,.slice none 0 0,.slice none 0 0] 53 (w.heap.size + 1) (by simp)
 have bel:Below w.heap.size w ((w.alloc (.cells #[.int .i64 k,.string s9] 106)).alloc (.cells #[.int .i64 0,.int .i64 0,.bool false,.slice none 0 0,.slice none 0 0] 53)):=((Below.refl _ _).alloc (Nat.le_refl _) _).alloc (by simp) _
 have hz:=zero_tlv.out
 go_enter Tryz.func91,Tryz.ntmps91
 go_upto_region 1 with fail
 have lW:=bel.size
 generalize (w.alloc (.cells #[.int .i64 k,.string s9] 106)).alloc (.cells #[.int .i64 0,.int .i64 0,.bool false,.slice none 0 0,.slice none 0 0] 53)=W at *
 have lR:=R0.lt
 obtain ⟨N0,hN0⟩:∃ n,n=W.heap.size:=⟨_,rfl⟩
 rw [← hN0] at lR lW
 clear hz
 obtain ⟨jt,hjt,ht0,ht1,ht2⟩:=info_partsD info_tlv

 have e0:=P0.cell 0 _ rfl
 have e1:=P0.cell 1 _ rfl
 have l0:=P0.lt
 go_wp2_with fail
 refine c16_kindId.mono ?_
 rintro e w1 ⟨g,rfl,hg,hu,hb⟩
 have HU:Hid _:=hu
 clear hu hg e0 e1 l0
 replace P0:=P0.later hb
 replace R0:=R0.later hb
 have st:Below W.heap.size W w1:=hb
 replace bel:=below_step bel hb
 clear hb
 go_wp2_with fail
 refine (con_OidOf HU.out kind_wrd).mono ?_
 rintro e w2 ⟨hok,hbad⟩
 by_cases hkd:kindN k=true
 rotate_left
 ·have H:Hid (partN (k,s)=false):=by show (kindN k && _)=false;rw [Bool.not_eq_true] at hkd;rw [hkd];rfl
  have HKd:Hid (kindN k=false):=by rw [Bool.not_eq_true] at hkd;exact hkd
  cases ho:oidOf [2,5,4,IntKind.u64.wrap k] with
  | ok n =>
   obtain ⟨v1,rfl,-,-,hb⟩:=hok n ho
   clear hok hbad hkd ho HU
   replace P0:=P0.later hb
   replace R0:=R0.later hb
   replace bel:=below_step bel hb
   clear hb
   have q:=ne_nilL
   have e0:=P0.cell 0 _ rfl
   have e1:=P0.cell 1 _ rfl
   have l0:=P0.lt
   go_wp2_with fail
   refine c16_isKind.mono ?_
   rintro e w3 ⟨rfl,hw3⟩
   rw [hw3,HKd.out]
   clear hw3
   have hz:=zero_tlv.out
   obtain ⟨tR,hR⟩:=R0
   have HR1:Hid _:=hR
   clear hR
   go_wp2_with (first|((with_reducible show wpList _ _ _ ({ dst:=_,op:=.store _ _ _,type:=_,pos:=_,after:=_,guard:=_ } :: _) _ _);refine wpList_store_row rfl 53 _ _ rfl (w.heap.size + 1) #[.int .i64 0,.int .i64 0,.bool false,.slice none 0 0,.slice none 0 0] rfl rfl tR _ HR1.out (by rw [size_tlv];rfl) rfl (by simp [Value.oneCell']) ?_)|fail)
   refine bodyPost_ret (results_row_tmp rfl _ _ (w.heap.size + 1) tR #[.int .i64 0,.int .i64 0,.bool false,.slice none 0 0,.slice none 0 0] (0,0) _ rfl (setRow_heap _ _ _ _ _ _ HR1.out) Tryz.underlying53 rfl (by rw [size_tlv];rfl)) rfl ?_
   exact SetR.bad H.out (below_setRow bel (by omega) _)
  | error c =>
   obtain ⟨va,vc,rfl,hb⟩:=hbad c ho
   clear hok hbad hkd ho HU
   replace P0:=P0.later hb
   replace R0:=R0.later hb
   replace bel:=below_step bel hb
   clear hb
   have q:=ne_codeL (c:Int)
   have hz:=zero_tlv.out
   obtain ⟨tR,hR⟩:=R0
   have HR1:Hid _:=hR
   clear hR
   go_wp2_with (first|((with_reducible show wpList _ _ _ ({ dst:=_,op:=.store _ _ _,type:=_,pos:=_,after:=_,guard:=_ } :: _) _ _);refine wpList_store_row rfl 53 _ _ rfl (w.heap.size + 1) #[.int .i64 0,.int .i64 0,.bool false,.slice none 0 0,.slice none 0 0] rfl rfl tR _ HR1.out (by rw [size_tlv];rfl) rfl (by simp [Value.oneCell']) ?_)|fail)
   refine bodyPost_ret (results_row_tmp rfl _ _ (w.heap.size + 1) tR #[.int .i64 0,.int .i64 0,.bool false,.slice none 0 0,.slice none 0 0] (0,0) _ rfl (setRow_heap _ _ _ _ _ _ HR1.out) Tryz.underlying53 rfl (by rw [size_tlv];rfl)) rfl ?_
   exact SetR.bad H.out (below_setRow bel (by omega) _)
 obtain ⟨v1,rfl,hv1,hn1,hb⟩:=hok [85,4,k] (by rw [kind_wrap hkd];exact kind_oid hkd)
 have HKd:Hid (kindN k=true):=hkd
 have HB1:Hid (Bs w2 v1 [85,4,k]):=hv1
 have HN1:Hid (NewV W v1):=fun a m c e h0=>Nat.le_trans st.size (hn1 a m c e h0)
 obtain ⟨va,vc,hv,-,-,-⟩:=id hv1
 replace hv:v1=.slice va 3 vc:=hv
 subst hv
 clear hok hbad hkd HU hv1 hn1
 replace P0:=P0.later hb
 replace R0:=R0.later hb
 replace st:=below_step st hb
 replace bel:=below_step bel hb
 clear hb
 have q:=ne_nilL
 have e0:=P0.cell 0 _ rfl
 have e1:=P0.cell 1 _ rfl
 have l0:=P0.lt
 go_wp2_with fail
 refine c16_isKind.mono ?_
 rintro e w3 ⟨rfl,hw3⟩
 rw [hw3,HKd.out]
 clear hw3
 obtain ⟨cap3,w3,hcv,hbs,hb⟩:=conv_text HY.out HLs.out w2
 rw [HS9.out] at hcv
 have HB3:Hid (Bs w3 (.slice (some ⟨w2.heap.size,0,none⟩) s.length cap3) s):=hbs
 have HN3:Hid (NewV W (.slice (some ⟨w2.heap.size,0,none⟩) s.length cap3)):=fun a m c e _=>by simp only [Value.slice.injEq,Option.some.injEq] at e;rw [← e.1];exact st.size
 replace HB1:=BsL HB1 hb
 obtain ⟨L,hL⟩:∃ L,s.length=L:=⟨_,rfl⟩
 rw [hL] at HB3 HN3 hcv
 clear hL hbs
 go_upto_region 5 with fail
 replace P0:=P0.later hb
 replace R0:=R0.later hb
 replace st:=below_step st hb
 replace bel:=below_step bel hb
 clear hb hcv e0 e1 l0
 obtain ⟨g3,hg3⟩:∃ g,g=w2.heap.size:=⟨_,rfl⟩
 rw [← hg3] at HB3 HN3 ⊢
 clear hg3
 go_wp2_with fail
 refine (con_Text HB3.out HY.out).mono ?_
 rintro e w4 ⟨hok,hbad⟩
 cases ht:textP s with
 | error c =>
  have H:Hid (partN (k,s)=false):=by rw [part_text HKd.out];show textL s=false;unfold textL;rw [ht]
  obtain ⟨rfl,hb⟩:=hbad c ht
  clear hok hbad ht q
  replace P0:=P0.later hb
  replace R0:=R0.later hb
  replace bel:=below_step bel hb
  clear hb
  have q:=ne_codeL (c:Int)
  have hz:=zero_tlv.out
  obtain ⟨tR,hR⟩:=R0
  have HR1:Hid _:=hR
  clear hR
  go_wp2_with (first|((with_reducible show wpList _ _ _ ({ dst:=_,op:=.store _ _ _,type:=_,pos:=_,after:=_,guard:=_ } :: _) _ _);refine wpList_store_row rfl 53 _ _ rfl (w.heap.size + 1) #[.int .i64 0,.int .i64 0,.bool false,.slice none 0 0,.slice none 0 0] rfl rfl tR _ HR1.out (by rw [size_tlv];rfl) rfl (by simp [Value.oneCell']) ?_)|fail)
  refine bodyPost_ret (results_row_tmp rfl _ _ (w.heap.size + 1) tR #[.int .i64 0,.int .i64 0,.bool false,.slice none 0 0,.slice none 0 0] (0,0) _ rfl (setRow_heap _ _ _ _ _ _ HR1.out) Tryz.underlying53 rfl (by rw [size_tlv];rfl)) rfl ?_
  exact SetR.bad H.out (below_setRow bel (by omega) _)
 | ok n =>
  have H:Hid (partN (k,s)=true):=by rw [part_text HKd.out];show textL s=true;unfold textL;rw [ht]
  obtain ⟨rfl,hb⟩:=hok n ht
  clear hok hbad ht
  replace P0:=P0.later hb
  replace R0:=R0.later hb
  replace HB1:=BsL HB1 hb
  replace HB3:=BsL HB3 hb
  replace st:=below_step st hb
  replace bel:=below_step bel hb
  clear hb
  go_wp2_with fail
  refine c16_plainL.mono ?_
  rintro e w5 ⟨cs,rfl,HC,hb⟩
  replace P0:=P0.later hb
  replace R0:=R0.later hb
  replace HB1:=BsL HB1 hb
  replace HB3:=BsL HB3 hb
  replace st:=below_step st hb
  replace bel:=below_step bel hb
  clear hb
  go_wp2_with fail
  refine c16_plainL.mono ?_
  rintro e w6 ⟨ds,rfl,HD,hb⟩
  replace P0:=P0.later hb
  replace R0:=R0.later hb
  replace HB1:=BsL HB1 hb
  replace HB3:=BsL HB3 hb
  replace st:=below_step st hb
  replace bel:=below_step bel hb
  clear hb
  have HLc:Hid (cs.length=5):=by rw [HC.out];rfl
  have HLd:Hid (ds.length=5):=by rw [HD.out];rfl
  have HE1:Hid (Dep (fun g=>N0≤g) w6 (.mk 0 6 false [85,4,k] []) cs):=by rw [HC.out,hN0];exact leaf_new HB1.out HN1.out 0 6 false
  have HE2:Hid (Dep (fun g=>N0≤g) w6 (.mk 0 12 false s []) ds):=by rw [HD.out,hN0];exact leaf_new HB3.out HN3.out 0 12 false
  have HT1:Hid (Dep (fun g=>N0≤g) (w6.alloc (.cells (cs++ds).toArray 53)) (.mk 0 16 true [] [.mk 0 6 false [85,4,k] [],.mk 0 12 false s []]) [.int .i64 0,.int .i64 16,.bool true,.slice none 0 0,.slice (some ⟨w6.heap.size,0,none⟩) 2 2]):=list_dep (ks:=[.mk 0 6 false [85,4,k] [],.mk 0 12 false s []]) (w:=w6) (N:=N0) (xs:=cs++ds) (by rw [List.length_append,HLc.out,HLd.out];rfl) (by rw [hN0];exact st.size) (show 2≤maxLen by decide) (two_kids (P:=Dep (fun g=>N0≤g) w6) HE1.out HE2.out HLc.out HLd.out) 0 16 true
  have HF:Hid _:=fill_10 HLc.out HLd.out
  clear HB1 HB3 HN1 HN3 HE1 HE2 HC HD
  replace R0:=R0.alloc (.cells (cs++ds).toArray 53)
  replace st:=below_alloc (o:=.cells (cs++ds).toArray 53) st
  replace bel:=below_alloc (o:=.cells (cs++ds).toArray 53) bel
  have hz:=zero_tlv.out
  go_wp2_with (first|((with_reducible show wpList _ _ _ ({ dst:=_,op:=.buildSlice _ _ _,type:=_,pos:=_,after:=_,guard:=_ } :: _) _ _);refine Go.wpList_buildSlice rfl 51 53 2 _ rfl (cs++ds).toArray jt _ Tryz.underlying51 hjt ht0 (by rw [ht1];decide) (by rw [ht1];decide) (by rw [ht1];refine (congrArg _ (?_:_=[(0,Value.agg cs.toArray),(1,Value.agg ds.toArray)])).trans HF.out;kernel_rfl) ?_)|fail)
  clear hz HF
  obtain ⟨g6,hg6⟩:∃ g,g=w6.heap.size:=⟨_,rfl⟩
  rw [← hg6] at HT1 ⊢
  generalize w6.alloc (.cells (cs++ds).toArray 53)=V6 at *
  clear hg6
  refine c16_madeL.mono ?_
  rintro e w7 ⟨es,rfl,HE,hb⟩
  have HLe:Hid (es.length=5):=by rw [HE.out];rfl
  have HE7:Hid (Dep (fun g=>N0≤g) w7 (.mk 0 16 true [] [.mk 0 6 false [85,4,k] [],.mk 0 12 false s []]) es):=by rw [HE.out];exact HT1.out.next (Agr.below hb) (fun _ h _=>h)
  replace R0:=R0.later hb
  replace st:=below_step st hb
  replace bel:=below_step bel hb
  clear hb HT1 HE
  have HT2:Hid (Dep (fun g=>N0≤g) (w7.alloc (.cells es.toArray 53)) (setN (k,s)) [.int .i64 0,.int .i64 17,.bool true,.slice none 0 0,.slice (some ⟨w7.heap.size,0,none⟩) 1 1]):=list_dep (ks:=[.mk 0 16 true [] [.mk 0 6 false [85,4,k] [],.mk 0 12 false s []]]) (w:=w7) (N:=N0) (xs:=es) HLe.out (by rw [hN0];exact st.size) (show 1≤maxLen by decide) (one_kid (P:=Dep (fun g=>N0≤g) w7) HE7.out HLe.out) 0 17 true
  have HF:Hid _:=fill_5 HLe.out
  replace R0:=R0.alloc (.cells es.toArray 53)
  replace bel:=below_alloc (o:=.cells es.toArray 53) bel
  have hz:=zero_tlv.out
  go_wp2_with (first|((with_reducible show wpList _ _ _ ({ dst:=_,op:=.buildSlice _ _ _,type:=_,pos:=_,after:=_,guard:=_ } :: _) _ _);refine Go.wpList_buildSlice rfl 51 53 1 _ rfl es.toArray jt _ Tryz.underlying51 hjt ht0 (by rw [ht1];decide) (by rw [ht1];decide) (by rw [ht1];refine (congrArg _ (?_:_=[(0,Value.agg es.toArray)])).trans HF.out;kernel_rfl) ?_)|fail)
  clear hz HF
  obtain ⟨g7,hg7⟩:∃ g,g=w7.heap.size:=⟨_,rfl⟩
  rw [← hg7] at HT2 ⊢
  generalize w7.alloc (.cells es.toArray 53)=V7 at *
  clear hg7 st HE7
  refine c16_made.mono ?_
  rintro e w8 ⟨rfl,hb⟩
  replace HT2:=dpl HT2 hb
  replace R0:=R0.later hb
  replace bel:=below_step bel hb
  clear hb
  obtain ⟨tR,hR⟩:=R0
  have HR1:Hid _:=hR
  clear hR
  go_wp2_with (first|((with_reducible show wpList _ _ _ ({ dst:=_,op:=.store _ _ _,type:=_,pos:=_,after:=_,guard:=_ } :: _) _ _);refine wpList_store_row rfl 53 _ _ rfl (w.heap.size + 1) #[.int .i64 0,.int .i64 17,.bool true,.slice none 0 0,.slice (some ⟨g7,0,none⟩) 1 1] rfl rfl tR _ HR1.out (by rw [size_tlv];rfl) rfl (by simp [Value.oneCell']) ?_)|fail)
  refine bodyPost_ret (results_row_tmp rfl _ _ (w.heap.size + 1) tR #[.int .i64 0,.int .i64 17,.bool true,.slice none 0 0,.slice (some ⟨g7,0,none⟩) 1 1] (0,0) _ rfl (setRow_heap _ _ _ _ _ _ HR1.out) Tryz.underlying53 rfl (by rw [size_tlv];rfl)) rfl ?_
  exact SetR.ok (cs:=[.int .i64 0,.int .i64 17,.bool true,.slice none 0 0,.slice (some ⟨g7,0,none⟩) 1 1]) H.out (dep_ret HT2.out lR lW) (below_setRow bel (by omega) _)
end Go.Proofs.YtohcdbifhnfcbaaGreatDoor
