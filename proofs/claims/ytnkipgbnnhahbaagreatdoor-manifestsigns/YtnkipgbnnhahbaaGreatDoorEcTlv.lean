/- Numbers in elements: plain facts. Rows of cells: numbers, points and signatures loaded and stored whole. (Plain part.) What order.Decode answers, as a row of cells. Rows of cells: numbers, points and signatures loaded and stored whole. ecdsa.isA, numberOf and belowN. -/
import Derived.Test.YtnkipgbnnhahbaaGreatDoorEdFact
import Derived.Test.YtnkipgbnnhahbaaGreatDoorDrDep
import Derived.Test.YtnkipgbnnhahbaaGreatDoorODecode
import Derived.Test.YtnkipgbnnhahbaaGreatDoorApBs
import Derived.Test.YtnkipgbnnhahbaaGreatDoorCtPl
import Derived.Test.YtnkipgbnnhahbaaGreatDoorPrNumber
import Derived.Test.YtnkipgbnnhahbaaGreatDoorRows
import Derived.Deep.WholeRow
import Derived.Deep.RegionHeld3
import Derived.Deep.DeepCutAuto
import Derived.Deep.DeepFit
import Derived.Deep.OwnRows
import Derived.Deep.AppendLies
import Derived.Great.BuildSlice
import Derived.Laws.Rows
namespace Go.Proofs.YtnkipgbnnhahbaaGreatDoor
open Go.RowKit
theorem numC_good {B n:List Int} (b:byt B) (h:numP B=.ok n):byt n∧n.length≤64:=by
 unfold numP at h
 obtain ⟨R,hR⟩:∃ R,(if B.getD 0 0=0 then B.drop 1 else B)=R:=⟨_,rfl⟩
 rw [hR] at h
 have hb:byt R:=by
  rw [← hR]
  split
  ·exact byt_dropM b 1
  ·exact b
 by_cases g:B.length=0∨127 < B.getD 0 0∨(1 < B.length∧B.getD 0 0=0∧B.getD 1 0 < 128)
 ·rw [if_pos g] at h;cases h
 ·rw [if_neg g] at h
  by_cases g2:64 < R.length
  ·rw [if_pos g2] at h;cases h
  ·rw [if_neg g2] at h;cases h;exact ⟨hb,by omega⟩
theorem partC_no {c t:Int} {m:Bool} {b:List Int} {ks:List Tl} (h:¬ (c=0∧t=2∧m=false)):partP (.mk c t m b ks)=none:=by rw [partP,if_neg h]
theorem partC_bad {c t:Int} {m:Bool} {b:List Int} {ks:List Tl} {e:Nat} (h:numP b=.error e):partP (.mk c t m b ks)=none:=by
 rw [partP,h]
 split<;>rfl
theorem partC_ok {b n:List Int} {ks:List Tl} (h:numP b=.ok n):partP (.mk 0 2 false b ks)=some n:=by rw [partP,if_pos ⟨rfl,rfl,rfl⟩,h]
theorem beN_pad (m:Nat) (X:List Int):beN (List.replicate m 0++X)=beN X:=by
 induction m with
 | zero=>rfl
 | succ m ih=>rw [List.replicate_succ,List.cons_append,beN_zero,ih]
theorem beN_nonneg {X:List Int} (b:byt X):0≤beN X:=(pv256_bound X.reverse (byt_rev b)).1
theorem beN_ge {x:Int} {X:List Int} (b:byt (x :: X)) (h:x≠0):256 ^ X.length≤beN (x :: X):=by
 have h0:=b 0
 have hX:byt X:=fun j=>by have:=b (j + 1);simpa using this
 have h1:=beN_nonneg hX
 unfold beN at *
 rw [List.reverse_cons,pv_append,List.length_reverse]
 simp only [pv,List.getD_cons_zero,Int.mul_zero,Int.add_zero] at *
 have h2:(256:Int) ^ X.length * 1≤256 ^ X.length * x:=Int.mul_le_mul_of_nonneg_left (by omega) (Int.pow_nonneg (by decide))
 omega
theorem QQ_256:QQ≤(256:Int) ^ 48:=by decide +kernel
theorem beN_great {x:Int} {X:List Int} (b:byt (x :: X)) (h:x≠0) (hl:48≤X.length):QQ≤beN (x :: X):=by
 have h1:=beN_ge b h
 have h2:(256:Int) ^ 48≤256 ^ X.length:=by
  obtain ⟨k,hk⟩:∃ k,X.length=48 + k:=⟨X.length - 48,by omega⟩
  rw [hk,Int.pow_add]
  have h3:(1:Int)≤256 ^ k:=by
   clear hk
   induction k with
   | zero=>decide
   | succ k ih=>rw [Int.pow_succ];omega
  have h4:(256:Int) ^ 48 * 1≤256 ^ 48 * 256 ^ k:=Int.mul_le_mul_of_nonneg_left h3 (Int.pow_nonneg (by decide))
  omega
 have:=QQ_256
 omega
/-- a number of more than 48 bytes is not below N -/
theorem num_great {B n:List Int} (b:byt B) (h:numP B=.ok n) (hl:48 < n.length):QQ≤beN n:=by
 have hb:=(numC_good b h).1
 unfold numP at h
 by_cases g:B.length=0∨127 < B.getD 0 0∨(1 < B.length∧B.getD 0 0=0∧B.getD 1 0 < 128)
 ·rw [if_pos g] at h;cases h
 rw [if_neg g] at h
 by_cases z:B.getD 0 0=0
 ·simp only [if_pos z] at h
  split at h
  ·cases h
  ·cases h
   match B,g,z,hl,hb with
   | [],_,_,hl,_=>simp at hl
   | [_],_,_,hl,_=>simp at hl
   | _ :: y :: ys,g,z,hl,hb =>
    simp only [List.drop_succ_cons,List.drop_zero,List.length_cons,List.getD_cons_zero,List.getD_cons_succ] at *
    exact beN_great hb (by omega) (by omega)
 ·simp only [if_neg z] at h
  split at h
  ·cases h
  ·cases h
   match B,g,z,hl,hb with
   | [],_,_,hl,_=>simp at hl
   | y :: ys,g,z,hl,hb =>
    simp only [List.length_cons,List.getD_cons_zero] at *
    exact beN_great hb z (by omega)
theorem byt_pad (m:Nat) {X:List Int} (b:byt X):byt (List.replicate m 0++X):=by
 induction m with
 | zero=>exact b
 | succ m ih=>rw [List.replicate_succ,List.cons_append];exact byt_consP (by decide) ih
theorem sigC_none {c t:Int} {m:Bool} {bb:List Int} {ks:List Tl} (h:¬ ((c=0∧t=16∧m=true)∧ks.length=2)):sigP (.mk c t m bb ks)=none:=by
 match ks,h with
 | [],_=>rfl
 | [_],_=>rfl
 | [a,b],h=>rw [sigP,if_neg (fun h'=>h ⟨h',rfl⟩)]
 | _ :: _ :: _ :: _,_=>rfl
theorem sigC_some {bb:List Int} {a b:Tl} {x y:List Int} (hx:partP a=some x) (hy:partP b=some y):sigP (.mk 0 16 true bb [a,b])=some (x,y):=by
 rw [sigP,if_pos ⟨rfl,rfl,rfl⟩,hx,hy]
theorem sigC_no {bb:List Int} {ks:List Tl} {i:Nat} {k:Tl} (hk:ks[i]?=some k) (h:partP k=none):sigP (.mk 0 16 true bb ks)=none:=by
 match ks,i,hk with
 | [],_,hk=>simp at hk
 | [_],_,_=>rfl
 | [a,b],0,hk =>
  simp at hk
  subst hk
  rw [sigP,if_pos ⟨rfl,rfl,rfl⟩,h]
 | [a,b],1,hk =>
  simp at hk
  subst hk
  rw [sigP,if_pos ⟨rfl,rfl,rfl⟩,h]
  cases partP a<;>rfl
 | [a,b],i + 2,hk=>simp at hk
 | _ :: _ :: _ :: _,_,_=>rfl
theorem kidC_small {c t:Int} {m:Bool} {bb b0:List Int} {c0 t0:Int} {m0:Bool} {l0 ks:List Tl} {i:Nat} (hw:WfT (.mk c t m bb ks)) (hl:(bytesT (.mk c t m bb ks)).length≤1048576) (h2:ks.length=2) (hk:ks[i]?=some (.mk c0 t0 m0 b0 l0)):byt b0∧b0.length≤1048576:=by
 match ks,h2,i,hk with
 | [x,y],_,0,hk =>
  simp at hk
  subst hk
  simp only [WfT,WfL] at hw
  obtain ⟨_,_,_,⟨_,_,w0,_⟩,_,_⟩:=hw
  rw [bytesT_len] at hl
  simp only [bytesL,List.length_append,bytesT_len,List.append_nil] at hl
  exact ⟨w0,by omega⟩
 | [x,y],_,1,hk =>
  simp at hk
  subst hk
  simp only [WfT,WfL] at hw
  obtain ⟨_,_,_,_,⟨_,_,w0,_⟩,_⟩:=hw
  rw [bytesT_len] at hl
  simp only [bytesL,List.length_append,bytesT_len,List.append_nil] at hl
  exact ⟨w0,by omega⟩
 | [x,y],_,i + 2,hk=>simp at hk
theorem size_u:(Tryz.prog.info? 25).map (·.size)=some 6:=by kernel_rfl
theorem zero_u:Hid (∀ w:World,(zeroValue 25).run Tryz.prog w=.ok (.agg #[.int .u64 0,.int .u64 0,.int .u64 0,.int .u64 0,.int .u64 0,.int .u64 0]) w):=fun w=>by kernel_rfl
/-- a part of a block that is a number -/
theorem load_u {w:World} {g o:Nat} {X ys:List Value} {y:Int} (B:Blk w g X) (h:U6 ys y) (hx:∀ j v,ys[j]?=some v→X[o + j]?=some v):(loadVar 25 ⟨g,o,none⟩).run Tryz.prog w=.ok (.agg ys.toArray) w :=
 load_cells (n:=6) (fun j v hv=>B.cell _ _ (hx j v hv)) h.len Tryz.underlying25 rfl size_u
theorem app_at0 {xs ys:List Value}:∀ j v,xs[j]?=some v→(xs++ys)[0 + j]?=some v:=fun j v hv=>by
 have hj:=(List.getElem?_eq_some_iff.1 hv).1
 rw [Nat.zero_add,List.getElem?_append_left hj]
 exact hv
theorem app_at2 {xs ys:List Value} {n:Nat} (h:xs.length=n):∀ j v,ys[j]?=some v→(xs++ys)[n + j]?=some v:=fun j v hv=>by
 rw [List.getElem?_append_right (by omega),show n + j - xs.length=j by omega]
 exact hv
theorem OneR.app {xs ys:List Value} (h:OneR xs) (k:OneR ys):OneR (xs++ys):=by
 unfold OneR at *
 rw [Array.all_eq_true_iff_forall_mem] at *
 intro u hu
 simp only [List.mem_toArray,List.mem_append] at hu
 rcases hu with hu|hu
 ·exact h u (by simpa using hu)
 ·exact k u (by simpa using hu)
/-- a block that is written whole -/
theorem Blk.put {w:World} {g:Nat} {X ys:List Value} (B:Blk w g X):Blk (w.setRow g ys.toArray) g ys:=by
 obtain ⟨t,h⟩:=B
 exact ⟨t,setRow_heap _ _ _ _ _ _ h⟩
theorem uODec {v:Value} {D:List Int} {w:World} (G:GlsO w) (hv:Bs w v D) (hD:byt D) (hl:D.length=48) (hs:isSc (beN D)):Calls Tryz.prog 99 #[v] w fun e w'=>∃ es,e=.returned (.tuple #[.agg es.toArray,.nilIface])∧U6 es (beN D)∧Below w.heap.size w w':=by
 refine (odecode_ok G hv hl hD (by have:=hs.1;omega) hs.2).mono ?_
 rintro e w' ⟨y0,y1,y2,y3,y4,y5,rfl,fy,hy,hb⟩
 exact ⟨_,rfl,⟨y0,y1,y2,y3,y4,y5,rfl,fy,hy⟩,hb⟩
theorem uODecNo {v:Value} {D:List Int} {w:World} (G:GlsO w) (hv:Bs w v D) (hD:byt D) (hl:D.length=48) (h0:0≤beN D) (hs:¬ isSc (beN D)):Calls Tryz.prog 99 #[v] w fun e w'=>e=.returned (.tuple #[.agg #[.int .u64 0,.int .u64 0,.int .u64 0,.int .u64 0,.int .u64 0,.int .u64 0],.iface 46 (.int .i64 3)])∧Below w.heap.size w w':=by
 by_cases z:beN D=0
 ·exact odecode_zero hv hl hD z
 ·exact odecode_range G hv hl hD (by unfold isSc at hs;omega)
theorem size_s:(Tryz.prog.info? 27).map (·.size)=some 12:=by kernel_rfl
theorem zero_s:Hid (∀ w:World,(zeroValue 27).run Tryz.prog w=.ok (.agg #[.int .u64 0,.int .u64 0,.int .u64 0,.int .u64 0,.int .u64 0,.int .u64 0,.int .u64 0,.int .u64 0,.int .u64 0,.int .u64 0,.int .u64 0,.int .u64 0]) w):=fun w=>by kernel_rfl
set_option linter.unusedSimpArgs false in
set_option maxRecDepth 100000 in
set_option maxHeartbeats 1000000 in
theorem c14_isA {c t tag:Int} {m mk:Bool} {b:List Int} {ks:List Tl} {cs:List Value} {w:World} (h:TlAt w (.mk c t m b ks) cs) :
  Calls Tryz.prog 93 #[.agg cs.toArray,.int .i64 tag,.bool mk] w fun e w'=>e=.returned (.bool (decide (c=0∧t=tag∧m=mk)))∧Below w.heap.size w w':=by
 rw [TlAt] at h
 obtain ⟨bv,ka,kc,rfl,hbv,-,-,-⟩:=h
 obtain ⟨ba,bc,rfl,-,-,-⟩:=hbv
 have B0:=Blk.new w [.int .i64 c,.int .i64 t,.bool m,.slice ba b.length bc,.slice ka ks.length kc] 41 w.heap.size rfl
 have bel:Below w.heap.size w (w.alloc (.cells #[.int .i64 c,.int .i64 t,.bool m,.slice ba b.length bc,.slice ka ks.length kc] 41)):=(Below.refl _ _).alloc (Nat.le_refl _) _
 go_enter Tryz.func93,Tryz.ntmps93
 go_upto_region 1 with fail
 generalize w.alloc (.cells #[.int .i64 c,.int .i64 t,.bool m,.slice ba b.length bc,.slice ka ks.length kc] 41)=W at *
 have e0:=B0.cell 0 _ rfl
 have e1:=B0.cell 1 _ rfl
 have e2:=B0.cell 2 _ rfl
 have lt0:=B0.lt
 by_cases c1:c=0
 rotate_left
 ·have H:Hid (decide (c=0∧t=tag∧m=mk)=false):=decide_eq_false (fun h=>c1 h.1)
  have d1:(c == 0)=false:=by rw [beq_eq_false_iff_ne];exact c1
  clear c1
  go_wp2_with fail
  go_ret
  exact ⟨by rw [H.out];rfl,bel⟩
 have d1:(c == 0)=true:=by rw [c1];rfl
 by_cases c2:t=tag
 rotate_left
 ·have H:Hid (decide (c=0∧t=tag∧m=mk)=false):=decide_eq_false (fun h=>c2 h.2.1)
  have d2:(t == tag)=false:=by rw [beq_eq_false_iff_ne];exact c2
  clear c1 c2
  go_wp2_with fail
  go_ret
  exact ⟨by rw [H.out];rfl,bel⟩
 have d2:(t == tag)=true:=by rw [c2];exact beq_self_eq_true _
 have HC1:Hid (c=0):=c1
 have HC2:Hid (t=tag):=c2
 clear c1 c2
 cases m<;>cases mk
 all_goals
  go_wp2_with fail
  go_ret
  exact ⟨by first|rfl|(simp only [HC1.out,HC2.out,decide_true,Bool.and_self];rfl),bel⟩
/-- what numberOf tells of an element -/
def NumR (w:World) (T:Tl) (e:Ending) (w':World):Prop:=(∃ n v',partP T=some n∧e=.returned (.tuple #[v',.nilIface])∧Bs w' v' n∧NewV w v'∧byt n∧n.length≤64∧(48 < n.length→QQ≤beN n)∧Below w.heap.size w w')∨(partP T=none∧e=.returned (.tuple #[.slice none 0 0,.iface 46 (.int .i64 7)])∧Below w.heap.size w w')
theorem ne_codeT (c:Int):∀ w:World,(binOp .neq 30 (.iface 46 (.int .i64 c)) .nilIface).run Tryz.prog w=.ok (.bool true) w:=fun _=>by kernel_rfl
theorem ne_nilT:∀ w:World,(binOp .neq 30 .nilIface .nilIface).run Tryz.prog w=.ok (.bool false) w:=fun _=>by kernel_rfl
set_option linter.unusedSimpArgs false in
set_option maxRecDepth 100000 in
set_option maxHeartbeats 1000000 in
theorem c14_numberOf {c t:Int} {m:Bool} {b:List Int} {ks:List Tl} {cs:List Value} {w:World} (h:TlAt w (.mk c t m b ks) cs) (bb:byt b) (hl:b.length≤1048576) :
  Calls Tryz.prog 94 #[.agg cs.toArray] w (NumR w (.mk c t m b ks)):=by
 have HT:Hid (TlAt w (.mk c t m b ks) cs):=h
 rw [TlAt] at h
 obtain ⟨bv,ka,kc,hcs,hbv,-,-,-⟩:=h
 have HBv:Hid (Bs w bv b):=hbv
 obtain ⟨ba,bc,rfl,-,-,-⟩:=hbv
 have HL5:Hid (cs.length=5):=HT.out.five
 have HC3:Hid (cs[3]?=some (.slice ba b.length bc)):=by show _=_;rw [hcs];rfl
 clear hcs
 have B0:=Blk.new w cs 41 w.heap.size rfl
 have bel:Below w.heap.size w (w.alloc (.cells cs.toArray 41)):=(Below.refl _ _).alloc (Nat.le_refl _) _
 go_enter Tryz.func94,Tryz.ntmps94
 go_upto_region 1 with fail
 generalize w.alloc (.cells cs.toArray 41)=W at *
 have lt0:=B0.lt
 go_wp2_with (first|(refine wpList_load_run (by rfl) (by rfl) (by rfl) (B0.load Tryz.underlying41 rfl size_tlv HL5.out) ?_)|fail)
 refine (c14_isA (HT.out.later bel)).mono ?_
 rintro e w1 ⟨rfl,hb⟩
 replace B0:=B0.later hb
 replace bel:=below_step bel hb
 clear hb lt0
 by_cases c1:c=0∧t=2∧m=false
 rotate_left
 ·have H:Hid (partP (.mk c t m b ks)=none):=partC_no c1
  rw [decide_eq_false c1]
  clear c1
  go_wp2_with fail
  refine bodyPost_ret (results_tmp2 rfl _ _ _) rfl ?_
  exact .inr ⟨H.out,rfl,bel⟩
 rw [decide_eq_true c1]
 obtain ⟨rfl,rfl,rfl⟩:=c1
 have lt0:=B0.lt
 have e3:=B0.cell 3 _ HC3.out
 go_wp2_with fail
 refine (con_Number (HBv.out.later bel) bb (by omega)).mono ?_
 rintro e w2 ⟨hok,hbad⟩
 cases hp:numP b with
 | ok nn =>
  obtain ⟨v1,rfl,bs1,hnw,hb⟩:=hok nn hp
  have HNw:Hid (NewV w v1):=hnw.up bel.size
  clear hnw
  have H:Hid (partP (.mk 0 2 false b ks)=some nn):=partC_ok hp
  have HGd:Hid _:=numC_good bb hp
  have HGr:Hid (48 < nn.length→QQ≤beN nn):=num_great bb hp
  have HBn:Hid (Bs w2 v1 nn):=bs1
  obtain ⟨na,nc,rfl,-,-,-⟩:=bs1
  replace bel:=below_step bel hb
  clear hok hbad hp hb e3 lt0 B0
  have q3:=ne_nilT
  go_wp2_with fail
  refine bodyPost_ret (results_tmp2 rfl _ _ _) rfl ?_
  exact .inl ⟨nn,_,H.out,rfl,HBn.out,HNw.out,HGd.out.1,HGd.out.2,HGr.out,bel⟩
 | error cc =>
  obtain ⟨na,nc,rfl,hb⟩:=hbad cc hp
  have H:Hid (partP (.mk 0 2 false b ks)=none):=partC_bad hp
  replace bel:=below_step bel hb
  clear hok hbad hp hb e3 lt0 B0
  have q3:=ne_codeT
  go_wp2_with fail
  refine bodyPost_ret (results_tmp2 rfl _ _ _) rfl ?_
  exact .inr ⟨H.out,rfl,bel⟩
/-- what belowN tells of bytes -/
def BelR (w:World) (n:List Int) (e:Ending) (w':World):Prop:=(¬ isSc (beN n)∧e=.returned (.tuple #[.agg #[.int .u64 0,.int .u64 0,.int .u64 0,.int .u64 0,.int .u64 0,.int .u64 0],.iface 46 (.int .i64 3)])∧Below w.heap.size w w')∨(∃ es,isSc (beN n)∧e=.returned (.tuple #[.agg es.toArray,.nilIface])∧U6 es (beN n)∧Below w.heap.size w w')
theorem info_C:(Tryz.prog.info? 5).map (fun i=>(i.zero,i.size,i.bytes))=some (some (.int .u8 0),1,1):=by kernel_rfl
theorem mk_C (n:Nat) (hn:n≤48):∀ w:World,(Instr.makeSlice 22 (.int .i64 (n:Int)) (.int .i64 (n:Int))).run Tryz.prog w=.ok (.slice (some ⟨w.heap.size,0,none⟩) n n) (w.alloc (.cells (u8s (List.replicate n 0)).toArray 5)):=fun w=>by
 have:=run_make_row' 22 5 (.int .u8 0) 1 Tryz.underlying22 info_C rfl .i64 .i64 n (by omega) (by omega) w
 rw [made_zero] at this
 exact this
set_option linter.unusedSimpArgs false in
set_option maxRecDepth 100000 in
set_option maxHeartbeats 2000000 in
theorem c14_belowN {v:Value} {n:List Int} {w:World} (G:GlsO w) (hv:Bs w v n) (b:byt n) (hl:n.length≤64) (hg:48 < n.length→QQ≤beN n) :
  Calls Tryz.prog 95 #[v] w (BelR w n):=by
 have HG:Hid (GlsO w):=G
 have HB:Hid (byt n):=b
 have HGr:Hid (48 < n.length→QQ≤beN n):=hg
 have HV:Hid (Bs w v n):=hv
 obtain ⟨ao,cap,rfl,h1,h2,h3⟩:=hv
 clear G b hg h1 h2 h3
 have R0:=Blk.new w [.int .u64 0,.int .u64 0,.int .u64 0,.int .u64 0,.int .u64 0,.int .u64 0] 25 w.heap.size rfl
 have bel:Below w.heap.size w (w.alloc (.cells #[.int .u64 0,.int .u64 0,.int .u64 0,.int .u64 0,.int .u64 0,.int .u64 0] 25)):=(Below.refl _ _).alloc (Nat.le_refl _) _
 have hz:=zero_u.out
 go_enter Tryz.func95,Tryz.ntmps95
 go_upto_region 1 with fail
 generalize w.alloc (.cells #[.int .u64 0,.int .u64 0,.int .u64 0,.int .u64 0,.int .u64 0,.int .u64 0] 25)=W at *
 clear hz
 by_cases c1:48 < n.length
 ·have H:Hid (¬ isSc (beN n)):=fun h=>by have:=HGr.out c1;have:=h.2;omega
  have g1:(48:Int) < (n.length:Int):=by omega
  obtain ⟨tR,hR⟩:=R0
  have HR1:Hid _:=hR
  clear hR c1
  have hz:=zero_u.out
  go_wp2_with (first|(refine wpList_store_row rfl 25 _ _ rfl w.heap.size #[.int .u64 0,.int .u64 0,.int .u64 0,.int .u64 0,.int .u64 0,.int .u64 0] rfl rfl tR _ HR1.out (by rw [size_u];rfl) rfl (by simp [Value.oneCell']) ?_)|fail)
  exact bodyPost_ret (results_row_tmp rfl _ _ w.heap.size tR #[.int .u64 0,.int .u64 0,.int .u64 0,.int .u64 0,.int .u64 0,.int .u64 0] (0,0) _ rfl (setRow_heap _ _ _ _ _ _ HR1.out) Tryz.underlying25 rfl (by rw [size_u];rfl)) rfl (.inl ⟨H.out,rfl,below_setRow bel (by omega) _⟩)
 have g1:¬ (48:Int) < (n.length:Int):=by omega
 obtain ⟨k,hk⟩:∃ k:Nat,k=48 - n.length:=⟨_,rfl⟩
 have hk48:k≤48:=by omega
 have HKn:Hid (k + n.length=48):=by show _=_;omega
 have g2:IntKind.i64.wrap (48 - (n.length:Int))=(k:Int):=by rw [IntKind.wrap_i64];omega
 have mk:=mk_C k hk48
 clear hk
 obtain ⟨CZ,hCZ⟩:∃ c,(u8s (List.replicate k 0)).toArray=c:=⟨_,rfl⟩
 rw [hCZ] at mk
 have HCZ:Hid ((u8s (List.replicate k 0)).toArray=CZ):=hCZ
 clear hCZ
 have HV1:Hid (Bs (W.alloc (.cells CZ 5)) (.slice ao n.length cap) n):=HV.out.later (bel.trans (((Below.refl _ _).alloc (Nat.le_refl _) _).mono bel.size))
 have own1:(W.alloc (.cells CZ 5)).ownsRow W.heap.size 5 1 (.slice (some ⟨W.heap.size,0,none⟩) k k) k (u8s (List.replicate k 0)):=by rw [← HCZ.out];exact own_lits W _ k W.heap.size (by simp) (Nat.le_refl _) (by unfold maxLen;omega)
 have bel1:Below W.heap.size W (W.alloc (.cells CZ 5)):=(Below.refl _ _).alloc (Nat.le_refl _) _
 have hs1:=bel1.size
 go_wp2_with (first|(at_builtin;refine wpList_append_bs (by rfl) _ _ (by rfl) W.heap.size _ k _ (by rfl) own1 _ n (by rfl) HV1.out (by omega) hs1 ?_;intro v8 w8 own8 hgrow hat)|fail)
 have bel8:=below_own (base:=W.heap.size) bel1 hgrow hs1 (fun g hg=>own_geD own1 hg) (Nat.le_refl _)
 have R1:=R0.below bel8 R0.lt
 have HL8:Hid ((List.replicate k 0++n).length=48):=by show _=_;rw [List.length_append,List.length_replicate];exact HKn.out
 have HB8:Hid (Bs w8 v8 (List.replicate k 0++n)):=by have own9:=own8;rw [show k + n.length=(List.replicate k 0++n).length by simp] at own9;exact Bs.of_own own9
 have HE8:Hid (beN (List.replicate k 0++n)=beN n):=beN_pad k n
 have HY8:Hid (byt (List.replicate k 0++n)):=byt_pad k HB.out
 have belw:Below w.heap.size w w8:=bel.trans (bel8.mono bel.size)
 obtain ⟨va,vc,hva⟩:∃ va vc,v8=.slice va (k + n.length) vc:=by obtain ⟨a,c,e,_⟩:=own_slice own8;exact ⟨a,c,e⟩
 subst hva
 clear hgrow hat own8 own1 bel1 hs1 bel8 R0 mk
 generalize List.replicate k 0++n=P at *
 by_cases c2:isSc (beN n)
 ·refine (uODec (HG.out.below belw) HB8.out HY8.out HL8.out (by rw [HE8.out];exact c2)).mono ?_
  rintro e w9 ⟨es,rfl,hu,hb⟩
  rw [HE8.out] at hu
  have HU:Hid (U6 es (beN n)):=hu
  have HC2:Hid (isSc (beN n)):=c2
  have HSe:Hid (es.toArray.size=6):=by show _=_;rw [List.size_toArray];exact hu.len
  have HOe:Hid (OneR es):=hu.ones
  replace R1:=R1.later hb
  replace belw:=below_step belw hb
  clear hb hu c2
  obtain ⟨tR,hR⟩:=R1
  have HR1:Hid _:=hR
  clear hR
  go_wp2_with (first|(refine wpList_store_row rfl 25 _ _ rfl w.heap.size es.toArray rfl rfl tR _ HR1.out (by rw [size_u,HSe.out]) (by rw [HSe.out];rfl) HOe.out ?_)|fail)
  exact bodyPost_ret (results_row_tmp rfl _ _ w.heap.size tR es.toArray (0,0) _ rfl (setRow_heap _ _ _ _ _ _ HR1.out) Tryz.underlying25 rfl (by rw [size_u,HSe.out])) rfl (.inr ⟨es,HC2.out,rfl,HU.out,below_setRow belw (by omega) _⟩)
 ·refine (uODecNo (HG.out.below belw) HB8.out HY8.out HL8.out (beN_nonneg HY8.out) (by rw [HE8.out];exact c2)).mono ?_
  rintro e w9 ⟨rfl,hb⟩
  have HC2:Hid (¬ isSc (beN n)):=c2
  replace R1:=R1.later hb
  replace belw:=below_step belw hb
  clear hb c2
  obtain ⟨tR,hR⟩:=R1
  have HR1:Hid _:=hR
  clear hR
  go_wp2_with (first|(refine wpList_store_row rfl 25 _ _ rfl w.heap.size #[.int .u64 0,.int .u64 0,.int .u64 0,.int .u64 0,.int .u64 0,.int .u64 0] rfl rfl tR _ HR1.out (by rw [size_u];rfl) rfl (by simp [Value.oneCell']) ?_)|fail)
  exact bodyPost_ret (results_row_tmp rfl _ _ w.heap.size tR #[.int .u64 0,.int .u64 0,.int .u64 0,.int .u64 0,.int .u64 0,.int .u64 0] (0,0) _ rfl (setRow_heap _ _ _ _ _ _ HR1.out) Tryz.underlying25 rfl (by rw [size_u];rfl)) rfl (.inl ⟨HC2.out,rfl,below_setRow belw (by omega) _⟩)
end Go.Proofs.YtnkipgbnnhahbaaGreatDoor
