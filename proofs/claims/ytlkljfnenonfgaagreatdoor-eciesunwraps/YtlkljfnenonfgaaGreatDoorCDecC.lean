/- field.Decode: the number of 48 bytes, below the prime; or what is amiss. The bytes of a point: plain facts. curve.Decode: a point's bytes, read. -/
import Derived.Test.YtlkljfnenonfgaaGreatDoorFAdd
import Derived.Test.YtlkljfnenonfgaaGreatDoorAeNumG
import Derived.Test.YtlkljfnenonfgaaGreatDoorCCode
import Derived.Test.YtlkljfnenonfgaaGreatDoorRows
import Derived.Deep.WholeRow
import Derived.Deep.RegionHeld3
import Derived.Deep.DeepCutAuto
import Derived.Deep.DeepFit
namespace Go.Proofs.YtlkljfnenonfgaaGreatDoor
open Go.RowKit
set_option maxRecDepth 100000 in
set_option maxHeartbeats 1000000 in
theorem decode_range {v:Value} {bs:List Int} {w:World} (G:Gls w) (h:Bs w v bs) (hl:bs.length=48) (hB:byt bs) (hr:PP≤beN bs) :
  Calls Tryz.prog 39 #[v] w fun e w'=>e=.returned (.tuple #[.agg #[.int .u64 0,.int .u64 0,.int .u64 0,.int .u64 0,.int .u64 0,.int .u64 0],.iface 33 (.int .i64 3)])∧Below w.heap.size w w':=by
 have HR:Hid _:=hr
 clear hr
 have B0:=Blk.new w (us [0,0,0,0,0,0]) 24 w.heap.size rfl
 have bel:Below w.heap.size w (w.alloc (.cells (us [0,0,0,0,0,0]).toArray 24)):=(Below.refl _ _).alloc (Nat.le_refl _) _
 have q1:=iface_nilnot
 go_enter Tryz.func39,Tryz.ntmps39
 go_wp2_with fail
 simp only [us,List.map_cons,List.map_nil] at B0 bel
 generalize w.alloc (Obj.cells #[.int .u64 0,.int .u64 0,.int .u64 0,.int .u64 0,.int .u64 0,.int .u64 0] 24)=W at *
 refine (from6 (h.later (bel.mono (Nat.le_refl _))) hl hB).mono ?_
 rintro e w1 ⟨s0,s1,s2,s3,s4,s5,rfl,fS,hs,hb⟩
 have HL:Hid _:=lessN_no (A:=[s0,s1,s2,s3,s4,s5]) (B:=[4294967295,18446744069414584320,18446744073709551614,18446744073709551615,18446744073709551615,18446744073709551615]) (by rw [hs,PP_v];exact HR.out)
 replace B0:=B0.later hb
 replace bel:=below_step bel hb
 clear hb hs
 have GW:=G.below bel
 obtain ⟨l0,l1⟩:=GW.lts
 obtain ⟨⟨a0,a1,a2,a3,a4,a5⟩,GW1⟩:=GW
 clear GW1
 go_wp2_with fail
 refine (less6 fS fP).mono ?_
 rintro e w2 ⟨rfl,hb⟩
 rw [HL.out]
 replace B0:=(B0.alloc (.cells (us [s0,s1,s2,s3,s4,s5]).toArray 24)).later hb
 replace bel:=below_step (below_alloc bel) hb
 clear hb HL a0 a1 a2 a3 a4 a5 l0 l1
 have lt0:=B0.lt
 have c0:=B0.cell 0 _ rfl;have q0:=B0.frozen 0;have c1:=B0.cell 1 _ rfl;have q1:=B0.frozen 1;have c2:=B0.cell 2 _ rfl;have q2:=B0.frozen 2;have c3:=B0.cell 3 _ rfl;have q3:=B0.frozen 3;have c4:=B0.cell 4 _ rfl;have q4:=B0.frozen 4;have c5:=B0.cell 5 _ rfl;have q5:=B0.frozen 5
 go_wp2_with fail
 exact bodyPost_ret (v:=.tuple #[.agg #[.int .u64 0,.int .u64 0,.int .u64 0,.int .u64 0,.int .u64 0,.int .u64 0],.iface 33 (.int .i64 3)]) (by simp [results,Tryz.results39,go_sem,c0,c1,c2,c3,c4,c5]) rfl ⟨rfl,below_put6 bel (Nat.le_refl _)⟩
set_option maxRecDepth 100000 in
set_option maxHeartbeats 1000000 in
theorem decode_ok {v:Value} {bs:List Int} {w:World} (G:Gls w) (h:Bs w v bs) (hl:bs.length=48) (hB:byt bs) (hr:beN bs < PP) :
  Calls Tryz.prog 39 #[v] w fun e w'=>∃ s0 s1 s2 s3 s4 s5:Int,e=.returned (.tuple #[.agg #[.int .u64 s0,.int .u64 s1,.int .u64 s2,.int .u64 s3,.int .u64 s4,.int .u64 s5],.nilIface])∧fits [s0,s1,s2,s3,s4,s5]∧v64 [s0,s1,s2,s3,s4,s5]=beN bs∧Below w.heap.size w w':=by
 have HR:Hid _:=hr
 clear hr
 have B0:=Blk.new w (us [0,0,0,0,0,0]) 24 w.heap.size rfl
 have bel:Below w.heap.size w (w.alloc (.cells (us [0,0,0,0,0,0]).toArray 24)):=(Below.refl _ _).alloc (Nat.le_refl _) _
 have q1:=iface_nilnot
 go_enter Tryz.func39,Tryz.ntmps39
 go_wp2_with fail
 simp only [us,List.map_cons,List.map_nil] at B0 bel
 generalize w.alloc (Obj.cells #[.int .u64 0,.int .u64 0,.int .u64 0,.int .u64 0,.int .u64 0,.int .u64 0] 24)=W at *
 refine (from6 (h.later (bel.mono (Nat.le_refl _))) hl hB).mono ?_
 rintro e w1 ⟨s0,s1,s2,s3,s4,s5,rfl,fS,hs,hb⟩
 have HL:Hid _:=lessN_yes (A:=[s0,s1,s2,s3,s4,s5]) (B:=[4294967295,18446744069414584320,18446744073709551614,18446744073709551615,18446744073709551615,18446744073709551615]) (by rw [hs,PP_v];exact HR.out)
 have HS:Hid _:=hs
 replace B0:=B0.later hb
 replace bel:=below_step bel hb
 clear hb hs
 have GW:=G.below bel
 obtain ⟨l0,l1⟩:=GW.lts
 obtain ⟨⟨a0,a1,a2,a3,a4,a5⟩,GW1⟩:=GW
 clear GW1
 go_wp2_with fail
 refine (less6 fS fP).mono ?_
 rintro e w2 ⟨rfl,hb⟩
 rw [HL.out]
 have B1:=(Blk.new w1 (us [s0,s1,s2,s3,s4,s5]) 24 w1.heap.size rfl).later hb
 have ne:w.heap.size < w1.heap.size:=B0.lt
 replace B0:=(B0.alloc (.cells (us [s0,s1,s2,s3,s4,s5]).toArray 24)).later hb
 replace bel:=below_step (below_alloc bel) hb
 clear hb HL a0 a1 a2 a3 a4 a5 l0 l1
 have lt0:=B0.lt
 have lt1:=B1.lt
 have c0:=B0.cell 0 _ rfl;have q0:=B0.frozen 0;have c1:=B0.cell 1 _ rfl;have q1:=B0.frozen 1;have c2:=B0.cell 2 _ rfl;have q2:=B0.frozen 2;have c3:=B0.cell 3 _ rfl;have q3:=B0.frozen 3;have c4:=B0.cell 4 _ rfl;have q4:=B0.frozen 4;have c5:=B0.cell 5 _ rfl;have q5:=B0.frozen 5
 have d0:=B1.cell 0 _ rfl;have f0:=B1.frozen 0;have d1:=B1.cell 1 _ rfl;have f1:=B1.frozen 1;have d2:=B1.cell 2 _ rfl;have f2:=B1.frozen 2;have d3:=B1.cell 3 _ rfl;have f3:=B1.frozen 3;have d4:=B1.cell 4 _ rfl;have f4:=B1.frozen 4;have d5:=B1.cell 5 _ rfl;have f5:=B1.frozen 5
 go_wp2_with fail
 exact bodyPost_ret (v:=.tuple #[.agg #[.int .u64 s0,.int .u64 s1,.int .u64 s2,.int .u64 s3,.int .u64 s4,.int .u64 s5],.nilIface]) (by simp [results,Tryz.results39,go_sem,c0,c1,c2,c3,c4,c5]) rfl ⟨s0,s1,s2,s3,s4,s5,rfl,fS,HS.out,below_put6 bel (Nat.le_refl _)⟩
theorem drop_getD (bs:List Int) (k j:Nat):(bs.drop k).getD j 0=bs.getD (k + j) 0:=by
 simp [List.getD_eq_getElem?_getD,List.getElem?_drop]
theorem take_getD (bs:List Int) (k j:Nat) (h:j < k):(bs.take k).getD j 0=bs.getD j 0:=by
 simp [List.getD_eq_getElem?_getD,h]
theorem byt_drop {bs:List Int} (h:byt bs) (k:Nat):byt (bs.drop k):=fun j=>by rw [drop_getD];exact h _
theorem byt_take {bs:List Int} (h:byt bs) (k:Nat):byt (bs.take k):=fun j=>by
 by_cases hj:j < k
 ·rw [take_getD _ _ _ hj];exact h _
 ·rw [List.getD_eq_getElem?_getD,List.getElem?_eq_none (by simp;omega)];decide
/-- the coordinates that 97 bytes tell -/
def ptX (bs:List Int):List Int:=(bs.drop 1).take 48
def ptY (bs:List Int):List Int:=bs.drop 49
theorem ptX_len {bs:List Int} (h:bs.length=97):(ptX bs).length=48:=by simp [ptX];omega
theorem ptY_len {bs:List Int} (h:bs.length=97):(ptY bs).length=48:=by simp [ptY];omega
theorem ptX_byt {bs:List Int} (h:byt bs):byt (ptX bs):=byt_take (byt_drop h 1) 48
theorem ptY_byt {bs:List Int} (h:byt bs):byt (ptY bs):=byt_drop h 49
theorem bs97 {w:World} {v:Value} {bs:List Int} (h:Bs w v bs) (hl:bs.length=97):∃ b o cap,v=.slice (some ⟨b,o,none⟩) 97 cap∧97≤cap∧cap≤maxLen∧b < w.heap.size∧w.cell? ⟨b,o,none⟩=some (.int .u8 (bs.getD 0 0))∧Bs w (.slice (some ⟨b,o + 1,none⟩) 48 (cap - 1)) (ptX bs)∧Bs w (.slice (some ⟨b,o + 49,none⟩) 48 (cap - 49)) (ptY bs):=by
 obtain ⟨ao,cap,rfl,h2,h3,h4⟩:=h
 obtain ⟨b,o,rfl,h5,h6⟩:=h4 (by omega)
 have c0:=h6 0 (by omega)
 rw [Nat.add_zero] at c0
 refine ⟨b,o,cap,by rw [hl],by omega,h2,h5,c0,?_,?_⟩
 ·refine ⟨_,cap - 1,by rw [ptX_len hl],by omega,by rw [ptX_len hl];omega,fun _=>⟨b,o + 1,rfl,h5,fun j hj=>?_⟩⟩
  rw [ptX_len hl] at hj
  rw [ptX,take_getD _ _ _ hj,drop_getD,← h6 (1 + j) (by omega),Nat.add_assoc]
 ·refine ⟨_,cap - 49,by rw [ptY_len hl],by omega,by rw [ptY_len hl];omega,fun _=>⟨b,o + 49,rfl,h5,fun j hj=>?_⟩⟩
  rw [ptY_len hl] at hj
  rw [ptY,drop_getD,← h6 (49 + j) (by omega),Nat.add_assoc]
/-- bytes that tell no point, and the error's number -/
def DecBad (bs:List Int) (c:Int):Prop :=
 (bs.length < 97∧c=6)∨(97 < bs.length∧c=8)∨(bs.length=97∧¬ bs.getD 0 0=4∧c=7)∨(bs.length=97∧bs.getD 0 0=4∧(¬ beN (ptX bs) < PP∨¬ beN (ptY bs) < PP)∧c=3) ∨
 (bs.length=97∧bs.getD 0 0=4∧beN (ptX bs) < PP∧beN (ptY bs) < PP∧¬ IsOn false (beN (ptX bs)) (beN (ptY bs))∧c=4)
/-- bytes that tell a point -/
def DecOk (bs:List Int):Prop:=bs.length=97∧bs.getD 0 0=4∧beN (ptX bs) < PP∧beN (ptY bs) < PP∧IsOn false (beN (ptX bs)) (beN (ptY bs))
theorem dec_either (bs:List Int):DecOk bs∨∃ c,DecBad bs c:=by
 by_cases h1:bs.length < 97
 ·exact .inr ⟨6,.inl ⟨h1,rfl⟩⟩
 by_cases h2:97 < bs.length
 ·exact .inr ⟨8,.inr (.inl ⟨h2,rfl⟩)⟩
 have h3:bs.length=97:=by omega
 by_cases h4:bs.getD 0 0=4
 ·by_cases h5:beN (ptX bs) < PP
  ·by_cases h6:beN (ptY bs) < PP
   ·by_cases h7:IsOn false (beN (ptX bs)) (beN (ptY bs))
    ·exact .inl ⟨h3,h4,h5,h6,h7⟩
    ·exact .inr ⟨4,.inr (.inr (.inr (.inr ⟨h3,h4,h5,h6,h7,rfl⟩)))⟩
   ·exact .inr ⟨3,.inr (.inr (.inr (.inl ⟨h3,h4,.inr h6,rfl⟩)))⟩
  ·exact .inr ⟨3,.inr (.inr (.inr (.inl ⟨h3,h4,.inl h5,rfl⟩)))⟩
 ·exact .inr ⟨7,.inr (.inr (.inl ⟨h3,h4,rfl⟩))⟩
theorem dec_range {bs:List Int} {c:Int} (h:DecBad bs c):1≤c∧c≤21:=by
 rcases h with ⟨_,rfl⟩|⟨_,rfl⟩|⟨_,_,rfl⟩|⟨_,_,_,rfl⟩|⟨_,_,_,_,_,rfl⟩<;>decide
theorem ifaceC_not (c:Int):∀ w:World,(binOp .neq 30 (.iface 33 (.int .i64 c)) .nilIface).run Tryz.prog w=.ok (.bool true) w:=fun _=>by kernel_rfl
theorem ifaceC_nil:∀ w:World,(binOp .neq 30 .nilIface .nilIface).run Tryz.prog w=.ok (.bool false) w:=fun _=>by kernel_rfl
set_option maxRecDepth 100000 in
set_option maxHeartbeats 4000000 in
theorem dec_short {v:Value} {bs:List Int} {w:World} (h:Bs w v bs) (hl:bs.length < 97) :
  Calls Tryz.prog 16 #[v] w fun e w'=>e=.returned (.tuple #[.agg #[.int .u64 0,.int .u64 0,.int .u64 0,.int .u64 0,.int .u64 0,.int .u64 0,.int .u64 0,.int .u64 0,.int .u64 0,.int .u64 0,.int .u64 0,.int .u64 0,.bool false],.iface 33 (.int .i64 6)])∧Below w.heap.size w w':=by
 obtain ⟨ao,cap,rfl,h2,h3,-⟩:=h
 unfold maxLen at h2
 have g1:(bs.length:Int) < 97:=by omega
 have B0:=Blk.new w [.int .u64 0,.int .u64 0,.int .u64 0,.int .u64 0,.int .u64 0,.int .u64 0,.int .u64 0,.int .u64 0,.int .u64 0,.int .u64 0,.int .u64 0,.int .u64 0,.bool false] 26 (w.heap.size) rfl
 have bel:Below w.heap.size w (w.alloc (.cells [.int .u64 0,.int .u64 0,.int .u64 0,.int .u64 0,.int .u64 0,.int .u64 0,.int .u64 0,.int .u64 0,.int .u64 0,.int .u64 0,.int .u64 0,.int .u64 0,.bool false].toArray 26)):=((Below.refl _ _).alloc (Nat.le_refl _) _)
 go_enter Tryz.func16,Tryz.ntmps16
 go_upto_region 1 with fail
 try simp only [us,List.map_cons,List.map_nil] at bel
 generalize (w.alloc (Obj.cells #[.int .u64 0,.int .u64 0,.int .u64 0,.int .u64 0,.int .u64 0,.int .u64 0,.int .u64 0,.int .u64 0,.int .u64 0,.int .u64 0,.int .u64 0,.int .u64 0,.bool false] 26))=W at *
 have Br:=B0
 clear B0
 have ltr:=Br.lt
 have d0:=Br.cell 0 _ rfl;have g0:=Br.frozen 0;have d1:=Br.cell 1 _ rfl;have g1:=Br.frozen 1;have d2:=Br.cell 2 _ rfl;have g2:=Br.frozen 2;have d3:=Br.cell 3 _ rfl;have g3:=Br.frozen 3;have d4:=Br.cell 4 _ rfl;have g4:=Br.frozen 4;have d5:=Br.cell 5 _ rfl;have g5:=Br.frozen 5;have d6:=Br.cell 6 _ rfl;have g6:=Br.frozen 6;have d7:=Br.cell 7 _ rfl;have g7:=Br.frozen 7;have d8:=Br.cell 8 _ rfl;have g8:=Br.frozen 8;have d9:=Br.cell 9 _ rfl;have g9:=Br.frozen 9;have d10:=Br.cell 10 _ rfl;have g10:=Br.frozen 10;have d11:=Br.cell 11 _ rfl;have g11:=Br.frozen 11;have d12:=Br.cell 12 _ rfl;have g12:=Br.frozen 12
 go_wp2_with fail
 exact bodyPost_ret (v:=.tuple #[.agg #[.int .u64 0,.int .u64 0,.int .u64 0,.int .u64 0,.int .u64 0,.int .u64 0,.int .u64 0,.int .u64 0,.int .u64 0,.int .u64 0,.int .u64 0,.int .u64 0,.bool false],.iface 33 (.int .i64 6)]) (by simp [results,Tryz.results16,go_sem,d0,d1,d2,d3,d4,d5,d6,d7,d8,d9,d10,d11,d12]) rfl ⟨rfl,below_put13 bel (by omega)⟩
set_option maxRecDepth 100000 in
set_option maxHeartbeats 4000000 in
theorem dec_more {v:Value} {bs:List Int} {w:World} (h:Bs w v bs) (hl:97 < bs.length) :
  Calls Tryz.prog 16 #[v] w fun e w'=>e=.returned (.tuple #[.agg #[.int .u64 0,.int .u64 0,.int .u64 0,.int .u64 0,.int .u64 0,.int .u64 0,.int .u64 0,.int .u64 0,.int .u64 0,.int .u64 0,.int .u64 0,.int .u64 0,.bool false],.iface 33 (.int .i64 8)])∧Below w.heap.size w w':=by
 obtain ⟨ao,cap,rfl,h2,h3,-⟩:=h
 unfold maxLen at h2
 have g1:¬ (bs.length:Int) < 97:=by omega
 have g2:(97:Int) < (bs.length:Int):=by omega
 have B0:=Blk.new w [.int .u64 0,.int .u64 0,.int .u64 0,.int .u64 0,.int .u64 0,.int .u64 0,.int .u64 0,.int .u64 0,.int .u64 0,.int .u64 0,.int .u64 0,.int .u64 0,.bool false] 26 (w.heap.size) rfl
 have bel:Below w.heap.size w (w.alloc (.cells [.int .u64 0,.int .u64 0,.int .u64 0,.int .u64 0,.int .u64 0,.int .u64 0,.int .u64 0,.int .u64 0,.int .u64 0,.int .u64 0,.int .u64 0,.int .u64 0,.bool false].toArray 26)):=((Below.refl _ _).alloc (Nat.le_refl _) _)
 go_enter Tryz.func16,Tryz.ntmps16
 go_upto_region 1 with fail
 try simp only [us,List.map_cons,List.map_nil] at bel
 generalize (w.alloc (Obj.cells #[.int .u64 0,.int .u64 0,.int .u64 0,.int .u64 0,.int .u64 0,.int .u64 0,.int .u64 0,.int .u64 0,.int .u64 0,.int .u64 0,.int .u64 0,.int .u64 0,.bool false] 26))=W at *
 have Br:=B0
 clear B0
 have ltr:=Br.lt
 have d0:=Br.cell 0 _ rfl;have g0:=Br.frozen 0;have d1:=Br.cell 1 _ rfl;have g1:=Br.frozen 1;have d2:=Br.cell 2 _ rfl;have g2:=Br.frozen 2;have d3:=Br.cell 3 _ rfl;have g3:=Br.frozen 3;have d4:=Br.cell 4 _ rfl;have g4:=Br.frozen 4;have d5:=Br.cell 5 _ rfl;have g5:=Br.frozen 5;have d6:=Br.cell 6 _ rfl;have g6:=Br.frozen 6;have d7:=Br.cell 7 _ rfl;have g7:=Br.frozen 7;have d8:=Br.cell 8 _ rfl;have g8:=Br.frozen 8;have d9:=Br.cell 9 _ rfl;have g9:=Br.frozen 9;have d10:=Br.cell 10 _ rfl;have g10:=Br.frozen 10;have d11:=Br.cell 11 _ rfl;have g11:=Br.frozen 11;have d12:=Br.cell 12 _ rfl;have g12:=Br.frozen 12
 go_wp2_with fail
 exact bodyPost_ret (v:=.tuple #[.agg #[.int .u64 0,.int .u64 0,.int .u64 0,.int .u64 0,.int .u64 0,.int .u64 0,.int .u64 0,.int .u64 0,.int .u64 0,.int .u64 0,.int .u64 0,.int .u64 0,.bool false],.iface 33 (.int .i64 8)]) (by simp [results,Tryz.results16,go_sem,d0,d1,d2,d3,d4,d5,d6,d7,d8,d9,d10,d11,d12]) rfl ⟨rfl,below_put13 bel (by omega)⟩
set_option maxRecDepth 100000 in
set_option maxHeartbeats 4000000 in
theorem dec_form {v:Value} {bs:List Int} {w:World} (h:Bs w v bs) (hl:bs.length=97) (hf:¬ bs.getD 0 0=4) :
  Calls Tryz.prog 16 #[v] w fun e w'=>e=.returned (.tuple #[.agg #[.int .u64 0,.int .u64 0,.int .u64 0,.int .u64 0,.int .u64 0,.int .u64 0,.int .u64 0,.int .u64 0,.int .u64 0,.int .u64 0,.int .u64 0,.int .u64 0,.bool false],.iface 33 (.int .i64 7)])∧Below w.heap.size w w':=by
 obtain ⟨b,o,cap,rfl,k1,k2,ltb,c0,SX,SY⟩:=bs97 h hl
 unfold maxLen at k2
 clear h
 obtain ⟨f,ef⟩:∃ f,bs.getD 0 0=f:=⟨_,rfl⟩
 rw [ef] at c0 hf
 clear ef hl SX SY
 have B0:=Blk.new w [.int .u64 0,.int .u64 0,.int .u64 0,.int .u64 0,.int .u64 0,.int .u64 0,.int .u64 0,.int .u64 0,.int .u64 0,.int .u64 0,.int .u64 0,.int .u64 0,.bool false] 26 (w.heap.size) rfl
 have bel:Below w.heap.size w (w.alloc (.cells [.int .u64 0,.int .u64 0,.int .u64 0,.int .u64 0,.int .u64 0,.int .u64 0,.int .u64 0,.int .u64 0,.int .u64 0,.int .u64 0,.int .u64 0,.int .u64 0,.bool false].toArray 26)):=((Below.refl _ _).alloc (Nat.le_refl _) _)
 go_enter Tryz.func16,Tryz.ntmps16
 go_upto_region 1 with fail
 try simp only [us,List.map_cons,List.map_nil] at bel
 generalize (w.alloc (Obj.cells #[.int .u64 0,.int .u64 0,.int .u64 0,.int .u64 0,.int .u64 0,.int .u64 0,.int .u64 0,.int .u64 0,.int .u64 0,.int .u64 0,.int .u64 0,.int .u64 0,.bool false] 26))=W at *
 have Br:=B0
 clear B0
 have c1:=cell_later c0 bel
 have lt1:=Nat.lt_of_lt_of_le ltb bel.size
 clear c0
 have ltr:=Br.lt
 have d0:=Br.cell 0 _ rfl;have g0:=Br.frozen 0;have d1:=Br.cell 1 _ rfl;have g1:=Br.frozen 1;have d2:=Br.cell 2 _ rfl;have g2:=Br.frozen 2;have d3:=Br.cell 3 _ rfl;have g3:=Br.frozen 3;have d4:=Br.cell 4 _ rfl;have g4:=Br.frozen 4;have d5:=Br.cell 5 _ rfl;have g5:=Br.frozen 5;have d6:=Br.cell 6 _ rfl;have g6:=Br.frozen 6;have d7:=Br.cell 7 _ rfl;have g7:=Br.frozen 7;have d8:=Br.cell 8 _ rfl;have g8:=Br.frozen 8;have d9:=Br.cell 9 _ rfl;have g9:=Br.frozen 9;have d10:=Br.cell 10 _ rfl;have g10:=Br.frozen 10;have d11:=Br.cell 11 _ rfl;have g11:=Br.frozen 11;have d12:=Br.cell 12 _ rfl;have g12:=Br.frozen 12
 go_wp2_with fail
 exact bodyPost_ret (v:=.tuple #[.agg #[.int .u64 0,.int .u64 0,.int .u64 0,.int .u64 0,.int .u64 0,.int .u64 0,.int .u64 0,.int .u64 0,.int .u64 0,.int .u64 0,.int .u64 0,.int .u64 0,.bool false],.iface 33 (.int .i64 7)]) (by simp [results,Tryz.results16,go_sem,d0,d1,d2,d3,d4,d5,d6,d7,d8,d9,d10,d11,d12]) rfl ⟨rfl,below_put13 bel (by omega)⟩
set_option maxRecDepth 100000 in
set_option maxHeartbeats 4000000 in
theorem dec_x {v:Value} {bs:List Int} {w:World} (G:GlsC w) (h:Bs w v bs) (hB:byt bs) (hl:bs.length=97) (hf:bs.getD 0 0=4) (hx:¬ beN (ptX bs) < PP) :
  Calls Tryz.prog 16 #[v] w fun e w'=>e=.returned (.tuple #[.agg #[.int .u64 0,.int .u64 0,.int .u64 0,.int .u64 0,.int .u64 0,.int .u64 0,.int .u64 0,.int .u64 0,.int .u64 0,.int .u64 0,.int .u64 0,.int .u64 0,.bool false],.iface 33 (.int .i64 3)])∧Below w.heap.size w w':=by
 have HX:Hid _:=Int.not_lt.1 hx
 clear hx
 have q1:=ifaceC_not 3
 obtain ⟨b,o,cap,rfl,k1,k2,ltb,c0,SX,SY⟩:=bs97 h hl
 unfold maxLen at k2
 clear h
 have LX:Hid _:=ptX_len hl
 have LY:Hid _:=ptY_len hl
 have YX:=ptX_byt hB
 have YY:=ptY_byt hB
 rw [hf] at c0
 clear hl hf hB
 have B0:=Blk.new w [.int .u64 0,.int .u64 0,.int .u64 0,.int .u64 0,.int .u64 0,.int .u64 0,.int .u64 0,.int .u64 0,.int .u64 0,.int .u64 0,.int .u64 0,.int .u64 0,.bool false] 26 (w.heap.size) rfl
 have bel:Below w.heap.size w (w.alloc (.cells [.int .u64 0,.int .u64 0,.int .u64 0,.int .u64 0,.int .u64 0,.int .u64 0,.int .u64 0,.int .u64 0,.int .u64 0,.int .u64 0,.int .u64 0,.int .u64 0,.bool false].toArray 26)):=((Below.refl _ _).alloc (Nat.le_refl _) _)
 go_enter Tryz.func16,Tryz.ntmps16
 go_upto_region 1 with fail
 try simp only [us,List.map_cons,List.map_nil] at bel
 generalize (w.alloc (Obj.cells #[.int .u64 0,.int .u64 0,.int .u64 0,.int .u64 0,.int .u64 0,.int .u64 0,.int .u64 0,.int .u64 0,.int .u64 0,.int .u64 0,.int .u64 0,.int .u64 0,.bool false] 26))=W at *
 have Br:=B0
 clear B0
 have c1:=cell_later c0 bel
 have lt1:=Nat.lt_of_lt_of_le ltb bel.size
 clear c0
 replace SX:=SX.later bel
 replace SY:=SY.later bel
 go_wp2_with fail
 refine (decode_range (G.below bel).fld SX LX.out YX HX.out).mono ?_
 rintro e w1 ⟨rfl,hb⟩
 replace Br:=Br.later hb
 replace bel:=below_step bel hb
 clear hb
 clear c1 lt1 SX SY
 replace Br:=Br.alloc (.cells [.int .u64 0,.int .u64 0,.int .u64 0,.int .u64 0,.int .u64 0,.int .u64 0].toArray 24)
 have Bx:=Blk.new w1 [.int .u64 0,.int .u64 0,.int .u64 0,.int .u64 0,.int .u64 0,.int .u64 0] 24 w1.heap.size rfl
 replace bel:=below_alloc (o:=.cells [.int .u64 0,.int .u64 0,.int .u64 0,.int .u64 0,.int .u64 0,.int .u64 0].toArray 24) bel
 have lwx:∀ z,z < w1.heap.size→z≠w1.heap.size:=fun z h=>Nat.ne_of_lt h
 go_upto_region 8 with fail
 obtain ⟨bx,hbx⟩:∃ b,b=w1.heap.size:=⟨_,rfl⟩
 clear lwx
 generalize w1.alloc (Obj.cells #[.int .u64 0,.int .u64 0,.int .u64 0,.int .u64 0,.int .u64 0,.int .u64 0] 24)=Wx at *
 rw [← hbx] at Bx ⊢
 clear hbx
 have ltr:=Br.lt
 have d0:=Br.cell 0 _ rfl;have g0:=Br.frozen 0;have d1:=Br.cell 1 _ rfl;have g1:=Br.frozen 1;have d2:=Br.cell 2 _ rfl;have g2:=Br.frozen 2;have d3:=Br.cell 3 _ rfl;have g3:=Br.frozen 3;have d4:=Br.cell 4 _ rfl;have g4:=Br.frozen 4;have d5:=Br.cell 5 _ rfl;have g5:=Br.frozen 5;have d6:=Br.cell 6 _ rfl;have g6:=Br.frozen 6;have d7:=Br.cell 7 _ rfl;have g7:=Br.frozen 7;have d8:=Br.cell 8 _ rfl;have g8:=Br.frozen 8;have d9:=Br.cell 9 _ rfl;have g9:=Br.frozen 9;have d10:=Br.cell 10 _ rfl;have g10:=Br.frozen 10;have d11:=Br.cell 11 _ rfl;have g11:=Br.frozen 11;have d12:=Br.cell 12 _ rfl;have g12:=Br.frozen 12
 go_wp2_with fail
 exact bodyPost_ret (v:=.tuple #[.agg #[.int .u64 0,.int .u64 0,.int .u64 0,.int .u64 0,.int .u64 0,.int .u64 0,.int .u64 0,.int .u64 0,.int .u64 0,.int .u64 0,.int .u64 0,.int .u64 0,.bool false],.iface 33 (.int .i64 3)]) (by simp [results,Tryz.results16,go_sem,d0,d1,d2,d3,d4,d5,d6,d7,d8,d9,d10,d11,d12]) rfl ⟨rfl,below_put13 bel (by omega)⟩
set_option maxRecDepth 100000 in
set_option maxHeartbeats 4000000 in
theorem dec_y {v:Value} {bs:List Int} {w:World} (G:GlsC w) (h:Bs w v bs) (hB:byt bs) (hl:bs.length=97) (hf:bs.getD 0 0=4) (hx:beN (ptX bs) < PP) (hy:¬ beN (ptY bs) < PP) :
  Calls Tryz.prog 16 #[v] w fun e w'=>e=.returned (.tuple #[.agg #[.int .u64 0,.int .u64 0,.int .u64 0,.int .u64 0,.int .u64 0,.int .u64 0,.int .u64 0,.int .u64 0,.int .u64 0,.int .u64 0,.int .u64 0,.int .u64 0,.bool false],.iface 33 (.int .i64 3)])∧Below w.heap.size w w':=by
 have HX:Hid _:=hx
 have HY:Hid _:=Int.not_lt.1 hy
 clear hx hy
 have q0:=ifaceC_nil
 have q1:=ifaceC_not 3
 obtain ⟨b,o,cap,rfl,k1,k2,ltb,c0,SX,SY⟩:=bs97 h hl
 unfold maxLen at k2
 clear h
 have LX:Hid _:=ptX_len hl
 have LY:Hid _:=ptY_len hl
 have YX:=ptX_byt hB
 have YY:=ptY_byt hB
 rw [hf] at c0
 clear hl hf hB
 have B0:=Blk.new w [.int .u64 0,.int .u64 0,.int .u64 0,.int .u64 0,.int .u64 0,.int .u64 0,.int .u64 0,.int .u64 0,.int .u64 0,.int .u64 0,.int .u64 0,.int .u64 0,.bool false] 26 (w.heap.size) rfl
 have bel:Below w.heap.size w (w.alloc (.cells [.int .u64 0,.int .u64 0,.int .u64 0,.int .u64 0,.int .u64 0,.int .u64 0,.int .u64 0,.int .u64 0,.int .u64 0,.int .u64 0,.int .u64 0,.int .u64 0,.bool false].toArray 26)):=((Below.refl _ _).alloc (Nat.le_refl _) _)
 go_enter Tryz.func16,Tryz.ntmps16
 go_upto_region 1 with fail
 try simp only [us,List.map_cons,List.map_nil] at bel
 generalize (w.alloc (Obj.cells #[.int .u64 0,.int .u64 0,.int .u64 0,.int .u64 0,.int .u64 0,.int .u64 0,.int .u64 0,.int .u64 0,.int .u64 0,.int .u64 0,.int .u64 0,.int .u64 0,.bool false] 26))=W at *
 have Br:=B0
 clear B0
 have c1:=cell_later c0 bel
 have lt1:=Nat.lt_of_lt_of_le ltb bel.size
 clear c0
 replace SX:=SX.later bel
 replace SY:=SY.later bel
 go_wp2_with fail
 refine (decode_ok (G.below bel).fld SX LX.out YX HX.out).mono ?_
 rintro e w1 ⟨s0,s1,s2,s3,s4,s5,rfl,fS,hs,hb⟩
 replace Br:=Br.later hb
 replace bel:=below_step bel hb
 clear SX c1 lt1
 have HS:Hid _:=hs
 clear hs
 replace SY:=SY.later (by assumption)
 clear hb
 replace SY:=SY.later ((Below.refl _ _).alloc (Nat.le_refl _) (.cells [.int .u64 s0,.int .u64 s1,.int .u64 s2,.int .u64 s3,.int .u64 s4,.int .u64 s5].toArray 24))
 replace Br:=Br.alloc (.cells [.int .u64 s0,.int .u64 s1,.int .u64 s2,.int .u64 s3,.int .u64 s4,.int .u64 s5].toArray 24)
 have Bx:=Blk.new w1 [.int .u64 s0,.int .u64 s1,.int .u64 s2,.int .u64 s3,.int .u64 s4,.int .u64 s5] 24 w1.heap.size rfl
 replace bel:=below_alloc (o:=.cells [.int .u64 s0,.int .u64 s1,.int .u64 s2,.int .u64 s3,.int .u64 s4,.int .u64 s5].toArray 24) bel
 have lwx:∀ z,z < w1.heap.size→z≠w1.heap.size:=fun z h=>Nat.ne_of_lt h
 go_upto_region 8 with fail
 obtain ⟨bx,hbx⟩:∃ b,b=w1.heap.size:=⟨_,rfl⟩
 clear lwx
 generalize w1.alloc (Obj.cells #[.int .u64 s0,.int .u64 s1,.int .u64 s2,.int .u64 s3,.int .u64 s4,.int .u64 s5] 24)=Wx at *
 rw [← hbx] at Bx ⊢
 clear hbx
 go_wp2_with fail
 refine (decode_range (G.below bel).fld SY LY.out YY HY.out).mono ?_
 rintro e w2 ⟨rfl,hb⟩
 replace Br:=Br.later hb
 replace Bx:=Bx.later hb
 replace bel:=below_step bel hb
 clear hb
 clear SY
 replace Br:=Br.alloc (.cells [.int .u64 0,.int .u64 0,.int .u64 0,.int .u64 0,.int .u64 0,.int .u64 0].toArray 24)
 replace Bx:=Bx.alloc (.cells [.int .u64 0,.int .u64 0,.int .u64 0,.int .u64 0,.int .u64 0,.int .u64 0].toArray 24)
 have Byy:=Blk.new w2 [.int .u64 0,.int .u64 0,.int .u64 0,.int .u64 0,.int .u64 0,.int .u64 0] 24 w2.heap.size rfl
 replace bel:=below_alloc (o:=.cells [.int .u64 0,.int .u64 0,.int .u64 0,.int .u64 0,.int .u64 0,.int .u64 0].toArray 24) bel
 have lwyy:∀ z,z < w2.heap.size→z≠w2.heap.size:=fun z h=>Nat.ne_of_lt h
 go_upto_region 11 with fail
 obtain ⟨byy,hbyy⟩:∃ b,b=w2.heap.size:=⟨_,rfl⟩
 clear lwyy
 generalize w2.alloc (Obj.cells #[.int .u64 0,.int .u64 0,.int .u64 0,.int .u64 0,.int .u64 0,.int .u64 0] 24)=Wyy at *
 rw [← hbyy] at Byy ⊢
 clear hbyy
 have ltr:=Br.lt
 have d0:=Br.cell 0 _ rfl;have g0:=Br.frozen 0;have d1:=Br.cell 1 _ rfl;have g1:=Br.frozen 1;have d2:=Br.cell 2 _ rfl;have g2:=Br.frozen 2;have d3:=Br.cell 3 _ rfl;have g3:=Br.frozen 3;have d4:=Br.cell 4 _ rfl;have g4:=Br.frozen 4;have d5:=Br.cell 5 _ rfl;have g5:=Br.frozen 5;have d6:=Br.cell 6 _ rfl;have g6:=Br.frozen 6;have d7:=Br.cell 7 _ rfl;have g7:=Br.frozen 7;have d8:=Br.cell 8 _ rfl;have g8:=Br.frozen 8;have d9:=Br.cell 9 _ rfl;have g9:=Br.frozen 9;have d10:=Br.cell 10 _ rfl;have g10:=Br.frozen 10;have d11:=Br.cell 11 _ rfl;have g11:=Br.frozen 11;have d12:=Br.cell 12 _ rfl;have g12:=Br.frozen 12
 go_wp2_with fail
 exact bodyPost_ret (v:=.tuple #[.agg #[.int .u64 0,.int .u64 0,.int .u64 0,.int .u64 0,.int .u64 0,.int .u64 0,.int .u64 0,.int .u64 0,.int .u64 0,.int .u64 0,.int .u64 0,.int .u64 0,.bool false],.iface 33 (.int .i64 3)]) (by simp [results,Tryz.results16,go_sem,d0,d1,d2,d3,d4,d5,d6,d7,d8,d9,d10,d11,d12]) rfl ⟨rfl,below_put13 bel (by omega)⟩
set_option maxRecDepth 100000 in
set_option maxHeartbeats 4000000 in
theorem dec_none {v:Value} {bs:List Int} {w:World} (G:GlsC w) (h:Bs w v bs) (hB:byt bs) (hl:bs.length=97) (hf:bs.getD 0 0=4) (hx:beN (ptX bs) < PP) (hy:beN (ptY bs) < PP) (ho:¬ IsOn false (beN (ptX bs)) (beN (ptY bs))) :
  Calls Tryz.prog 16 #[v] w fun e w'=>e=.returned (.tuple #[.agg #[.int .u64 0,.int .u64 0,.int .u64 0,.int .u64 0,.int .u64 0,.int .u64 0,.int .u64 0,.int .u64 0,.int .u64 0,.int .u64 0,.int .u64 0,.int .u64 0,.bool false],.iface 33 (.int .i64 4)])∧Below w.heap.size w w':=by
 have HX:Hid _:=hx
 have HY:Hid _:=hy
 clear hx hy
 have q0:=ifaceC_nil
 have HO:Hid (¬ IsOn false (beN (ptX bs)) (beN (ptY bs))):=ho
 clear ho
 obtain ⟨b,o,cap,rfl,k1,k2,ltb,c0,SX,SY⟩:=bs97 h hl
 unfold maxLen at k2
 clear h
 have LX:Hid _:=ptX_len hl
 have LY:Hid _:=ptY_len hl
 have YX:=ptX_byt hB
 have YY:=ptY_byt hB
 rw [hf] at c0
 clear hl hf hB
 have B0:=Blk.new w [.int .u64 0,.int .u64 0,.int .u64 0,.int .u64 0,.int .u64 0,.int .u64 0,.int .u64 0,.int .u64 0,.int .u64 0,.int .u64 0,.int .u64 0,.int .u64 0,.bool false] 26 (w.heap.size) rfl
 have bel:Below w.heap.size w (w.alloc (.cells [.int .u64 0,.int .u64 0,.int .u64 0,.int .u64 0,.int .u64 0,.int .u64 0,.int .u64 0,.int .u64 0,.int .u64 0,.int .u64 0,.int .u64 0,.int .u64 0,.bool false].toArray 26)):=((Below.refl _ _).alloc (Nat.le_refl _) _)
 go_enter Tryz.func16,Tryz.ntmps16
 go_upto_region 1 with fail
 try simp only [us,List.map_cons,List.map_nil] at bel
 generalize (w.alloc (Obj.cells #[.int .u64 0,.int .u64 0,.int .u64 0,.int .u64 0,.int .u64 0,.int .u64 0,.int .u64 0,.int .u64 0,.int .u64 0,.int .u64 0,.int .u64 0,.int .u64 0,.bool false] 26))=W at *
 have Br:=B0
 clear B0
 have c1:=cell_later c0 bel
 have lt1:=Nat.lt_of_lt_of_le ltb bel.size
 clear c0
 replace SX:=SX.later bel
 replace SY:=SY.later bel
 go_wp2_with fail
 refine (decode_ok (G.below bel).fld SX LX.out YX HX.out).mono ?_
 rintro e w1 ⟨s0,s1,s2,s3,s4,s5,rfl,fS,hs,hb⟩
 replace Br:=Br.later hb
 replace bel:=below_step bel hb
 clear SX c1 lt1
 have HS:Hid _:=hs
 clear hs
 replace SY:=SY.later (by assumption)
 clear hb
 replace SY:=SY.later ((Below.refl _ _).alloc (Nat.le_refl _) (.cells [.int .u64 s0,.int .u64 s1,.int .u64 s2,.int .u64 s3,.int .u64 s4,.int .u64 s5].toArray 24))
 replace Br:=Br.alloc (.cells [.int .u64 s0,.int .u64 s1,.int .u64 s2,.int .u64 s3,.int .u64 s4,.int .u64 s5].toArray 24)
 have Bx:=Blk.new w1 [.int .u64 s0,.int .u64 s1,.int .u64 s2,.int .u64 s3,.int .u64 s4,.int .u64 s5] 24 w1.heap.size rfl
 replace bel:=below_alloc (o:=.cells [.int .u64 s0,.int .u64 s1,.int .u64 s2,.int .u64 s3,.int .u64 s4,.int .u64 s5].toArray 24) bel
 have lwx:∀ z,z < w1.heap.size→z≠w1.heap.size:=fun z h=>Nat.ne_of_lt h
 go_upto_region 8 with fail
 obtain ⟨bx,hbx⟩:∃ b,b=w1.heap.size:=⟨_,rfl⟩
 clear lwx
 generalize w1.alloc (Obj.cells #[.int .u64 s0,.int .u64 s1,.int .u64 s2,.int .u64 s3,.int .u64 s4,.int .u64 s5] 24)=Wx at *
 rw [← hbx] at Bx ⊢
 clear hbx
 go_wp2_with fail
 refine (decode_ok (G.below bel).fld SY LY.out YY HY.out).mono ?_
 rintro e w2 ⟨t0,t1,t2,t3,t4,t5,rfl,fT,ht,hb⟩
 replace Br:=Br.later hb
 replace Bx:=Bx.later hb
 replace bel:=below_step bel hb
 clear hb
 have HT:Hid _:=ht
 clear ht SY
 replace Br:=Br.alloc (.cells [.int .u64 t0,.int .u64 t1,.int .u64 t2,.int .u64 t3,.int .u64 t4,.int .u64 t5].toArray 24)
 replace Bx:=Bx.alloc (.cells [.int .u64 t0,.int .u64 t1,.int .u64 t2,.int .u64 t3,.int .u64 t4,.int .u64 t5].toArray 24)
 have Bv:=Blk.new w2 [.int .u64 t0,.int .u64 t1,.int .u64 t2,.int .u64 t3,.int .u64 t4,.int .u64 t5] 24 w2.heap.size rfl
 replace bel:=below_alloc (o:=.cells [.int .u64 t0,.int .u64 t1,.int .u64 t2,.int .u64 t3,.int .u64 t4,.int .u64 t5].toArray 24) bel
 have lwv:∀ z,z < w2.heap.size→z≠w2.heap.size:=fun z h=>Nat.ne_of_lt h
 go_upto_region 13 with fail
 obtain ⟨bv,hbv⟩:∃ b,b=w2.heap.size:=⟨_,rfl⟩
 clear lwv
 generalize w2.alloc (Obj.cells #[.int .u64 t0,.int .u64 t1,.int .u64 t2,.int .u64 t3,.int .u64 t4,.int .u64 t5] 24)=Wv at *
 rw [← hbv] at Bv ⊢
 clear hbv
 have ltx:=Bx.lt
 have cx0:=Bx.cell 0 _ rfl
 have cx1:=Bx.cell 1 _ rfl
 have cx2:=Bx.cell 2 _ rfl
 have cx3:=Bx.cell 3 _ rfl
 have cx4:=Bx.cell 4 _ rfl
 have cx5:=Bx.cell 5 _ rfl
 have ltv:=Bv.lt
 have cv0:=Bv.cell 0 _ rfl
 have cv1:=Bv.cell 1 _ rfl
 have cv2:=Bv.cell 2 _ rfl
 have cv3:=Bv.cell 3 _ rfl
 have cv4:=Bv.cell 4 _ rfl
 have cv5:=Bv.cell 5 _ rfl
 go_upto_region 14 with fail
 clear ltx cx0 cx1 cx2 cx3 cx4 cx5 ltv cv0 cv1 cv2 cv3 cv4 cv5
 replace Br:=Br.alloc (.cells [.int .u64 s0,.int .u64 s1,.int .u64 s2,.int .u64 s3,.int .u64 s4,.int .u64 s5,.int .u64 t0,.int .u64 t1,.int .u64 t2,.int .u64 t3,.int .u64 t4,.int .u64 t5,.bool false].toArray 26)
 replace Bx:=Bx.alloc (.cells [.int .u64 s0,.int .u64 s1,.int .u64 s2,.int .u64 s3,.int .u64 s4,.int .u64 s5,.int .u64 t0,.int .u64 t1,.int .u64 t2,.int .u64 t3,.int .u64 t4,.int .u64 t5,.bool false].toArray 26)
 replace Bv:=Bv.alloc (.cells [.int .u64 s0,.int .u64 s1,.int .u64 s2,.int .u64 s3,.int .u64 s4,.int .u64 s5,.int .u64 t0,.int .u64 t1,.int .u64 t2,.int .u64 t3,.int .u64 t4,.int .u64 t5,.bool false].toArray 26)
 have Bp:=Blk.new Wv [.int .u64 s0,.int .u64 s1,.int .u64 s2,.int .u64 s3,.int .u64 s4,.int .u64 s5,.int .u64 t0,.int .u64 t1,.int .u64 t2,.int .u64 t3,.int .u64 t4,.int .u64 t5,.bool false] 26 Wv.heap.size rfl
 replace bel:=below_alloc (o:=.cells [.int .u64 s0,.int .u64 s1,.int .u64 s2,.int .u64 s3,.int .u64 s4,.int .u64 s5,.int .u64 t0,.int .u64 t1,.int .u64 t2,.int .u64 t3,.int .u64 t4,.int .u64 t5,.bool false].toArray 26) bel
 obtain ⟨bp,hbp⟩:∃ b,b=Wv.heap.size:=⟨_,rfl⟩
 generalize Wv.alloc (Obj.cells #[.int .u64 s0,.int .u64 s1,.int .u64 s2,.int .u64 s3,.int .u64 s4,.int .u64 s5,.int .u64 t0,.int .u64 t1,.int .u64 t2,.int .u64 t3,.int .u64 t4,.int .u64 t5,.bool false] 26)=Wp at *
 rw [← hbp] at Bp ⊢
 clear hbp
 have ltp:=Bp.lt
 have cp0:=Bp.cell 0 _ rfl
 have cp1:=Bp.cell 1 _ rfl
 have cp2:=Bp.cell 2 _ rfl
 have cp3:=Bp.cell 3 _ rfl
 have cp4:=Bp.cell 4 _ rfl
 have cp5:=Bp.cell 5 _ rfl
 have cp6:=Bp.cell 6 _ rfl
 have cp7:=Bp.cell 7 _ rfl
 have cp8:=Bp.cell 8 _ rfl
 have cp9:=Bp.cell 9 _ rfl
 have cp10:=Bp.cell 10 _ rfl
 have cp11:=Bp.cell 11 _ rfl
 have cp12:=Bp.cell 12 _ rfl
 go_wp2_with fail
 refine (con_On (n:=false) (b:=false) (G.below bel) fS fT (by rw [HS.out,HT.out];exact ⟨fun h=>absurd h (by simp),fun h=>absurd h HO.out⟩)).mono ?_
 rintro e w3 ⟨rfl,hb⟩
 clear ltp cp0 cp1 cp2 cp3 cp4 cp5 cp6 cp7 cp8 cp9 cp10 cp11 cp12
 replace Br:=Br.later hb
 replace Bx:=Bx.later hb
 replace Bv:=Bv.later hb
 replace Bp:=Bp.later hb
 replace bel:=below_step bel hb
 clear hb
 have ltr:=Br.lt
 have d0:=Br.cell 0 _ rfl;have g0:=Br.frozen 0;have d1:=Br.cell 1 _ rfl;have g1:=Br.frozen 1;have d2:=Br.cell 2 _ rfl;have g2:=Br.frozen 2;have d3:=Br.cell 3 _ rfl;have g3:=Br.frozen 3;have d4:=Br.cell 4 _ rfl;have g4:=Br.frozen 4;have d5:=Br.cell 5 _ rfl;have g5:=Br.frozen 5;have d6:=Br.cell 6 _ rfl;have g6:=Br.frozen 6;have d7:=Br.cell 7 _ rfl;have g7:=Br.frozen 7;have d8:=Br.cell 8 _ rfl;have g8:=Br.frozen 8;have d9:=Br.cell 9 _ rfl;have g9:=Br.frozen 9;have d10:=Br.cell 10 _ rfl;have g10:=Br.frozen 10;have d11:=Br.cell 11 _ rfl;have g11:=Br.frozen 11;have d12:=Br.cell 12 _ rfl;have g12:=Br.frozen 12
 go_wp2_with fail
 exact bodyPost_ret (v:=.tuple #[.agg #[.int .u64 0,.int .u64 0,.int .u64 0,.int .u64 0,.int .u64 0,.int .u64 0,.int .u64 0,.int .u64 0,.int .u64 0,.int .u64 0,.int .u64 0,.int .u64 0,.bool false],.iface 33 (.int .i64 4)]) (by simp [results,Tryz.results16,go_sem,d0,d1,d2,d3,d4,d5,d6,d7,d8,d9,d10,d11,d12]) rfl ⟨rfl,below_put13 bel (by omega)⟩
set_option maxRecDepth 100000 in
set_option maxHeartbeats 4000000 in
theorem dec_ok {v:Value} {bs:List Int} {w:World} (G:GlsC w) (h:Bs w v bs) (hB:byt bs) (hl:bs.length=97) (hf:bs.getD 0 0=4) (hx:beN (ptX bs) < PP) (hy:beN (ptY bs) < PP) (ho:IsOn false (beN (ptX bs)) (beN (ptY bs))) :
  Calls Tryz.prog 16 #[v] w fun e w'=>∃ s0 s1 s2 s3 s4 s5 t0 t1 t2 t3 t4 t5:Int,e=.returned (.tuple #[.agg #[.int .u64 s0,.int .u64 s1,.int .u64 s2,.int .u64 s3,.int .u64 s4,.int .u64 s5,.int .u64 t0,.int .u64 t1,.int .u64 t2,.int .u64 t3,.int .u64 t4,.int .u64 t5,.bool false],.nilIface])∧fits [s0,s1,s2,s3,s4,s5]∧fits [t0,t1,t2,t3,t4,t5]∧v64 [s0,s1,s2,s3,s4,s5]=beN (ptX bs)∧v64 [t0,t1,t2,t3,t4,t5]=beN (ptY bs)∧Below w.heap.size w w':=by
 have HX:Hid _:=hx
 have HY:Hid _:=hy
 clear hx hy
 have q0:=ifaceC_nil
 have HO:Hid (IsOn false (beN (ptX bs)) (beN (ptY bs))):=ho
 clear ho
 obtain ⟨b,o,cap,rfl,k1,k2,ltb,c0,SX,SY⟩:=bs97 h hl
 unfold maxLen at k2
 clear h
 have LX:Hid _:=ptX_len hl
 have LY:Hid _:=ptY_len hl
 have YX:=ptX_byt hB
 have YY:=ptY_byt hB
 rw [hf] at c0
 clear hl hf hB
 have B0:=Blk.new w [.int .u64 0,.int .u64 0,.int .u64 0,.int .u64 0,.int .u64 0,.int .u64 0,.int .u64 0,.int .u64 0,.int .u64 0,.int .u64 0,.int .u64 0,.int .u64 0,.bool false] 26 (w.heap.size) rfl
 have bel:Below w.heap.size w (w.alloc (.cells [.int .u64 0,.int .u64 0,.int .u64 0,.int .u64 0,.int .u64 0,.int .u64 0,.int .u64 0,.int .u64 0,.int .u64 0,.int .u64 0,.int .u64 0,.int .u64 0,.bool false].toArray 26)):=((Below.refl _ _).alloc (Nat.le_refl _) _)
 go_enter Tryz.func16,Tryz.ntmps16
 go_upto_region 1 with fail
 try simp only [us,List.map_cons,List.map_nil] at bel
 generalize (w.alloc (Obj.cells #[.int .u64 0,.int .u64 0,.int .u64 0,.int .u64 0,.int .u64 0,.int .u64 0,.int .u64 0,.int .u64 0,.int .u64 0,.int .u64 0,.int .u64 0,.int .u64 0,.bool false] 26))=W at *
 have Br:=B0
 clear B0
 have c1:=cell_later c0 bel
 have lt1:=Nat.lt_of_lt_of_le ltb bel.size
 clear c0
 replace SX:=SX.later bel
 replace SY:=SY.later bel
 go_wp2_with fail
 refine (decode_ok (G.below bel).fld SX LX.out YX HX.out).mono ?_
 rintro e w1 ⟨s0,s1,s2,s3,s4,s5,rfl,fS,hs,hb⟩
 replace Br:=Br.later hb
 replace bel:=below_step bel hb
 clear SX c1 lt1
 have HS:Hid _:=hs
 clear hs
 replace SY:=SY.later (by assumption)
 clear hb
 replace SY:=SY.later ((Below.refl _ _).alloc (Nat.le_refl _) (.cells [.int .u64 s0,.int .u64 s1,.int .u64 s2,.int .u64 s3,.int .u64 s4,.int .u64 s5].toArray 24))
 replace Br:=Br.alloc (.cells [.int .u64 s0,.int .u64 s1,.int .u64 s2,.int .u64 s3,.int .u64 s4,.int .u64 s5].toArray 24)
 have Bx:=Blk.new w1 [.int .u64 s0,.int .u64 s1,.int .u64 s2,.int .u64 s3,.int .u64 s4,.int .u64 s5] 24 w1.heap.size rfl
 replace bel:=below_alloc (o:=.cells [.int .u64 s0,.int .u64 s1,.int .u64 s2,.int .u64 s3,.int .u64 s4,.int .u64 s5].toArray 24) bel
 have lwx:∀ z,z < w1.heap.size→z≠w1.heap.size:=fun z h=>Nat.ne_of_lt h
 go_upto_region 8 with fail
 obtain ⟨bx,hbx⟩:∃ b,b=w1.heap.size:=⟨_,rfl⟩
 clear lwx
 generalize w1.alloc (Obj.cells #[.int .u64 s0,.int .u64 s1,.int .u64 s2,.int .u64 s3,.int .u64 s4,.int .u64 s5] 24)=Wx at *
 rw [← hbx] at Bx ⊢
 clear hbx
 go_wp2_with fail
 refine (decode_ok (G.below bel).fld SY LY.out YY HY.out).mono ?_
 rintro e w2 ⟨t0,t1,t2,t3,t4,t5,rfl,fT,ht,hb⟩
 replace Br:=Br.later hb
 replace Bx:=Bx.later hb
 replace bel:=below_step bel hb
 clear hb
 have HT:Hid _:=ht
 clear ht SY
 replace Br:=Br.alloc (.cells [.int .u64 t0,.int .u64 t1,.int .u64 t2,.int .u64 t3,.int .u64 t4,.int .u64 t5].toArray 24)
 replace Bx:=Bx.alloc (.cells [.int .u64 t0,.int .u64 t1,.int .u64 t2,.int .u64 t3,.int .u64 t4,.int .u64 t5].toArray 24)
 have Bv:=Blk.new w2 [.int .u64 t0,.int .u64 t1,.int .u64 t2,.int .u64 t3,.int .u64 t4,.int .u64 t5] 24 w2.heap.size rfl
 replace bel:=below_alloc (o:=.cells [.int .u64 t0,.int .u64 t1,.int .u64 t2,.int .u64 t3,.int .u64 t4,.int .u64 t5].toArray 24) bel
 have lwv:∀ z,z < w2.heap.size→z≠w2.heap.size:=fun z h=>Nat.ne_of_lt h
 go_upto_region 13 with fail
 obtain ⟨bv,hbv⟩:∃ b,b=w2.heap.size:=⟨_,rfl⟩
 clear lwv
 generalize w2.alloc (Obj.cells #[.int .u64 t0,.int .u64 t1,.int .u64 t2,.int .u64 t3,.int .u64 t4,.int .u64 t5] 24)=Wv at *
 rw [← hbv] at Bv ⊢
 clear hbv
 have ltx:=Bx.lt
 have cx0:=Bx.cell 0 _ rfl
 have cx1:=Bx.cell 1 _ rfl
 have cx2:=Bx.cell 2 _ rfl
 have cx3:=Bx.cell 3 _ rfl
 have cx4:=Bx.cell 4 _ rfl
 have cx5:=Bx.cell 5 _ rfl
 have ltv:=Bv.lt
 have cv0:=Bv.cell 0 _ rfl
 have cv1:=Bv.cell 1 _ rfl
 have cv2:=Bv.cell 2 _ rfl
 have cv3:=Bv.cell 3 _ rfl
 have cv4:=Bv.cell 4 _ rfl
 have cv5:=Bv.cell 5 _ rfl
 go_upto_region 14 with fail
 clear ltx cx0 cx1 cx2 cx3 cx4 cx5 ltv cv0 cv1 cv2 cv3 cv4 cv5
 replace Br:=Br.alloc (.cells [.int .u64 s0,.int .u64 s1,.int .u64 s2,.int .u64 s3,.int .u64 s4,.int .u64 s5,.int .u64 t0,.int .u64 t1,.int .u64 t2,.int .u64 t3,.int .u64 t4,.int .u64 t5,.bool false].toArray 26)
 replace Bx:=Bx.alloc (.cells [.int .u64 s0,.int .u64 s1,.int .u64 s2,.int .u64 s3,.int .u64 s4,.int .u64 s5,.int .u64 t0,.int .u64 t1,.int .u64 t2,.int .u64 t3,.int .u64 t4,.int .u64 t5,.bool false].toArray 26)
 replace Bv:=Bv.alloc (.cells [.int .u64 s0,.int .u64 s1,.int .u64 s2,.int .u64 s3,.int .u64 s4,.int .u64 s5,.int .u64 t0,.int .u64 t1,.int .u64 t2,.int .u64 t3,.int .u64 t4,.int .u64 t5,.bool false].toArray 26)
 have Bp:=Blk.new Wv [.int .u64 s0,.int .u64 s1,.int .u64 s2,.int .u64 s3,.int .u64 s4,.int .u64 s5,.int .u64 t0,.int .u64 t1,.int .u64 t2,.int .u64 t3,.int .u64 t4,.int .u64 t5,.bool false] 26 Wv.heap.size rfl
 replace bel:=below_alloc (o:=.cells [.int .u64 s0,.int .u64 s1,.int .u64 s2,.int .u64 s3,.int .u64 s4,.int .u64 s5,.int .u64 t0,.int .u64 t1,.int .u64 t2,.int .u64 t3,.int .u64 t4,.int .u64 t5,.bool false].toArray 26) bel
 obtain ⟨bp,hbp⟩:∃ b,b=Wv.heap.size:=⟨_,rfl⟩
 generalize Wv.alloc (Obj.cells #[.int .u64 s0,.int .u64 s1,.int .u64 s2,.int .u64 s3,.int .u64 s4,.int .u64 s5,.int .u64 t0,.int .u64 t1,.int .u64 t2,.int .u64 t3,.int .u64 t4,.int .u64 t5,.bool false] 26)=Wp at *
 rw [← hbp] at Bp ⊢
 clear hbp
 have ltp:=Bp.lt
 have cp0:=Bp.cell 0 _ rfl
 have cp1:=Bp.cell 1 _ rfl
 have cp2:=Bp.cell 2 _ rfl
 have cp3:=Bp.cell 3 _ rfl
 have cp4:=Bp.cell 4 _ rfl
 have cp5:=Bp.cell 5 _ rfl
 have cp6:=Bp.cell 6 _ rfl
 have cp7:=Bp.cell 7 _ rfl
 have cp8:=Bp.cell 8 _ rfl
 have cp9:=Bp.cell 9 _ rfl
 have cp10:=Bp.cell 10 _ rfl
 have cp11:=Bp.cell 11 _ rfl
 have cp12:=Bp.cell 12 _ rfl
 go_wp2_with fail
 refine (con_On (n:=false) (b:=true) (G.below bel) fS fT (by rw [HS.out,HT.out];exact ⟨fun _=>HO.out,fun _=>rfl⟩)).mono ?_
 rintro e w3 ⟨rfl,hb⟩
 clear ltp cp0 cp1 cp2 cp3 cp4 cp5 cp6 cp7 cp8 cp9 cp10 cp11 cp12
 replace Br:=Br.later hb
 replace Bx:=Bx.later hb
 replace Bv:=Bv.later hb
 replace Bp:=Bp.later hb
 replace bel:=below_step bel hb
 clear hb
 have ltp:=Bp.lt
 have cp0:=Bp.cell 0 _ rfl
 have cp1:=Bp.cell 1 _ rfl
 have cp2:=Bp.cell 2 _ rfl
 have cp3:=Bp.cell 3 _ rfl
 have cp4:=Bp.cell 4 _ rfl
 have cp5:=Bp.cell 5 _ rfl
 have cp6:=Bp.cell 6 _ rfl
 have cp7:=Bp.cell 7 _ rfl
 have cp8:=Bp.cell 8 _ rfl
 have cp9:=Bp.cell 9 _ rfl
 have cp10:=Bp.cell 10 _ rfl
 have cp11:=Bp.cell 11 _ rfl
 have cp12:=Bp.cell 12 _ rfl
 have ltr:=Br.lt
 have d0:=Br.cell 0 _ rfl;have g0:=Br.frozen 0;have d1:=Br.cell 1 _ rfl;have g1:=Br.frozen 1;have d2:=Br.cell 2 _ rfl;have g2:=Br.frozen 2;have d3:=Br.cell 3 _ rfl;have g3:=Br.frozen 3;have d4:=Br.cell 4 _ rfl;have g4:=Br.frozen 4;have d5:=Br.cell 5 _ rfl;have g5:=Br.frozen 5;have d6:=Br.cell 6 _ rfl;have g6:=Br.frozen 6;have d7:=Br.cell 7 _ rfl;have g7:=Br.frozen 7;have d8:=Br.cell 8 _ rfl;have g8:=Br.frozen 8;have d9:=Br.cell 9 _ rfl;have g9:=Br.frozen 9;have d10:=Br.cell 10 _ rfl;have g10:=Br.frozen 10;have d11:=Br.cell 11 _ rfl;have g11:=Br.frozen 11;have d12:=Br.cell 12 _ rfl;have g12:=Br.frozen 12
 go_wp2_with fail
 exact bodyPost_ret (v:=.tuple #[.agg #[.int .u64 s0,.int .u64 s1,.int .u64 s2,.int .u64 s3,.int .u64 s4,.int .u64 s5,.int .u64 t0,.int .u64 t1,.int .u64 t2,.int .u64 t3,.int .u64 t4,.int .u64 t5,.bool false],.nilIface]) (by simp [results,Tryz.results16,go_sem,d0,d1,d2,d3,d4,d5,d6,d7,d8,d9,d10,d11,d12]) rfl ⟨s0,s1,s2,s3,s4,s5,t0,t1,t2,t3,t4,t5,rfl,fS,fT,HS.out,HT.out,below_put13 bel (by omega)⟩
theorem con_DecBad {v:Value} {bs:List Int} {c:Int} {w:World} (G:GlsC w) (h:Bs w v bs) (hB:byt bs) (hc:DecBad bs c) :
  Calls Tryz.prog 16 #[v] w fun e w'=>e=.returned (.tuple #[.agg #[.int .u64 0,.int .u64 0,.int .u64 0,.int .u64 0,.int .u64 0,.int .u64 0,.int .u64 0,.int .u64 0,.int .u64 0,.int .u64 0,.int .u64 0,.int .u64 0,.bool false],.iface 33 (.int .i64 c)])∧Below w.heap.size w w':=by
 rcases hc with ⟨h1,rfl⟩|⟨h1,rfl⟩|⟨h1,h2,rfl⟩|⟨h1,h2,h3,rfl⟩|⟨h1,h2,h3,h4,h5,rfl⟩
 ·exact dec_short h h1
 ·exact dec_more h h1
 ·exact dec_form h h1 h2
 ·by_cases hx:beN (ptX bs) < PP
  ·exact dec_y G h hB h1 h2 hx (h3.resolve_left (fun k=>k hx))
  ·exact dec_x G h hB h1 h2 hx
 ·exact dec_none G h hB h1 h2 h3 h4 h5
theorem con_Dec {v:Value} {bs:List Int} {w:World} (G:GlsC w) (h:Bs w v bs) (hB:byt bs) (hd:DecOk bs) :
  Calls Tryz.prog 16 #[v] w fun e w'=>∃ s0 s1 s2 s3 s4 s5 t0 t1 t2 t3 t4 t5:Int,e=.returned (.tuple #[.agg #[.int .u64 s0,.int .u64 s1,.int .u64 s2,.int .u64 s3,.int .u64 s4,.int .u64 s5,.int .u64 t0,.int .u64 t1,.int .u64 t2,.int .u64 t3,.int .u64 t4,.int .u64 t5,.bool false],.nilIface])∧fits [s0,s1,s2,s3,s4,s5]∧fits [t0,t1,t2,t3,t4,t5]∧v64 [s0,s1,s2,s3,s4,s5]=beN (ptX bs)∧v64 [t0,t1,t2,t3,t4,t5]=beN (ptY bs)∧Below w.heap.size w w' :=
 dec_ok G h hB hd.1 hd.2.1 hd.2.2.1 hd.2.2.2.1 hd.2.2.2.2
end Go.Proofs.YtlkljfnenonfgaaGreatDoor
