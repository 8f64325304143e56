/- ladder.climb: a point, taken so often, with each step noted. -/
import Derived.Test.YtlkljfnenonfgaaGreatDoorLG1
import Derived.Test.YtlkljfnenonfgaaGreatDoorAeNumG
import Derived.Test.YtlkljfnenonfgaaGreatDoorRows
import Derived.Deep.WholeRow
import Derived.Deep.RegionHeld3
import Derived.Deep.DeepCutAuto
import Derived.Deep.DeepFit
namespace Go.Proofs.YtlkljfnenonfgaaGreatDoor
open Go.RowKit
set_option linter.unusedSimpArgs false in
set_option maxRecDepth 100000 in
set_option maxHeartbeats 8000000 in
theorem con_climb {a0 a1 a2 a3 a4 a5 x0 x1 x2 x3 x4 x5 y0 y1 y2 y3 y4 y5:Int} {n:Bool} {P:Pt} {w:World} {N:Nat} {J:Nat→World→Prop} (hF:∀ (xs:Array Value) (w:World),(callFunc N xs).run Tryz.prog w=.ok (.enter N xs) w) (hJ:J 0 w) (hG:Hid (∀ k b,J k b→GlsC b)) (hB:Hid (∀ k b c,J k b→Below w.heap.size b c→J k c)) (hN:Hid (∀ (k:Nat) (d:Int) (b:World),J k b→k < 1152→d=((k % 3:Nat):Int) + 1→Calls Tryz.prog N #[.int .i64 d] b fun e c=>e=.returned (.tuple #[])∧J (k + 1) c∧b.heap.size≤c.heap.size∧∀ i X,w.heap.size≤i→Blk b i X→Blk c i X)) (fA:fits [a0,a1,a2,a3,a4,a5]) (tP:Told P [x0,x1,x2,x3,x4,x5] [y0,y1,y2,y3,y4,y5] n) (hP:OnC P) :
  Calls Tryz.prog 29 #[.agg #[.int .u64 a0,.int .u64 a1,.int .u64 a2,.int .u64 a3,.int .u64 a4,.int .u64 a5],.agg #[.int .u64 x0,.int .u64 x1,.int .u64 x2,.int .u64 x3,.int .u64 x4,.int .u64 x5,.int .u64 y0,.int .u64 y1,.int .u64 y2,.int .u64 y3,.int .u64 y4,.int .u64 y5,.bool n],.func (.func N) #[] #[]] w fun e w'=>∃ (s0 s1 s2 s3 s4 s5 t0 t1 t2 t3 t4 t5:Int) (k:Bool),e=.returned (.agg #[.int .u64 s0,.int .u64 s1,.int .u64 s2,.int .u64 s3,.int .u64 s4,.int .u64 s5,.int .u64 t0,.int .u64 t1,.int .u64 t2,.int .u64 t3,.int .u64 t4,.int .u64 t5,.bool k])∧Told (cmul (v64 [a0,a1,a2,a3,a4,a5]).toNat P) [s0,s1,s2,s3,s4,s5] [t0,t1,t2,t3,t4,t5] k∧J 1152 w':=by
 have HP:Hid _:=hP
 have HT:Hid (Told P [x0,x1,x2,x3,x4,x5] [y0,y1,y2,y3,y4,y5] n):=tP
 obtain ⟨E,hE⟩:∃ E,(v64 [a0,a1,a2,a3,a4,a5]).toNat=E:=⟨_,rfl⟩
 have TOP:Hid (E < 2 ^ (384 - 0)):=by rw [← hE];exact nat_384 fA
 have HE:Hid ((v64 [a0,a1,a2,a3,a4,a5]).toNat=E):=hE
 clear hP tP hE
 have B0:=((Blk.new w [.int .u64 a0,.int .u64 a1,.int .u64 a2,.int .u64 a3,.int .u64 a4,.int .u64 a5] 24 (w.heap.size) rfl).alloc (.cells [.int .u64 x0,.int .u64 x1,.int .u64 x2,.int .u64 x3,.int .u64 x4,.int .u64 x5,.int .u64 y0,.int .u64 y1,.int .u64 y2,.int .u64 y3,.int .u64 y4,.int .u64 y5,.bool n].toArray 26)).alloc (.cells [.int .u64 0,.int .u64 0,.int .u64 0,.int .u64 0,.int .u64 0,.int .u64 0,.int .u64 0,.int .u64 0,.int .u64 0,.int .u64 0,.int .u64 0,.int .u64 0,.bool false].toArray 26)
 have B1:=(Blk.new (w.alloc (.cells [.int .u64 a0,.int .u64 a1,.int .u64 a2,.int .u64 a3,.int .u64 a4,.int .u64 a5].toArray 24)) [.int .u64 x0,.int .u64 x1,.int .u64 x2,.int .u64 x3,.int .u64 x4,.int .u64 x5,.int .u64 y0,.int .u64 y1,.int .u64 y2,.int .u64 y3,.int .u64 y4,.int .u64 y5,.bool n] 26 (w.heap.size + 1) (by simp)).alloc (.cells [.int .u64 0,.int .u64 0,.int .u64 0,.int .u64 0,.int .u64 0,.int .u64 0,.int .u64 0,.int .u64 0,.int .u64 0,.int .u64 0,.int .u64 0,.int .u64 0,.bool false].toArray 26)
 have B2:=Blk.new ((w.alloc (.cells [.int .u64 a0,.int .u64 a1,.int .u64 a2,.int .u64 a3,.int .u64 a4,.int .u64 a5].toArray 24)).alloc (.cells [.int .u64 x0,.int .u64 x1,.int .u64 x2,.int .u64 x3,.int .u64 x4,.int .u64 x5,.int .u64 y0,.int .u64 y1,.int .u64 y2,.int .u64 y3,.int .u64 y4,.int .u64 y5,.bool n].toArray 26)) [.int .u64 0,.int .u64 0,.int .u64 0,.int .u64 0,.int .u64 0,.int .u64 0,.int .u64 0,.int .u64 0,.int .u64 0,.int .u64 0,.int .u64 0,.int .u64 0,.bool false] 26 (w.heap.size + 1 + 1) (by simp)
 have bel:Below w.heap.size w (((w.alloc (.cells [.int .u64 a0,.int .u64 a1,.int .u64 a2,.int .u64 a3,.int .u64 a4,.int .u64 a5].toArray 24)).alloc (.cells [.int .u64 x0,.int .u64 x1,.int .u64 x2,.int .u64 x3,.int .u64 x4,.int .u64 x5,.int .u64 y0,.int .u64 y1,.int .u64 y2,.int .u64 y3,.int .u64 y4,.int .u64 y5,.bool n].toArray 26)).alloc (.cells [.int .u64 0,.int .u64 0,.int .u64 0,.int .u64 0,.int .u64 0,.int .u64 0,.int .u64 0,.int .u64 0,.int .u64 0,.int .u64 0,.int .u64 0,.int .u64 0,.bool false].toArray 26)):=((((Below.refl _ _).alloc (Nat.le_refl _) _).alloc (by simp) _).alloc (by simp;omega) _)
 go_enter Tryz.func29,Tryz.ntmps29
 go_upto_region 1 with fail
 try simp only [us,List.map_cons,List.map_nil] at bel
 generalize (((w.alloc (Obj.cells #[.int .u64 a0,.int .u64 a1,.int .u64 a2,.int .u64 a3,.int .u64 a4,.int .u64 a5] 24)).alloc (Obj.cells #[.int .u64 x0,.int .u64 x1,.int .u64 x2,.int .u64 x3,.int .u64 x4,.int .u64 x5,.int .u64 y0,.int .u64 y1,.int .u64 y2,.int .u64 y3,.int .u64 y4,.int .u64 y5,.bool n] 26)).alloc (Obj.cells #[.int .u64 0,.int .u64 0,.int .u64 0,.int .u64 0,.int .u64 0,.int .u64 0,.int .u64 0,.int .u64 0,.int .u64 0,.int .u64 0,.int .u64 0,.int .u64 0,.bool false] 26))=W at *
 have Bk:=B0
 have Bp:=B1
 have Br:=B2
 clear B0 B1 B2
 replace hJ:=hB.out _ _ _ hJ bel
 clear bel
 go_wp2_with fail
 refine (con_inf).mono ?_
 rintro e w1 ⟨rfl,hb⟩
 have ltr:=Br.lt
 replace hJ:=hB.out _ _ _ hJ (hb.mono (by omega))
 replace Bk:=Bk.later hb
 replace Bp:=Bp.later hb
 replace Br:=Br.later hb
 clear hb ltr
 have ltr:=Br.lt
 replace Bk:=Bk.alloc (.cells [.int .u64 0,.int .u64 0,.int .u64 0,.int .u64 0,.int .u64 0,.int .u64 0,.int .u64 0,.int .u64 0,.int .u64 0,.int .u64 0,.int .u64 0,.int .u64 0,.bool true].toArray 26)
 replace Bp:=Bp.alloc (.cells [.int .u64 0,.int .u64 0,.int .u64 0,.int .u64 0,.int .u64 0,.int .u64 0,.int .u64 0,.int .u64 0,.int .u64 0,.int .u64 0,.int .u64 0,.int .u64 0,.bool true].toArray 26)
 replace Br:=Br.alloc (.cells [.int .u64 0,.int .u64 0,.int .u64 0,.int .u64 0,.int .u64 0,.int .u64 0,.int .u64 0,.int .u64 0,.int .u64 0,.int .u64 0,.int .u64 0,.int .u64 0,.bool true].toArray 26)
 have Bo:=Blk.new w1 [.int .u64 0,.int .u64 0,.int .u64 0,.int .u64 0,.int .u64 0,.int .u64 0,.int .u64 0,.int .u64 0,.int .u64 0,.int .u64 0,.int .u64 0,.int .u64 0,.bool true] 26 w1.heap.size rfl
 replace hJ:=hB.out _ _ _ hJ ((Below.refl _ _).alloc (by omega) (.cells [.int .u64 0,.int .u64 0,.int .u64 0,.int .u64 0,.int .u64 0,.int .u64 0,.int .u64 0,.int .u64 0,.int .u64 0,.int .u64 0,.int .u64 0,.int .u64 0,.bool true].toArray 26))
 have lw:∀ z,z < w1.heap.size→z≠w1.heap.size:=fun z h=>Nat.ne_of_lt h
 go_wp2_with fail
 obtain ⟨bo,hbo⟩:∃ b,b=w1.heap.size:=⟨_,rfl⟩
 clear lw
 generalize w1.alloc (Obj.cells #[.int .u64 0,.int .u64 0,.int .u64 0,.int .u64 0,.int .u64 0,.int .u64 0,.int .u64 0,.int .u64 0,.int .u64 0,.int .u64 0,.int .u64 0,.int .u64 0,.bool true] 26)=Wo at *
 rw [← hbo] at Bo ltr ⊢
 have hpo:w.heap.size + 1 + 1 < bo:=ltr
 clear hbo ltr
 go_loopw [11] (fun iv wr=>∃ k:Nat,k≤384∧iv=.int .i64 (k:Int)∧OutP wr bo (cmul (E / 2 ^ (384 - k)) P)∧Blk wr (w.heap.size) [.int .u64 a0,.int .u64 a1,.int .u64 a2,.int .u64 a3,.int .u64 a4,.int .u64 a5]∧Blk wr (w.heap.size + 1) [.int .u64 x0,.int .u64 x1,.int .u64 x2,.int .u64 x3,.int .u64 x4,.int .u64 x5,.int .u64 y0,.int .u64 y1,.int .u64 y2,.int .u64 y3,.int .u64 y4,.int .u64 y5,.bool n]∧Blk wr (w.heap.size + 1 + 1) [.int .u64 0,.int .u64 0,.int .u64 0,.int .u64 0,.int .u64 0,.int .u64 0,.int .u64 0,.int .u64 0,.int .u64 0,.int .u64 0,.int .u64 0,.int .u64 0,.bool false]∧J (3 * k) wr)
  (fun iv _=>(384 - intOf iv).toNat)
 case atStart=>exact ⟨0,by omega,rfl,⟨0,0,0,0,0,0,0,0,0,0,0,0,true,Bo,by rw [times_top TOP.out];exact told_zero⟩,Bk,Bp,Br,hJ⟩
 case round =>
  clear Bo Bk Bp Br hJ
  obtain ⟨k,hk,rfl,⟨s0,s1,s2,s3,s4,s5,t0,t1,t2,t3,t4,t5,kb,BO,TO⟩,Bk,Bp,Br,hJ⟩:=hrel
  by_cases h0:k=384
  ·subst h0
   rw [Nat.sub_self,Nat.pow_zero,Nat.div_one,← HE.out] at TO
   rw [show ((384:Nat):Int)=384 from rfl]
   have ltr:=Br.lt
   have lto:=BO.lt
   have c0:=BO.cell 0 _ rfl
   have c1:=BO.cell 1 _ rfl
   have c2:=BO.cell 2 _ rfl
   have c3:=BO.cell 3 _ rfl
   have c4:=BO.cell 4 _ rfl
   have c5:=BO.cell 5 _ rfl
   have c6:=BO.cell 6 _ rfl
   have c7:=BO.cell 7 _ rfl
   have c8:=BO.cell 8 _ rfl
   have c9:=BO.cell 9 _ rfl
   have c10:=BO.cell 10 _ rfl
   have c11:=BO.cell 11 _ rfl
   have c12:=BO.cell 12 _ rfl
   have d0:=Br.cell 0 _ rfl;have g0:=Br.frozen 0;have d1:=Br.cell 1 _ rfl;have g1:=Br.frozen 1;have d2:=Br.cell 2 _ rfl;have g2:=Br.frozen 2;have d3:=Br.cell 3 _ rfl;have g3:=Br.frozen 3;have d4:=Br.cell 4 _ rfl;have g4:=Br.frozen 4;have d5:=Br.cell 5 _ rfl;have g5:=Br.frozen 5;have d6:=Br.cell 6 _ rfl;have g6:=Br.frozen 6;have d7:=Br.cell 7 _ rfl;have g7:=Br.frozen 7;have d8:=Br.cell 8 _ rfl;have g8:=Br.frozen 8;have d9:=Br.cell 9 _ rfl;have g9:=Br.frozen 9;have d10:=Br.cell 10 _ rfl;have g10:=Br.frozen 10;have d11:=Br.cell 11 _ rfl;have g11:=Br.frozen 11;have d12:=Br.cell 12 _ rfl;have g12:=Br.frozen 12
   go_wp2_with fail
   exact bodyPost_ret (v:=.agg #[.int .u64 s0,.int .u64 s1,.int .u64 s2,.int .u64 s3,.int .u64 s4,.int .u64 s5,.int .u64 t0,.int .u64 t1,.int .u64 t2,.int .u64 t3,.int .u64 t4,.int .u64 t5,.bool kb]) (by simp [results,Tryz.results29,go_sem,d0,d1,d2,d3,d4,d5,d6,d7,d8,d9,d10,d11,d12]) rfl ⟨s0,s1,s2,s3,s4,s5,t0,t1,t2,t3,t4,t5,kb,rfl,TO,hB.out _ _ _ hJ (below_put13 (Below.refl _ _) (by omega))⟩
  ·obtain ⟨j,hj⟩:∃ j,k + j=383:=⟨383 - k,by omega⟩
   have ej:384 - k=j + 1:=by omega
   rw [ej] at TO
   have EJ:Hid (384 - (k + 1)=j):=by show _=_;omega
   clear ej h0
   have g1:(k:Int) < 384:=by omega
   have gk:IntKind.i64.wrap ((k:Int) + 1)=(k:Int) + 1:=by rw [IntKind.wrap_i64];omega
   have gj:IntKind.i64.wrap (383 - (k:Int))=(j:Int):=by rw [IntKind.wrap_i64];omega
   have OQ:Hid _:=on_cmul HP.out (E / 2 ^ (j + 1))
   have ltc:=BO.lt
   have c0:=BO.cell 0 _ rfl
   have c1:=BO.cell 1 _ rfl
   have c2:=BO.cell 2 _ rfl
   have c3:=BO.cell 3 _ rfl
   have c4:=BO.cell 4 _ rfl
   have c5:=BO.cell 5 _ rfl
   have c6:=BO.cell 6 _ rfl
   have c7:=BO.cell 7 _ rfl
   have c8:=BO.cell 8 _ rfl
   have c9:=BO.cell 9 _ rfl
   have c10:=BO.cell 10 _ rfl
   have c11:=BO.cell 11 _ rfl
   have c12:=BO.cell 12 _ rfl
   go_wp2_with fail
   clear ltc c0 c1 c2 c3 c4 c5 c6 c7 c8 c9 c10 c11 c12
   refine (con_add6 (hG.out _ _ hJ) TO TO OQ.out OQ.out).mono ?_
   rintro e w3 ⟨c0,c1,c2,c3,c4,c5,d0,d1,d2,d3,d4,d5,kc,rfl,T4,hb⟩
   have ltr:=Br.lt
   replace hJ:=hB.out _ _ _ hJ (hb.mono (by omega))
   replace BO:=BO.later hb
   replace Bk:=Bk.later hb
   replace Bp:=Bp.later hb
   replace Br:=Br.later hb
   clear hb ltr
   have lto:=BO.lt
   have e0:=BO.cell 0 _ rfl;have i0:=BO.frozen 0;have e1:=BO.cell 1 _ rfl;have i1:=BO.frozen 1;have e2:=BO.cell 2 _ rfl;have i2:=BO.frozen 2;have e3:=BO.cell 3 _ rfl;have i3:=BO.frozen 3;have e4:=BO.cell 4 _ rfl;have i4:=BO.frozen 4;have e5:=BO.cell 5 _ rfl;have i5:=BO.frozen 5;have e6:=BO.cell 6 _ rfl;have i6:=BO.frozen 6;have e7:=BO.cell 7 _ rfl;have i7:=BO.frozen 7;have e8:=BO.cell 8 _ rfl;have i8:=BO.frozen 8;have e9:=BO.cell 9 _ rfl;have i9:=BO.frozen 9;have e10:=BO.cell 10 _ rfl;have i10:=BO.frozen 10;have e11:=BO.cell 11 _ rfl;have i11:=BO.frozen 11;have e12:=BO.cell 12 _ rfl;have i12:=BO.frozen 12
   go_wp2_with fail
   replace hJ:J _ ((((((((((((((w3.setCell ⟨bo,0,none⟩ (.int .u64 c0)).setCell ⟨bo,1,none⟩ (.int .u64 c1)).setCell ⟨bo,2,none⟩ (.int .u64 c2)).setCell ⟨bo,3,none⟩ (.int .u64 c3)).setCell ⟨bo,4,none⟩ (.int .u64 c4)).setCell ⟨bo,5,none⟩ (.int .u64 c5)).setCell ⟨bo,6,none⟩ (.int .u64 d0)).setCell ⟨bo,7,none⟩ (.int .u64 d1)).setCell ⟨bo,8,none⟩ (.int .u64 d2)).setCell ⟨bo,9,none⟩ (.int .u64 d3)).setCell ⟨bo,10,none⟩ (.int .u64 d4)).setCell ⟨bo,11,none⟩ (.int .u64 d5)).setCell ⟨bo,12,none⟩ (.bool kc))):=hB.out _ _ _ hJ (below_put13 (Below.refl _ _) (by omega))
   replace Bk:Blk ((((((((((((((w3.setCell ⟨bo,0,none⟩ (.int .u64 c0)).setCell ⟨bo,1,none⟩ (.int .u64 c1)).setCell ⟨bo,2,none⟩ (.int .u64 c2)).setCell ⟨bo,3,none⟩ (.int .u64 c3)).setCell ⟨bo,4,none⟩ (.int .u64 c4)).setCell ⟨bo,5,none⟩ (.int .u64 c5)).setCell ⟨bo,6,none⟩ (.int .u64 d0)).setCell ⟨bo,7,none⟩ (.int .u64 d1)).setCell ⟨bo,8,none⟩ (.int .u64 d2)).setCell ⟨bo,9,none⟩ (.int .u64 d3)).setCell ⟨bo,10,none⟩ (.int .u64 d4)).setCell ⟨bo,11,none⟩ (.int .u64 d5)).setCell ⟨bo,12,none⟩ (.bool kc))) _ _:=blk_farP Bk (by omega)
   replace Bp:Blk ((((((((((((((w3.setCell ⟨bo,0,none⟩ (.int .u64 c0)).setCell ⟨bo,1,none⟩ (.int .u64 c1)).setCell ⟨bo,2,none⟩ (.int .u64 c2)).setCell ⟨bo,3,none⟩ (.int .u64 c3)).setCell ⟨bo,4,none⟩ (.int .u64 c4)).setCell ⟨bo,5,none⟩ (.int .u64 c5)).setCell ⟨bo,6,none⟩ (.int .u64 d0)).setCell ⟨bo,7,none⟩ (.int .u64 d1)).setCell ⟨bo,8,none⟩ (.int .u64 d2)).setCell ⟨bo,9,none⟩ (.int .u64 d3)).setCell ⟨bo,10,none⟩ (.int .u64 d4)).setCell ⟨bo,11,none⟩ (.int .u64 d5)).setCell ⟨bo,12,none⟩ (.bool kc))) _ _:=blk_farP Bp (by omega)
   replace Br:Blk ((((((((((((((w3.setCell ⟨bo,0,none⟩ (.int .u64 c0)).setCell ⟨bo,1,none⟩ (.int .u64 c1)).setCell ⟨bo,2,none⟩ (.int .u64 c2)).setCell ⟨bo,3,none⟩ (.int .u64 c3)).setCell ⟨bo,4,none⟩ (.int .u64 c4)).setCell ⟨bo,5,none⟩ (.int .u64 c5)).setCell ⟨bo,6,none⟩ (.int .u64 d0)).setCell ⟨bo,7,none⟩ (.int .u64 d1)).setCell ⟨bo,8,none⟩ (.int .u64 d2)).setCell ⟨bo,9,none⟩ (.int .u64 d3)).setCell ⟨bo,10,none⟩ (.int .u64 d4)).setCell ⟨bo,11,none⟩ (.int .u64 d5)).setCell ⟨bo,12,none⟩ (.bool kc))) _ _:=blk_farP Br (by omega)
   replace BO:Blk ((((((((((((((w3.setCell ⟨bo,0,none⟩ (.int .u64 c0)).setCell ⟨bo,1,none⟩ (.int .u64 c1)).setCell ⟨bo,2,none⟩ (.int .u64 c2)).setCell ⟨bo,3,none⟩ (.int .u64 c3)).setCell ⟨bo,4,none⟩ (.int .u64 c4)).setCell ⟨bo,5,none⟩ (.int .u64 c5)).setCell ⟨bo,6,none⟩ (.int .u64 d0)).setCell ⟨bo,7,none⟩ (.int .u64 d1)).setCell ⟨bo,8,none⟩ (.int .u64 d2)).setCell ⟨bo,9,none⟩ (.int .u64 d3)).setCell ⟨bo,10,none⟩ (.int .u64 d4)).setCell ⟨bo,11,none⟩ (.int .u64 d5)).setCell ⟨bo,12,none⟩ (.bool kc))) _ [.int .u64 c0,.int .u64 c1,.int .u64 c2,.int .u64 c3,.int .u64 c4,.int .u64 c5,.int .u64 d0,.int .u64 d1,.int .u64 d2,.int .u64 d3,.int .u64 d4,.int .u64 d5,.bool kc]:=blk_putP BO
   clear lto e0 i0 e1 i1 e2 i2 e3 i3 e4 i4 e5 i5 e6 i6 e7 i7 e8 i8 e9 i9 e10 i10 e11 i11 e12 i12
   generalize (((((((((((((w3.setCell ⟨bo,0,none⟩ (.int .u64 c0)).setCell ⟨bo,1,none⟩ (.int .u64 c1)).setCell ⟨bo,2,none⟩ (.int .u64 c2)).setCell ⟨bo,3,none⟩ (.int .u64 c3)).setCell ⟨bo,4,none⟩ (.int .u64 c4)).setCell ⟨bo,5,none⟩ (.int .u64 c5)).setCell ⟨bo,6,none⟩ (.int .u64 d0)).setCell ⟨bo,7,none⟩ (.int .u64 d1)).setCell ⟨bo,8,none⟩ (.int .u64 d2)).setCell ⟨bo,9,none⟩ (.int .u64 d3)).setCell ⟨bo,10,none⟩ (.int .u64 d4)).setCell ⟨bo,11,none⟩ (.int .u64 d5)).setCell ⟨bo,12,none⟩ (.bool kc))=w4 at *
   refine (hN.out (3 * k) 1 _ hJ (by omega) (by omega)).mono ?_
   rintro e w5 ⟨rfl,hJ2,hsz,hkp⟩
   clear hJ
   have hJ:=hJ2
   clear hJ2
   replace BO:=hkp _ _ (by omega) BO
   replace Bk:=hkp _ _ (by omega) Bk
   replace Bp:=hkp _ _ (by omega) Bp
   replace Br:=hkp _ _ (by omega) Br
   clear hkp hsz
   have OQ2:Hid _:=on_add OQ.out OQ.out
   have ltc:=BO.lt
   have c0:=BO.cell 0 _ rfl
   have c1:=BO.cell 1 _ rfl
   have c2:=BO.cell 2 _ rfl
   have c3:=BO.cell 3 _ rfl
   have c4:=BO.cell 4 _ rfl
   have c5:=BO.cell 5 _ rfl
   have c6:=BO.cell 6 _ rfl
   have c7:=BO.cell 7 _ rfl
   have c8:=BO.cell 8 _ rfl
   have c9:=BO.cell 9 _ rfl
   have c10:=BO.cell 10 _ rfl
   have c11:=BO.cell 11 _ rfl
   have c12:=BO.cell 12 _ rfl
   have ltd:=Bp.lt
   have d0:=Bp.cell 0 _ rfl
   have d1:=Bp.cell 1 _ rfl
   have d2:=Bp.cell 2 _ rfl
   have d3:=Bp.cell 3 _ rfl
   have d4:=Bp.cell 4 _ rfl
   have d5:=Bp.cell 5 _ rfl
   have d6:=Bp.cell 6 _ rfl
   have d7:=Bp.cell 7 _ rfl
   have d8:=Bp.cell 8 _ rfl
   have d9:=Bp.cell 9 _ rfl
   have d10:=Bp.cell 10 _ rfl
   have d11:=Bp.cell 11 _ rfl
   have d12:=Bp.cell 12 _ rfl
   go_wp2_with fail
   clear ltc c0 c1 c2 c3 c4 c5 c6 c7 c8 c9 c10 c11 c12
   clear ltd d0 d1 d2 d3 d4 d5 d6 d7 d8 d9 d10 d11 d12
   refine (con_add6 (hG.out _ _ hJ) T4 HT.out OQ2.out HP.out).mono ?_
   rintro e w6 ⟨g0,g1,g2,g3,g4,g5,h0,h1,h2,h3,h4,h5,kg,rfl,T6,hb⟩
   have ltr:=Br.lt
   replace hJ:=hB.out _ _ _ hJ (hb.mono (by omega))
   replace BO:=BO.later hb
   replace Bk:=Bk.later hb
   replace Bp:=Bp.later hb
   replace Br:=Br.later hb
   clear hb ltr
   have ltr:=Br.lt
   have lto:=BO.lt
   replace BO:=BO.alloc (.cells [.int .u64 g0,.int .u64 g1,.int .u64 g2,.int .u64 g3,.int .u64 g4,.int .u64 g5,.int .u64 h0,.int .u64 h1,.int .u64 h2,.int .u64 h3,.int .u64 h4,.int .u64 h5,.bool kg].toArray 26)
   replace Bk:=Bk.alloc (.cells [.int .u64 g0,.int .u64 g1,.int .u64 g2,.int .u64 g3,.int .u64 g4,.int .u64 g5,.int .u64 h0,.int .u64 h1,.int .u64 h2,.int .u64 h3,.int .u64 h4,.int .u64 h5,.bool kg].toArray 26)
   replace Bp:=Bp.alloc (.cells [.int .u64 g0,.int .u64 g1,.int .u64 g2,.int .u64 g3,.int .u64 g4,.int .u64 g5,.int .u64 h0,.int .u64 h1,.int .u64 h2,.int .u64 h3,.int .u64 h4,.int .u64 h5,.bool kg].toArray 26)
   replace Br:=Br.alloc (.cells [.int .u64 g0,.int .u64 g1,.int .u64 g2,.int .u64 g3,.int .u64 g4,.int .u64 g5,.int .u64 h0,.int .u64 h1,.int .u64 h2,.int .u64 h3,.int .u64 h4,.int .u64 h5,.bool kg].toArray 26)
   have Bm:=Blk.new w6 [.int .u64 g0,.int .u64 g1,.int .u64 g2,.int .u64 g3,.int .u64 g4,.int .u64 g5,.int .u64 h0,.int .u64 h1,.int .u64 h2,.int .u64 h3,.int .u64 h4,.int .u64 h5,.bool kg] 26 w6.heap.size rfl
   replace hJ:=hB.out _ _ _ hJ ((Below.refl _ _).alloc (by omega) (.cells [.int .u64 g0,.int .u64 g1,.int .u64 g2,.int .u64 g3,.int .u64 g4,.int .u64 g5,.int .u64 h0,.int .u64 h1,.int .u64 h2,.int .u64 h3,.int .u64 h4,.int .u64 h5,.bool kg].toArray 26))
   have lw:∀ z,z < w6.heap.size→z≠w6.heap.size:=fun z h=>Nat.ne_of_lt h
   go_wp2_with fail
   obtain ⟨bm,hbm⟩:∃ b,b=w6.heap.size:=⟨_,rfl⟩
   clear lw
   generalize w6.alloc (Obj.cells #[.int .u64 g0,.int .u64 g1,.int .u64 g2,.int .u64 g3,.int .u64 g4,.int .u64 g5,.int .u64 h0,.int .u64 h1,.int .u64 h2,.int .u64 h3,.int .u64 h4,.int .u64 h5,.bool kg] 26)=Wm at *
   rw [← hbm] at Bm ltr lto ⊢
   have hpm:w.heap.size + 1 + 1 < bm:=ltr
   have hqm:bo < bm:=lto
   clear hbm ltr lto
   have OQ3:Hid _:=on_add OQ2.out HP.out
   refine (hN.out (3 * k + 1) 2 _ hJ (by omega) (by omega)).mono ?_
   rintro e w8 ⟨rfl,hJ2,hsz,hkp⟩
   clear hJ
   have hJ:=hJ2
   clear hJ2
   replace BO:=hkp _ _ (by omega) BO
   replace Bk:=hkp _ _ (by omega) Bk
   replace Bp:=hkp _ _ (by omega) Bp
   replace Br:=hkp _ _ (by omega) Br
   replace Bm:=hkp _ _ (by omega) Bm
   clear hkp hsz
   go_upto_region 9 with fail
   obtain ⟨c,hc⟩:∃ c,bitN [a0,a1,a2,a3,a4,a5] (j:Int)=c:=⟨_,rfl⟩
   have HC:Hid (bitN [a0,a1,a2,a3,a4,a5] (j:Int)=c):=hc
   have HD:Hid (c=((E / 2 ^ j % 2:Nat):Int)):=by rw [← hc,← HE.out];exact bitN_nat _ _ rfl fA (by omega)
   have C01:Hid (c=0∨c=1):=by rw [← hc];exact bit_01 rfl fA (by omega)
   clear hc
   have ltr:=Br.lt
   obtain ⟨S1,hS1,KL1,KA1,KD1,KQ1,KN1,KB1,KM1⟩:=held4 (W:=w8) (w.heap.size) (by omega) [(w.heap.size,[.int .u64 a0,.int .u64 a1,.int .u64 a2,.int .u64 a3,.int .u64 a4,.int .u64 a5]),(w.heap.size + 1,[.int .u64 x0,.int .u64 x1,.int .u64 x2,.int .u64 x3,.int .u64 x4,.int .u64 x5,.int .u64 y0,.int .u64 y1,.int .u64 y2,.int .u64 y3,.int .u64 y4,.int .u64 y5,.bool n]),(w.heap.size + 1 + 1,[.int .u64 0,.int .u64 0,.int .u64 0,.int .u64 0,.int .u64 0,.int .u64 0,.int .u64 0,.int .u64 0,.int .u64 0,.int .u64 0,.int .u64 0,.int .u64 0,.bool false]),(bm,[.int .u64 g0,.int .u64 g1,.int .u64 g2,.int .u64 g3,.int .u64 g4,.int .u64 g5,.int .u64 h0,.int .u64 h1,.int .u64 h2,.int .u64 h3,.int .u64 h4,.int .u64 h5,.bool kg])] (by
    intro b X h
    simp only [List.mem_cons,List.not_mem_nil,or_false,Prod.mk.injEq] at h
    rcases h with ⟨rfl,rfl⟩|⟨rfl,rfl⟩|⟨rfl,rfl⟩|⟨rfl,rfl⟩
    ·exact Bk
    ·exact Bp
    ·exact Br
    ·exact Bm)
   have kb1a:∀ wx,Hd S1 wx→Blk wx (w.heap.size) [.int .u64 a0,.int .u64 a1,.int .u64 a2,.int .u64 a3,.int .u64 a4,.int .u64 a5]:=fun wx h=>KM1.out wx _ _ h (by simp)
   have c1a0:=rulec kb1a 0 _ rfl
   have c1a1:=rulec kb1a 1 _ rfl
   have c1a2:=rulec kb1a 2 _ rfl
   have c1a3:=rulec kb1a 3 _ rfl
   have c1a4:=rulec kb1a 4 _ rfl
   have c1a5:=rulec kb1a 5 _ rfl
   have c1al:=ruleb kb1a
   clear kb1a
   have kb1b:∀ wx,Hd S1 wx→Blk wx (w.heap.size + 1) [.int .u64 x0,.int .u64 x1,.int .u64 x2,.int .u64 x3,.int .u64 x4,.int .u64 x5,.int .u64 y0,.int .u64 y1,.int .u64 y2,.int .u64 y3,.int .u64 y4,.int .u64 y5,.bool n]:=fun wx h=>KM1.out wx _ _ h (by simp)
   have c1b0:=rulec kb1b 0 _ rfl
   have c1b1:=rulec kb1b 1 _ rfl
   have c1b2:=rulec kb1b 2 _ rfl
   have c1b3:=rulec kb1b 3 _ rfl
   have c1b4:=rulec kb1b 4 _ rfl
   have c1b5:=rulec kb1b 5 _ rfl
   have c1b6:=rulec kb1b 6 _ rfl
   have c1b7:=rulec kb1b 7 _ rfl
   have c1b8:=rulec kb1b 8 _ rfl
   have c1b9:=rulec kb1b 9 _ rfl
   have c1b10:=rulec kb1b 10 _ rfl
   have c1b11:=rulec kb1b 11 _ rfl
   have c1b12:=rulec kb1b 12 _ rfl
   have c1bl:=ruleb kb1b
   clear kb1b
   have kb1c:∀ wx,Hd S1 wx→Blk wx (w.heap.size + 1 + 1) [.int .u64 0,.int .u64 0,.int .u64 0,.int .u64 0,.int .u64 0,.int .u64 0,.int .u64 0,.int .u64 0,.int .u64 0,.int .u64 0,.int .u64 0,.int .u64 0,.bool false]:=fun wx h=>KM1.out wx _ _ h (by simp)
   have c1c0:=rulec kb1c 0 _ rfl
   have c1c1:=rulec kb1c 1 _ rfl
   have c1c2:=rulec kb1c 2 _ rfl
   have c1c3:=rulec kb1c 3 _ rfl
   have c1c4:=rulec kb1c 4 _ rfl
   have c1c5:=rulec kb1c 5 _ rfl
   have c1c6:=rulec kb1c 6 _ rfl
   have c1c7:=rulec kb1c 7 _ rfl
   have c1c8:=rulec kb1c 8 _ rfl
   have c1c9:=rulec kb1c 9 _ rfl
   have c1c10:=rulec kb1c 10 _ rfl
   have c1c11:=rulec kb1c 11 _ rfl
   have c1c12:=rulec kb1c 12 _ rfl
   have c1cl:=ruleb kb1c
   clear kb1c
   have kb1d:∀ wx,Hd S1 wx→Blk wx (bm) [.int .u64 g0,.int .u64 g1,.int .u64 g2,.int .u64 g3,.int .u64 g4,.int .u64 g5,.int .u64 h0,.int .u64 h1,.int .u64 h2,.int .u64 h3,.int .u64 h4,.int .u64 h5,.bool kg]:=fun wx h=>KM1.out wx _ _ h (by simp)
   have c1d0:=rulec kb1d 0 _ rfl
   have c1d1:=rulec kb1d 1 _ rfl
   have c1d2:=rulec kb1d 2 _ rfl
   have c1d3:=rulec kb1d 3 _ rfl
   have c1d4:=rulec kb1d 4 _ rfl
   have c1d5:=rulec kb1d 5 _ rfl
   have c1d6:=rulec kb1d 6 _ rfl
   have c1d7:=rulec kb1d 7 _ rfl
   have c1d8:=rulec kb1d 8 _ rfl
   have c1d9:=rulec kb1d 9 _ rfl
   have c1d10:=rulec kb1d 10 _ rfl
   have c1d11:=rulec kb1d 11 _ rfl
   have c1d12:=rulec kb1d 12 _ rfl
   have c1dl:=ruleb kb1d
   clear kb1d
   have mq:∀ c X,(c,X)∈[((w.heap.size:Nat),([.int .u64 a0,.int .u64 a1,.int .u64 a2,.int .u64 a3,.int .u64 a4,.int .u64 a5]:List Value)),((w.heap.size + 1:Nat),([.int .u64 x0,.int .u64 x1,.int .u64 x2,.int .u64 x3,.int .u64 x4,.int .u64 x5,.int .u64 y0,.int .u64 y1,.int .u64 y2,.int .u64 y3,.int .u64 y4,.int .u64 y5,.bool n]:List Value)),((w.heap.size + 1 + 1:Nat),([.int .u64 0,.int .u64 0,.int .u64 0,.int .u64 0,.int .u64 0,.int .u64 0,.int .u64 0,.int .u64 0,.int .u64 0,.int .u64 0,.int .u64 0,.int .u64 0,.bool false]:List Value)),((bm:Nat),([.int .u64 g0,.int .u64 g1,.int .u64 g2,.int .u64 g3,.int .u64 g4,.int .u64 g5,.int .u64 h0,.int .u64 h1,.int .u64 h2,.int .u64 h3,.int .u64 h4,.int .u64 h5,.bool kg]:List Value))]→c≠bo:=by
    intro c X h
    simp only [List.mem_cons,List.not_mem_nil,or_false,Prod.mk.injEq] at h
    omega
   clear Bk Bp Br Bm
   refine wp_region_noPanic ?_
   refine wp_region_held_drew (S:=Hd S1) (by kernel_rfl) (KD1.out _ hS1) (fun hHeld=>?_)
   clear hS1
   replace BO:=BO.drew
   generalize World.drew _=wd at *
   refine wpAnyH_take (i:=0) (v:=?_) rfl (by kernel_rfl) (by kernel_rfl) (by kernel_rfl) (fun _ _ _ h=>h) (Or.inl ⟨by rfl,?_⟩) (by assumption) ?_
   rotate_left
   ·intro w hSw
    go_simp
    with_reducible rfl
   try simp only [Act.put,List.setIfInBounds_toArray,List.set_cons_zero,List.set_cons_succ]
   refine wpAnyH_take (i:=1) (v:=?_) rfl (by kernel_rfl) (by kernel_rfl) (by kernel_rfl) (fun _ _ _ h=>h) (Or.inl ⟨by rfl,?_⟩) (by assumption) ?_
   rotate_left
   ·intro w hSw
    go_simp
    with_reducible rfl
   try simp only [Act.put,List.setIfInBounds_toArray,List.set_cons_zero,List.set_cons_succ]
   refine wpAnyH_take (i:=2) (v:=?_) rfl (by kernel_rfl) (by kernel_rfl) (by kernel_rfl) (fun _ _ _ h=>h) (Or.inl ⟨by rfl,?_⟩) (by assumption) ?_
   rotate_left
   ·intro w hSw
    go_simp
    with_reducible rfl
   try simp only [Act.put,List.setIfInBounds_toArray,List.set_cons_zero,List.set_cons_succ]
   refine wpAnyH_take (i:=5) (v:=?_) rfl (by kernel_rfl) (by kernel_rfl) (by kernel_rfl) (fun _ _ _ h=>h) (Or.inl ⟨by rfl,?_⟩) (by assumption) ?_
   rotate_left
   ·intro w hSw
    go_simp
    with_reducible rfl
   try simp only [Act.put,List.setIfInBounds_toArray,List.set_cons_zero,List.set_cons_succ]
   refine wpAnyH_ready (rs:=[3,4]) (by kernel_rfl) (by simp) ?_
   refine AllReadyH.cons rfl (fun K hK=>?_) ?_
   ·go_simp
    go_fit (bit_num fA HC.out)
    rintro e w' ⟨rfl,hb⟩
    refine hK.out _ _ ?_ (fun hHeld2=>?_)
    ·exact KL1.out _ _ hHeld hb
    ·clear hK K hHeld
     have hHeld:=hHeld2
     clear hHeld2
     try simp only [Act.put,List.setIfInBounds_toArray,List.set_cons_zero,List.set_cons_succ]
     replace BO:=BO.later hb
     clear hb
     refine wpAnyH_ready (rs:=[4]) (by kernel_rfl) (by simp) ?_
     refine AllReadyH.cons rfl (fun K hK=>?_) ?_
     ·have lts:=BO.lt
      have e0:=BO.cell 0 _ rfl;have i0:=BO.frozen 0;have e1:=BO.cell 1 _ rfl;have i1:=BO.frozen 1;have e2:=BO.cell 2 _ rfl;have i2:=BO.frozen 2;have e3:=BO.cell 3 _ rfl;have i3:=BO.frozen 3;have e4:=BO.cell 4 _ rfl;have i4:=BO.frozen 4;have e5:=BO.cell 5 _ rfl;have i5:=BO.frozen 5;have e6:=BO.cell 6 _ rfl;have i6:=BO.frozen 6;have e7:=BO.cell 7 _ rfl;have i7:=BO.frozen 7;have e8:=BO.cell 8 _ rfl;have i8:=BO.frozen 8;have e9:=BO.cell 9 _ rfl;have i9:=BO.frozen 9;have e10:=BO.cell 10 _ rfl;have i10:=BO.frozen 10;have e11:=BO.cell 11 _ rfl;have i11:=BO.frozen 11;have e12:=BO.cell 12 _ rfl;have i12:=BO.frozen 12
      go_simp
      refine hK.out _ _ ?_ (fun hHeld2=>?_)
      ·exact hHeld
      ·clear hK K hHeld
       have hHeld:=hHeld2
       clear hHeld2
       try simp only [Act.put,List.setIfInBounds_toArray,List.set_cons_zero,List.set_cons_succ]
       clear lts e0 i0 e1 i1 e2 i2 e3 i3 e4 i4 e5 i5 e6 i6 e7 i7 e8 i8 e9 i9 e10 i10 e11 i11 e12 i12
       refine wpAnyH_ready (rs:=[6]) (by kernel_rfl) (by simp) ?_
       refine AllReadyH.cons rfl (fun K hK=>?_) ?_
       ·go_simp
        go_fit (con_pick6 C01.out T4 T6 OQ2.out OQ3.out)
        rintro e w' ⟨p0,p1,p2,p3,p4,p5,q0,q1,q2,q3,q4,q5,kp,rfl,T9,hb⟩
        refine hK.out _ _ ?_ (fun hHeld2=>?_)
        ·exact KL1.out _ _ hHeld hb
        ·clear hK K hHeld
         have hHeld:=hHeld2
         clear hHeld2
         try simp only [Act.put,List.setIfInBounds_toArray,List.set_cons_zero,List.set_cons_succ]
         replace BO:=BO.later hb
         clear hb
         refine wpAnyH_ready (rs:=[7]) (by kernel_rfl) (by simp) ?_
         refine AllReadyH.cons rfl (fun K hK=>?_) ?_
         ·have lts:=BO.lt
          have e0:=BO.cell 0 _ rfl;have i0:=BO.frozen 0;have e1:=BO.cell 1 _ rfl;have i1:=BO.frozen 1;have e2:=BO.cell 2 _ rfl;have i2:=BO.frozen 2;have e3:=BO.cell 3 _ rfl;have i3:=BO.frozen 3;have e4:=BO.cell 4 _ rfl;have i4:=BO.frozen 4;have e5:=BO.cell 5 _ rfl;have i5:=BO.frozen 5;have e6:=BO.cell 6 _ rfl;have i6:=BO.frozen 6;have e7:=BO.cell 7 _ rfl;have i7:=BO.frozen 7;have e8:=BO.cell 8 _ rfl;have i8:=BO.frozen 8;have e9:=BO.cell 9 _ rfl;have i9:=BO.frozen 9;have e10:=BO.cell 10 _ rfl;have i10:=BO.frozen 10;have e11:=BO.cell 11 _ rfl;have i11:=BO.frozen 11;have e12:=BO.cell 12 _ rfl;have i12:=BO.frozen 12
          go_simp
          refine hK.out _ _ ?_ (fun hHeld2=>?_)
          ·exact (KQ1.out _ _ _ _ (KQ1.out _ _ _ _ (KQ1.out _ _ _ _ (KQ1.out _ _ _ _ (KQ1.out _ _ _ _ (KQ1.out _ _ _ _ (KQ1.out _ _ _ _ (KQ1.out _ _ _ _ (KQ1.out _ _ _ _ (KQ1.out _ _ _ _ (KQ1.out _ _ _ _ (KQ1.out _ _ _ _ (KQ1.out _ _ _ _ hHeld mq (by omega)) mq (by omega)) mq (by omega)) mq (by omega)) mq (by omega)) mq (by omega)) mq (by omega)) mq (by omega)) mq (by omega)) mq (by omega)) mq (by omega)) mq (by omega)) mq (by omega))
          ·clear hK K hHeld
           have hHeld:=hHeld2
           clear hHeld2
           try simp only [Act.put,List.setIfInBounds_toArray,List.set_cons_zero,List.set_cons_succ]
           clear lts e0 i0 e1 i1 e2 i2 e3 i3 e4 i4 e5 i5 e6 i6 e7 i7 e8 i8 e9 i9 e10 i10 e11 i11 e12 i12
           replace BO:=BO.on_putP hHeld
           refine wpAnyH_done (by kernel_rfl) ?_ _
           refine NoPanic.normal ?_
           have Bk:=KM1.out _ (w.heap.size) _ hHeld (List.Mem.head _)
           have Bp:=KM1.out _ (w.heap.size + 1) _ hHeld (List.Mem.tail _ (List.Mem.head _))
           have Br:=KM1.out _ (w.heap.size + 1 + 1) _ hHeld (List.Mem.tail _ (List.Mem.tail _ (List.Mem.head _)))
           replace hJ:=hB.out _ _ _ hJ (KB1.out _ hHeld)
           clear hHeld mq KL1 KA1 KD1 KQ1 KN1 KB1 KM1 c1a0 c1a1 c1a2 c1a3 c1a4 c1a5 c1b0 c1c0 c1d0 c1b1 c1c1 c1d1 c1b2 c1c2 c1d2 c1b3 c1c3 c1d3 c1b4 c1c4 c1d4 c1b5 c1c5 c1d5 c1b6 c1c6 c1d6 c1b7 c1c7 c1d7 c1b8 c1c8 c1d8 c1b9 c1c9 c1d9 c1b10 c1c10 c1d10 c1b11 c1c11 c1d11 c1b12 c1c12 c1d12 c1al c1bl c1cl c1dl
           generalize World.setCell _ _ _=w9 at *
           go_wp2_with fail
           refine (hN.out (3 * k + 2) 3 _ hJ (by omega) (by omega)).mono ?_
           rintro e w10 ⟨rfl,hJ2,hsz,hkp⟩
           clear hJ
           have hJ:=hJ2
           clear hJ2
           replace BO:=hkp _ _ (by omega) BO
           replace Bk:=hkp _ _ (by omega) Bk
           replace Bp:=hkp _ _ (by omega) Bp
           replace Br:=hkp _ _ (by omega) Br
           clear hkp hsz
           go_wp2_with fail
           go_roundw
           case rel=>exact ⟨k + 1,by omega,rfl,⟨p0,p1,p2,p3,p4,p5,q0,q1,q2,q3,q4,q5,kp,BO,by rw [EJ.out,← climb_round HP.out HD.out];exact T9⟩,Bk,Bp,Br,hJ⟩
           case measure=>simp [intOf];omega
         exact AllReadyH.nil
       exact AllReadyH.nil
     exact AllReadyH.nil
   refine AllReadyH.cons rfl (fun K hK=>?_) ?_
   ·have lts:=BO.lt
    have e0:=BO.cell 0 _ rfl;have i0:=BO.frozen 0;have e1:=BO.cell 1 _ rfl;have i1:=BO.frozen 1;have e2:=BO.cell 2 _ rfl;have i2:=BO.frozen 2;have e3:=BO.cell 3 _ rfl;have i3:=BO.frozen 3;have e4:=BO.cell 4 _ rfl;have i4:=BO.frozen 4;have e5:=BO.cell 5 _ rfl;have i5:=BO.frozen 5;have e6:=BO.cell 6 _ rfl;have i6:=BO.frozen 6;have e7:=BO.cell 7 _ rfl;have i7:=BO.frozen 7;have e8:=BO.cell 8 _ rfl;have i8:=BO.frozen 8;have e9:=BO.cell 9 _ rfl;have i9:=BO.frozen 9;have e10:=BO.cell 10 _ rfl;have i10:=BO.frozen 10;have e11:=BO.cell 11 _ rfl;have i11:=BO.frozen 11;have e12:=BO.cell 12 _ rfl;have i12:=BO.frozen 12
    go_simp
    refine hK.out _ _ ?_ (fun hHeld2=>?_)
    ·exact hHeld
    ·clear hK K hHeld
     have hHeld:=hHeld2
     clear hHeld2
     try simp only [Act.put,List.setIfInBounds_toArray,List.set_cons_zero,List.set_cons_succ]
     clear lts e0 i0 e1 i1 e2 i2 e3 i3 e4 i4 e5 i5 e6 i6 e7 i7 e8 i8 e9 i9 e10 i10 e11 i11 e12 i12
     refine wpAnyH_ready (rs:=[3]) (by kernel_rfl) (by simp) ?_
     refine AllReadyH.cons rfl (fun K hK=>?_) ?_
     ·go_simp
      go_fit (bit_num fA HC.out)
      rintro e w' ⟨rfl,hb⟩
      refine hK.out _ _ ?_ (fun hHeld2=>?_)
      ·exact KL1.out _ _ hHeld hb
      ·clear hK K hHeld
       have hHeld:=hHeld2
       clear hHeld2
       try simp only [Act.put,List.setIfInBounds_toArray,List.set_cons_zero,List.set_cons_succ]
       replace BO:=BO.later hb
       clear hb
       refine wpAnyH_ready (rs:=[6]) (by kernel_rfl) (by simp) ?_
       refine AllReadyH.cons rfl (fun K hK=>?_) ?_
       ·go_simp
        go_fit (con_pick6 C01.out T4 T6 OQ2.out OQ3.out)
        rintro e w' ⟨p0,p1,p2,p3,p4,p5,q0,q1,q2,q3,q4,q5,kp,rfl,T9,hb⟩
        refine hK.out _ _ ?_ (fun hHeld2=>?_)
        ·exact KL1.out _ _ hHeld hb
        ·clear hK K hHeld
         have hHeld:=hHeld2
         clear hHeld2
         try simp only [Act.put,List.setIfInBounds_toArray,List.set_cons_zero,List.set_cons_succ]
         replace BO:=BO.later hb
         clear hb
         refine wpAnyH_ready (rs:=[7]) (by kernel_rfl) (by simp) ?_
         refine AllReadyH.cons rfl (fun K hK=>?_) ?_
         ·have lts:=BO.lt
          have e0:=BO.cell 0 _ rfl;have i0:=BO.frozen 0;have e1:=BO.cell 1 _ rfl;have i1:=BO.frozen 1;have e2:=BO.cell 2 _ rfl;have i2:=BO.frozen 2;have e3:=BO.cell 3 _ rfl;have i3:=BO.frozen 3;have e4:=BO.cell 4 _ rfl;have i4:=BO.frozen 4;have e5:=BO.cell 5 _ rfl;have i5:=BO.frozen 5;have e6:=BO.cell 6 _ rfl;have i6:=BO.frozen 6;have e7:=BO.cell 7 _ rfl;have i7:=BO.frozen 7;have e8:=BO.cell 8 _ rfl;have i8:=BO.frozen 8;have e9:=BO.cell 9 _ rfl;have i9:=BO.frozen 9;have e10:=BO.cell 10 _ rfl;have i10:=BO.frozen 10;have e11:=BO.cell 11 _ rfl;have i11:=BO.frozen 11;have e12:=BO.cell 12 _ rfl;have i12:=BO.frozen 12
          go_simp
          refine hK.out _ _ ?_ (fun hHeld2=>?_)
          ·exact (KQ1.out _ _ _ _ (KQ1.out _ _ _ _ (KQ1.out _ _ _ _ (KQ1.out _ _ _ _ (KQ1.out _ _ _ _ (KQ1.out _ _ _ _ (KQ1.out _ _ _ _ (KQ1.out _ _ _ _ (KQ1.out _ _ _ _ (KQ1.out _ _ _ _ (KQ1.out _ _ _ _ (KQ1.out _ _ _ _ (KQ1.out _ _ _ _ hHeld mq (by omega)) mq (by omega)) mq (by omega)) mq (by omega)) mq (by omega)) mq (by omega)) mq (by omega)) mq (by omega)) mq (by omega)) mq (by omega)) mq (by omega)) mq (by omega)) mq (by omega))
          ·clear hK K hHeld
           have hHeld:=hHeld2
           clear hHeld2
           try simp only [Act.put,List.setIfInBounds_toArray,List.set_cons_zero,List.set_cons_succ]
           clear lts e0 i0 e1 i1 e2 i2 e3 i3 e4 i4 e5 i5 e6 i6 e7 i7 e8 i8 e9 i9 e10 i10 e11 i11 e12 i12
           replace BO:=BO.on_putP hHeld
           refine wpAnyH_done (by kernel_rfl) ?_ _
           refine NoPanic.normal ?_
           have Bk:=KM1.out _ (w.heap.size) _ hHeld (List.Mem.head _)
           have Bp:=KM1.out _ (w.heap.size + 1) _ hHeld (List.Mem.tail _ (List.Mem.head _))
           have Br:=KM1.out _ (w.heap.size + 1 + 1) _ hHeld (List.Mem.tail _ (List.Mem.tail _ (List.Mem.head _)))
           replace hJ:=hB.out _ _ _ hJ (KB1.out _ hHeld)
           clear hHeld mq KL1 KA1 KD1 KQ1 KN1 KB1 KM1 c1a0 c1a1 c1a2 c1a3 c1a4 c1a5 c1b0 c1c0 c1d0 c1b1 c1c1 c1d1 c1b2 c1c2 c1d2 c1b3 c1c3 c1d3 c1b4 c1c4 c1d4 c1b5 c1c5 c1d5 c1b6 c1c6 c1d6 c1b7 c1c7 c1d7 c1b8 c1c8 c1d8 c1b9 c1c9 c1d9 c1b10 c1c10 c1d10 c1b11 c1c11 c1d11 c1b12 c1c12 c1d12 c1al c1bl c1cl c1dl
           generalize World.setCell _ _ _=w9 at *
           go_wp2_with fail
           refine (hN.out (3 * k + 2) 3 _ hJ (by omega) (by omega)).mono ?_
           rintro e w10 ⟨rfl,hJ2,hsz,hkp⟩
           clear hJ
           have hJ:=hJ2
           clear hJ2
           replace BO:=hkp _ _ (by omega) BO
           replace Bk:=hkp _ _ (by omega) Bk
           replace Bp:=hkp _ _ (by omega) Bp
           replace Br:=hkp _ _ (by omega) Br
           clear hkp hsz
           go_wp2_with fail
           go_roundw
           case rel=>exact ⟨k + 1,by omega,rfl,⟨p0,p1,p2,p3,p4,p5,q0,q1,q2,q3,q4,q5,kp,BO,by rw [EJ.out,← climb_round HP.out HD.out];exact T9⟩,Bk,Bp,Br,hJ⟩
           case measure=>simp [intOf];omega
         exact AllReadyH.nil
       exact AllReadyH.nil
     exact AllReadyH.nil
   exact AllReadyH.nil
end Go.Proofs.YtlkljfnenonfgaaGreatDoor
