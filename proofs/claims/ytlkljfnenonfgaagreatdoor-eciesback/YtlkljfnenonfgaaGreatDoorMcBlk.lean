/- The program's masked and keyBlock: a key's block, and that block with each byte xored. -/
import Derived.Test.YtlkljfnenonfgaaGreatDoorEiUp0
import Derived.Test.YtlkljfnenonfgaaGreatDoorSSch0
import Derived.Test.YtlkljfnenonfgaaGreatDoorSCodeD
import Derived.Test.YtlkljfnenonfgaaGreatDoorRows
import Derived.Laws.CopyOwn
import Derived.Deep.WholeRow
import Derived.Deep.RegionHeld3
import Derived.Deep.DeepCutAuto
import Derived.Deep.DeepFit
namespace Go.Proofs.YtlkljfnenonfgaaGreatDoor
open Go.RowKit
theorem zero_128:Hid (∀ w:World,(zeroValue 88).run Tryz.prog w=.ok (.agg (u8s (List.replicate 128 0)).toArray) w):=fun w=>by kernel_rfl
theorem size_128:(Tryz.prog.info? 88).map (·.size)=some 128:=by kernel_rfl
theorem size_u8b:(Tryz.prog.info? 5).map (·.size)=some 1:=by kernel_rfl
theorem u8s_ones (A:List Int):((u8s A).toArray).all (·.oneCell')=true:=by
 rw [Array.all_eq_true_iff_forall_mem]
 intro v hv
 simp only [u8s,List.mem_toArray,List.mem_map] at hv
 obtain ⟨x,_,rfl⟩:=hv
 rfl
/-- i bytes xored, then noughts -/
def maskZ (m:Int) (k:List Int) (i:Nat):List Int:=(xorN m k).take i++List.replicate (128 - i) 0
theorem maskZ_len {m:Int} {k:List Int} {i:Nat} (lk:k.length=128) (h:i≤128):(maskZ m k i).length=128:=by
 rw [maskZ,List.length_append,List.length_take,List.length_replicate,xorN_len];omega
theorem maskZ_set {m:Int} {k:List Int} {i:Nat} (lk:k.length=128) (h:i < 128):(maskZ m k i).set i (bits .xor .u8 (k.getD i 0) m)=maskZ m k (i + 1):=by
 have e:((xorN m k).take i).length=i:=by rw [List.length_take,xorN_len];omega
 rw [maskZ,maskZ,List.set_append_right _ _ (by omega),e,Nat.sub_self,show 128 - i=(128 - (i + 1)) + 1 by omega,List.replicate_succ,List.set_cons_zero,List.take_add_one,← xorN_get m k i (by omega),List.getD_eq_getElem?_getD,List.getElem?_eq_getElem (by rw [xorN_len];omega),List.append_assoc]
 rfl
theorem maskZ_128 {m:Int} {k:List Int} (lk:k.length=128):maskZ m k 128=xorN m k:=by
 rw [maskZ,List.take_of_length_le (by rw [xorN_len];omega)]
 exact List.append_nil _
set_option linter.unusedSimpArgs false in
set_option maxRecDepth 100000 in
set_option maxHeartbeats 2000000 in
theorem con_maskedM {k:List Int} {m:Int} {w:World} (lk:k.length=128) :
  Calls Tryz.prog 79 #[.agg (u8s k).toArray,.int .u8 m] w fun e w'=>∃ g:Nat,e=.returned (.slice (some ⟨g,0,none⟩) 128 128)∧Blk w' g (u8s (xorN m k))∧Below w.heap.size w w':=by
 have HL:Hid (k.length=128):=lk
 clear lk
 have B0:=Blk.new w (u8s k) 88 w.heap.size rfl
 have bel:Below w.heap.size w (w.alloc (.cells (u8s k).toArray 88)):=(Below.refl _ _).alloc (Nat.le_refl _) _
 generalize (u8s k).toArray=cs at B0 bel ⊢
 go_enter Tryz.func79,Tryz.ntmps79
 go_upto_region 1 with fail
 generalize w.alloc (Obj.cells cs 88)=W at *
 have hmk:=run_make_row' 27 5 (.int .u8 0) 1 Tryz.underlying27 info_b8 rfl .i64 .i64 128 (by omega) (by omega)
 rw [made_u8S] at hmk
 have BD:=Blk.new W (u8s (List.replicate 128 0)) 5 W.heap.size rfl
 have lv:=B0.lt
 replace B0:=B0.alloc (.cells (u8s (List.replicate 128 0)).toArray 5)
 replace bel:=below_alloc (o:=.cells (u8s (List.replicate 128 0)).toArray 5) bel
 generalize (u8s (List.replicate 128 0)).toArray=ds at hmk BD B0 bel
 replace hmk:∀ w:World,(Instr.makeSlice 27 (.int .i64 128) (.int .i64 128)).run Tryz.prog w=.ok (.slice (some ⟨w.heap.size,0,none⟩) 128 128) (w.alloc (.cells ds 5)):=hmk
 go_wp2_with fail
 clear hmk
 obtain ⟨bd,hbd⟩:∃ b,b=W.heap.size:=⟨_,rfl⟩
 generalize W.alloc (.cells ds 5)=W1 at *
 rw [← hbd] at BD lv ⊢
 clear hbd
 go_loopw [8] (fun iv wx=>∃ i:Nat,i≤128∧iv=.int .i64 i∧Blk wx bd (u8s (maskZ m k i))∧Blk wx w.heap.size (u8s k)∧Below w.heap.size w wx) (fun iv _=>128 - (intOf iv).toNat)
 case atStart=>exact ⟨0,by omega,rfl,BD,B0,bel⟩
 case round =>
  clear BD B0 bel
  obtain ⟨i,hi,rfl,BD,B0,bel⟩:=hrel
  by_cases hil:i < 128
  ·have g1:(i:Int) < 128:=by omega
   have g2:(0:Int)≤(i:Int):=by omega
   have g3:(i:Int).toNat=i:=by omega
   have gi:IntKind.i64.wrap ((i:Int) + 1)=(i:Int) + 1:=by rw [IntKind.wrap_i64];omega
   have HS:Hid _:=maskZ_set (m:=m) HL.out hil
   have ck:=B0.cell i _ (u8s_get k i (by rw [HL.out];exact hil))
   have cd:=BD.cell i _ (u8s_get _ i (by rw [maskZ_len HL.out hi];exact hil))
   have fd:=BD.frozen i
   obtain ⟨x,hx⟩:∃ x,k.getD i 0=x:=⟨_,rfl⟩
   rw [hx] at ck HS
   clear hx
   obtain ⟨y,hy⟩:∃ y,bits .xor .u8 x m=y:=⟨_,rfl⟩
   rw [hy] at HS
   have ld:=BD.lt
   have l0:=B0.lt
   go_wp2_with fail
   go_roundw
   case rel=>exact ⟨i + 1,by omega,by go_num,by have:=BD.set8S i y;rw [HS.out] at this;exact this,B0.other _ _ (by show w.heap.size≠bd;omega),bel.setCell (by show w.heap.size≤bd;omega) _⟩
   case measure=>simp [intOf];omega
  ·have HI:Hid (i=128):=by show i=128;omega
   have g1:(128:Int)≤(i:Int):=by omega
   go_wp2_with fail
   go_ret
   refine ⟨_,rfl,?_,bel⟩
   rw [HI.out,maskZ_128 HL.out] at BD
   exact BD
theorem splice_fill (D:List Int):splice (u8s (List.replicate 128 0)) 0 (u8s D)=u8s (fillN D 128):=by
 unfold splice fillN
 rw [List.take_zero,List.nil_append,Nat.zero_add,List.length_map,← List.map_drop,List.drop_replicate,← List.map_append]
theorem bs_addrs {w:World} {b o:Nat} {A:List Int} (hc:∀ j,j < A.length→w.cell? ⟨b,o + j,none⟩=some (.int .u8 (A.getD j 0))):∀ j u,(u8s A)[j]?=some u→w.cell? ((⟨b,o,none⟩:Addr).add j)=some u:=by
 intro j u hu
 have e:(⟨b,o,none⟩:Addr).add j=⟨b,o + j,none⟩:=by unfold Addr.add;split<;>simp_all
 have hj:j < A.length:=by
  have:=(List.getElem?_eq_some_iff.1 hu).1
  simpa [u8s] using this
 rw [u8s_get A j hj] at hu
 rw [e,← hu]
 exact hc j hj
theorem u8s_each (D:List Int):∀ v∈u8s D,v.oneCell'=true:=by
 intro v hv
 simp only [u8s,List.mem_map] at hv
 obtain ⟨x,_,rfl⟩:=hv
 rfl
def SrcAt (w:World) (g:Nat) (ao:Option Addr) (D:List Int):Prop:=0 < (u8s D).length→(some ⟨g,0,none⟩:Option Addr)=some ⟨g,0,none⟩∧∃ ad,ao=some ad∧∀ j v,(u8s D)[j]?=some v→w.cell? (ad.add j)=some v
theorem bs_pos {w:World} {ao:Option Addr} {n cap g:Nat} {D:List Int} (h:Bs w (.slice ao n cap) D):SrcAt w g ao D:=by
 intro h0
 obtain ⟨a,c,e,h1,h2,h3⟩:=h
 obtain ⟨rfl,_,rfl⟩:ao=a∧n=D.length∧cap=c:=by simpa using e
 obtain ⟨b,o,rfl,_,hc⟩:=h3 (by simpa [u8s] using h0)
 exact ⟨rfl,_,rfl,bs_addrs hc⟩
set_option linter.unusedSimpArgs false in
set_option maxRecDepth 100000 in
set_option maxHeartbeats 2000000 in
theorem keyBlock_short {kv:Value} {key:List Int} {w:World} (G:GlsS w) (hk:Bs w kv key) (bk:byt key) (lk:key.length≤20000) (hl:key.length≤128) :
    Calls Tryz.prog 57 #[kv] w fun e w'=>∃ D:List Int,ShortIs key D∧e=.returned (.agg (u8s (fillN D 128)).toArray)∧Below w.heap.size w w':=by
  have HG:Hid (GlsS w):=G
  have HB:Hid (byt key):=bk
  clear G bk
  have hz:=zero_128.out
  have R0:=Blk.new w (u8s (List.replicate 128 0)) 88 w.heap.size rfl
  have bel:Below w.heap.size w (w.alloc (.cells (u8s (List.replicate 128 0)).toArray 88)):=(Below.refl _ _).alloc (Nat.le_refl _) _
  obtain ⟨Z,hZ⟩:∃ Z,u8s (List.replicate 128 0)=Z:=⟨_,rfl⟩
  have HZ:Hid (u8s (List.replicate 128 0)=Z):=hZ
  rw [hZ] at hz bel R0
  have HZl:Hid (Z.length=128):=by rw [← hZ];rfl
  clear hZ
  have hk0:=hk
  obtain ⟨ao,cap,rfl,c1,c2,c3⟩:=hk
  clear c3
  unfold maxLen at c1
  go_enter Tryz.func57,Tryz.ntmps57
  go_upto_region 1 with fail
  replace hk0:=hk0.later bel
  have lw:w.heap.size < (w.alloc (.cells Z.toArray 88)).heap.size:=R0.lt
  generalize w.alloc (Obj.cells Z.toArray 88)=W at *
  have g1:¬ (128:Int) < ((key.length:Nat):Int):=by omega
  obtain ⟨O,hO⟩:∃ O,key=O:=⟨_,rfl⟩
  have HD:Hid (ShortIs key O):=by show ShortIs key O;unfold ShortIs;rw [if_pos hl];exact hO.symm
  rw [hO] at hk0 c2 g1 ⊢
  have HO:Hid (key=O):=hO
  clear hO
  have V0:=Blk.new W Z 88 W.heap.size rfl
  have bs:=bel.size
  replace R0:=R0.alloc (.cells Z.toArray 88)
  replace bel:=below_alloc (o:=.cells Z.toArray 88) bel
  replace hk0:=hk0.later ((Below.refl _ _).alloc (Nat.le_refl _) (.cells Z.toArray 88))
  go_upto_region 4 with fail
  obtain ⟨b,hb⟩:∃ b,b=W.heap.size:=⟨_,rfl⟩
  clear hz
  rw [← hb] at V0 lw bs ⊢
  generalize W.alloc (Obj.cells Z.toArray 88)=W1 at *
  clear hb
  have lO:=HD.out.ln
  have HM:Hid ((u8s O).length=Nat.min O.length 128):=by show (u8s O).length=min O.length 128;rw [List.length_map];omega
  have HP:SrcAt W1 b ao O:=bs_pos (g:=b) hk0
  have HSp:Hid (splice Z 0 (u8s O)=u8s (fillN O 128)):=by show _=_;rw [← HZ.out];exact splice_fill O
  obtain ⟨t0,ht0⟩:=V0
  have HT0:Hid _:=ht0
  have lW1:=(Array.getElem?_eq_some_iff.1 ht0).1
  clear ht0
  have bW:Below b W1 W1:=⟨rfl,rfl,rfl,by omega,fun _ _=>rfl⟩
  obtain ⟨W0,hW0⟩:∃ z,z=W1:=⟨_,rfl⟩
  have bW0:Below b W0 W1:=by rw [hW0];exact bW
  have HW0:Hid (W0=W1):=hW0
  clear bW hW0
  go_upto_region 5 with (first|(refine wpList_copy_splice (by rfl) _ _ _ _ (by rfl) 5 Tryz.underlying27 size_u8b _ _ _ _ _ _ (by rfl) (by rfl) b 0 Z t0 HT0.out (u8s O) HM.out HP (by rw [HZl.out,List.length_map];omega) (u8s_each O) b W0 bW0 (Nat.le_refl _) ?_;intro w2 hg2 hb2)|fail)
  have V2:Blk w2 b (u8s (fillN O 128)):=by rw [← HSp.out];exact ⟨t0,hg2.out⟩
  have hb3:Below b W1 w2:=by rw [← HW0.out];exact hb2
  replace R0:=R0.below hb3 lw
  replace bel:=bel.trans (hb3.mono bs)
  clear hb2 hb3 hg2 HT0 HP hk0
  obtain ⟨F,hF⟩:∃ F,u8s (fillN O 128)=F:=⟨_,rfl⟩
  have HF:Hid (F.length=128):=by rw [← hF,List.length_map];exact fillN_len lO
  have HF1:Hid (F.toArray.all (·.oneCell')=true):=by rw [← hF];exact u8s_ones _
  rw [hF] at V2
  have HFF:Hid _:=hF
  clear hF HM HSp
  obtain ⟨t2,ht2⟩:=V2
  obtain ⟨t3,ht3⟩:=R0
  have HT2:Hid _:=ht2
  have HT3:Hid _:=ht3
  have HS:Hid ((Tryz.prog.info? 88).map (·.size)=some F.toArray.size):=by show _=_;rw [size_128,List.size_toArray,HF.out]
  have HSz:Hid (Z.toArray.size=F.toArray.size):=by show _=_;rw [List.size_toArray,List.size_toArray,HZl.out,HF.out]
  clear ht2 ht3
  go_wp2_with (first
    | (refine wpList_load_row rfl 88 _ rfl b rfl t2 F.toArray (0,0) _ HT2.out Tryz.underlying88 rfl HS.out ?_
       refine wpList_store_row rfl 88 _ _ rfl w.heap.size F.toArray rfl rfl t3 Z.toArray HT3.out HS.out HSz.out HF1.out ?_)
    | fail)
  exact bodyPost_ret (results_cell_row Tryz.results57 _ _ w.heap.size t3 F.toArray (0,0) _ rfl (setRow_heap _ _ _ _ _ _ HT3.out) Tryz.underlying88 rfl HS.out) rfl ⟨O,HD.out,by rw [HFF.out],below_setRow bel (Nat.le_refl _) _⟩
set_option linter.unusedSimpArgs false in
set_option maxRecDepth 100000 in
set_option maxHeartbeats 2000000 in
theorem keyBlock_long {kv:Value} {key:List Int} {w:World} (G:GlsS w) (hk:Bs w kv key) (bk:byt key) (lk:key.length≤20000) (hl:128 < key.length) :
    Calls Tryz.prog 57 #[kv] w fun e w'=>∃ D:List Int,ShortIs key D∧e=.returned (.agg (u8s (fillN D 128)).toArray)∧Below w.heap.size w w':=by
  have HG:Hid (GlsS w):=G
  have HB:Hid (byt key):=bk
  clear G bk
  have hz:=zero_128.out
  have R0:=Blk.new w (u8s (List.replicate 128 0)) 88 w.heap.size rfl
  have bel:Below w.heap.size w (w.alloc (.cells (u8s (List.replicate 128 0)).toArray 88)):=(Below.refl _ _).alloc (Nat.le_refl _) _
  obtain ⟨Z,hZ⟩:∃ Z,u8s (List.replicate 128 0)=Z:=⟨_,rfl⟩
  have HZ:Hid (u8s (List.replicate 128 0)=Z):=hZ
  rw [hZ] at hz bel R0
  have HZl:Hid (Z.length=128):=by rw [← hZ];rfl
  clear hZ
  have hk0:=hk
  obtain ⟨ao,cap,rfl,c1,c2,c3⟩:=hk
  clear c3
  unfold maxLen at c1
  go_enter Tryz.func57,Tryz.ntmps57
  go_upto_region 1 with fail
  replace hk0:=hk0.later bel
  have lw:w.heap.size < (w.alloc (.cells Z.toArray 88)).heap.size:=R0.lt
  generalize w.alloc (Obj.cells Z.toArray 88)=W at *
  have g1:(128:Int) < ((key.length:Nat):Int):=by omega
  go_wp2_with fail
  refine (con_Sum (HG.out.below bel) hk0 HB.out lk).mono ?_
  rintro e w1 ⟨v1,O,rfl,hO,bO,hb⟩
  replace R0:=R0.later hb
  replace bel:=below_step bel hb
  replace lw:=Nat.lt_of_lt_of_le lw hb.size
  have HD:Hid (ShortIs key O):=by show ShortIs key O;unfold ShortIs;rw [if_neg (by omega)];exact hO
  clear hb hO hk0 c1 c2
  have hk0:=bO
  obtain ⟨ao,cap,rfl,c1,c2,c3⟩:=bO
  clear c3
  unfold maxLen at c1
  clear W g1
  obtain ⟨W,hW⟩:∃ z,z=w1:=⟨_,rfl⟩
  rw [← hW] at R0 bel lw hk0 ⊢
  clear hW
  have V0:=Blk.new W Z 88 W.heap.size rfl
  have bs:=bel.size
  replace R0:=R0.alloc (.cells Z.toArray 88)
  replace bel:=below_alloc (o:=.cells Z.toArray 88) bel
  replace hk0:=hk0.later ((Below.refl _ _).alloc (Nat.le_refl _) (.cells Z.toArray 88))
  go_upto_region 4 with fail
  obtain ⟨b,hb⟩:∃ b,b=W.heap.size:=⟨_,rfl⟩
  clear hz
  rw [← hb] at V0 lw bs ⊢
  generalize W.alloc (Obj.cells Z.toArray 88)=W1 at *
  clear hb
  have lO:=HD.out.ln
  have HM:Hid ((u8s O).length=Nat.min O.length 128):=by show (u8s O).length=min O.length 128;rw [List.length_map];omega
  have HP:SrcAt W1 b ao O:=bs_pos (g:=b) hk0
  have HSp:Hid (splice Z 0 (u8s O)=u8s (fillN O 128)):=by show _=_;rw [← HZ.out];exact splice_fill O
  obtain ⟨t0,ht0⟩:=V0
  have HT0:Hid _:=ht0
  have lW1:=(Array.getElem?_eq_some_iff.1 ht0).1
  clear ht0
  have bW:Below b W1 W1:=⟨rfl,rfl,rfl,by omega,fun _ _=>rfl⟩
  obtain ⟨W0,hW0⟩:∃ z,z=W1:=⟨_,rfl⟩
  have bW0:Below b W0 W1:=by rw [hW0];exact bW
  have HW0:Hid (W0=W1):=hW0
  clear bW hW0
  go_upto_region 5 with (first|(refine wpList_copy_splice (by rfl) _ _ _ _ (by rfl) 5 Tryz.underlying27 size_u8b _ _ _ _ _ _ (by rfl) (by rfl) b 0 Z t0 HT0.out (u8s O) HM.out HP (by rw [HZl.out,List.length_map];omega) (u8s_each O) b W0 bW0 (Nat.le_refl _) ?_;intro w2 hg2 hb2)|fail)
  have V2:Blk w2 b (u8s (fillN O 128)):=by rw [← HSp.out];exact ⟨t0,hg2.out⟩
  have hb3:Below b W1 w2:=by rw [← HW0.out];exact hb2
  replace R0:=R0.below hb3 lw
  replace bel:=bel.trans (hb3.mono bs)
  clear hb2 hb3 hg2 HT0 HP hk0
  obtain ⟨F,hF⟩:∃ F,u8s (fillN O 128)=F:=⟨_,rfl⟩
  have HF:Hid (F.length=128):=by rw [← hF,List.length_map];exact fillN_len lO
  have HF1:Hid (F.toArray.all (·.oneCell')=true):=by rw [← hF];exact u8s_ones _
  rw [hF] at V2
  have HFF:Hid _:=hF
  clear hF HM HSp
  obtain ⟨t2,ht2⟩:=V2
  obtain ⟨t3,ht3⟩:=R0
  have HT2:Hid _:=ht2
  have HT3:Hid _:=ht3
  have HS:Hid ((Tryz.prog.info? 88).map (·.size)=some F.toArray.size):=by show _=_;rw [size_128,List.size_toArray,HF.out]
  have HSz:Hid (Z.toArray.size=F.toArray.size):=by show _=_;rw [List.size_toArray,List.size_toArray,HZl.out,HF.out]
  clear ht2 ht3
  go_wp2_with (first
    | (refine wpList_load_row rfl 88 _ rfl b rfl t2 F.toArray (0,0) _ HT2.out Tryz.underlying88 rfl HS.out ?_
       refine wpList_store_row rfl 88 _ _ rfl w.heap.size F.toArray rfl rfl t3 Z.toArray HT3.out HS.out HSz.out HF1.out ?_)
    | fail)
  exact bodyPost_ret (results_cell_row Tryz.results57 _ _ w.heap.size t3 F.toArray (0,0) _ rfl (setRow_heap _ _ _ _ _ _ HT3.out) Tryz.underlying88 rfl HS.out) rfl ⟨O,HD.out,by rw [HFF.out],below_setRow bel (Nat.le_refl _) _⟩
theorem con_keyBlock {kv:Value} {key:List Int} {w:World} (G:GlsS w) (hk:Bs w kv key) (bk:byt key) (lk:key.length≤20000) :
  Calls Tryz.prog 57 #[kv] w fun e w'=>∃ D:List Int,ShortIs key D∧e=.returned (.agg (u8s (fillN D 128)).toArray)∧Below w.heap.size w w':=by
 by_cases hl:key.length≤128
 ·exact keyBlock_short G hk bk lk hl
 ·exact keyBlock_long G hk bk lk (by omega)
end Go.Proofs.YtlkljfnenonfgaaGreatDoor
