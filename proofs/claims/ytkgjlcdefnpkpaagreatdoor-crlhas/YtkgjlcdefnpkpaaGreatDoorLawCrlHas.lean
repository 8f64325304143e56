/- The law CrlHas. -/
import Derived.Test.YtkgjlcdefnpkpaaGreatDoorKrUp
import Derived.Test.YtkgjlcdefnpkpaaGreatDoorKrHas
import Derived.Test.YtkgjlcdefnpkpaaGreatDoorKrApp
import Derived.Test.YtkgjlcdefnpkpaaGreatDoorCtBase
import Derived.Test.YtkgjlcdefnpkpaaGreatDoorKrEl
import Derived.Test.YtkgjlcdefnpkpaaGreatDoorRows
import Derived.Deep.OwnRows
import Derived.Deep.AppendLies
import Derived.Great.BuildSlice
import Derived.Laws.Rows
import Derived.BigQuiet
import Derived.Deep.WholeRow
import Derived.Deep.RegionHeld3
import Derived.Deep.DeepCutAuto
import Derived.Deep.DeepFit
namespace Go.Proofs.YtkgjlcdefnpkpaaGreatDoor
open Go.RowKit
theorem hasG_take {L:List Gn} {S:List Int} {i:Nat} {x:Gn} (h:L[i]?=some x):hasG (L.take (i + 1)) S=(hasG (L.take i) S || decide (x.1=S)):=by
 unfold hasG
 rw [List.take_add_one,h,Option.toList_some,List.any_append]
 simp
theorem hasG_snoc {L:List Gn} {S:List Int} {t:Int}:hasG (L++[(S,t)]) S=true:=hasG_yes (i:=L.length) (x:=(S,t)) (by simp) rfl
theorem cr_zero {w:World} {gv:Value} {L:List Gn} (h:GnAt w gv L):CrAt w ⟨[],0,0,L,[],0,0⟩ [.slice none 0 0,.int .i64 0,.int .i64 0,gv,.slice none 0 0,.int .u64 0,.int .u64 0,.int .u64 0,.int .u64 0,.int .u64 0,.int .u64 0,.int .u64 0,.int .u64 0,.int .u64 0,.int .u64 0,.int .u64 0,.int .u64 0] :=
 ⟨_,_,_,[.int .u64 0,.int .u64 0,.int .u64 0,.int .u64 0,.int .u64 0,.int .u64 0],[.int .u64 0,.int .u64 0,.int .u64 0,.int .u64 0,.int .u64 0,.int .u64 0],rfl,NmAt.nil0 w,h,⟨none,0,rfl,Nat.zero_le _,Nat.zero_le _,fun h=>absurd h (Nat.lt_irrefl 0)⟩,U6.zero,U6.zero⟩
set_option linter.unusedSimpArgs false in
set_option maxRecDepth 100000 in
set_option maxHeartbeats 4000000 in
theorem law_crlHas {c:Cr} {cs:List Value} {v:Value} {S:List Int} {w:World} (_G:GlsO w) (h:CrAt w c cs) (wf:WfCr c) (hl:c.gone.length * 32≤140737488351232) (hv:Bs w v S) (bS:byt S):Calls Tryz.prog 6 #[.agg cs.toArray,v] w fun e w'=>e=.returned (.bool true)∧Below w.heap.size w w':=by
 have HC:Hid (CrAt w c cs):=h
 have HL17:Hid (cs.length=17):=h.len
 have HW:Hid (∀ x∈c.gone,byt x.1):=fun x hx=>(wf.2.2.2.1 x hx).1
 have HV:Hid (Bs w v S):=hv
 have HS:Hid (byt S):=bS
 obtain ⟨iv,gv,bv,rs,zs,hcs,-,hg,-,-,-⟩:=id h
 have HC3:Hid (cs[3]?=some gv):=by show _=_;rw [hcs];rfl
 have HG:Hid (GnAt w gv c.gone):=hg
 obtain ⟨ao,kc,rfl,k1,k2,hk⟩:=hg
 obtain ⟨va,vc,rfl,-,-,-⟩:=hv
 obtain ⟨VL,hVL⟩:∃ z,S.length=z:=⟨_,rfl⟩
 obtain ⟨L,hL⟩:∃ z,c.gone=z:=⟨_,rfl⟩
 have HLg:Hid (c.gone=L):=hL
 rw [hL] at hk HG HW hl k1 HC3
 obtain ⟨N,hN⟩:∃ z,L.length=z:=⟨_,rfl⟩
 have HN:Hid (L.length=N):=hN
 rw [hN] at HG hl k1 HC3 hk
 rw [hVL] at HV ⊢
 have HK:Hid (0 < N→∃ b o,ao=some ⟨b,o,none⟩∧b < w.heap.size∧∀ (i:Nat) (x:Gn),L[i]?=some x→∃ u,w.cell? ⟨b,o + i * 2,none⟩=some u∧Bs w u x.1∧w.cell? ⟨b,o + i * 2 + 1,none⟩=some (.int .i64 x.2)):=hk
 unfold maxLen at k2
 clear hN hL hVL hk bS wf h hcs
 have B0:=Blk.new w cs 32 w.heap.size rfl
 have bel:Below w.heap.size w (w.alloc (.cells cs.toArray 32)):=(Below.refl _ _).alloc (Nat.le_refl _) _
 go_enter Tryz.func6,Tryz.ntmps6
 go_upto_region 1 with fail
 generalize w.alloc (.cells cs.toArray 32)=W at *
 go_wp2_with fail
 refine con_up18.mono ?_
 rintro e w1 ⟨rfl,hb⟩
 replace B0:=B0.later hb
 replace bel:=below_step bel hb
 clear hb
 go_wp2_with fail
 go_loopw [6,7] (fun hv iv wx=>∃ i:Nat,i≤N∧hv=.bool (hasG (L.take i) S)∧iv=.int .i64 (i:Int)∧Blk wx w.heap.size cs∧Below w.heap.size w wx) (fun _ iv _=>N - (intOf iv).toNat)
 case atStart=>exact ⟨0,by omega,rfl,rfl,B0,bel⟩
 case round =>
  clear bel B0
  obtain ⟨i,hi,rfl,rfl,B0,bel⟩:=hrel
  have e3:=B0.cell 3 _ HC3.out
  have l0:=B0.lt
  by_cases hil:i < N
  rotate_left
  ·obtain rfl:i=N:=by omega
   have g1:¬ (i:Int) < (i:Int):=by omega
   have HT:Hid (hasG (L.take i) S=hasG L S):=by show _=_;rw [List.take_of_length_le (by rw [HN.out];exact Nat.le_refl _)]
   obtain ⟨b,hb⟩:∃ z,hasG (L.take i) S=z:=⟨_,rfl⟩
   have HT2:Hid (hasG L S=b):=by show _=_;rw [← HT.out];exact hb
   rw [hb]
   clear hb HT
   have hbl:Below wr.heap.size wr (wr.alloc (.cells #[] 54)):=(Below.refl _ _).alloc (Nat.le_refl _) _
   have own0:=own_noneG wr
   have B1:=B0.later hbl
   have e4:=B1.cell 3 _ HC3.out
   have l1:=B1.lt
   have bel1:=below_step bel hbl
   have hlN:L.length * 32≤140737488355328:=by rw [HN.out];omega
   go_upto_region 8 with (first|(at_builtin;refine wpList_append_gnL (by rfl) _ _ (by rfl) wr.heap.size _ (by rfl) own0 _ L (by rfl) w HG.out bel1 hlN (by simp) ?_;intro xs v1 w2 hxs own1 hgrow1)|fail)
   have HXs:Hid (GnCs w L xs):=hxs
   have bp1:=below_own (base:=wr.heap.size) hbl hgrow1 (by simp) (fun g hg=>(own_geK own0 hg).1) (Nat.le_refl _)
   rw [HN.out] at own1
   obtain ⟨oa,oc,rfl⟩:=own_slE own1
   clear e3 l0 e4 l1 B1 hbl own0 bel1 hlN hgrow1 hxs
   have HF:=fill_gn8 (a:=.slice va VL vc) (b:=.int .i64 0)
   obtain ⟨jg,hjg,hg0,hg1,hg2⟩:=info_partsD info_gn8
   have hz:=zero_gn
   have hbx:Below w2.heap.size w2 (w2.alloc (.cells #[.slice va VL vc,.int .i64 0] 54)):=(Below.refl _ _).alloc (Nat.le_refl _) _
   have B5:=Blk.new w2 [.slice va VL vc,.int .i64 0] 54 w2.heap.size rfl
   have own1':=own_agr (S:=fun _=>True) own1 (Agr.below hbx) (fun _ _=>trivial)
   have bp2:=below_step bp1 hbx
   have hsz:=bp2.size
   have hN47:(i + 1) * 32≤140737488355328:=by omega
   go_upto_region 9 with (first|((with_reducible show wpList _ _ _ ({ dst:=_,op:=.buildSlice _ _ _,type:=_,pos:=_,after:=_,guard:=_ } :: _) _ _);refine Go.wpList_buildSlice rfl 24 54 1 _ rfl #[.slice va VL vc,.int .i64 0] jg _ Tryz.underlying24 hjg hg0 (by rw [hg1];decide) (by rw [hg1];decide) (by rw [hg1];refine (congrArg _ (?_:_=[(0,Value.agg #[.slice va VL vc,.int .i64 0])])).trans HF;kernel_rfl) ?_)|(at_builtin;refine wpList_append_gn1 (by rfl) _ _ (by rfl) wr.heap.size _ i xs (by rfl) own1' w2.heap.size (by rfl) (.slice va VL vc) 0 B5 rfl hN47 hsz ?_;intro gv2 w4 own2 hgrow2)|fail)
   have bp4:=below_own (base:=wr.heap.size) bp2 hgrow2 hsz (fun g hg=>(own_geK own1' hg).1) (Nat.le_refl _)
   replace B0:=B0.later bp4
   replace bel:=below_step bel bp4
   have HG2:Hid (GnAt w4 gv2 (L++[(S,0)])):=GnAt.of_own (by rw [List.length_append,HN.out];exact own2) (HXs.out.snoc HV.out) bel
   obtain ⟨oa2,oc2,rfl⟩:=own_slE own2
   clear HF hjg hg0 hg1 hg2 hz hbx B5 own1' bp2 hsz hN47 hgrow2 own1 own2 bp1 bp4
   have hld:(loadVar 32 ⟨w.heap.size,0,none⟩).run Tryz.prog w4=.ok (.agg cs.toArray) w4:=B0.load Tryz.underlying32 rfl size_crU HL17.out
   have l0:=B0.lt
   go_wp2_with (first|((with_reducible show wpList _ _ _ ({ dst:=_,op:=.load _ _,type:=_,pos:=_,after:=_,guard:=_ } :: _) _ _);refine wpList_load_run (by rfl) (by rfl) (by rfl) hld ?_)|fail)
   refine (con_KHas (HC.out.later bel) (by rw [HLg.out];exact HW.out) (HV.out.later bel) HS.out).mono ?_
   rintro e w5 ⟨rfl,hb⟩
   rw [HLg.out,HT2.out]
   replace HG2:Hid (GnAt w5 (.slice oa2 (i + 1) oc2) (L++[(S,0)])):=HG2.out.later hb
   replace bel:=below_step bel hb
   clear hb hld l0 B0
   have hz:=zero_cr8.out
   have HW2:Hid (∀ x∈(L++[(S,0)]:List Gn),byt x.1):=fun x hx=>by
    rcases List.mem_append.1 hx with h|h
    ·exact HW.out x h
    ·simp only [List.mem_singleton] at h
     rw [h]
     exact HS.out
   cases b <;>
   ·go_wp2_with fail
    refine (con_KHas (cr_zero HG2.out) HW2.out (HV.out.later bel) HS.out).mono ?_
    rintro e w6 ⟨rfl,hb⟩
    replace bel:=below_step bel hb
    clear hb
    rw [show hasG (Cr.gone ⟨[],0,0,L++[(S,0)],[],0,0⟩) S=true from hasG_snoc]
    go_wp2_with fail
    go_ret
    exact ⟨rfl,bel⟩
  have g1:(i:Int) < (N:Int):=by omega
  have g2:(0:Int)≤(i:Int):=by omega
  have gi:IntKind.i64.wrap ((i:Int) + 1)=(i:Int) + 1:=by rw [IntKind.wrap_i64];omega
  obtain ⟨x,hx⟩:∃ x,L[i]?=some x:=⟨_,List.getElem?_eq_getElem (by rw [HN.out];exact hil)⟩
  have HX:Hid (hasG (L.take (i + 1)) S=(hasG (L.take i) S || decide (x.1=S))):=hasG_take hx
  obtain ⟨p,hp⟩:∃ z,hasG (L.take i) S=z:=⟨_,rfl⟩
  rw [hp] at HX ⊢
  clear hp
  cases p with
  | true =>
   clear hx
   go_upto_region 6 with fail
   obtain ⟨S1,hS1,KB1,KI1,KD1,KL1,KA1⟩:∃ S:World→Prop,Hd S wr∧Hid (∀ wx,Hd S wx→Below wr.heap.size wr wx)∧Hid (∀ wx,Below wr.heap.size wr wx→Hd S wx)∧Hid (∀ wx,Hd S wx→Hd S wx.drew)∧Hid (∀ w1 w2,Hd S w1→Below w1.heap.size w1 w2→Hd S w2)∧Hid (∀ w1 o,Hd S w1→Hd S (w1.alloc o)):=⟨fun wx=>Below wr.heap.size wr wx,Below.refl _ _,fun _ h=>h,fun _ h=>h,fun wx h=>Below.drew h,fun w1 w2 h hb=>below_step h hb,fun w1 o h=>Below.alloc h h.size o⟩
   have HBk:Hid (Blk wr w.heap.size cs):=B0
   have HBel:Hid (Below w.heap.size w wr):=bel
   clear e3 l0 B0 bel
   refine wp_region_noPanic ?_
   refine wp_region_held_drew (S:=Hd S1) (by kernel_rfl) (KD1.out _ hS1) (fun hHeld=>?_)
   clear hS1
   generalize World.drew _=wd1 at *
   refine wpAnyH_take (i:=0) (v:=?_) rfl (by kernel_rfl) (by kernel_rfl) (by kernel_rfl) (fun _ _ _ h=>h) (Or.inl ⟨by rfl,?_⟩) (by assumption) ?_
   rotate_left
   ·intro w hSw
    go_simp
    with_reducible rfl
   try simp only [Act.put,List.getElem_toArray,List.getElem_cons_zero,List.getElem_cons_succ,List.setIfInBounds_toArray,List.set_cons_zero,List.set_cons_succ]
   refine wpAnyH_take (i:=1) (v:=?_) rfl (by kernel_rfl) (by kernel_rfl) (by kernel_rfl) (fun _ _ _ h=>h) (Or.inl ⟨by rfl,?_⟩) (by assumption) ?_
   rotate_left
   ·intro w hSw
    go_simp
    with_reducible rfl
   try simp only [Act.put,List.getElem_toArray,List.getElem_cons_zero,List.getElem_cons_succ,List.setIfInBounds_toArray,List.set_cons_zero,List.set_cons_succ]
   refine wpAnyH_take (i:=2) (v:=undef) rfl (by kernel_rfl) (by kernel_rfl) (by kernel_rfl) (fun _ _ _ h=>h) (Or.inr ⟨by rfl,rfl⟩) (by assumption) ?_
   try simp only [Act.put,List.getElem_toArray,List.getElem_cons_zero,List.getElem_cons_succ,List.setIfInBounds_toArray,List.set_cons_zero,List.set_cons_succ]
   refine wpAnyH_take (i:=3) (v:=undef) rfl (by kernel_rfl) (by kernel_rfl) (by kernel_rfl) (fun _ _ _ h=>h) (Or.inr ⟨by rfl,rfl⟩) (by assumption) ?_
   try simp only [Act.put,List.getElem_toArray,List.getElem_cons_zero,List.getElem_cons_succ,List.setIfInBounds_toArray,List.set_cons_zero,List.set_cons_succ]
   refine wpAnyH_take (i:=4) (v:=undef) rfl (by kernel_rfl) (by kernel_rfl) (by kernel_rfl) (fun _ _ _ h=>h) (Or.inr ⟨by rfl,rfl⟩) (by assumption) ?_
   try simp only [Act.put,List.getElem_toArray,List.getElem_cons_zero,List.getElem_cons_succ,List.setIfInBounds_toArray,List.set_cons_zero,List.set_cons_succ]
   refine wpAnyH_take (i:=5) (v:=undef) rfl (by kernel_rfl) (by kernel_rfl) (by kernel_rfl) (fun _ _ _ h=>h) (Or.inr ⟨by rfl,rfl⟩) (by assumption) ?_
   try simp only [Act.put,List.getElem_toArray,List.getElem_cons_zero,List.getElem_cons_succ,List.setIfInBounds_toArray,List.set_cons_zero,List.set_cons_succ]
   refine wpAnyH_take (i:=6) (v:=undef) rfl (by kernel_rfl) (by kernel_rfl) (by kernel_rfl) (fun _ _ _ h=>h) (Or.inr ⟨by rfl,rfl⟩) (by assumption) ?_
   try simp only [Act.put,List.getElem_toArray,List.getElem_cons_zero,List.getElem_cons_succ,List.setIfInBounds_toArray,List.set_cons_zero,List.set_cons_succ]
   refine wpAnyH_take (i:=7) (v:=undef) rfl (by kernel_rfl) (by kernel_rfl) (by kernel_rfl) (fun _ _ _ h=>h) (Or.inr ⟨by rfl,rfl⟩) (by assumption) ?_
   try simp only [Act.put,List.getElem_toArray,List.getElem_cons_zero,List.getElem_cons_succ,List.setIfInBounds_toArray,List.set_cons_zero,List.set_cons_succ]
   refine wpAnyH_take (i:=8) (v:=undef) rfl (by kernel_rfl) (by kernel_rfl) (by kernel_rfl) (fun _ _ _ h=>h) (Or.inr ⟨by rfl,rfl⟩) (by assumption) ?_
   try simp only [Act.put,List.getElem_toArray,List.getElem_cons_zero,List.getElem_cons_succ,List.setIfInBounds_toArray,List.set_cons_zero,List.set_cons_succ]
   refine wpAnyH_take (i:=9) (v:=undef) rfl (by kernel_rfl) (by kernel_rfl) (by kernel_rfl) (fun _ _ _ h=>h) (Or.inr ⟨by rfl,rfl⟩) (by assumption) ?_
   try simp only [Act.put,List.getElem_toArray,List.getElem_cons_zero,List.getElem_cons_succ,List.setIfInBounds_toArray,List.set_cons_zero,List.set_cons_succ]
   refine wpAnyH_take (i:=10) (v:=undef) rfl (by kernel_rfl) (by kernel_rfl) (by kernel_rfl) (fun _ _ _ h=>h) (Or.inr ⟨by rfl,rfl⟩) (by assumption) ?_
   try simp only [Act.put,List.getElem_toArray,List.getElem_cons_zero,List.getElem_cons_succ,List.setIfInBounds_toArray,List.set_cons_zero,List.set_cons_succ]
   refine wpAnyH_take (i:=11) (v:=undef) rfl (by kernel_rfl) (by kernel_rfl) (by kernel_rfl) (fun _ _ _ h=>h) (Or.inr ⟨by rfl,rfl⟩) (by assumption) ?_
   try simp only [Act.put,List.getElem_toArray,List.getElem_cons_zero,List.getElem_cons_succ,List.setIfInBounds_toArray,List.set_cons_zero,List.set_cons_succ]
   refine wpAnyH_take (i:=12) (v:=?_) rfl (by kernel_rfl) (by kernel_rfl) (by kernel_rfl) (fun _ _ _ h=>h) (Or.inl ⟨by rfl,?_⟩) (by assumption) ?_
   rotate_left
   ·intro w hSw
    go_simp
    with_reducible rfl
   try simp only [Act.put,List.getElem_toArray,List.getElem_cons_zero,List.getElem_cons_succ,List.setIfInBounds_toArray,List.set_cons_zero,List.set_cons_succ]
   refine wpAnyH_take (i:=13) (v:=?_) rfl (by kernel_rfl) (by kernel_rfl) (by kernel_rfl) (fun _ _ _ h=>h) (Or.inl ⟨by rfl,?_⟩) (by assumption) ?_
   rotate_left
   ·intro w hSw
    go_simp
    with_reducible rfl
   try simp only [Act.put,List.getElem_toArray,List.getElem_cons_zero,List.getElem_cons_succ,List.setIfInBounds_toArray,List.set_cons_zero,List.set_cons_succ]
   refine wpAnyH_done (by kernel_rfl) ?_ _
   refine NoPanic.normal ?_
   have st:=KB1.out _ hHeld
   have B0:=HBk.out.later st
   have bel:=below_step HBel.out st
   clear hHeld st
   go_wp2_with fail
   go_roundw
   case rel=>exact ⟨i + 1,by omega,by rw [HX.out];rfl,by go_num,B0,bel⟩
   case measure=>simp [intOf];omega
  | false =>
   obtain ⟨b,o,hao,hlt,hc⟩:=HK.out (by omega)
   obtain ⟨u,c1,hu,-⟩:=hc i x hx
   have HU:Hid (Bs w u x.1):=hu
   have HYx:Hid (byt x.1):=HW.out x (List.mem_of_getElem? hx)
   subst hao
   have HLb:Hid (b < w.heap.size):=hlt
   obtain ⟨d,hd⟩:∃ d:Bool,decide (x.1=S)=d:=⟨_,rfl⟩
   have sq:((strOfNums x.1).toList == (strOfNums S).toList)=d:=by rw [← hd];exact str_eqS HYx.out HS.out
   rw [hd,Bool.false_or] at HX
   obtain ⟨ua,uc,rfl,-,-,-⟩:=hu
   obtain ⟨Z1,hZ1⟩:∃ z,strOfNums x.1=z:=⟨_,rfl⟩
   obtain ⟨Z2,hZ2⟩:∃ z,strOfNums S=z:=⟨_,rfl⟩
   obtain ⟨UL,hUL⟩:∃ z,x.1.length=z:=⟨_,rfl⟩
   rw [hUL] at HU c1
   have HX0:Hid (w.cell? ⟨b,o + i * 2,none⟩=some (.slice ua UL uc)):=c1
   clear hd hx hc c1 hlt hUL
   go_upto_region 6 with fail
   obtain ⟨S1,hS1,KB1,KI1,KD1,KL1,KA1⟩:∃ S:World→Prop,Hd S wr∧Hid (∀ wx,Hd S wx→Below wr.heap.size wr wx)∧Hid (∀ wx,Below wr.heap.size wr wx→Hd S wx)∧Hid (∀ wx,Hd S wx→Hd S wx.drew)∧Hid (∀ w1 w2,Hd S w1→Below w1.heap.size w1 w2→Hd S w2)∧Hid (∀ w1 o,Hd S w1→Hd S (w1.alloc o)):=⟨fun wx=>Below wr.heap.size wr wx,Below.refl _ _,fun _ h=>h,fun _ h=>h,fun wx h=>Below.drew h,fun w1 w2 h hb=>below_step h hb,fun w1 o h=>Below.alloc h h.size o⟩
   have HBk:Hid (Blk wr w.heap.size cs):=B0
   have HBel:Hid (Below w.heap.size w wr):=bel
   have ra:∀ wx,Hd S1 wx→wx.cell? ⟨w.heap.size,3,none⟩=some (.slice (some ⟨b,o,none⟩) N kc):=fun wx h=>(HBk.out.later (KB1.out wx h)).cell 3 _ HC3.out
   have rl:∀ wx,Hd S1 wx→w.heap.size < wx.heap.size:=fun wx h=>(HBk.out.later (KB1.out wx h)).lt
   have rx:∀ wx,Hd S1 wx→wx.cell? ⟨b,o + i * 2,none⟩=some (.slice ua UL uc):=fun wx h=>cell_later HX0.out (below_step HBel.out (KB1.out wx h))
   have rb:∀ wx,Hd S1 wx→b < wx.heap.size:=fun wx h=>Nat.lt_of_lt_of_le HLb.out (below_step HBel.out (KB1.out wx h)).size
   have r1:=fun (wx:World) (h:Hd S1 wx)=>conv_any (HU.out.later (below_step HBel.out (KB1.out wx h)))
   have r2:=fun (wx:World) (h:Hd S1 wx)=>conv_any (HV.out.later (below_step HBel.out (KB1.out wx h)))
   rw [hZ1] at sq r1
   rw [hZ2] at sq r2
   clear e3 l0 B0 bel
   refine wp_region_noPanic ?_
   refine wp_region_held_drew (S:=Hd S1) (by kernel_rfl) (KD1.out _ hS1) (fun hHeld=>?_)
   clear hS1
   generalize World.drew _=wd1 at *
   refine wpAnyH_take (i:=0) (v:=?_) rfl (by kernel_rfl) (by kernel_rfl) (by kernel_rfl) (fun _ _ _ h=>h) (Or.inl ⟨by rfl,?_⟩) (by assumption) ?_
   rotate_left
   ·intro w hSw
    go_simp
    with_reducible rfl
   try simp only [Act.put,List.getElem_toArray,List.getElem_cons_zero,List.getElem_cons_succ,List.setIfInBounds_toArray,List.set_cons_zero,List.set_cons_succ]
   refine wpAnyH_take (i:=1) (v:=?_) rfl (by kernel_rfl) (by kernel_rfl) (by kernel_rfl) (fun _ _ _ h=>h) (Or.inl ⟨by rfl,?_⟩) (by assumption) ?_
   rotate_left
   ·intro w hSw
    go_simp
    with_reducible rfl
   try simp only [Act.put,List.getElem_toArray,List.getElem_cons_zero,List.getElem_cons_succ,List.setIfInBounds_toArray,List.set_cons_zero,List.set_cons_succ]
   refine wpAnyH_take (i:=2) (v:=?_) rfl (by kernel_rfl) (by kernel_rfl) (by kernel_rfl) (fun _ _ _ h=>h) (Or.inl ⟨by rfl,?_⟩) (by assumption) ?_
   rotate_left
   ·intro w hSw
    go_simp
    with_reducible rfl
   try simp only [Act.put,List.getElem_toArray,List.getElem_cons_zero,List.getElem_cons_succ,List.setIfInBounds_toArray,List.set_cons_zero,List.set_cons_succ]
   refine wpAnyH_take (i:=3) (v:=?_) rfl (by kernel_rfl) (by kernel_rfl) (by kernel_rfl) (fun _ _ _ h=>h) (Or.inl ⟨by rfl,?_⟩) (by assumption) ?_
   rotate_left
   ·intro w hSw
    go_simp
    with_reducible rfl
   try simp only [Act.put,List.getElem_toArray,List.getElem_cons_zero,List.getElem_cons_succ,List.setIfInBounds_toArray,List.set_cons_zero,List.set_cons_succ]
   refine wpAnyH_take (i:=4) (v:=?_) rfl (by kernel_rfl) (by kernel_rfl) (by kernel_rfl) (fun _ _ _ h=>h) (Or.inl ⟨by rfl,?_⟩) (by assumption) ?_
   rotate_left
   ·intro w hSw
    go_simp
    with_reducible rfl
   try simp only [Act.put,List.getElem_toArray,List.getElem_cons_zero,List.getElem_cons_succ,List.setIfInBounds_toArray,List.set_cons_zero,List.set_cons_succ]
   refine wpAnyH_take (i:=5) (v:=?_) rfl (by kernel_rfl) (by kernel_rfl) (by kernel_rfl) (fun _ _ _ h=>h) (Or.inl ⟨by rfl,?_⟩) (by assumption) ?_
   rotate_left
   ·intro w hSw
    go_simp
    with_reducible rfl
   try simp only [Act.put,List.getElem_toArray,List.getElem_cons_zero,List.getElem_cons_succ,List.setIfInBounds_toArray,List.set_cons_zero,List.set_cons_succ]
   refine wpAnyH_take (i:=6) (v:=?_) rfl (by kernel_rfl) (by kernel_rfl) (by kernel_rfl) (fun _ _ _ h=>h) (Or.inl ⟨by rfl,?_⟩) (by assumption) ?_
   rotate_left
   ·intro w hSw
    go_simp
    with_reducible rfl
   try simp only [Act.put,List.getElem_toArray,List.getElem_cons_zero,List.getElem_cons_succ,List.setIfInBounds_toArray,List.set_cons_zero,List.set_cons_succ]
   refine wpAnyH_take (i:=7) (v:=?_) rfl (by kernel_rfl) (by kernel_rfl) (by kernel_rfl) (fun _ _ _ h=>h) (Or.inl ⟨by rfl,?_⟩) (by assumption) ?_
   rotate_left
   ·intro w hSw
    go_simp
    with_reducible rfl
   try simp only [Act.put,List.getElem_toArray,List.getElem_cons_zero,List.getElem_cons_succ,List.setIfInBounds_toArray,List.set_cons_zero,List.set_cons_succ]
   refine wpAnyH_take (i:=8) (v:=?_) rfl (by kernel_rfl) (by kernel_rfl) (by kernel_rfl) (fun _ _ _ h=>h) (Or.inl ⟨by rfl,?_⟩) (by assumption) ?_
   rotate_left
   ·intro w hSw
    go_simp
    with_reducible rfl
   try simp only [Act.put,List.getElem_toArray,List.getElem_cons_zero,List.getElem_cons_succ,List.setIfInBounds_toArray,List.set_cons_zero,List.set_cons_succ]
   refine wpAnyH_take (i:=9) (v:=?_) rfl (by kernel_rfl) (by kernel_rfl) (by kernel_rfl) (fun _ _ _ h=>h) (Or.inl ⟨by rfl,?_⟩) (by assumption) ?_
   rotate_left
   ·intro w hSw
    go_simp
    with_reducible rfl
   try simp only [Act.put,List.getElem_toArray,List.getElem_cons_zero,List.getElem_cons_succ,List.setIfInBounds_toArray,List.set_cons_zero,List.set_cons_succ]
   refine wpAnyH_take (i:=10) (v:=?_) rfl (by kernel_rfl) (by kernel_rfl) (by kernel_rfl) (fun _ _ _ h=>h) (Or.inl ⟨by rfl,?_⟩) (by assumption) ?_
   rotate_left
   ·intro w hSw
    go_simp
    with_reducible rfl
   try simp only [Act.put,List.getElem_toArray,List.getElem_cons_zero,List.getElem_cons_succ,List.setIfInBounds_toArray,List.set_cons_zero,List.set_cons_succ]
   refine wpAnyH_take (i:=11) (v:=?_) rfl (by kernel_rfl) (by kernel_rfl) (by kernel_rfl) (fun _ _ _ h=>h) (Or.inl ⟨by rfl,?_⟩) (by assumption) ?_
   rotate_left
   ·intro w hSw
    go_simp
    with_reducible rfl
   try simp only [Act.put,List.getElem_toArray,List.getElem_cons_zero,List.getElem_cons_succ,List.setIfInBounds_toArray,List.set_cons_zero,List.set_cons_succ]
   refine wpAnyH_take (i:=12) (v:=?_) rfl (by kernel_rfl) (by kernel_rfl) (by kernel_rfl) (fun _ _ _ h=>h) (Or.inl ⟨by rfl,?_⟩) (by assumption) ?_
   rotate_left
   ·intro w hSw
    go_simp
    with_reducible rfl
   try simp only [Act.put,List.getElem_toArray,List.getElem_cons_zero,List.getElem_cons_succ,List.setIfInBounds_toArray,List.set_cons_zero,List.set_cons_succ]
   refine wpAnyH_take (i:=13) (v:=?_) rfl (by kernel_rfl) (by kernel_rfl) (by kernel_rfl) (fun _ _ _ h=>h) (Or.inl ⟨by rfl,?_⟩) (by assumption) ?_
   rotate_left
   ·intro w hSw
    go_simp
    with_reducible rfl
   try simp only [Act.put,List.getElem_toArray,List.getElem_cons_zero,List.getElem_cons_succ,List.setIfInBounds_toArray,List.set_cons_zero,List.set_cons_succ]
   refine wpAnyH_done (by kernel_rfl) ?_ _
   refine NoPanic.normal ?_
   have st:=KB1.out _ hHeld
   have B0:=HBk.out.later st
   have bel:=below_step HBel.out st
   clear hHeld st
   clear ra rl rx rb r1 r2
   go_wp2_with fail
   go_roundw
   case rel=>exact ⟨i + 1,by omega,by rw [HX.out],by go_num,B0,bel⟩
   case measure=>simp [intOf];omega
end Go.Proofs.YtkgjlcdefnpkpaaGreatDoor
