/- The law EciesBack. -/
import Derived.Test.YtlkljfnenonfgaaGreatDoorEiUp
import Derived.Test.YtlkljfnenonfgaaGreatDoorEiCode
import Derived.Test.YtlkljfnenonfgaaGreatDoorEdKnown
import Derived.Test.YtlkljfnenonfgaaGreatDoorEiUnwrap
import Derived.Test.YtlkljfnenonfgaaGreatDoorSConv
import Derived.Test.YtlkljfnenonfgaaGreatDoorAeNumG
import Derived.Test.YtlkljfnenonfgaaGreatDoorBase
import Derived.Test.YtlkljfnenonfgaaGreatDoorRows
import Derived.Deep.OwnRows
import Derived.Deep.AppendLies
import Derived.Great.BuildSlice
import Derived.Laws.Rows
import Derived.BigQuiet
import Derived.Deep.WholeRow
import Derived.Deep.RegionHeld3
import Derived.Deep.DeepCutAuto
import Derived.Deep.DeepFit
namespace Go.Proofs.YtlkljfnenonfgaaGreatDoor
open Go.RowKit
set_option linter.unusedSimpArgs false in
set_option maxRecDepth 100000 in
set_option maxHeartbeats 8000000 in
theorem law_eciesBack {cs ds:List Value} {x y:Int} {S:List Int} {at9 by9:Int} {w:World} (G:GlsX w) (ha:U6 cs x) (hk:U6 ds y) (l:S.length=32) (bS:byt S) (fx:-9223372036854775808≤at9∧at9≤9223372036854775807) (fy:0≤by9∧by9 < 256) :
  Calls Tryz.prog 5 #[.agg cs.toArray,.agg ds.toArray,.agg (u8s S).toArray,.int .i64 at9,.int .u8 by9] w fun e w'=>e=.returned (.bool true)∧Below w.heap.size w w':=by
 have HG:Hid (GlsX w):=G
 have HGO:Hid (GlsO w):=G.2.1
 have HA:Hid (U6 cs x):=ha
 have HK:Hid (U6 ds y):=hk
 have HLa:Hid (cs.length=6):=ha.len
 have HLk:Hid (ds.length=6):=hk.len
 have HSb:Hid (byt S):=bS
 have HSl:Hid (S.length=32):=l
 clear G ha hk bS
 have D0:=((Blk.new w cs 24 w.heap.size rfl).alloc (.cells ds.toArray 24)).alloc (.cells (u8s S).toArray 48)
 have K0:=(Blk.new (w.alloc (.cells cs.toArray 24)) ds 24 (w.heap.size + 1) (by simp)).alloc (.cells (u8s S).toArray 48)
 have G0:=Blk.new ((w.alloc (.cells cs.toArray 24)).alloc (.cells ds.toArray 24)) (u8s S) 48 (w.heap.size + 1 + 1) (by simp)
 have bel:Below w.heap.size w (((w.alloc (.cells cs.toArray 24)).alloc (.cells ds.toArray 24)).alloc (.cells (u8s S).toArray 48)):=(((Below.refl _ _).alloc (Nat.le_refl _) _).alloc (by simp) _).alloc (by simp;omega) _
 go_enter Tryz.func5,Tryz.ntmps5
 go_upto_region 1 with fail
 generalize ((w.alloc (.cells cs.toArray 24)).alloc (.cells ds.toArray 24)).alloc (.cells (u8s S).toArray 48)=W at *
 go_wp2_with fail
 refine (con_up15 (HG.out.below bel)).mono ?_
 rintro e w1 ⟨rfl,hb⟩
 replace D0:=D0.later hb
 replace K0:=K0.later hb
 replace G0:=G0.later hb
 replace bel:=below_step bel hb
 clear hb
 have l0:=D0.lt
 go_wp2_with (first|(refine wpList_load_run (by rfl) (by rfl) (by rfl) (D0.load Tryz.underlying24 rfl size_u HLa.out) ?_)|fail)
 refine (con_known (HGO.out.below bel) HA.out).mono ?_
 rintro e w2 ⟨es,yd,rfl,hu,hsd,hb⟩
 clear l0
 replace D0:=D0.later hb
 replace K0:=K0.later hb
 replace G0:=G0.later hb
 replace bel:=below_step bel hb
 clear hb
 have HE:Hid (U6 es yd):=hu
 have HScd:Hid (isSc yd):=hsd
 have HLd:Hid (es.length=6):=hu.len
 have HSd:Hid (es.toArray.size=6):=by show _=_;rw [List.size_toArray];exact HLd.out
 have HOd:Hid (OneR es):=hu.ones
 clear hu hsd
 have lD:=D0.lt
 have D1:Blk (w2.setRow w.heap.size es.toArray) w.heap.size es:=D0.put
 have K1:=K0.row (cs:=es.toArray) (c:=w.heap.size) (by omega)
 have G1:=G0.row (cs:=es.toArray) (c:=w.heap.size) (by omega)
 have bel1:=below_setRow bel (Nat.le_refl _) es.toArray
 obtain ⟨tR,hR⟩:=D0
 have HR1:Hid _:=hR
 clear hR
 go_upto_region 3 with (first|(refine wpList_store_row rfl 24 _ _ rfl w.heap.size es.toArray rfl rfl tR _ HR1.out (by rw [size_u,HSd.out]) (by rw [HSd.out,List.size_toArray,HLa.out]) HOd.out ?_)|fail)
 clear HR1 K0 G0 bel lD
 generalize World.setRow w2 _ _=V at *
 obtain ⟨W0,hW0⟩:∃ z,z=V.heap.size:=⟨_,rfl⟩
 have hg3:w.heap.size + 1 + 1 < W0:=by rw [hW0];exact G1.lt
 have hsV:W0≤V.heap.size:=by omega
 clear hW0
 go_wp2_with fail
 go_loopw [12,13] (fun bv iv wx=>∃ i:Nat,i≤32∧iv=.int .i64 (i:Int)∧wx.ownsRow W0 5 1 bv i (u8s (S.take i))∧Blk wx w.heap.size es∧Blk wx (w.heap.size + 1) ds∧Blk wx (w.heap.size + 1 + 1) (u8s S)∧Below w.heap.size w wx∧W0≤wx.heap.size) (fun _ iv _=>32 - (intOf iv).toNat)
 case atStart=>exact ⟨0,by omega,rfl,⟨rfl,.inl ⟨rfl,rfl⟩⟩,D1,K1,G1,bel1,hsV⟩
 case round =>
  clear D1 K1 G1 bel1 hsV
  obtain ⟨i,hi,rfl,own,D1,K1,G1,bel1,hsV⟩:=hrel
  by_cases hil:i < 32
  ·have g1:(i:Int) < 32:=by omega
   have g2:(0:Int)≤(i:Int):=by omega
   have gi:IntKind.i64.wrap ((i:Int) + 1)=(i:Int) + 1:=by rw [IntKind.wrap_i64];omega
   obtain ⟨z,hz⟩:∃ z,S.getD i 0=z:=⟨_,rfl⟩
   have HZ:Hid (S.take i++[z]=S.take (i + 1)):=by
    show _=_
    have hg:S[i]?=some z:=by rw [← hz,List.getD_eq_getElem?_getD,List.getElem?_eq_getElem (by rw [HSl.out];exact hil)];rfl
    rw [List.take_add_one,hg]
    rfl
   have cz:=G1.cell i (.int .u8 z) (by rw [u8s_get S i (by rw [HSl.out];exact hil),hz])
   clear hz
   have lg:=G1.lt
   have own1:=own_later6 own (o:=.cells #[.int .u8 z] 5)
   have bl:=bs_one wr z
   have hsz:W0≤(wr.alloc (.cells #[.int .u8 z] 5)).heap.size:=by simp;omega
   go_wp2_with (first|(at_builtin;refine wpList_append_bs (by rfl) _ _ (by rfl) W0 _ i _ (by rfl) own1 _ [z] (by rfl) bl (by simp;omega) hsz ?_;intro v8 w8 own8 hgrow hat)|fail)
   have bel8:=below_own (base:=W0) ((Below.refl W0 wr).alloc hsV (.cells #[.int .u8 z] 5)) hgrow hsz (fun g hg=>own_geD own1 hg) (Nat.le_refl _)
   rw [HZ.out] at own8
   replace D1:=D1.below bel8 (by omega)
   replace K1:=K1.below bel8 (by omega)
   replace G1:=G1.below bel8 (by omega)
   replace bel1:=bel1.trans (bel8.mono (by omega))
   have hs8:=bel8.size
   clear hgrow hat own1 bl bel8 cz lg
   go_roundw
   case rel=>exact ⟨i + 1,by omega,by go_num,own8,D1,K1,G1,bel1,by omega⟩
   case measure=>simp [intOf];omega
  ·obtain ⟨wr2,hwr2⟩:∃ z,z=wr:=⟨_,rfl⟩
   subst hwr2
   obtain rfl:i=32:=by omega
   have g1:¬ ((32:Nat):Int) < 32:=by omega
   rw [List.take_of_length_le (by rw [HSl.out];omega)] at own
   have hlS:=HSl.out
   obtain ⟨hao,hcap,hhv,hc1,hc2⟩:=own_slice own
   subst hhv
   have own9:=own
   rw [← hlS] at own9
   have HBs:Hid (Bs wr2 (.slice hao S.length hcap) S):=Bs.of_own own9
   obtain ⟨bo,oo,hbo⟩:∃ bo oo,hao=some ⟨bo,oo,none⟩:=by
    obtain ⟨a9,_,e9,_,_,h3⟩:=HBs.out
    obtain ⟨b9,o9,e2,_,_⟩:=h3 (by rw [hlS];omega)
    exact ⟨b9,o9,by rw [← e2];simpa using congrArg (fun v=>match v with|.slice a _ _=>a|_=>none) e9⟩
   subst hbo
   rw [hlS] at HBs
   clear own own9 hlS
   go_upto_region 8 with fail
   obtain ⟨S1,hS1,KB1,KI1,KD1,KL1,KA1⟩:∃ S:World→Prop,Hd S wr2∧Hid (∀ wx,Hd S wx→Below wr2.heap.size wr2 wx)∧Hid (∀ wx,Below wr2.heap.size wr2 wx→Hd S wx)∧Hid (∀ wx,Hd S wx→Hd S wx.drew)∧Hid (∀ w1 w2,Hd S w1→Below w1.heap.size w1 w2→Hd S w2)∧Hid (∀ w1 o,Hd S w1→Hd S (w1.alloc o)):=⟨fun wx=>Below wr2.heap.size wr2 wx,Below.refl _ _,fun _ h=>h,fun _ h=>h,fun wx h=>Below.drew h,fun w1 w2 h hb=>below_step h hb,fun w1 o h=>Below.alloc h h.size o⟩
   have HD1:Hid (Blk wr2 w.heap.size es):=D1
   have HK1:Hid (Blk wr2 (w.heap.size + 1) ds):=K1
   have HG1:Hid (Blk wr2 (w.heap.size + 1 + 1) (u8s S)):=G1
   have rd:Hid (∀ wx,Hd S1 wx→(loadVar 24 ⟨w.heap.size,0,none⟩).run Tryz.prog wx=.ok (.agg es.toArray) wx):=fun wx h=>(HD1.out.later (KB1.out wx h)).load Tryz.underlying24 rfl size_u HLd.out
   have rk:Hid (∀ wx,Hd S1 wx→(loadVar 24 ⟨w.heap.size + 1,0,none⟩).run Tryz.prog wx=.ok (.agg ds.toArray) wx):=fun wx h=>(HK1.out.later (KB1.out wx h)).load Tryz.underlying24 rfl size_u HLk.out
   clear D1 K1 G1
   refine wp_region_noPanic ?_
   refine wp_region_held_drew (S:=Hd S1) (by kernel_rfl) (KD1.out _ hS1) (fun hHeld=>?_)
   clear hS1
   generalize World.drew _=wd at *
   refine wpAnyH_take (i:=0) (v:=.agg es.toArray) rfl (by kernel_rfl) (by kernel_rfl) (by kernel_rfl) (fun _ _ _ h=>h) (Or.inl ⟨by rfl,fun wx h=>exec_load rfl rfl (rd.out wx h)⟩) (by assumption) ?_
   try simp only [Act.put,List.getElem_toArray,List.getElem_cons_zero,List.getElem_cons_succ,List.setIfInBounds_toArray,List.set_cons_zero,List.set_cons_succ]
   refine wpAnyH_take (i:=2) (v:=.agg ds.toArray) rfl (by kernel_rfl) (by kernel_rfl) (by kernel_rfl) (fun _ _ _ h=>h) (Or.inl ⟨by rfl,fun wx h=>exec_load rfl rfl (rk.out wx h)⟩) (by assumption) ?_
   try simp only [Act.put,List.getElem_toArray,List.getElem_cons_zero,List.getElem_cons_succ,List.setIfInBounds_toArray,List.set_cons_zero,List.set_cons_succ]
   refine wpAnyH_take (i:=4) (v:=?_) rfl (by kernel_rfl) (by kernel_rfl) (by kernel_rfl) (fun _ _ _ h=>h) (Or.inl ⟨by rfl,?_⟩) (by assumption) ?_
   rotate_left
   ·intro w hSw
    go_simp
    with_reducible rfl
   try simp only [Act.put,List.getElem_toArray,List.getElem_cons_zero,List.getElem_cons_succ,List.setIfInBounds_toArray,List.set_cons_zero,List.set_cons_succ]
   refine wpAnyH_ready (rs:=[1]) (by kernel_rfl) (by simp) ?_
   refine AllReadyH.cons rfl (fun K hK=>?_) ?_
   ·go_simp
    refine (uBase (HG.out.below (below_step bel1 (KB1.out _ hHeld))).1 HE.out).mono ?_
    rintro e z1 ⟨ps,rfl,hp,hb⟩
    refine hK.out _ _ ?_ (fun hHeld2=>?_)
    ·exact KL1.out _ _ hHeld hb
    ·clear hK K hHeld
     have hHeld:=hHeld2
     clear hHeld2
     try simp only [Act.put,List.getElem_toArray,List.getElem_cons_zero,List.getElem_cons_succ,List.setIfInBounds_toArray,List.set_cons_zero,List.set_cons_succ]
     obtain ⟨PX,PY,hPP⟩:∃ a b,cmul yd.toNat GG=some (a,b):=by
      cases hq:cmul yd.toNat GG with
      | none=>exact absurd hq (base_some HScd.out)
      | some p=>exact ⟨p.1,p.2,rfl⟩
     have HPP:Hid (cmul yd.toNat GG=some (PX,PY)):=hPP
     have HAff:Hid (Aff PX PY):=by have h:=on_cmul on_G yd.toNat;rw [hPP] at h;exact h
     rw [hPP] at hp
     have HP:Hid (P13R ps PX PY false):=hp.rawS
     clear hp hPP hb
     refine wpAnyH_ready (rs:=[3]) (by kernel_rfl) (by simp) ?_
     refine AllReadyH.cons rfl (fun K hK=>?_) ?_
     ·go_simp
      refine (con_known (HGO.out.below (below_step bel1 (KB1.out _ hHeld))) HK.out).mono ?_
      rintro e z3 ⟨fs,yk,rfl,hu,hsk,hb⟩
      refine hK.out _ _ ?_ (fun hHeld2=>?_)
      ·exact KL1.out _ _ hHeld hb
      ·clear hK K hHeld
       have hHeld:=hHeld2
       clear hHeld2
       try simp only [Act.put,List.getElem_toArray,List.getElem_cons_zero,List.getElem_cons_succ,List.setIfInBounds_toArray,List.set_cons_zero,List.set_cons_succ]
       have HF:Hid (U6 fs yk):=hu
       have HSk:Hid (isSc yk):=hsk
       clear hu hsk hb
       have HZ3:Hid (Hd S1 z3):=hHeld
       refine wpAnyH_ready (rs:=[5]) (by kernel_rfl) (by simp) ?_
       refine AllReadyH.cons rfl (fun K hK=>?_) ?_
       ·go_simp
        refine (con_WrapX (HG.out.below (below_step bel1 (KB1.out _ hHeld))) HP.out HF.out (HBs.out.later (KB1.out _ hHeld)) HSb.out).mono ?_
        rintro e z5 hwr
        obtain ⟨bv,bb,rfl,hwi,hfr,hb⟩:=((hwr.2 HSl.out).2 HSk.out).2 rfl HAff.out
        refine hK.out _ _ ?_ (fun hHeld2=>?_)
        ·exact KL1.out _ _ hHeld hb
        ·clear hK K hHeld
         have hHeld:=hHeld2
         clear hHeld2
         try simp only [Act.put,List.getElem_toArray,List.getElem_cons_zero,List.getElem_cons_succ,List.setIfInBounds_toArray,List.set_cons_zero,List.set_cons_succ]
         have HWi:Hid _:=wrap_back (d:=yd) HPP.out HSb.out HSl.out hwi
         have HFr:Hid (FreshB z3 z5 bv bb):=hfr
         clear hwi hfr hb hwr
         refine wpAnyH_take (i:=6) (v:=?_) rfl (by kernel_rfl) (by kernel_rfl) (by kernel_rfl) (fun _ _ _ h=>h) (Or.inl ⟨by rfl,?_⟩) (by assumption) ?_
         rotate_left
         ·intro w hSw
          go_simp
          with_reducible rfl
         try simp only [Act.put,List.getElem_toArray,List.getElem_cons_zero,List.getElem_cons_succ,List.setIfInBounds_toArray,List.set_cons_zero,List.set_cons_succ]
         refine wpAnyH_take (i:=7) (v:=?_) rfl (by kernel_rfl) (by kernel_rfl) (by kernel_rfl) (fun _ _ _ h=>h) (Or.inl ⟨by rfl,?_⟩) (by assumption) ?_
         rotate_left
         ·intro w hSw
          go_simp
          with_reducible rfl
         try simp only [Act.put,List.getElem_toArray,List.getElem_cons_zero,List.getElem_cons_succ,List.setIfInBounds_toArray,List.set_cons_zero,List.set_cons_succ]
         refine wpAnyH_take (i:=8) (v:=?_) rfl (by kernel_rfl) (by kernel_rfl) (by kernel_rfl) (fun _ _ _ h=>h) (Or.inl ⟨by rfl,?_⟩) (by assumption) ?_
         rotate_left
         ·intro w hSw
          go_simp
          with_reducible rfl
         try simp only [Act.put,List.getElem_toArray,List.getElem_cons_zero,List.getElem_cons_succ,List.setIfInBounds_toArray,List.set_cons_zero,List.set_cons_succ]
         refine wpAnyH_take (i:=9) (v:=?_) rfl (by kernel_rfl) (by kernel_rfl) (by kernel_rfl) (fun _ _ _ h=>h) (Or.inl ⟨by rfl,?_⟩) (by assumption) ?_
         rotate_left
         ·intro w hSw
          go_simp
          with_reducible rfl
         try simp only [Act.put,List.getElem_toArray,List.getElem_cons_zero,List.getElem_cons_succ,List.setIfInBounds_toArray,List.set_cons_zero,List.set_cons_succ]
         refine wpAnyH_take (i:=10) (v:=?_) rfl (by kernel_rfl) (by kernel_rfl) (by kernel_rfl) (fun _ _ _ h=>h) (Or.inl ⟨by rfl,?_⟩) (by assumption) ?_
         rotate_left
         ·intro w hSw
          go_simp
          with_reducible rfl
         try simp only [Act.put,List.getElem_toArray,List.getElem_cons_zero,List.getElem_cons_succ,List.setIfInBounds_toArray,List.set_cons_zero,List.set_cons_succ]
         refine wpAnyH_done (by kernel_rfl) ?_ _
         refine NoPanic.normal ?_
         have st:=KB1.out _ hHeld
         have st3:=(KB1.out _ HZ3.out).size
         have HBel:Hid (Below w.heap.size w z5):=below_step bel1 st
         clear rd rk hHeld bel1 HZ3
         obtain ⟨g,o,cap,cur,rfl,c1,c2,c3,c4,c5⟩:=HFr.out
         obtain ⟨hb145,hbb,hdk,O,hke,htk,htg⟩:=HWi.out
         have HBb:Hid (byt bb):=hbb
         have HDk:Hid (DecOk (bb.take 97)):=hdk
         have HKe:Hid (KeyIs (bb.take 97) (othX yd (bb.take 97)) O):=hke
         have HTk:Hid ((bb.drop 97).take 32=hidN (O.take 32) (O.drop 32) S):=htk
         have HTg:Hid ((bb.drop 97).drop 32=tagN (O.take 32) (O.drop 32) (bb.take 97) (hidN (O.take 32) (O.drop 32) S)):=htg
         have HBl:Hid (bb.length=145):=hb145
         rw [hb145] at c1 ⊢
         have HC5:Hid (∀ j,j < 145→cur[o + j]?=some (.int .u8 (bb.getD j 0))):=fun j hj=>c5 j (by rw [hb145];exact hj)
         clear c5 hb145 hbb hdk hke htk htg HFr HWi
         have HC4:Hid (Blk z5 g cur):=c4
         have HO5:Hid (Bs z5 (.slice (some ⟨bo,oo,none⟩) 32 hcap) S):=HBs.out.later st
         have HG5:Hid (Blk z5 (w.heap.size + 1 + 1) (u8s S)):=HG1.out.later st
         have HD5:Hid (Blk z5 w.heap.size es):=HD1.out.later st
         have HSt:Hid (wr2.heap.size≤g):=by show _≤_;omega
         clear st c4 HBs
         go_wp2_with fail
         go_loopw [16] (fun iv wx=>∃ i:Nat,i≤32∧iv=.int .i64 (i:Int)∧Below z5.heap.size z5 wx) (fun iv _=>32 - (intOf iv).toNat)
         case atStart=>exact ⟨0,by omega,rfl,Below.refl _ _⟩
         case round =>
          obtain ⟨i,hi,rfl,hbx⟩:=hrel
          by_cases hil:i < 32
          ·have g1:(i:Int) < 32:=by omega
           have g2:(0:Int)≤(i:Int):=by omega
           have gi:IntKind.i64.wrap ((i:Int) + 1)=(i:Int) + 1:=by rw [IntKind.wrap_i64];omega
           obtain ⟨z,hz⟩:∃ z,S.getD i 0=z:=⟨_,rfl⟩
           have G9:=HG5.out.later hbx
           have cz:=G9.cell i (.int .u8 z) (by rw [u8s_get S i (by rw [HSl.out];exact hil),hz])
           have lg:=G9.lt
           have cy:wr.cell? ⟨bo,oo + i,none⟩=some (.int .u8 z)∧bo < wr.heap.size:=by
            obtain ⟨a9,_,e9,_,_,h3⟩:=HO5.out.later hbx
            obtain ⟨b9,o9,e2,hl9,hc9⟩:=h3 (by rw [HSl.out];omega)
            have e3:some (⟨bo,oo,none⟩:Addr)=some ⟨b9,o9,none⟩:=by rw [← e2];simpa using congrArg (fun v=>match v with|.slice a _ _=>a|_=>none) e9
            simp only [Option.some.injEq,Addr.mk.injEq,and_true] at e3
            obtain ⟨rfl,rfl⟩:=e3
            rw [hc9 i (by rw [HSl.out];exact hil),hz]
            exact ⟨rfl,hl9⟩
           obtain ⟨cy,ly⟩:=cy
           clear hz G9
           go_wp2_with fail
           go_quiet (fail)
           go_wp2_with fail
           go_roundw
           case rel=>exact ⟨i + 1,by omega,by go_num,below_dN hbx _⟩
           case measure=>simp [intOf];omega
          ·have g1:¬ ((i:Nat):Int) < 32:=by omega
           obtain ⟨z6,hz6⟩:∃ z,z=wr:=⟨_,rfl⟩
           subst hz6
           have c4:=HC4.out.later hbx
           have HO6:Hid (Bs z6 (.slice (some ⟨bo,oo,none⟩) 32 hcap) S):=HO5.out.later hbx
           have D6:=HD5.out.later hbx
           have bel:=below_step HBel.out hbx
           have HBs:Hid (Bs z6 (.slice (some ⟨g,o,none⟩) 145 cap) bb):=⟨_,cap,by rw [HBl.out],c2,by rw [HBl.out];exact c1,fun _=>⟨g,o,rfl,c4.lt,fun j hj=>c4.cell _ _ (HC5.out j (by rw [← HBl.out];exact hj))⟩⟩
           have g5:129≤g + 129:=by omega
           clear hbx hi hil g5
           have lD:=D6.lt
           go_wp2_with (first|(refine wpList_load_run (by rfl) (by rfl) (by rfl) (D6.load Tryz.underlying24 rfl size_u HLd.out) ?_)|fail)
           refine (con_UnwX (HG.out.below bel) HE.out HBs.out HBb.out).mono ?_
           rintro e w6 hun
           obtain ⟨v6,rfl,h6,hb⟩:=unw_yes hun HScd.out HBl.out HDk.out HKe.out (by rw [HTk.out];exact HTg.out)
           rw [HTk.out,hid_back (byt_takeC HKe.out.byt _) (byt_dropC HKe.out.byt _) HSb.out] at h6
           replace c4:=c4.later hb
           replace D6:=D6.later hb
           have HO7:Hid (Bs w6 (.slice (some ⟨bo,oo,none⟩) 32 hcap) S):=HO6.out.later hb
           replace bel:=below_step bel hb
           clear hb hun HBs lD
           obtain ⟨va,vc,hv6,-,-,-⟩:=id h6
           subst hv6
           have x1:=conv_any h6
           have x3:=conv_any HO7.out
           obtain ⟨n6,hn6⟩:∃ n,S.length=n:=⟨_,rfl⟩
           rw [hn6] at x1 ⊢
           obtain ⟨sx9,hsx9⟩:∃ z,strOfNums S=z:=⟨_,rfl⟩
           rw [hsx9] at x1 x3
           clear h6 hn6 hsx9
           have q1:=ne_nilX
           have lgR:w.heap.size + 1 + 1 < g:=by have:=HSt.out;have:=HG1.out.lt;omega
           by_cases hneg:at9 < 0
           ·go_upto_region 17 with fail
            clear x1 x3
            have a0:at9 < 0:=by omega
            have a1:IntKind.i64.wrap (at9 + 1)=at9 + 1:=by rw [IntKind.wrap_i64];omega
            obtain ⟨z,hz⟩:∃ z,-(at9 + 1)=z:=⟨_,rfl⟩
            have a2:IntKind.i64.wrap (-(at9 + 1))=z:=by rw [IntKind.wrap_i64];omega
            have a3:IntKind.i64.wrap (-1 + -at9)=z:=by rw [IntKind.wrap_i64];omega
            have a4:IntKind.i64.wrap (-at9 + -1)=z:=by rw [IntKind.wrap_i64];omega
            have z0:0≤z:=by omega
            have z1:z < 9223372036854775808:=by omega
            obtain ⟨t,ht⟩:∃ t:Nat,z.tmod 16=(t:Int):=⟨(z % 16).toNat,by rw [Int.tmod_eq_emod_of_nonneg z0];omega⟩
            have t16:t < 16:=by
             have e:z.tmod 16=z % 16:=Int.tmod_eq_emod_of_nonneg z0
             omega
            have i1:IntKind.i64.wrap (129 + (t:Int))=((129 + t:Nat):Int):=by rw [IntKind.wrap_i64];omega
            obtain ⟨n,hn9⟩:∃ n,129 + t=n:=⟨_,rfl⟩
            rw [hn9] at i1
            have n1:(0:Int)≤(n:Int):=by omega
            have n2:(n:Int) < 145:=by omega
            have n3:n < 145:=by omega
            have n4:129≤n:=by omega
            have cn:=c4.cell _ _ (HC5.out n n3)
            have fn:=c4.frozen (o + n)
            have lg:=c4.lt
            have bs0:=HBb.out n
            have HSx:Hid (bits .xor .u8 (bb.getD n 0) by9=bb.getD n 0↔by9=0):=xor_same bs0 fy
            obtain ⟨sx,hsx⟩:∃ s,bb.getD n 0=s:=⟨_,rfl⟩
            rw [hsx] at cn bs0 HSx
            have HSX:Hid (bb.getD n 0=sx):=hsx
            have byx:=xorb_byte bs0 fy
            obtain ⟨sy,hsy⟩:∃ s,bits .xor .u8 sx by9=s:=⟨_,rfl⟩
            rw [hsy] at HSx byx
            have D4:=c4.set (o + n) (.int .u8 sy)
            have D7:=D6.other ⟨g,o + n,none⟩ (.int .u8 sy) (by show w.heap.size≠g;omega)
            have hs7:Bs (w6.setCell ⟨g,o + n,none⟩ (.int .u8 sy)) (.slice (some ⟨g,o,none⟩) 145 cap) (bb.set n sy):=by
             refine ⟨_,cap,by rw [List.length_set,HBl.out],c2,by rw [List.length_set,HBl.out];exact c1,fun _=>⟨g,o,rfl,D4.lt,fun j hj=>D4.cell _ _ ?_⟩⟩
             rw [List.length_set,HBl.out] at hj
             have hc9:=HC5.out j hj
             by_cases ej:j=n
             ·subst ej
              have hl9:o + j < cur.length:=(List.getElem?_eq_some_iff.1 hc9).1
              rw [List.getElem?_set_self hl9,List.getD_eq_getElem?_getD,List.getElem?_set_self (by rw [HBl.out];exact hj),Option.getD_some]
             ·rw [List.getElem?_set_ne (by omega),hc9,List.getD_eq_getElem?_getD,List.getD_eq_getElem?_getD,List.getElem?_set_ne (by omega)]
            replace bel:=bel.setCell (p:=⟨g,o + n,none⟩) (by show w.heap.size≤g;omega) (.int .u8 sy)
            have HTb:Hid (byt (bb.set n sy)):=byt_of _ (fun j hj=>by
             by_cases ej:j=n
             ·subst ej
              rw [List.length_set] at hj
              rw [List.getD_eq_getElem?_getD,List.getElem?_set_self hj,Option.getD_some]
              exact byx
             ·rw [List.getD_eq_getElem?_getD,List.getElem?_set_ne (by omega),← List.getD_eq_getElem?_getD]
              exact HBb.out j)
            have HTl:Hid ((bb.set n sy).length=145):=by show _=_;rw [List.length_set];exact HBl.out
            have HT97:Hid _:=turn_97 (B:=bb) (x:=sy) n4
            have HTd:Hid (((bb.set n sy).drop 97).drop 32=(bb.drop 97).drop 32↔by9=0):=by
             show _↔_
             rw [turn_tag n4 (by rw [HBl.out];exact n3),HSX.out]
             exact HSx.out
            clear D4 HSx hsx D6
            go_upto_region 21 with fail
            generalize w6.setCell ⟨g,o + n,none⟩ (.int .u8 sy)=w7 at *
            clear cn fn c4
            have lD:=D7.lt
            go_wp2_with (first|(refine wpList_load_run (by rfl) (by rfl) (by rfl) (D7.load Tryz.underlying24 rfl size_u HLd.out) ?_)|fail)
            refine (con_UnwX (HG.out.below bel) HE.out hs7 HTb.out).mono ?_
            rintro e w8 hun
            by_cases hy:by9=0
            ·obtain ⟨v8,rfl,h8,hb⟩:=unw_yes hun HScd.out HTl.out (by rw [HT97.out.1];exact HDk.out) (by rw [HT97.out.1];exact HKe.out) (by rw [HT97.out.1,HT97.out.2,HTk.out,HTd.out.2 hy];exact HTg.out)
             replace bel:=below_step bel hb
             clear hb h8 hun
             have q2:=eq_nilX
             subst hy
             go_wp2_with fail
             go_ret
             exact ⟨rfl,bel⟩
            ·obtain ⟨a8,c8,rfl,hb⟩:=unw_no hun HScd.out HTl.out (by rw [HT97.out.1];exact HDk.out) (by rw [HT97.out.1];exact HKe.out) (by rw [HT97.out.1,HT97.out.2,HTk.out];exact fun h=>hy (HTd.out.1 (h.trans HTg.out.symm)))
             replace bel:=below_step bel hb
             clear hb hun
             have q5:=iface_eqX 5
             go_wp2_with fail
             go_ret
             exact ⟨by show Ending.returned (.bool (by9 != 0))=_;rw [show (by9 != 0)=true by simp [hy]],bel⟩
           ·go_upto_region 17 with fail
            clear x1 x3
            have a0:¬ at9 < 0:=by omega
            have z0:0≤at9:=by omega
            have z1:at9 < 9223372036854775808:=by omega
            obtain ⟨t,ht⟩:∃ t:Nat,at9.tmod 16=(t:Int):=⟨(at9 % 16).toNat,by rw [Int.tmod_eq_emod_of_nonneg z0];omega⟩
            have t16:t < 16:=by
             have e:at9.tmod 16=at9 % 16:=Int.tmod_eq_emod_of_nonneg z0
             omega
            have i1:IntKind.i64.wrap (129 + (t:Int))=((129 + t:Nat):Int):=by rw [IntKind.wrap_i64];omega
            obtain ⟨n,hn9⟩:∃ n,129 + t=n:=⟨_,rfl⟩
            rw [hn9] at i1
            have n1:(0:Int)≤(n:Int):=by omega
            have n2:(n:Int) < 145:=by omega
            have n3:n < 145:=by omega
            have n4:129≤n:=by omega
            have cn:=c4.cell _ _ (HC5.out n n3)
            have fn:=c4.frozen (o + n)
            have lg:=c4.lt
            have bs0:=HBb.out n
            have HSx:Hid (bits .xor .u8 (bb.getD n 0) by9=bb.getD n 0↔by9=0):=xor_same bs0 fy
            obtain ⟨sx,hsx⟩:∃ s,bb.getD n 0=s:=⟨_,rfl⟩
            rw [hsx] at cn bs0 HSx
            have HSX:Hid (bb.getD n 0=sx):=hsx
            have byx:=xorb_byte bs0 fy
            obtain ⟨sy,hsy⟩:∃ s,bits .xor .u8 sx by9=s:=⟨_,rfl⟩
            rw [hsy] at HSx byx
            have D4:=c4.set (o + n) (.int .u8 sy)
            have D7:=D6.other ⟨g,o + n,none⟩ (.int .u8 sy) (by show w.heap.size≠g;omega)
            have hs7:Bs (w6.setCell ⟨g,o + n,none⟩ (.int .u8 sy)) (.slice (some ⟨g,o,none⟩) 145 cap) (bb.set n sy):=by
             refine ⟨_,cap,by rw [List.length_set,HBl.out],c2,by rw [List.length_set,HBl.out];exact c1,fun _=>⟨g,o,rfl,D4.lt,fun j hj=>D4.cell _ _ ?_⟩⟩
             rw [List.length_set,HBl.out] at hj
             have hc9:=HC5.out j hj
             by_cases ej:j=n
             ·subst ej
              have hl9:o + j < cur.length:=(List.getElem?_eq_some_iff.1 hc9).1
              rw [List.getElem?_set_self hl9,List.getD_eq_getElem?_getD,List.getElem?_set_self (by rw [HBl.out];exact hj),Option.getD_some]
             ·rw [List.getElem?_set_ne (by omega),hc9,List.getD_eq_getElem?_getD,List.getD_eq_getElem?_getD,List.getElem?_set_ne (by omega)]
            replace bel:=bel.setCell (p:=⟨g,o + n,none⟩) (by show w.heap.size≤g;omega) (.int .u8 sy)
            have HTb:Hid (byt (bb.set n sy)):=byt_of _ (fun j hj=>by
             by_cases ej:j=n
             ·subst ej
              rw [List.length_set] at hj
              rw [List.getD_eq_getElem?_getD,List.getElem?_set_self hj,Option.getD_some]
              exact byx
             ·rw [List.getD_eq_getElem?_getD,List.getElem?_set_ne (by omega),← List.getD_eq_getElem?_getD]
              exact HBb.out j)
            have HTl:Hid ((bb.set n sy).length=145):=by show _=_;rw [List.length_set];exact HBl.out
            have HT97:Hid _:=turn_97 (B:=bb) (x:=sy) n4
            have HTd:Hid (((bb.set n sy).drop 97).drop 32=(bb.drop 97).drop 32↔by9=0):=by
             show _↔_
             rw [turn_tag n4 (by rw [HBl.out];exact n3),HSX.out]
             exact HSx.out
            clear D4 HSx hsx D6
            go_upto_region 21 with fail
            generalize w6.setCell ⟨g,o + n,none⟩ (.int .u8 sy)=w7 at *
            clear cn fn c4
            have lD:=D7.lt
            go_wp2_with (first|(refine wpList_load_run (by rfl) (by rfl) (by rfl) (D7.load Tryz.underlying24 rfl size_u HLd.out) ?_)|fail)
            refine (con_UnwX (HG.out.below bel) HE.out hs7 HTb.out).mono ?_
            rintro e w8 hun
            by_cases hy:by9=0
            ·obtain ⟨v8,rfl,h8,hb⟩:=unw_yes hun HScd.out HTl.out (by rw [HT97.out.1];exact HDk.out) (by rw [HT97.out.1];exact HKe.out) (by rw [HT97.out.1,HT97.out.2,HTk.out,HTd.out.2 hy];exact HTg.out)
             replace bel:=below_step bel hb
             clear hb h8 hun
             have q2:=eq_nilX
             subst hy
             go_wp2_with fail
             go_ret
             exact ⟨rfl,bel⟩
            ·obtain ⟨a8,c8,rfl,hb⟩:=unw_no hun HScd.out HTl.out (by rw [HT97.out.1];exact HDk.out) (by rw [HT97.out.1];exact HKe.out) (by rw [HT97.out.1,HT97.out.2,HTk.out];exact fun h=>hy (HTd.out.1 (h.trans HTg.out.symm)))
             replace bel:=below_step bel hb
             clear hb hun
             have q5:=iface_eqX 5
             go_wp2_with fail
             go_ret
             exact ⟨by show Ending.returned (.bool (by9 != 0))=_;rw [show (by9 != 0)=true by simp [hy]],bel⟩
       exact AllReadyH.nil
     exact AllReadyH.nil
   exact AllReadyH.nil
end Go.Proofs.YtlkljfnenonfgaaGreatDoor
