/- The program's code of a block. -/
import Derived.Test.YtlkljfnenonfgaaGreatDoorAeCodeX
import Derived.Test.YtlkljfnenonfgaaGreatDoorAeCodeTG
import Derived.Test.YtlkljfnenonfgaaGreatDoorAeCodeWG
import Derived.Test.YtlkljfnenonfgaaGreatDoorAeNumG
import Derived.Test.YtlkljfnenonfgaaGreatDoorRows
import Derived.Deep.WholeRow
import Derived.Deep.RegionHeld3
import Derived.Deep.DeepCutAuto
import Derived.Deep.DeepFit
namespace Go.Proofs.YtlkljfnenonfgaaGreatDoor
open Go.RowKit
/-- a round key out of the block of all of them -/
theorem key_load {w:World} {g i:Nat} {K:List Int} {F:List Value} (B:Blk w g (u8s (allN K 15))) (hi:i < 15) (hF:u8s (keyN K i)=F) (o:Nat) (ho:o=16 * i):(loadVar 91 ⟨g,o,none⟩).run Tryz.prog w=.ok (.agg F.toArray) w:=by
 subst hF ho
 refine load_cells (n:=16) (fun j v hv=>?_) (by rw [u8s,List.length_map];exact keyN_len K i) Tryz.underlying91 rfl size_16
 have hj:j < 16:=by
  have:=(List.getElem?_eq_some_iff.1 hv).1
  simpa [u8s,keyN_len] using this
 rw [u8s_get _ j (by rw [keyN_len];exact hj)] at hv
 rw [← hv,← allN_get hj hi]
 exact B.cell _ _ (u8s_get _ _ (by rw [allN_len];omega))
theorem con_subL {S:List Int} {F G:List Value} {w:World} (hF:u8s S=F) (hG:u8s (sboxN S)=G) (l:S.length=16) (b:byt S) :
  Calls Tryz.prog 107 #[.agg F.toArray] w fun e w'=>e=.returned (.agg G.toArray)∧Below w.heap.size w w':=by
 subst hF hG
 exact con_substituted l b
theorem con_turL {S:List Int} {F G:List Value} {w:World} (hF:u8s S=F) (hG:u8s (turnN S)=G) (l:S.length=16) (b:byt S) :
  Calls Tryz.prog 106 #[.agg F.toArray] w fun e w'=>e=.returned (.agg G.toArray)∧Below w.heap.size w w':=by
 subst hF hG
 exact con_Turned l b
theorem con_mixL {S:List Int} {F G:List Value} {w:World} (hF:u8s S=F) (hG:u8s (mixN S)=G) (l:S.length=16) (b:byt S) :
  Calls Tryz.prog 105 #[.agg F.toArray] w fun e w'=>e=.returned (.agg G.toArray)∧Below w.heap.size w w':=by
 subst hF hG
 exact con_Mixed l b
theorem enc_mid {K S:List Int} {i:Nat} (h:i < 13):xkN (mixN (turnN (sboxN (encN K S (i + 1))))) (keyN K (i + 1))=encN K S (i + 2):=by
 conv=>rhs;rw [encN,preN,if_neg (by omega),if_pos (by omega)]
theorem enc_last {K S:List Int}:xkN (turnN (sboxN (encN K S 14))) (keyN K 14)=encN K S 15:=by
 conv=>rhs;rw [encN,preN,if_neg (by decide),if_neg (by decide)]
theorem enc_first {K S:List Int}:xkN S (keyN K 0)=encN K S 1:=by
 conv=>rhs;rw [encN,preN,if_pos rfl,encN]
set_option linter.unusedSimpArgs false in
set_option maxRecDepth 100000 in
set_option maxHeartbeats 4000000 in
theorem con_code {K S:List Int} {w:World} (bK:byt K) (l:S.length=16) (b:byt S) :
    Calls Tryz.prog 80 #[.agg (u8s (allN K 15)).toArray,.agg (u8s S).toArray] w fun e w'=>e=.returned (.agg (u8s (encN K S 15)).toArray)∧Below w.heap.size w w':=by
  have HSb:Hid (byt S):=b
  have HSl:Hid (S.length=16):=l
  have HKb:Hid (byt K):=bK
  clear b l bK
  have hz:=zero_16.out
  obtain ⟨G,hG⟩:∃ G,u8s (allN K 15)=G:=⟨_,rfl⟩
  have HG:Hid (u8s (allN K 15)=G):=hG
  rw [hG]
  clear hG
  obtain ⟨FS,hFS⟩:∃ F,u8s (S)=F:=⟨_,rfl⟩
  have FSh:Hid (u8s (S)=FS):=hFS
  have FSl:Hid (FS.length=16):=by show _=_;rw [← hFS,u8s,List.length_map];exact HSl.out
  have FSo:Hid (FS.toArray.all (·.oneCell')=true):=by rw [← hFS];exact u8_ones _
  clear hFS
  rw [FSh.out]
  have GK:=((Blk.new w G 120 w.heap.size rfl).alloc (.cells FS.toArray 91)).alloc (.cells (u8s (List.replicate 16 0)).toArray 91)
  have V0:=(Blk.new (w.alloc (.cells G.toArray 120)) FS 91 (w.heap.size + 1) (by simp)).alloc (.cells (u8s (List.replicate 16 0)).toArray 91)
  have R0:=Blk.new ((w.alloc (.cells G.toArray 120)).alloc (.cells FS.toArray 91)) (u8s (List.replicate 16 0)) 91 (w.heap.size + 1 + 1) (by simp)
  have bel:Below w.heap.size w (((w.alloc (.cells G.toArray 120)).alloc (.cells FS.toArray 91)).alloc (.cells (u8s (List.replicate 16 0)).toArray 91)):=((((Below.refl _ _).alloc (Nat.le_refl _) _).alloc (by simp) _).alloc (by simp;omega) _)
  obtain ⟨Z,hZ⟩:∃ Z,(u8s (List.replicate 16 0))=Z:=⟨_,rfl⟩
  have HZl:Hid (Z.length=16):=by rw [← hZ];rfl
  rw [hZ] at hz GK V0 R0 bel
  clear hZ
  go_enter Tryz.func80,Tryz.ntmps80
  go_upto_region 1 with fail
  generalize (((w.alloc (.cells G.toArray 120)).alloc (.cells FS.toArray 91)).alloc (.cells Z.toArray 91))=W at *
  clear hz
  obtain ⟨F0,hF0⟩:∃ F,u8s (keyN K 0)=F:=⟨_,rfl⟩
  have F0h:Hid (u8s (keyN K 0)=F0):=hF0
  have F0l:Hid (F0.length=16):=by show _=_;rw [← hF0,u8s,List.length_map];exact keyN_len K 0
  have F0o:Hid (F0.toArray.all (·.oneCell')=true):=by rw [← hF0];exact u8_ones _
  clear hF0
  obtain ⟨E1,hE1⟩:∃ F,u8s (encN K S 1)=F:=⟨_,rfl⟩
  have E1h:Hid (u8s (encN K S 1)=E1):=hE1
  have E1l:Hid (E1.length=16):=by show _=_;rw [← hE1,u8s,List.length_map];exact encN_len HSl.out 1
  have E1o:Hid (E1.toArray.all (·.oneCell')=true):=by rw [← hE1];exact u8_ones _
  clear hE1
  have GK2:Blk W w.heap.size (u8s (allN K 15)):=by rw [HG.out];exact GK
  go_wp2_with (first
    | (refine wpList_load_run (by rfl) (by rfl) (by rfl) (V0.load Tryz.underlying91 rfl size_16 FSl.out) ?_)
    | (refine wpList_load_run (by rfl) (by rfl) (by rfl) (key_load GK2 (i:=0) (by decide) F0h.out 0 rfl) ?_)
    | fail)
  have E1x:Hid (u8s (xkN S (keyN K 0))=E1):=by show _=_;rw [enc_first];exact E1h.out
  refine (con_xoredL FSh.out F0h.out E1x.out HSl.out (keyN_len K 0)).mono ?_
  rintro e w1 ⟨rfl,hb⟩
  replace GK:=GK.later hb
  replace V0:=V0.later hb
  replace R0:=R0.later hb
  replace bel:=below_stepA bel hb
  clear hb GK2
  obtain ⟨tV,hV⟩:=V0
  have HV:Hid _:=hV
  clear hV
  go_upto_region 2 with (first
    | (refine wpList_store_row rfl 91 _ _ rfl (w.heap.size + 1) E1.toArray rfl rfl tV FS.toArray HV.out (by rw [size_16,List.size_toArray,E1l.out]) (by rw [List.size_toArray,List.size_toArray,E1l.out,FSl.out]) E1o.out ?_)
    | fail)
  have V1:Blk (w1.setRow (w.heap.size + 1) E1.toArray) (w.heap.size + 1) (u8s (encN K S 1)):=by rw [E1h.out];exact ⟨tV,setRow_heap _ _ _ _ _ _ HV.out⟩
  replace GK:=GK.row (cs:=E1.toArray) (c:=w.heap.size + 1) (by omega)
  replace R0:=R0.row (cs:=E1.toArray) (c:=w.heap.size + 1) (by omega)
  replace bel:=below_setRow bel (show w.heap.size≤w.heap.size + 1 by omega) E1.toArray
  generalize w1.setRow (w.heap.size + 1) E1.toArray=W2 at *
  clear HV
  go_wp2_with fail
  go_loopw [10] (fun iv wx=>∃ i:Nat,i≤13∧iv=.int .i64 i∧Blk wx (w.heap.size + 1) (u8s (encN K S (i + 1)))∧Blk wx w.heap.size G∧Blk wx (w.heap.size + 1 + 1) Z∧Below w.heap.size w wx) (fun iv _=>13 - (intOf iv).toNat)
  case atStart=>exact ⟨0,by omega,rfl,V1,GK,R0,bel⟩
  case round =>
    clear V1 GK R0 bel
    obtain ⟨i,hi,rfl,V1,GK,R0,bel⟩:=hrel
    by_cases hil:i < 13
    · have g1:(i:Int) < 13:=by omega
      have gi:IntKind.i64.wrap ((i:Int) + 1)=((i + 1:Nat):Int):=by rw [IntKind.wrap_i64];omega
      have l1:((i + 1:Nat):Int) < 15:=by omega
      have k1:(0:Int)≤((i + 1:Nat):Int):=by omega
      have HE:Hid _:=enc_mid (K:=K) (S:=S) hil
      obtain ⟨X,hX⟩:∃ X,encN K S (i + 1)=X:=⟨_,rfl⟩
      have HXe:Hid (encN K S (i + 1)=X):=hX
      have HXl:Hid (X.length=16):=by show _=_;rw [← hX];exact encN_len HSl.out _
      have HXb:Hid (byt X):=by show byt X;rw [← hX];exact encN_byt HSb.out HKb.out _
      rw [hX] at V1
      clear hX
      rw [HXe.out] at HE
      obtain ⟨FX,hFX⟩:∃ F,u8s (X)=F:=⟨_,rfl⟩
      have FXh:Hid (u8s (X)=FX):=hFX
      have FXl:Hid (FX.length=16):=by show _=_;rw [← hFX,u8s,List.length_map];exact HXl.out
      have FXo:Hid (FX.toArray.all (·.oneCell')=true):=by rw [← hFX];exact u8_ones _
      clear hFX
      obtain ⟨F1,hF1⟩:∃ F,u8s (sboxN X)=F:=⟨_,rfl⟩
      have F1h:Hid (u8s (sboxN X)=F1):=hF1
      have F1l:Hid (F1.length=16):=by show _=_;rw [← hF1,u8s,List.length_map];exact sbZ_len X 16
      have F1o:Hid (F1.toArray.all (·.oneCell')=true):=by rw [← hF1];exact u8_ones _
      clear hF1
      obtain ⟨F2,hF2⟩:∃ F,u8s (turnN (sboxN X))=F:=⟨_,rfl⟩
      have F2h:Hid (u8s (turnN (sboxN X))=F2):=hF2
      have F2l:Hid (F2.length=16):=by show _=_;rw [← hF2,u8s,List.length_map];exact turnN_len _
      have F2o:Hid (F2.toArray.all (·.oneCell')=true):=by rw [← hF2];exact u8_ones _
      clear hF2
      rw [FXh.out] at V1
      obtain ⟨F3,hF3⟩:∃ F,u8s (mixN (turnN (sboxN X)))=F:=⟨_,rfl⟩
      have F3h:Hid (u8s (mixN (turnN (sboxN X)))=F3):=hF3
      have F3l:Hid (F3.length=16):=by show _=_;rw [← hF3,u8s,List.length_map];exact mixN_len _
      have F3o:Hid (F3.toArray.all (·.oneCell')=true):=by rw [← hF3];exact u8_ones _
      clear hF3
      obtain ⟨FK,hFK⟩:∃ F,u8s (keyN K (i + 1))=F:=⟨_,rfl⟩
      have FKh:Hid (u8s (keyN K (i + 1))=FK):=hFK
      have FKl:Hid (FK.length=16):=by show _=_;rw [← hFK,u8s,List.length_map];exact keyN_len K _
      have FKo:Hid (FK.toArray.all (·.oneCell')=true):=by rw [← hFK];exact u8_ones _
      clear hFK
      obtain ⟨E,hE⟩:∃ F,u8s (encN K S (i + 2))=F:=⟨_,rfl⟩
      have Eh:Hid (u8s (encN K S (i + 2))=E):=hE
      have El:Hid (E.length=16):=by show _=_;rw [← hE,u8s,List.length_map];exact encN_len HSl.out _
      have Eo:Hid (E.toArray.all (·.oneCell')=true):=by rw [← hE];exact u8_ones _
      clear hE
      have Ex:Hid (u8s (xkN (mixN (turnN (sboxN X))) (keyN K (i + 1)))=E):=by show _=_;rw [HE.out];exact Eh.out
      have HN:Hid (i + 1 < 15):=by show i + 1 < 15;omega
      obtain ⟨n,hn⟩:∃ n,i + 1=n:=⟨_,rfl⟩
      rw [hn] at gi l1 k1 FKh HN Ex
      have HNn:Hid (i + 1=n):=hn
      clear hn
      go_upto_region 5 with fail
      obtain ⟨S1,hS1,KL1,KA1,KD1,KS1,KQ1,KN1,KB1,KM1,KR1⟩:=held3 (w0:=w) (W:=wr) [(w.heap.size,G),(w.heap.size + 1 + 1,Z)] (by
        intro b X h
        simp only [List.mem_cons,List.not_mem_nil,or_false,Prod.mk.injEq] at h
        rcases h with ⟨rfl,rfl⟩|⟨rfl,rfl⟩
        · exact GK
        · exact R0) bel
      have rk:Hid (∀ wx,Hd S1 wx→(loadVar 91 ⟨w.heap.size,n * 16,none⟩).run Tryz.prog wx=.ok (.agg FK.toArray) wx):=fun wx h=>key_load (by rw [HG.out];exact KM1.out wx _ _ h (List.Mem.head _)) HN.out FKh.out _ (by omega)
      clear KS1 KA1 KN1 KQ1 GK R0 bel
      refine wp_region_noPanic ?_
      refine wp_region_held_drew (S:=Hd S1) (by kernel_rfl) (KD1.out _ hS1) (fun hHeld=>?_)
      clear hS1
      replace V1:=V1.drew
      generalize World.drew _=wd at *
      refine wpAnyH_take (i:=4) (v:=?_) rfl (by kernel_rfl) (by kernel_rfl) (by kernel_rfl) (fun _ _ _ h=>h) (Or.inl ⟨by rfl,?_⟩) (by assumption) ?_
      rotate_left
      · intro w hSw
        go_simp
        with_reducible rfl
      try simp only [Act.put,List.getElem_toArray,List.getElem_cons_zero,List.getElem_cons_succ,List.setIfInBounds_toArray,List.set_cons_zero,List.set_cons_succ]
      refine wpAnyH_take (i:=5) (v:=?_) rfl (by kernel_rfl) (by kernel_rfl) (by kernel_rfl) (fun _ _ _ h=>h) (Or.inl ⟨by rfl,?_⟩) (by assumption) ?_
      rotate_left
      · intro w hSw
        go_simp
        with_reducible rfl
      try simp only [Act.put,List.getElem_toArray,List.getElem_cons_zero,List.getElem_cons_succ,List.setIfInBounds_toArray,List.set_cons_zero,List.set_cons_succ]
      refine wpAnyH_take (i:=6) (v:=?_) rfl (by kernel_rfl) (by kernel_rfl) (by kernel_rfl) (fun _ _ _ h=>h) (Or.inl ⟨by rfl,?_⟩) (by assumption) ?_
      rotate_left
      · intro w hSw
        go_simp
        with_reducible rfl
      try simp only [Act.put,List.getElem_toArray,List.getElem_cons_zero,List.getElem_cons_succ,List.setIfInBounds_toArray,List.set_cons_zero,List.set_cons_succ]
      refine wpAnyH_take (i:=7) (v:=.agg FK.toArray) rfl (by kernel_rfl) (by kernel_rfl) (by kernel_rfl) (fun _ _ _ h=>h) (Or.inl ⟨by rfl,fun wx h=>exec_load rfl rfl (rk.out wx h)⟩) (by assumption) ?_
      try simp only [Act.put,List.getElem_toArray,List.getElem_cons_zero,List.getElem_cons_succ,List.setIfInBounds_toArray,List.set_cons_zero,List.set_cons_succ]
      refine wpAnyH_ready (rs:=[0]) (by kernel_rfl) (by simp) ?_
      refine AllReadyH.cons rfl (fun K hK=>?_) ?_
      · rw [if_pos (by rfl)]
        refine wp_load_run rfl rfl (V1.load Tryz.underlying91 rfl size_16 FXl.out) ?_
        refine hK.out _ _ ?_ (fun hHeld2=>?_)
        · exact hHeld
        · clear hK K hHeld
          have hHeld:=hHeld2
          clear hHeld2
          try simp only [Act.put,List.getElem_toArray,List.getElem_cons_zero,List.getElem_cons_succ,List.setIfInBounds_toArray,List.set_cons_zero,List.set_cons_succ]
          refine wpAnyH_ready (rs:=[1]) (by kernel_rfl) (by simp) ?_
          refine AllReadyH.cons rfl (fun K hK=>?_) ?_
          · go_simp
            refine (con_subL FXh.out F1h.out HXl.out HXb.out).mono ?_
            rintro e w5 ⟨rfl,hb⟩
            refine hK.out _ _ ?_ (fun hHeld2=>?_)
            · exact KL1.out _ _ hHeld hb
            · clear hK K hHeld
              have hHeld:=hHeld2
              clear hHeld2
              try simp only [Act.put,List.getElem_toArray,List.getElem_cons_zero,List.getElem_cons_succ,List.setIfInBounds_toArray,List.set_cons_zero,List.set_cons_succ]
              replace V1:=V1.later hb
              clear hb
              refine wpAnyH_ready (rs:=[2]) (by kernel_rfl) (by simp) ?_
              refine AllReadyH.cons rfl (fun K hK=>?_) ?_
              · go_simp
                refine (con_turL F1h.out F2h.out (sbZ_len X 16) (sboxN_byt X)).mono ?_
                rintro e w6 ⟨rfl,hb⟩
                refine hK.out _ _ ?_ (fun hHeld2=>?_)
                · exact KL1.out _ _ hHeld hb
                · clear hK K hHeld
                  have hHeld:=hHeld2
                  clear hHeld2
                  try simp only [Act.put,List.getElem_toArray,List.getElem_cons_zero,List.getElem_cons_succ,List.setIfInBounds_toArray,List.set_cons_zero,List.set_cons_succ]
                  replace V1:=V1.later hb
                  clear hb
                  refine wpAnyH_ready (rs:=[3]) (by kernel_rfl) (by simp) ?_
                  refine AllReadyH.cons rfl (fun K hK=>?_) ?_
                  · go_simp
                    refine (con_mixL F2h.out F3h.out (turnN_len _) (turnN_byt (sboxN_byt X))).mono ?_
                    rintro e w7 ⟨rfl,hb⟩
                    refine hK.out _ _ ?_ (fun hHeld2=>?_)
                    · exact KL1.out _ _ hHeld hb
                    · clear hK K hHeld
                      have hHeld:=hHeld2
                      clear hHeld2
                      try simp only [Act.put,List.getElem_toArray,List.getElem_cons_zero,List.getElem_cons_succ,List.setIfInBounds_toArray,List.set_cons_zero,List.set_cons_succ]
                      replace V1:=V1.later hb
                      clear hb
                      refine wpAnyH_ready (rs:=[8]) (by kernel_rfl) (by simp) ?_
                      refine AllReadyH.cons rfl (fun K hK=>?_) ?_
                      · go_simp
                        refine (con_xoredL F3h.out FKh.out Ex.out (mixN_len _) (keyN_len _ _)).mono ?_
                        rintro e w8 ⟨rfl,hb⟩
                        refine hK.out _ _ ?_ (fun hHeld2=>?_)
                        · exact KL1.out _ _ hHeld hb
                        · clear hK K hHeld
                          have hHeld:=hHeld2
                          clear hHeld2
                          try simp only [Act.put,List.getElem_toArray,List.getElem_cons_zero,List.getElem_cons_succ,List.setIfInBounds_toArray,List.set_cons_zero,List.set_cons_succ]
                          replace V1:=V1.later hb
                          clear hb
                          refine wpAnyH_ready (rs:=[9]) (by kernel_rfl) (by simp) ?_
                          refine AllReadyH.cons rfl (fun K hK=>?_) ?_
                          · obtain ⟨tV,hV⟩:=V1
                            rw [if_pos (by rfl)]
                            refine wp_store_row 91 _ _ rfl (w.heap.size + 1) E.toArray rfl rfl tV FX.toArray hV (by rw [size_16,List.size_toArray,El.out]) (by rw [List.size_toArray,List.size_toArray,El.out,FXl.out]) Eo.out ?_
                            refine hK.out _ _ ?_ (fun hHeld2=>?_)
                            · exact KR1.out _ _ _ hHeld (.inr (by intro c X h;simp only [List.mem_cons,List.not_mem_nil,or_false,Prod.mk.injEq] at h;rcases h with ⟨rfl,rfl⟩|⟨rfl,rfl⟩<;>omega)) (by omega)
                            · clear hK K hHeld
                              have hHeld:=hHeld2
                              clear hHeld2
                              try simp only [Act.put,List.getElem_toArray,List.getElem_cons_zero,List.getElem_cons_succ,List.setIfInBounds_toArray,List.set_cons_zero,List.set_cons_succ]
                              refine wpAnyH_done (by kernel_rfl) ?_ _
                              refine NoPanic.normal ?_
                              have GK:=KM1.out _ _ _ hHeld (List.Mem.head _)
                              have R0:=KM1.out _ _ _ hHeld (List.Mem.tail _ (List.Mem.head _))
                              have bel:=KB1.out _ hHeld
                              have V2:Blk (w8.setRow (w.heap.size + 1) E.toArray) (w.heap.size + 1) (u8s (encN K S (i + 2))):=by rw [Eh.out];exact ⟨tV,setRow_heap _ _ _ _ _ _ hV⟩
                              clear hHeld hV
                              generalize World.setRow _ _ _=w9 at *
                              go_wp2_with fail
                              go_roundw
                              case rel=>exact ⟨i + 1,by omega,by rw [HNn.out],V2,GK,R0,bel⟩
                              case measure =>
                                have hn9:=HNn.out
                                simp [intOf]
                                omega
                          exact AllReadyH.nil
                      exact AllReadyH.nil
                  exact AllReadyH.nil
              exact AllReadyH.nil
          exact AllReadyH.nil
      exact AllReadyH.nil
    · have HI:Hid (i=13):=by show i=13;omega
      have g1:(13:Int)≤(i:Int):=by omega
      rw [HI.out] at V1
      have HE:Hid _:=enc_last (K:=K) (S:=S)
      obtain ⟨X,hX⟩:∃ X,encN K S 14=X:=⟨_,rfl⟩
      have HXe:Hid (encN K S 14=X):=hX
      have HXl:Hid (X.length=16):=by show _=_;rw [← hX];exact encN_len HSl.out _
      have HXb:Hid (byt X):=by show byt X;rw [← hX];exact encN_byt HSb.out HKb.out _
      rw [hX] at V1
      clear hX
      rw [HXe.out] at HE
      obtain ⟨FX,hFX⟩:∃ F,u8s (X)=F:=⟨_,rfl⟩
      have FXh:Hid (u8s (X)=FX):=hFX
      have FXl:Hid (FX.length=16):=by show _=_;rw [← hFX,u8s,List.length_map];exact HXl.out
      have FXo:Hid (FX.toArray.all (·.oneCell')=true):=by rw [← hFX];exact u8_ones _
      clear hFX
      obtain ⟨F1,hF1⟩:∃ F,u8s (sboxN X)=F:=⟨_,rfl⟩
      have F1h:Hid (u8s (sboxN X)=F1):=hF1
      have F1l:Hid (F1.length=16):=by show _=_;rw [← hF1,u8s,List.length_map];exact sbZ_len X 16
      have F1o:Hid (F1.toArray.all (·.oneCell')=true):=by rw [← hF1];exact u8_ones _
      clear hF1
      obtain ⟨F2,hF2⟩:∃ F,u8s (turnN (sboxN X))=F:=⟨_,rfl⟩
      have F2h:Hid (u8s (turnN (sboxN X))=F2):=hF2
      have F2l:Hid (F2.length=16):=by show _=_;rw [← hF2,u8s,List.length_map];exact turnN_len _
      have F2o:Hid (F2.toArray.all (·.oneCell')=true):=by rw [← hF2];exact u8_ones _
      clear hF2
      rw [FXh.out] at V1
      obtain ⟨FK,hFK⟩:∃ F,u8s (keyN K 14)=F:=⟨_,rfl⟩
      have FKh:Hid (u8s (keyN K 14)=FK):=hFK
      have FKl:Hid (FK.length=16):=by show _=_;rw [← hFK,u8s,List.length_map];exact keyN_len K _
      have FKo:Hid (FK.toArray.all (·.oneCell')=true):=by rw [← hFK];exact u8_ones _
      clear hFK
      obtain ⟨E,hE⟩:∃ F,u8s (encN K S 15)=F:=⟨_,rfl⟩
      have Eh:Hid (u8s (encN K S 15)=E):=hE
      have El:Hid (E.length=16):=by show _=_;rw [← hE,u8s,List.length_map];exact encN_len HSl.out _
      have Eo:Hid (E.toArray.all (·.oneCell')=true):=by rw [← hE];exact u8_ones _
      clear hE
      have Ex:Hid (u8s (xkN (turnN (sboxN X)) (keyN K 14))=E):=by show _=_;rw [HE.out];exact Eh.out
      go_upto_region 7 with fail
      obtain ⟨S1,hS1,KL1,KA1,KD1,KS1,KQ1,KN1,KB1,KM1,KR1⟩:=held3 (w0:=w) (W:=wr) [(w.heap.size,G),(w.heap.size + 1,FX)] (by
        intro b X h
        simp only [List.mem_cons,List.not_mem_nil,or_false,Prod.mk.injEq] at h
        rcases h with ⟨rfl,rfl⟩|⟨rfl,rfl⟩
        · exact GK
        · exact V1) bel
      have rk:Hid (∀ wx,Hd S1 wx→(loadVar 91 ⟨w.heap.size,224,none⟩).run Tryz.prog wx=.ok (.agg FK.toArray) wx):=fun wx h=>key_load (by rw [HG.out];exact KM1.out wx _ _ h (List.Mem.head _)) (i:=14) (by decide) FKh.out _ rfl
      have rv:Hid (∀ wx,Hd S1 wx→(loadVar 91 ⟨w.heap.size + 1,0,none⟩).run Tryz.prog wx=.ok (.agg FX.toArray) wx):=fun wx h=>(KM1.out wx (w.heap.size + 1) _ h (List.Mem.tail _ (List.Mem.head _))).load Tryz.underlying91 rfl size_16 FXl.out
      clear KS1 KA1 KN1 KQ1 GK V1 bel
      refine wp_region_noPanic ?_
      refine wp_region_held_drew (S:=Hd S1) (by kernel_rfl) (KD1.out _ hS1) (fun hHeld=>?_)
      clear hS1
      replace R0:=R0.drew
      generalize World.drew _=wd at *
      refine wpAnyH_take (i:=0) (v:=.agg FX.toArray) rfl (by kernel_rfl) (by kernel_rfl) (by kernel_rfl) (fun _ _ _ h=>h) (Or.inl ⟨by rfl,fun wx h=>exec_load rfl rfl (rv.out wx h)⟩) (by assumption) ?_
      try simp only [Act.put,List.getElem_toArray,List.getElem_cons_zero,List.getElem_cons_succ,List.setIfInBounds_toArray,List.set_cons_zero,List.set_cons_succ]
      refine wpAnyH_take (i:=3) (v:=?_) rfl (by kernel_rfl) (by kernel_rfl) (by kernel_rfl) (fun _ _ _ h=>h) (Or.inl ⟨by rfl,?_⟩) (by assumption) ?_
      rotate_left
      · intro w hSw
        go_simp
        with_reducible rfl
      try simp only [Act.put,List.getElem_toArray,List.getElem_cons_zero,List.getElem_cons_succ,List.setIfInBounds_toArray,List.set_cons_zero,List.set_cons_succ]
      refine wpAnyH_take (i:=4) (v:=.agg FK.toArray) rfl (by kernel_rfl) (by kernel_rfl) (by kernel_rfl) (fun _ _ _ h=>h) (Or.inl ⟨by rfl,fun wx h=>exec_load rfl rfl (rk.out wx h)⟩) (by assumption) ?_
      try simp only [Act.put,List.getElem_toArray,List.getElem_cons_zero,List.getElem_cons_succ,List.setIfInBounds_toArray,List.set_cons_zero,List.set_cons_succ]
      refine wpAnyH_ready (rs:=[1]) (by kernel_rfl) (by simp) ?_
      refine AllReadyH.cons rfl (fun K hK=>?_) ?_
      · go_simp
        refine (con_subL FXh.out F1h.out HXl.out HXb.out).mono ?_
        rintro e w5 ⟨rfl,hb⟩
        refine hK.out _ _ ?_ (fun hHeld2=>?_)
        · exact KL1.out _ _ hHeld hb
        · clear hK K hHeld
          have hHeld:=hHeld2
          clear hHeld2
          try simp only [Act.put,List.getElem_toArray,List.getElem_cons_zero,List.getElem_cons_succ,List.setIfInBounds_toArray,List.set_cons_zero,List.set_cons_succ]
          replace R0:=R0.later hb
          clear hb
          refine wpAnyH_ready (rs:=[2]) (by kernel_rfl) (by simp) ?_
          refine AllReadyH.cons rfl (fun K hK=>?_) ?_
          · go_simp
            refine (con_turL F1h.out F2h.out (sbZ_len X 16) (sboxN_byt X)).mono ?_
            rintro e w6 ⟨rfl,hb⟩
            refine hK.out _ _ ?_ (fun hHeld2=>?_)
            · exact KL1.out _ _ hHeld hb
            · clear hK K hHeld
              have hHeld:=hHeld2
              clear hHeld2
              try simp only [Act.put,List.getElem_toArray,List.getElem_cons_zero,List.getElem_cons_succ,List.setIfInBounds_toArray,List.set_cons_zero,List.set_cons_succ]
              replace R0:=R0.later hb
              clear hb
              refine wpAnyH_ready (rs:=[5]) (by kernel_rfl) (by simp) ?_
              refine AllReadyH.cons rfl (fun K hK=>?_) ?_
              · go_simp
                refine (con_xoredL F2h.out FKh.out Ex.out (turnN_len _) (keyN_len _ _)).mono ?_
                rintro e w8 ⟨rfl,hb⟩
                refine hK.out _ _ ?_ (fun hHeld2=>?_)
                · exact KL1.out _ _ hHeld hb
                · clear hK K hHeld
                  have hHeld:=hHeld2
                  clear hHeld2
                  try simp only [Act.put,List.getElem_toArray,List.getElem_cons_zero,List.getElem_cons_succ,List.setIfInBounds_toArray,List.set_cons_zero,List.set_cons_succ]
                  replace R0:=R0.later hb
                  clear hb
                  refine wpAnyH_ready (rs:=[6]) (by kernel_rfl) (by simp) ?_
                  refine AllReadyH.cons rfl (fun K hK=>?_) ?_
                  · obtain ⟨tR,hV⟩:=R0
                    rw [if_pos (by rfl)]
                    refine wp_store_row 91 _ _ rfl (w.heap.size + 1 + 1) E.toArray rfl rfl tR Z.toArray hV (by rw [size_16,List.size_toArray,El.out]) (by rw [List.size_toArray,List.size_toArray,El.out,HZl.out]) Eo.out ?_
                    refine hK.out _ _ ?_ (fun hHeld2=>?_)
                    · exact KR1.out _ _ _ hHeld (.inr (by intro c X h;simp only [List.mem_cons,List.not_mem_nil,or_false,Prod.mk.injEq] at h;rcases h with ⟨rfl,rfl⟩|⟨rfl,rfl⟩<;>omega)) (by omega)
                    · clear hK K hHeld
                      have hHeld:=hHeld2
                      clear hHeld2
                      try simp only [Act.put,List.getElem_toArray,List.getElem_cons_zero,List.getElem_cons_succ,List.setIfInBounds_toArray,List.set_cons_zero,List.set_cons_succ]
                      refine wpAnyH_done (by kernel_rfl) ?_ _
                      refine NoPanic.normal ?_
                      have bel:=KB1.out _ hHeld
                      go_wp2_with fail
                      exact bodyPost_ret (results_cell_row Tryz.results80 _ _ (w.heap.size + 1 + 1) tR E.toArray (0,0) _ rfl (setRow_heap _ _ _ _ _ _ hV) Tryz.underlying91 rfl (by rw [size_16,List.size_toArray,El.out])) rfl ⟨by rw [Eh.out],bel⟩
                  exact AllReadyH.nil
              exact AllReadyH.nil
          exact AllReadyH.nil
      exact AllReadyH.nil
end Go.Proofs.YtlkljfnenonfgaaGreatDoor
