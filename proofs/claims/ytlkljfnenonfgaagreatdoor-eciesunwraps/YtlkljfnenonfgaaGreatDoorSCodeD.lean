/- How many cells zeros are. The library's Concat, of as many slices of bytes as one likes. The library's Grow and Concat, as the program calls them. The program's padding. The program's Sum. -/
import Derived.Test.YtlkljfnenonfgaaGreatDoorAeNumG
import Derived.Test.YtlkljfnenonfgaaGreatDoorSSch0
import Derived.Test.YtlkljfnenonfgaaGreatDoorCEncC
import Derived.Test.YtlkljfnenonfgaaGreatDoorSCodeU
import Derived.Test.YtlkljfnenonfgaaGreatDoorRows
import Derived.Lib.AppendZerosOnto
import Derived.Lib.Walk
import Derived.Deep.WholeRow
import Derived.Deep.RegionHeld3
import Derived.Deep.DeepCutAuto
import Derived.Deep.DeepFit
import Derived.BigQuiet
import Derived.Deep.QuietTactic
namespace Go.Proofs.YtlkljfnenonfgaaGreatDoor
open Go.RowKit
theorem zc_size (n:Nat):(Builtin.zeroCells (Value.int .u8 0).cells n).size=n:=by
 simp [Builtin.zeroCells,Value.cells]
theorem info_partsC {i:Option TypeInfo} {z:Value} {n m:Nat} (h:i.map (fun i=>(i.zero,i.size,i.bytes))=some (some z,n,m)):∃ j,i=some j∧j.zero=some z∧j.size=n∧j.bytes=m:=by
 cases i with
 | none=>simp at h
 | some j=>simpa using h
theorem own_geC {w:World} {base size:Nat} {e:TypeId} {v:Value} {n:Nat} {xs:List Value} {j:Nat} (h:w.ownsRow base e size v n xs) (hj:v.ownBlock=some j):base≤j:=by
 rcases h.2 with ⟨h1,_⟩|⟨g,cap,cur,h1,h2,_⟩
 ·rw [h1] at hj
  simp [Value.ownBlock] at hj
 ·rw [h1] at hj
  simp [Value.ownBlock] at hj
  omega
set_option maxRecDepth 100000 in
set_option maxHeartbeats 1000000 in
theorem con_growN {n:Nat} {w:World} (h0:0 < n) (hn:n≤1099511627776) :
  Calls Tryz.prog 45 #[.slice none 0 0,.int .i64 (n:Int)] w fun e w'=>∃ v':Value,e=.returned v'∧w'.ownsRow w.heap.size 5 1 v' 0 (u8s [])∧Below w.heap.size w w':=by
 obtain ⟨i0,hi0,hz0,hz1,hz2⟩:=info_partsC info_bA
 have hrz:∀ ty,(Builtin.append_ #[27,3] ty #[.slice none 0 0,.int .i64 (n:Int)]).run Tryz.prog w=.ok (.slice (some ⟨w.heap.size,0,none⟩) n (grownCap w n 0 5)) (w.drew.alloc (.cells (([]:List Value).toArray++Builtin.zeroCells (Value.int .u8 0).cells n++Builtin.zeroCells (Value.int .u8 0).cells (grownCap w n 0 5 - n)) 5)):=fun ty=>by
  have h:=Lib.run_append_grow_zeros w 27 3 ty 5 i0 (.int .u8 0) .i64 .i64 Tryz.underlying27 Tryz.underlying3 hi0 hz0 none 0 0 [] (run_firstCells_none w.drew i0.size 0 0 0) n h0 (by rw [hz1];decide) (by omega) (by omega) (by rw [hz2];omega) (growslice_fits (by omega) (by rw [hz2];omega))
  rw [Nat.zero_add] at h
  exact h
 have hG:=grownCap_ge w n 0 5
 have hG2:=grownCap_le_maxLen w n 0 5 (by unfold maxLen;omega)
 generalize grownCap w n 0 5=G at *
 have HS:Hid ((([]:List Value).toArray++Builtin.zeroCells (Value.int .u8 0).cells n++Builtin.zeroCells (Value.int .u8 0).cells (G - n)).size=G):=by
  show _=_
  rw [Array.size_append,Array.size_append,zc_size,zc_size]
  simp
  omega
 generalize (([]:List Value).toArray++Builtin.zeroCells (Value.int .u8 0).cells n++Builtin.zeroCells (Value.int .u8 0).cells (G - n))=cs at *
 have h1:¬ ((n:Int) < 0):=by omega
 have h3:IntKind.i64.wrap (n:Int)=(n:Int):=by rw [IntKind.wrap_i64];omega
 have h4:(0:Int) < (n:Int):=by omega
 have HG:Hid (G≤maxLen):=hG2
 unfold maxLen at hG2
 go_enter Tryz.func45,Tryz.ntmps45
 go_wp2_with (at_builtin;refine Lib.wpList_append_run _ rfl _ _ _ _ rfl _ _ rfl rfl _ _ (hrz _) ?_)
 go_ret
 refine ⟨_,rfl,⟨rfl,.inr ⟨w.heap.size,G,cs,rfl,Nat.le_refl _,?_,by omega,HG.out,by rw [HS.out,Nat.mul_one],by simp⟩⟩,(Below.refl _ _).drew.alloc (Nat.le_refl _) _⟩
 exact heap_alloc_last w.drew _
theorem flat_next {L:List (List Int)} {i:Nat} (h:i < L.length):(L.take (i + 1)).flatten=(L.take i).flatten++L.getD i []:=by
 rw [List.take_add_one,List.flatten_append,List.getD_eq_getElem?_getD,List.getElem?_eq_getElem h]
 simp
theorem flat_le (L:List (List Int)) (i:Nat):(L.take i).flatten.length≤L.flatten.length:=by
 have e:L.flatten=(L.take i).flatten++(L.drop i).flatten:=by rw [← List.flatten_append,List.take_append_drop]
 rw [e,List.length_append]
 omega
/-- slices of bytes, one by one -/
def CatOf (w:World) (vs:List Value) (L:List (List Int)) (m:Nat):Prop:=vs.length=m∧L.length=m∧∀ i,i < m→Bs w (vs.getD i undef) (L.getD i [])
theorem CatOf.later {w w':World} {vs:List Value} {L:List (List Int)} {m:Nat} (h:CatOf w vs L m) (hb:Below w.heap.size w w'):CatOf w' vs L m:=⟨h.1,h.2.1,fun i hi=>(h.2.2 i hi).later hb⟩
theorem CatOf.at_ {w:World} {vs:List Value} {L:List (List Int)} {m:Nat} (h:CatOf w vs L m) {i:Nat} (hi:i < m):∃ ao cap,vs[i]?=some (.slice ao (L.getD i []).length cap)∧cap≤maxLen∧(L.getD i []).length≤cap∧Bs w (.slice ao (L.getD i []).length cap) (L.getD i []):=by
 have k:=h.2.2 i hi
 have k0:=k
 obtain ⟨ao,cap,e,h1,h2,h3⟩:=k
 rw [e] at k0
 refine ⟨ao,cap,?_,h1,h2,k0⟩
 rw [← e,List.getD_eq_getElem?_getD,List.getElem?_eq_getElem (by rw [h.1];exact hi)]
 rfl
set_option linter.unusedSimpArgs false in
set_option maxRecDepth 100000 in
set_option maxHeartbeats 2000000 in
theorem con_cat {gs m:Nat} {vs:List Value} {L:List (List Int)} {w:World} (Bk:Blk w gs vs) (h:CatOf w vs L m) (hm:m≤1000) (hp:0 < L.flatten.length) (hl:L.flatten.length≤1099511627776) :
  Calls Tryz.prog 22 #[.slice (some ⟨gs,0,none⟩) m m] w fun e w'=>∃ v':Value,e=.returned v'∧w'.ownsRow w.heap.size 5 1 v' L.flatten.length (u8s L.flatten)∧Below w.heap.size w w':=by
 have HC:Hid (CatOf w vs L m):=h
 have HB:Hid (Blk w gs vs):=Bk
 have ltg:=Bk.lt
 have HF:Hid (∀ i,(L.take i).flatten.length≤L.flatten.length):=flat_le L
 have HN:Hid (∀ i,i < m→(L.take (i + 1)).flatten=(L.take i).flatten++L.getD i []):=fun i hi=>flat_next (by rw [HC.out.2.1];exact hi)
 have HE:Hid ((L.take m).flatten=L.flatten):=by show _=_;rw [List.take_of_length_le (by rw [HC.out.2.1];exact Nat.le_refl _)]
 clear h Bk
 obtain ⟨M,hM⟩:∃ M:Nat→List Int,∀ i,(L.take i).flatten=M i:=⟨_,fun _=>rfl⟩
 have HM0:Hid (M 0=[]):=by rw [← hM];rfl
 obtain ⟨T,hT⟩:∃ T,L.flatten=T:=⟨_,rfl⟩
 rw [hT] at HE HF hp hl ⊢
 have HN2:Hid (∀ i,i < m→M (i + 1)=M i++L.getD i []):=fun i hi=>by rw [← hM,← hM];exact HN.out i hi
 have HF2:Hid (∀ i,(M i).length≤T.length):=fun i=>by rw [← hM];exact HF.out i
 rw [hM] at HE
 clear HN HF hM hT
 go_enter Tryz.func22,Tryz.ntmps22
 go_wp2_with fail
 go_loop [3,11] (fun sv iv=>∃ i:Nat,i≤m∧iv=.int .i64 i∧sv=.int .i64 (((M i).length:Nat):Int)) (fun _ iv=>m - (intOf iv).toNat)
 case atStart=>exact ⟨0,by omega,rfl,by rw [HM0.out];rfl⟩
 case round =>
  obtain ⟨i,hi,rfl,rfl⟩:=hrel
  have f1:=HF2.out i
  by_cases hil:i < m
  ·obtain ⟨ao,cap,hv,c1,c2,_⟩:=HC.out.at_ hil
   have ci:=HB.out.cell i _ hv
   unfold maxLen at c1
   have f2:=HF2.out (i + 1)
   have e2:(M (i + 1)).length=(M i).length + (L.getD i []).length:=by rw [HN2.out i hil,List.length_append]
   clear hv
   generalize (L.getD i []).length=q at *
   generalize hp1:(M i).length=p1 at *
   have HE2:Hid ((M (i + 1)).length=p1 + q):=e2
   have g1:(i:Int) < (m:Int):=by omega
   have g2:(0:Int)≤(i:Int):=by omega
   have gi:IntKind.i64.wrap ((i:Int) + 1)=(i:Int) + 1:=by rw [IntKind.wrap_i64];omega
   have w2:IntKind.i64.wrap ((p1:Int) + (q:Int))=(p1:Int) + (q:Int):=by rw [IntKind.wrap_i64];omega
   have g3:¬ (p1:Int) + (q:Int) < 0:=by omega
   clear e2 f2
   go_wp2_with fail
   go_round
   case rel=>exact ⟨i + 1,by omega,by go_num,by rw [HE2.out];go_num⟩
   case measure=>simp [intOf];omega
  ·have HI:Hid (i=m):=by show i=m;omega
   have g1:(m:Int)≤(i:Int):=by omega
   rw [HI.out,HE.out]
   go_wp2_with fail
   refine (con_growN (n:=T.length) hp hl).mono ?_
   rintro e w3 ⟨v3,rfl,hown,hb⟩
   go_wp2_with fail
   obtain ⟨W,hW⟩:∃ z,z=w3:=⟨_,rfl⟩
   rw [← hW] at hown hb ⊢
   clear hW
   go_loopw [6,27] (fun nv iv wx=>∃ i:Nat,i≤m∧iv=.int .i64 i∧wx.ownsRow w.heap.size 5 1 nv (M i).length (u8s (M i))∧Below w.heap.size w wx) (fun _ iv _=>m - (intOf iv).toNat)
   case atStart=>exact ⟨0,by omega,rfl,by rw [HM0.out];exact hown,hb⟩
   case round =>
    clear hown hb HI g1 hi f1
    obtain ⟨k,hk,rfl,hown,hb⟩:=hrel
    have f1:=HF2.out k
    by_cases hkl:k < m
    ·obtain ⟨ao,cap,hv,c1,c2,hbs⟩:=(HC.out.later hb).at_ hkl
     have ci:=(HB.out.below hb HB.out.lt).cell k _ hv
     have ltw:=Nat.lt_of_lt_of_le ltg hb.size
     unfold maxLen at c1
     have f2:=HF2.out (k + 1)
     have e2:(M (k + 1)).length=(M k).length + (L.getD k []).length:=by rw [HN2.out k hkl,List.length_append]
     have HN3:Hid _:=HN2.out k hkl
     have HE2:Hid _:=e2
     clear hv
     have g1:(k:Int) < (m:Int):=by omega
     have g2:(0:Int)≤(k:Int):=by omega
     have gi:IntKind.i64.wrap ((k:Int) + 1)=(k:Int) + 1:=by rw [IntKind.wrap_i64];omega
     have h47:(M k).length + (L.getD k []).length≤140737488355328:=by omega
     clear e2 f2
     have hsz:=hb.size
     go_wp2_with (first|(at_builtin;refine wpList_append_bs (by rfl) _ _ (by rfl) w.heap.size _ (M k).length (M k) (by rfl) hown _ (L.getD k []) (by rfl) hbs h47 hsz ?_;intro v5 w5 own5 hgrow hat)|fail)
     go_roundw
     case rel =>
      rw [← HN3.out,← HE2.out] at own5
      exact ⟨k + 1,by omega,by go_num,own5,below_own (base:=w.heap.size) hb hgrow hsz (fun g hg=>own_geC hown hg) (Nat.le_refl _)⟩
     case measure=>simp [intOf];omega
    ·have HI:Hid (k=m):=by show k=m;omega
     have g1:(m:Int)≤(k:Int):=by omega
     go_wp2_with fail
     go_ret
     rw [HI.out,HE.out] at hown
     exact ⟨_,rfl,hown,hb⟩
set_option maxRecDepth 100000 in
set_option maxHeartbeats 1000000 in
theorem con_grow {n:Nat} {w:World} (h0:0 < n) (hn:n≤4096) :
  Calls Tryz.prog 45 #[.slice none 0 0,.int .i64 (n:Int)] w fun e w'=>∃ v':Value,e=.returned v'∧w'.ownsRow w.heap.size 5 1 v' 0 (u8s [])∧Below w.heap.size w w':=by
 obtain ⟨i0,hi0,hz0,hz1,hz2⟩:=info_parts info_b8
 have hrz:∀ ty,(Builtin.append_ #[27,3] ty #[.slice none 0 0,.int .i64 (n:Int)]).run Tryz.prog w=.ok (.slice (some ⟨w.heap.size,0,none⟩) n (grownCap w n 0 5)) (w.drew.alloc (.cells (([]:List Value).toArray++Builtin.zeroCells (Value.int .u8 0).cells n++Builtin.zeroCells (Value.int .u8 0).cells (grownCap w n 0 5 - n)) 5)):=fun ty=>by
  have h:=Lib.run_append_grow_zeros w 27 3 ty 5 i0 (.int .u8 0) .i64 .i64 Tryz.underlying27 Tryz.underlying3 hi0 hz0 none 0 0 [] (run_firstCells_none w.drew i0.size 0 0 0) n h0 (by rw [hz1];decide) (by omega) (by omega) (by rw [hz2];omega) (growslice_fits (by omega) (by rw [hz2];omega))
  rw [Nat.zero_add] at h
  exact h
 have hG:=grownCap_ge w n 0 5
 have hG2:=grownCap_le_maxLen w n 0 5 (by unfold maxLen;omega)
 generalize grownCap w n 0 5=G at *
 have HS:Hid ((([]:List Value).toArray++Builtin.zeroCells (Value.int .u8 0).cells n++Builtin.zeroCells (Value.int .u8 0).cells (G - n)).size=G):=by
  show _=_
  rw [Array.size_append,Array.size_append,zc_size,zc_size]
  simp
  omega
 generalize (([]:List Value).toArray++Builtin.zeroCells (Value.int .u8 0).cells n++Builtin.zeroCells (Value.int .u8 0).cells (G - n))=cs at *
 have h1:¬ ((n:Int) < 0):=by omega
 have h3:IntKind.i64.wrap (n:Int)=(n:Int):=by rw [IntKind.wrap_i64];omega
 have h4:(0:Int) < (n:Int):=by omega
 have HG:Hid (G≤maxLen):=hG2
 unfold maxLen at hG2
 go_enter Tryz.func45,Tryz.ntmps45
 go_wp2_with (at_builtin;refine Lib.wpList_append_run _ rfl _ _ _ _ rfl _ _ rfl rfl _ _ (hrz _) ?_)
 go_ret
 refine ⟨_,rfl,⟨rfl,.inr ⟨w.heap.size,G,cs,rfl,Nat.le_refl _,?_,by omega,HG.out,by rw [HS.out,Nat.mul_one],by simp⟩⟩,(Below.refl _ _).drew.alloc (Nat.le_refl _) _⟩
 exact heap_alloc_last w.drew _
theorem bs_newx {w wx:World} {b o:Nat} {A:List Int} (hb0:b < w.heap.size) (hc:∀ j,j < A.length→w.cell? ⟨b,o + j,none⟩=some (.int .u8 (A.getD j 0))) (hb:Below w.heap.size w wx):∀ j u,(u8s A)[j]?=some u→wx.cell? ((⟨b,o,none⟩:Addr).add j)=some u:=by
 intro j u hu
 have e:(⟨b,o,none⟩:Addr).add j=⟨b,o + j,none⟩:=by unfold Addr.add;split<;>simp_all
 have hj:j < A.length:=by
  have:=(List.getElem?_eq_some_iff.1 hu).1
  simpa [u8s] using this
 rw [u8s_get A j hj] at hu
 rw [e,← hu]
 exact (hb.cell (p:=⟨b,o + j,none⟩) hb0).trans (hc j hj)
set_option maxRecDepth 100000 in
set_option maxHeartbeats 2000000 in
theorem con_concat {gs:Nat} {v1 v2:Value} {A P:List Int} {w:World} (Bk:Blk w gs [v1,v2]) (h1:Bs w v1 A) (h2:Bs w v2 P) (hp:0 < P.length) (hl:A.length + P.length≤4096) :
    Calls Tryz.prog 22 #[.slice (some ⟨gs,0,none⟩) 2 2] w fun e w'=>∃ v':Value,e=.returned v'∧w'.ownsRow w.heap.size 5 1 v' (A.length + P.length) (u8s (A++P))∧Below w.heap.size w w':=by
  obtain ⟨i0,hi0,hz0,hz1,hz2⟩:=info_parts info_b8
  obtain ⟨ao,ca,rfl,a1,a2,a3⟩:=h1
  obtain ⟨po,cp,rfl,p1,p2,p3⟩:=h2
  obtain ⟨bp,op,rfl,hbp,hcp⟩:=p3 hp
  have HA:Hid _:=a3
  have HP:Hid _:=hcp
  have HE:Hid (u8s A++u8s P=u8s (A++P)):=by simp [u8s,Hid]
  have HMa:Hid ((u8s A).length=A.length * 1):=by simp [u8s,Hid]
  have HMp:Hid ((u8s P).length=P.length * 1):=by simp [u8s,Hid]
  have HA0:Hid (A.length=0→A=[]):=List.eq_nil_of_length_eq_zero
  clear a3 p3 hcp
  unfold maxLen at a1 p1
  have Bk0:=Bk
  have lt:=Bk.lt
  have c0:=Bk.cell 0 _ rfl
  have c1:=Bk.cell 1 _ rfl
  have w1:IntKind.i64.wrap (A.length:Int)=(A.length:Int):=by rw [IntKind.wrap_i64];omega
  have w2:IntKind.i64.wrap ((A.length:Int) + (P.length:Int))=(A.length:Int) + (P.length:Int):=by rw [IntKind.wrap_i64];omega
  have g1:¬ (A.length:Int) < 0:=by omega
  have g2:¬ (A.length:Int) + (P.length:Int) < 0:=by omega
  have HC:Hid (((A.length + P.length:Nat):Int)=(A.length:Int) + (P.length:Int)):=by show _=_;omega
  go_enter Tryz.func22,Tryz.ntmps22
  go_wp2_with fail
  go_loop [3,11] (fun sv iv=>(iv=.int .i64 0∧sv=.int .i64 0)∨(iv=.int .i64 1∧sv=.int .i64 (A.length:Int))∨(iv=.int .i64 2∧sv=.int .i64 ((A.length:Int) + (P.length:Int)))) (fun _ iv=>2 - (intOf iv).toNat)
  case atStart=>exact .inl ⟨rfl,rfl⟩
  case round =>
    rcases hrel with ⟨rfl,rfl⟩|⟨rfl,rfl⟩|⟨rfl,rfl⟩
    · go_wp2_with fail
      go_round
      case rel=>exact .inr (.inl ⟨by go_num,by go_num⟩)
      case measure=>simp [intOf]
    · go_wp2_with fail
      go_round
      case rel=>exact .inr (.inr ⟨by go_num,by go_num⟩)
      case measure=>simp [intOf]
    · rw [← HC.out]
      go_wp2_with fail
      refine (con_grow (n:=A.length + P.length) (by omega) hl).mono ?_
      rintro e w3 ⟨v3,rfl,hown,hb⟩
      replace Bk:=Bk.later hb
      clear lt c0 c1
      go_wp2_with fail
      obtain ⟨W,hW⟩:∃ z,z=w3:=⟨_,rfl⟩
      rw [← hW] at hown hb Bk ⊢
      clear hW
      go_loopw [6,27] (fun nv iv wx=>((iv=.int .i64 0∧wx.ownsRow w.heap.size 5 1 nv 0 (u8s []))∨(iv=.int .i64 1∧wx.ownsRow w.heap.size 5 1 nv A.length (u8s A))∨(iv=.int .i64 2∧wx.ownsRow w.heap.size 5 1 nv (A.length + P.length) (u8s (A++P))))∧Below w.heap.size w wx) (fun _ iv _=>2 - (intOf iv).toNat)
      case atStart=>exact ⟨.inl ⟨rfl,hown⟩,hb⟩
      case round =>
        clear hown Bk
        obtain ⟨hrel,hb⟩:=hrel
        have Bk:=Bk0.below hb Bk0.lt
        have lt:=Bk.lt
        have c0:=Bk.cell 0 _ rfl
        have c1:=Bk.cell 1 _ rfl
        have hsz:=hb.size
        rcases hrel with ⟨rfl,hown⟩|⟨rfl,hown⟩|⟨rfl,hown⟩
        · by_cases h0:A.length=0
          · obtain rfl:A=[]:=HA0.out h0
            have hown0:=hown
            have HW:Hid (Below w.heap.size w wr):=hb
            rw [show ([]:List Int).length=0 from rfl] at *
            rcases hown with ⟨_,⟨rfl,_⟩|⟨g,cap,cur,rfl,_,_,x4,x5,_,_⟩⟩
            all_goals cases ao
            all_goals try unfold maxLen at x5
            all_goals go_wp2
            all_goals go_roundw
            all_goals first
              | (show _ < _;simp [intOf];done)
              | exact ⟨.inr (.inl ⟨by go_num,hown0⟩),HW.out⟩
          · obtain ⟨b,o,rfl,hb0,hc0⟩:=HA.out (by omega)
            have HN:Hid (∀ j u,(u8s A)[j]?=some u→wr.cell? ((⟨b,o,none⟩:Addr).add j)=some u):=bs_newx hb0 hc0 hb
            clear hc0
            go_wp2_with (first|(at_builtin;refine wpList_append_lies _ (by rfl) _ _ _ (by rfl) w.heap.size 5 i0 _ 1 1 Tryz.underlying27 hi0 hz0 hz1 hz2 rfl (by omega) _ _ _ (by rfl) hown ⟨b,o,none⟩ A.length ca (u8s A) (by rfl) HMa.out HN.out (by simp [u8s,Value.oneCell']) (by omega) (by unfold maxLen;omega) (by omega) hsz wr.heap.size rfl ?_;intro gg cap1 w7 hown1 hgrow hat hlt1)|fail)
            go_roundw
            case rel=>exact ⟨.inr (.inl ⟨by go_num,by simpa using hown1⟩),Below.grown hb hgrow hsz (fun j hj=>own_ge hown hj)⟩
            case measure=>simp [intOf]
        · have HN:Hid (∀ j u,(u8s P)[j]?=some u→wr.cell? ((⟨bp,op,none⟩:Addr).add j)=some u):=bs_newx hbp HP.out hb
          go_wp2_with (first|(at_builtin;refine wpList_append_lies _ (by rfl) _ _ _ (by rfl) w.heap.size 5 i0 _ 1 1 Tryz.underlying27 hi0 hz0 hz1 hz2 rfl (by omega) _ _ _ (by rfl) hown ⟨bp,op,none⟩ P.length cp (u8s P) (by rfl) HMp.out HN.out (by simp [u8s,Value.oneCell']) (by omega) (by unfold maxLen;omega) (by omega) hsz wr.heap.size rfl ?_;intro gg cap1 w7 hown1 hgrow hat hlt1)|fail)
          go_roundw
          case rel=>exact ⟨.inr (.inr ⟨by go_num,by rw [HE.out] at hown1;exact hown1⟩),Below.grown hb hgrow hsz (fun j hj=>own_ge hown hj)⟩
          case measure=>simp [intOf]
        · go_wp2_with fail
          go_ret
          exact ⟨_,rfl,hown,hb⟩
theorem pad_of {n z:Nat} (hz:zsN n=z) (hn:n≤1125899906842624):PadIs n ((128 :: List.replicate (z + 8) 0)++be8 (8 * (n:Int))++[]):=by
 have hw:w64 (8 * (n:Int)):=⟨by omega,by omega⟩
 refine ⟨List.replicate 8 0++be8 (8 * (n:Int)),rfl,?_,?_,?_⟩
 ·apply byt_of
  intro j hj
  by_cases h8:j < 8
  ·rw [List.getD_eq_getElem?_getD,List.getElem?_append_left (by simpa using h8),← List.getD_eq_getElem?_getD,getD_rep]
   exact ⟨by decide,by decide⟩
  ·rw [List.getD_eq_getElem?_getD,List.getElem?_append_right (by simpa using h8),← List.getD_eq_getElem?_getD]
   exact be8_byt _ _
 ·have e:=be8_num hw
  have e2:beN (List.replicate 8 0++be8 (8 * (n:Int)))=beN (be8 (8 * (n:Int))):=by
   show pv 256 ((be8 (8 * (n:Int))).reverse++List.replicate 8 0)=pv 256 (be8 (8 * (n:Int))).reverse
   rfl
  rw [e2,e]
 ·rw [hz,List.append_nil,List.cons_append,← List.append_assoc,List.replicate_append_replicate]
theorem pad_zero (z:Nat):(List.replicate (17 + z) (0:Int)).set 0 128=(128 :: List.replicate (z + 8) 0)++[0,0,0,0,0,0,0,0]++[]:=by
 rw [show 17 + z=(z + 8 + 8) + 1 by omega,List.replicate_succ,List.set_cons_zero,List.append_nil,List.cons_append]
 show 128 :: List.replicate (z + 8 + 8) 0=_
 rw [← List.replicate_append_replicate (n:=z + 8)]
 rfl
set_option maxRecDepth 100000 in
set_option maxHeartbeats 1000000 in
theorem con_padding {n:Nat} {w:World} (hn:n≤1125899906842624) :
  Calls Tryz.prog 102 #[.int .i64 (n:Int)] w fun e w'=>∃ (g q:Nat) (P:List Int),e=.returned (.slice (some ⟨g,0,none⟩) q q)∧PadIs n P∧P.length=q∧Blk w' g (u8s P)∧w.heap.size≤g∧Below w.heap.size w w':=by
 obtain ⟨z,hz⟩:∃ z,zsN n=z:=⟨_,rfl⟩
 obtain ⟨q,hq⟩:∃ q,17 + z=q:=⟨_,rfl⟩
 have zl:z < 128:=by rw [← hz];unfold zsN;omega
 have HZ:Hid (zsN n=z):=hz
 have HQ:Hid (17 + z=q):=hq
 have hmk:=run_make_row' 27 5 (.int .u8 0) 1 Tryz.underlying27 info_b8 rfl .i64 .i64 q (by omega) (by omega)
 rw [made_u8S] at hmk
 have b1:=Blk.new w (u8s (List.replicate q 0)) 5 w.heap.size rfl
 have bel:Below w.heap.size w (w.alloc (.cells (u8s (List.replicate q 0)).toArray 5)):=(Below.refl _ _).alloc (Nat.le_refl _) _
 generalize (u8s (List.replicate q 0)).toArray=cs at hmk b1 bel
 replace hmk:∀ w:World,(Instr.makeSlice 27 (.int .i64 (q:Int)) (.int .i64 (q:Int))).run Tryz.prog w=.ok (.slice (some ⟨w.heap.size,0,none⟩) q q) (w.alloc (.cells cs 5)):=hmk
 obtain ⟨m,hm⟩:∃ m,n % 128=m:=⟨_,rfl⟩
 have m1:m < 128:=by omega
 have t1:(n:Int).tmod 128=(m:Int):=by rw [Int.tmod_eq_emod_of_nonneg (by omega)];omega
 have t2:(239 - (m:Int)).tmod 128=(z:Int):=by rw [Int.tmod_eq_emod_of_nonneg (by omega),← hz];unfold zsN;omega
 have w1:IntKind.i64.wrap (239 - (m:Int))=239 - (m:Int):=by rw [IntKind.wrap_i64];omega
 have w2:IntKind.i64.wrap (1 + (z:Int))=1 + (z:Int):=by rw [IntKind.wrap_i64];omega
 have w3:IntKind.i64.wrap (1 + (z:Int) + 16)=(q:Int):=by rw [IntKind.wrap_i64];omega
 have q1:17≤q:=by omega
 have q2:q < 145:=by omega
 clear hz hq hm m1 zl
 go_enter Tryz.func102,Tryz.ntmps102
 go_upto_region 3 with fail
 clear hmk
 generalize w.alloc (.cells cs 5)=W at *
 have lt:=b1.lt
 have fz:=b1.frozen 0
 have c0:=b1.cell 0 _ (u8s_get (List.replicate q 0) 0 (by simp;omega))
 have g0:(0:Int) < (q:Int):=by omega
 have w4:IntKind.i64.wrap ((q:Int) - 8)=(q:Int) - 8:=by rw [IntKind.wrap_i64];omega
 have w5:IntKind.u64.wrap (n:Int)=(n:Int):=by rw [IntKind.wrap_u64];omega
 have w6:IntKind.u64.wrap ((n:Int) * 8)=8 * (n:Int):=by rw [IntKind.wrap_u64];omega
 have g1:(0:Int)≤(q:Int) - 8:=by omega
 have g2:(q:Int) - 8≤(q:Int):=by omega
 have g3:((q:Int) - 8).toNat=q - 8:=by omega
 have g4:¬ q=q - 8:=by omega
 have g5:q - (q - 8)=8:=by omega
 go_wp2_with fail
 have b2:Blk (W.setCell ⟨w.heap.size,0,none⟩ (.int .u8 128)) w.heap.size (u8s ((128 :: List.replicate (z + 8) 0)++[0,0,0,0,0,0,0,0]++[])):=by
  rw [← pad_zero z,HQ.out]
  have e:=b1.set 0 (.int .u8 128)
  rwa [show (u8s (List.replicate q 0)).set 0 (.int .u8 128)=u8s ((List.replicate q 0).set 0 128) by simp [u8s,List.map_set]] at e
 have bel2:Below w.heap.size w (W.setCell ⟨w.heap.size,0,none⟩ (.int .u8 128)):=bel.setCell (Nat.le_refl _) _
 clear b1 bel lt fz c0
 generalize W.setCell ⟨w.heap.size,0,none⟩ (.int .u8 128)=W1 at *
 refine (con_put b2 (Nat.le_refl _) (by simp;have:=HQ.out;omega) ⟨by omega,by omega⟩).mono ?_
 rintro e w' ⟨rfl,P1⟩
 rw [puts_is _ _ _ _ _ _ _ _ _ _ _ _ (by simp;have:=HQ.out;omega)] at P1
 clear b2
 go_wp2_with fail
 go_ret
 refine ⟨_,_,_,rfl,pad_of HZ.out hn,?_,P1.1,Nat.le_refl _,P1.2.2.1 _ _ (Nat.le_refl _) bel2⟩
 have:=HQ.out
 simp [be8_len]
 omega
/-- the words behind all blocks -/
def SumMid (K X B:List Int) (n r:Nat) (w:World) (b:Nat):Prop:=∃ P Y:List Int,PadIs n P∧Y=digN K X (B.drop r++P) ((B.drop r++P).length / 128)∧Blk w b (us Y)
theorem pad_small {n:Nat} {P:List Int} (h:PadIs n P):P.length≤145∧0 < P.length:=by
 rw [h.len]
 unfold zsN
 omega
theorem pad_whole {n q r:Nat} {B P:List Int} (h:PadIs n P) (l:(B.drop r).length=n - r) (hq:128 * q=r) (hr:r≤n):(B.drop r++P).length=128 * ((B.drop r++P).length / 128):=by
 rw [List.length_append,l,h.len]
 unfold zsN
 omega
theorem bs_blk {w:World} {g q:Nat} {P:List Int} (B:Blk w g (u8s P)) (l:P.length=q) (h:q≤maxLen):Bs w (.slice (some ⟨g,0,none⟩) q q) P :=
 ⟨some ⟨g,0,none⟩,q,by rw [l],h,by omega,fun _=>⟨g,0,rfl,B.lt,fun j hj=>by rw [Nat.zero_add];exact B.cell j _ (u8s_get P j hj)⟩⟩
theorem digN_left {K H A C:List Int}:∀ q,128 * q≤A.length→digN K H (A++C) q=digN K H A q
 | 0,_=>rfl
 | q + 1,h=>by
  rw [digN,digN,digN_left q (by omega),List.drop_append_of_le_length (by omega),List.take_append_of_le_length (by rw [List.length_drop];omega)]
theorem digN_split {K H A C:List Int} {q:Nat} (h:A.length=128 * q):∀ k,digN K H (A++C) (q + k)=digN K (digN K H A q) C k
 | 0=>digN_left q (by omega)
 | k + 1=>by
  have e:(A++C).drop (A.length + 128 * k)=C.drop (128 * k):=by
   rw [List.drop_append,List.drop_eq_nil_of_le (by omega)]
   simp
  rw [← Nat.add_assoc,digN,digN,digN_split h k,show 128 * (q + k)=A.length + 128 * k by omega,e]
/-- the bytes of the first words -/
def outN (Y:List Int):Nat→List Int
 | 0=>[]
 | k + 1=>outN Y k++be8 (Y.getD k 0)
theorem outN_len (Y:List Int):∀ k,(outN Y k).length=8 * k
 | 0=>rfl
 | k + 1=>by rw [outN,List.length_append,outN_len Y k,be8_len];omega
theorem outN_is {Y:List Int} (f:fits Y):∀ k,OutB Y k (outN Y k)
 | 0=>rfl
 | k + 1=>⟨outN Y k,be8 (Y.getD k 0),rfl,outN_is f k,rfl,be8_byt _,be8_num (f k)⟩
/-- and then noughts -/
def outZ (Y:List Int) (k:Nat):List Int:=outN Y k++List.replicate (48 - 8 * k) 0
theorem outZ_is {Y:List Int} {k:Nat} (h:k < 6):outZ Y k=outN Y k++[0,0,0,0,0,0,0,0]++List.replicate (48 - 8 * (k + 1)) 0:=by
 rw [outZ,show 48 - 8 * k=8 + (48 - 8 * (k + 1)) by omega,← List.replicate_append_replicate,← List.append_assoc]
 rfl
theorem outZ_len {Y:List Int} {k:Nat} (h:k≤6):(outZ Y k).length=48:=by
 rw [outZ,List.length_append,outN_len,List.length_replicate]
 omega
theorem puts_out {Y:List Int} {k:Nat} (h:k < 6):putsN (outZ Y k) (8 * k) (Y.getD k 0) 8=outZ Y (k + 1):=by
 rw [outZ_is h,puts_is _ _ _ _ _ _ _ _ _ _ _ _ (outN_len Y k).symm]
 rfl
theorem blk_world {w:World} {b:Nat} {X:List Value} (h:Blk w b X):∃ W,W=w∧Blk W b X:=⟨w,rfl,h⟩
/-- a block that stays while another is written -/
theorem held_put {w0 W:World} {b:Nat} {X:List Value} (B:Blk W b X) (bel:Below w0.heap.size w0 W) :
  ∃ S:World→Prop,Hd S W∧Hid (∀ w1,Hd S w1→Hd S w1.drew)∧Hid (∀ w1 w2 g L,Hd S w1→PutB w1 w2 g L→b≠g→w0.heap.size≤g→Hd S w2)∧Hid (∀ w1,Hd S w1→Blk w1 b X)∧Hid (∀ w1,Hd S w1→Below w0.heap.size w0 w1):=by
 refine ⟨fun wx=>Blk wx b X∧Below w0.heap.size w0 wx,⟨B,bel⟩,?_,?_,?_,?_⟩
 ·rintro w1 ⟨h1,h2⟩
  exact ⟨h1.drew,h2.drew⟩
 ·rintro w1 w2 g L ⟨h1,h2⟩ hp hb hg
  exact ⟨hp.2.1 b X hb h1,hp.2.2.1 _ _ hg h2⟩
 ·rintro w1 ⟨h1,_⟩
  exact h1
 ·rintro w1 ⟨_,h2⟩
  exact h2
theorem sum_is {K H B P Y X:List Int} {n q r:Nat} {T:List Int} (hT:H=T) (hX:digN K T (B.take r) q=X) (hn:B.length=n) (hq:128 * q=r) (hr:r≤n) (l:(B.drop r).length=n - r) (hP:PadIs n P) (hY:Y=digN K X (B.drop r++P) ((B.drop r++P).length / 128)) (f:fits Y):SumIs K H B (outN Y 6):=by
 subst hT
 refine ⟨P,by rw [hn];exact hP,?_⟩
 have e:digN K H (B++P) ((B++P).length / 128)=Y:=by
  have lt:(B.take r).length=128 * q:=by rw [List.length_take];omega
  have l2:=pad_whole hP l hq hr
  have e1:(B++P).length / 128=q + (B.drop r++P).length / 128:=by
   have hz:(B.drop r++P).length=n - r + P.length:=by rw [List.length_append,l]
   rw [List.length_append]
   generalize (B.drop r++P).length=z at *
   omega
  have e2:B++P=B.take r++(B.drop r++P):=by rw [← List.append_assoc,List.take_append_drop]
  rw [e1]
  conv=>lhs;arg 3;rw [e2]
  rw [digN_split lt,hX,hY]
 rw [e]
 exact outN_is f 6
theorem fits_HS0:fits HS:=by
 intro j
 by_cases h:j < 8
 ·have e:∀ i:Fin 8,0≤HS.getD i.1 0∧HS.getD i.1 0 < 18446744073709551616:=by decide +kernel
  exact e ⟨j,h⟩
 ·rw [List.getD_eq_getElem?_getD,List.getElem?_eq_none (by rw [show HS.length=8 from rfl];omega)]
  exact ⟨by decide,by decide⟩
theorem con_BeginT {t0 t1 t2 t3 t4 t5 t6 t7:Int} {w:World} (G:GlsS w) (ht:HS=[t0,t1,t2,t3,t4,t5,t6,t7]) :
  Calls Tryz.prog 101 #[] w fun e w'=>e=.returned (.agg #[.int .u64 t0,.int .u64 t1,.int .u64 t2,.int .u64 t3,.int .u64 t4,.int .u64 t5,.int .u64 t6,.int .u64 t7])∧Below w.heap.size w w':=by
 refine (con_Begin G).mono ?_
 rintro e w' ⟨rfl,hb⟩
 rw [ht]
 exact ⟨rfl,hb⟩
theorem con_stepsL {h0 h1 h2 h3 h4 h5 h6 h7 x0 x1 x2 x3 x4 x5 x6 x7:Int} {v:Value} {M:List Int} {q:Nat} {w:World} (G:GlsS w) (fH:fits [h0,h1,h2,h3,h4,h5,h6,h7]) (hv:Bs w v M) (hB:byt M) (l:M.length=128 * q) (hx:digN KS [h0,h1,h2,h3,h4,h5,h6,h7] M q=[x0,x1,x2,x3,x4,x5,x6,x7]) :
  Calls Tryz.prog 100 #[.agg #[.int .u64 h0,.int .u64 h1,.int .u64 h2,.int .u64 h3,.int .u64 h4,.int .u64 h5,.int .u64 h6,.int .u64 h7],v] w fun e w'=>e=.returned (.agg #[.int .u64 x0,.int .u64 x1,.int .u64 x2,.int .u64 x3,.int .u64 x4,.int .u64 x5,.int .u64 x6,.int .u64 x7])∧Below w.heap.size w w':=by
 refine (con_steps G fH hv hB l).mono ?_
 rintro e w' ⟨rfl,hb⟩
 rw [hx]
 exact ⟨rfl,hb⟩
theorem byt_upto {B:List Int} {r:Nat} (h:byt B):byt (B.take r):=by
 intro j
 rw [List.getD_eq_getElem?_getD,List.getElem?_take]
 split
 ·rw [← List.getD_eq_getElem?_getD];exact h j
 ·exact ⟨by decide,by decide⟩
theorem byt_dropS {B:List Int} {r:Nat} (h:byt B):byt (B.drop r):=by
 intro j
 rw [List.getD_eq_getElem?_getD,List.getElem?_drop,← List.getD_eq_getElem?_getD]
 exact h (r + j)
theorem bs_upto {w:World} {ao:Option Addr} {n r cap:Nat} {B:List Int} (h:Bs w (.slice ao n cap) B) (hn:B.length=n) (hr:r≤n):Bs w (.slice ao r cap) (B.take r):=by
 obtain ⟨a,c,e,h1,h2,h3⟩:=h
 obtain ⟨rfl,_,rfl⟩:ao=a∧n=B.length∧cap=c:=by simpa using e
 have el:(B.take r).length=r:=by rw [List.length_take];omega
 refine ⟨ao,cap,by rw [el],h1,by rw [el];omega,fun h0=>?_⟩
 rw [el] at h0
 obtain ⟨b,o,rfl,k1,k2⟩:=h3 (by omega)
 refine ⟨b,o,rfl,k1,fun j hj=>?_⟩
 rw [el] at hj
 rw [k2 j (by omega),List.getD_eq_getElem?_getD,List.getD_eq_getElem?_getD,List.getElem?_take,if_pos hj]
theorem bs_drop {w:World} {ao:Option Addr} {n r cap:Nat} {B:List Int} (h:Bs w (.slice ao n cap) B) (hn:B.length=n) (hr:r≤n):Bs w (.slice (if cap=r then ao else Option.map (fun x=>x.add r) ao) (n - r) (cap - r)) (B.drop r):=by
 obtain ⟨a,c,e,h1,h2,h3⟩:=h
 obtain ⟨rfl,_,rfl⟩:ao=a∧n=B.length∧cap=c:=by simpa using e
 have el:(B.drop r).length=n - r:=by rw [List.length_drop,hn]
 refine ⟨_,cap - r,by rw [el],by omega,by rw [el];omega,fun h0=>?_⟩
 rw [el] at h0
 obtain ⟨b,o,rfl,k1,k2⟩:=h3 (by omega)
 have ea:(⟨b,o,none⟩:Addr).add r=⟨b,o + r,none⟩:=by unfold Addr.add;split<;>simp_all
 refine ⟨b,o + r,by rw [if_neg (by omega),Option.map_some,ea],k1,fun j hj=>?_⟩
 rw [el] at hj
 rw [Nat.add_assoc,k2 (r + j) (by omega),List.getD_eq_getElem?_getD,List.getD_eq_getElem?_getD,List.getElem?_drop]
set_option linter.unusedSimpArgs false in
set_option maxRecDepth 100000 in
set_option maxHeartbeats 4000000 in
theorem con_SumG {v:Value} {B:List Int} {w:World} (G:GlsS w) (hv:Bs w v B) (hB:byt B) (l:B.length≤1125899906842624) :
  Calls Tryz.prog 78 #[v] w fun e w'=>∃ (g:Nat) (O:List Int),e=.returned (.slice (some ⟨g,0,none⟩) 48 48)∧SumIs KS HS B O∧Blk w' g (u8s O)∧w.heap.size≤g∧Below w.heap.size w w':=by
 obtain ⟨n,hnl⟩:∃ n,B.length=n:=⟨_,rfl⟩
 obtain ⟨q,hq⟩:∃ q,n / 128=q:=⟨_,rfl⟩
 obtain ⟨m,hm⟩:∃ m,n % 128=m:=⟨_,rfl⟩
 obtain ⟨r,hr⟩:∃ r,128 * q=r:=⟨_,rfl⟩
 rw [hnl] at l
 have HN:Hid (B.length=n):=hnl
 have HQ:Hid (128 * q=r):=hr
 have HKG:Hid (GlsS w):=G
 have HB:Hid (byt B):=hB
 have rn:r≤n:=by omega
 have nr:n - r < 128:=by omega
 have hv0:=hv
 obtain ⟨ao,cap,rfl,q1,q2,q3⟩:=hv
 rw [hnl] at hv0 q2 ⊢
 have HS1:Hid (Bs w (.slice ao r cap) (B.take r)):=bs_upto hv0 hnl rn
 obtain ⟨a2,ha2⟩:∃ a2,(if cap=r then ao else Option.map (fun x=>x.add r) ao)=a2:=⟨_,rfl⟩
 have HS2:Hid (Bs w (.slice a2 (n - r) (cap - r)) (B.drop r)):=by rw [← ha2];exact bs_drop hv0 hnl rn
 replace ha2:Hid _:=ha2
 clear q3 hv0 G hB
 have HL1:Hid ((B.take r).length=128 * q):=by show _=_;rw [List.length_take,hnl,hr];omega
 have HL2:Hid ((B.drop r).length=n - r):=by show _=_;rw [List.length_drop,hnl]
 have tm1:(n:Int).tmod 128=(m:Int):=by rw [Int.tmod_eq_emod_of_nonneg (by omega)];omega
 have w1:IntKind.i64.wrap ((n:Int) - (m:Int))=(r:Int):=by rw [IntKind.wrap_i64];omega
 have rc:r≤cap:=by omega
 unfold maxLen at q1
 clear hnl hq hm hr
 obtain ⟨t0,t1,t2,t3,t4,t5,t6,t7,ht⟩:=eight (show HS.length=8 from rfl)
 have HT:Hid (HS=[t0,t1,t2,t3,t4,t5,t6,t7]):=ht
 have FT:Hid (fits [t0,t1,t2,t3,t4,t5,t6,t7]):=by rw [← ht];exact fits_HS0
 clear ht
 obtain ⟨x0,x1,x2,x3,x4,x5,x6,x7,hx⟩:=eight (digN_len (K:=KS) (H:=[t0,t1,t2,t3,t4,t5,t6,t7]) (M:=B.take r) rfl q)
 have HX:Hid (digN KS [t0,t1,t2,t3,t4,t5,t6,t7] (B.take r) q=[x0,x1,x2,x3,x4,x5,x6,x7]):=hx
 have FX:Hid (fits [x0,x1,x2,x3,x4,x5,x6,x7]):=by rw [← hx];exact digN_fits FT.out q
 clear hx
 go_enter Tryz.func78,Tryz.ntmps78
 go_upto_region 2 with fail
 have bel:Below w.heap.size w w:=Below.refl _ _
 go_cut [4] (fun pv wx=>∃ bv:Nat,pv=.pointer (some ⟨bv,0,none⟩)∧Blk wx bv (us [x0,x1,x2,x3,x4,x5,x6,x7])∧w.heap.size≤bv∧Below w.heap.size w wx)
 case first =>
  obtain ⟨S1,hS1,KL1,KA1,KD1,KS1,KQ1,KN1,KB1,KM1,KR1⟩:=held3 (w0:=w) (W:=w) [] (by intro b X h;simp at h) bel
  clear KS1 KN1 KM1 KR1 bel
  refine wp_region_noPanic ?_
  refine wp_region_held_drew (S:=Hd S1) (by kernel_rfl) (KD1.out _ hS1) (fun hHeld=>?_)
  clear hS1
  generalize World.drew _=wd at *
  refine wpAnyH_take (i:=1) (v:=?_) rfl (by kernel_rfl) (by kernel_rfl) (by kernel_rfl) (fun _ _ _ h=>h) (Or.inl ⟨by rfl,?_⟩) (by assumption) ?_
  rotate_left
  ·intro w hSw
   go_simp
   with_reducible rfl
  try simp only [Act.put,List.setIfInBounds_toArray,List.set_cons_zero,List.set_cons_succ]
  refine wpAnyH_take (i:=2) (v:=?_) rfl (by kernel_rfl) (by kernel_rfl) (by kernel_rfl) (fun _ _ _ h=>h) (Or.inl ⟨by rfl,?_⟩) (by assumption) ?_
  rotate_left
  ·intro w hSw
   go_simp
   with_reducible rfl
  try simp only [Act.put,List.setIfInBounds_toArray,List.set_cons_zero,List.set_cons_succ]
  refine wpAnyH_take (i:=3) (v:=?_) rfl (by kernel_rfl) (by kernel_rfl) (by kernel_rfl) (fun _ _ _ h=>h) (Or.inl ⟨by rfl,?_⟩) (by assumption) ?_
  rotate_left
  ·intro w hSw
   go_simp
   with_reducible rfl
  try simp only [Act.put,List.setIfInBounds_toArray,List.set_cons_zero,List.set_cons_succ]
  refine wpAnyH_ready (rs:=[0,5]) (by kernel_rfl) (by simp) ?_
  refine AllReadyH.cons rfl (fun K hK=>?_) ?_
  ·go_simp
   go_fit (con_BeginT (HKG.out.below (KB1.out _ hHeld)) HT.out)
   rintro e wa ⟨rfl,hb⟩
   refine hK.out _ _ ?_ (fun hHeld2=>?_)
   ·exact KL1.out _ _ hHeld hb
   ·clear hK K hHeld
    have hHeld:=hHeld2
    clear hHeld2
    try simp only [Act.put,List.setIfInBounds_toArray,List.set_cons_zero,List.set_cons_succ]
    clear hb
    refine wpAnyH_ready (rs:=[4,5]) (by kernel_rfl) (by simp) ?_
    refine AllReadyH.cons rfl (fun K hK=>?_) ?_
    ·go_simp
     go_fit (con_stepsL (q:=q) (HKG.out.below (KB1.out _ hHeld)) FT.out (HS1.out.later (KB1.out _ hHeld)) (byt_upto HB.out) HL1.out HX.out)
     rintro e wb ⟨rfl,hb⟩
     refine hK.out _ _ ?_ (fun hHeld2=>?_)
     ·exact KL1.out _ _ hHeld hb
     ·clear hK K hHeld
      have hHeld:=hHeld2
      clear hHeld2
      try simp only [Act.put,List.setIfInBounds_toArray,List.set_cons_zero,List.set_cons_succ]
      clear hb
      refine wpAnyH_ready (rs:=[5]) (by kernel_rfl) (by simp) ?_
      refine AllReadyH.cons rfl (fun K hK=>?_) ?_
      ·have hsv:=(KB1.out _ hHeld).size
       go_simp
       refine hK.out _ _ ?_ (fun hHeld2=>?_)
       ·exact KA1.out _ _ hHeld
       ·clear hK K hHeld
        have hHeld:=hHeld2
        clear hHeld2
        try simp only [Act.put,List.setIfInBounds_toArray,List.set_cons_zero,List.set_cons_succ]
        have BV:=Blk.new wb [.int .u64 0,.int .u64 0,.int .u64 0,.int .u64 0,.int .u64 0,.int .u64 0,.int .u64 0,.int .u64 0] 145 wb.heap.size rfl
        obtain ⟨bv,hbv⟩:∃ b,b=wb.heap.size:=⟨_,rfl⟩
        obtain ⟨wc,hwc⟩:∃ z,z=wb.alloc (Obj.cells #[.int .u64 0,.int .u64 0,.int .u64 0,.int .u64 0,.int .u64 0,.int .u64 0,.int .u64 0,.int .u64 0] 145):=⟨_,rfl⟩
        rw [show (Obj.cells [.int .u64 0,.int .u64 0,.int .u64 0,.int .u64 0,.int .u64 0,.int .u64 0,.int .u64 0,.int .u64 0].toArray 145)=Obj.cells #[.int .u64 0,.int .u64 0,.int .u64 0,.int .u64 0,.int .u64 0,.int .u64 0,.int .u64 0,.int .u64 0] 145 from rfl,← hwc] at BV
        rw [← hwc] at hHeld ⊢
        rw [← hbv] at BV hsv ⊢
        clear hbv hwc
        refine wpAnyH_ready (rs:=[6]) (by kernel_rfl) (by simp) ?_
        refine AllReadyH.cons rfl (fun K hK=>?_) ?_
        ·have lts:=BV.lt
         have e0:=BV.cell 0 _ rfl;have i0:=BV.frozen 0;have e1:=BV.cell 1 _ rfl;have i1:=BV.frozen 1;have e2:=BV.cell 2 _ rfl;have i2:=BV.frozen 2;have e3:=BV.cell 3 _ rfl;have i3:=BV.frozen 3;have e4:=BV.cell 4 _ rfl;have i4:=BV.frozen 4;have e5:=BV.cell 5 _ rfl;have i5:=BV.frozen 5;have e6:=BV.cell 6 _ rfl;have i6:=BV.frozen 6;have e7:=BV.cell 7 _ rfl;have i7:=BV.frozen 7
         go_simp
         refine hK.out _ _ ?_ (fun hHeld2=>?_)
         ·exact (KQ1.out _ _ _ _ (KQ1.out _ _ _ _ (KQ1.out _ _ _ _ (KQ1.out _ _ _ _ (KQ1.out _ _ _ _ (KQ1.out _ _ _ _ (KQ1.out _ _ _ _ (KQ1.out _ _ _ _ hHeld (Or.inr (by intro c X h;simp at h)) hsv) (Or.inr (by intro c X h;simp at h)) hsv) (Or.inr (by intro c X h;simp at h)) hsv) (Or.inr (by intro c X h;simp at h)) hsv) (Or.inr (by intro c X h;simp at h)) hsv) (Or.inr (by intro c X h;simp at h)) hsv) (Or.inr (by intro c X h;simp at h)) hsv) (Or.inr (by intro c X h;simp at h)) hsv)
         ·clear hK K hHeld
          have hHeld:=hHeld2
          clear hHeld2
          try simp only [Act.put,List.setIfInBounds_toArray,List.set_cons_zero,List.set_cons_succ]
          clear lts e0 i0 e1 i1 e2 i2 e3 i3 e4 i4 e5 i5 e6 i6 e7 i7
          replace BV:=BV.on_put8 hHeld
          refine wpAnyH_done (by kernel_rfl) ?_ _
          refine NoPanic.normal ?_
          have bel:=KB1.out _ hHeld
          go_wp2_with fail
          go_meet
          exact ⟨bv,rfl,BV,hsv,bel⟩
        exact AllReadyH.nil
      exact AllReadyH.nil
    refine AllReadyH.cons rfl (fun K hK=>?_) ?_
    ·have hsv:=(KB1.out _ hHeld).size
     go_simp
     refine hK.out _ _ ?_ (fun hHeld2=>?_)
     ·exact KA1.out _ _ hHeld
     ·clear hK K hHeld
      have hHeld:=hHeld2
      clear hHeld2
      try simp only [Act.put,List.setIfInBounds_toArray,List.set_cons_zero,List.set_cons_succ]
      have BV:=Blk.new wa [.int .u64 0,.int .u64 0,.int .u64 0,.int .u64 0,.int .u64 0,.int .u64 0,.int .u64 0,.int .u64 0] 145 wa.heap.size rfl
      obtain ⟨bv,hbv⟩:∃ b,b=wa.heap.size:=⟨_,rfl⟩
      obtain ⟨wc,hwc⟩:∃ z,z=wa.alloc (Obj.cells #[.int .u64 0,.int .u64 0,.int .u64 0,.int .u64 0,.int .u64 0,.int .u64 0,.int .u64 0,.int .u64 0] 145):=⟨_,rfl⟩
      rw [show (Obj.cells [.int .u64 0,.int .u64 0,.int .u64 0,.int .u64 0,.int .u64 0,.int .u64 0,.int .u64 0,.int .u64 0].toArray 145)=Obj.cells #[.int .u64 0,.int .u64 0,.int .u64 0,.int .u64 0,.int .u64 0,.int .u64 0,.int .u64 0,.int .u64 0] 145 from rfl,← hwc] at BV
      rw [← hwc] at hHeld ⊢
      rw [← hbv] at BV hsv ⊢
      clear hbv hwc
      refine wpAnyH_ready (rs:=[4]) (by kernel_rfl) (by simp) ?_
      refine AllReadyH.cons rfl (fun K hK=>?_) ?_
      ·go_simp
       go_fit (con_stepsL (q:=q) (HKG.out.below (KB1.out _ hHeld)) FT.out (HS1.out.later (KB1.out _ hHeld)) (byt_upto HB.out) HL1.out HX.out)
       rintro e wb ⟨rfl,hb⟩
       refine hK.out _ _ ?_ (fun hHeld2=>?_)
       ·exact KL1.out _ _ hHeld hb
       ·clear hK K hHeld
        have hHeld:=hHeld2
        clear hHeld2
        try simp only [Act.put,List.setIfInBounds_toArray,List.set_cons_zero,List.set_cons_succ]
        replace BV:=BV.later hb
        clear hb
        refine wpAnyH_ready (rs:=[6]) (by kernel_rfl) (by simp) ?_
        refine AllReadyH.cons rfl (fun K hK=>?_) ?_
        ·have lts:=BV.lt
         have e0:=BV.cell 0 _ rfl;have i0:=BV.frozen 0;have e1:=BV.cell 1 _ rfl;have i1:=BV.frozen 1;have e2:=BV.cell 2 _ rfl;have i2:=BV.frozen 2;have e3:=BV.cell 3 _ rfl;have i3:=BV.frozen 3;have e4:=BV.cell 4 _ rfl;have i4:=BV.frozen 4;have e5:=BV.cell 5 _ rfl;have i5:=BV.frozen 5;have e6:=BV.cell 6 _ rfl;have i6:=BV.frozen 6;have e7:=BV.cell 7 _ rfl;have i7:=BV.frozen 7
         go_simp
         refine hK.out _ _ ?_ (fun hHeld2=>?_)
         ·exact (KQ1.out _ _ _ _ (KQ1.out _ _ _ _ (KQ1.out _ _ _ _ (KQ1.out _ _ _ _ (KQ1.out _ _ _ _ (KQ1.out _ _ _ _ (KQ1.out _ _ _ _ (KQ1.out _ _ _ _ hHeld (Or.inr (by intro c X h;simp at h)) hsv) (Or.inr (by intro c X h;simp at h)) hsv) (Or.inr (by intro c X h;simp at h)) hsv) (Or.inr (by intro c X h;simp at h)) hsv) (Or.inr (by intro c X h;simp at h)) hsv) (Or.inr (by intro c X h;simp at h)) hsv) (Or.inr (by intro c X h;simp at h)) hsv) (Or.inr (by intro c X h;simp at h)) hsv)
         ·clear hK K hHeld
          have hHeld:=hHeld2
          clear hHeld2
          try simp only [Act.put,List.setIfInBounds_toArray,List.set_cons_zero,List.set_cons_succ]
          clear lts e0 i0 e1 i1 e2 i2 e3 i3 e4 i4 e5 i5 e6 i6 e7 i7
          replace BV:=BV.on_put8 hHeld
          refine wpAnyH_done (by kernel_rfl) ?_ _
          refine NoPanic.normal ?_
          have bel:=KB1.out _ hHeld
          go_wp2_with fail
          go_meet
          exact ⟨bv,rfl,BV,hsv,bel⟩
        exact AllReadyH.nil
      exact AllReadyH.nil
    exact AllReadyH.nil
  refine AllReadyH.cons rfl (fun K hK=>?_) ?_
  ·have hsv:=(KB1.out _ hHeld).size
   go_simp
   refine hK.out _ _ ?_ (fun hHeld2=>?_)
   ·exact KA1.out _ _ hHeld
   ·clear hK K hHeld
    have hHeld:=hHeld2
    clear hHeld2
    try simp only [Act.put,List.setIfInBounds_toArray,List.set_cons_zero,List.set_cons_succ]
    have BV:=Blk.new wd [.int .u64 0,.int .u64 0,.int .u64 0,.int .u64 0,.int .u64 0,.int .u64 0,.int .u64 0,.int .u64 0] 145 wd.heap.size rfl
    obtain ⟨bv,hbv⟩:∃ b,b=wd.heap.size:=⟨_,rfl⟩
    obtain ⟨wc,hwc⟩:∃ z,z=wd.alloc (Obj.cells #[.int .u64 0,.int .u64 0,.int .u64 0,.int .u64 0,.int .u64 0,.int .u64 0,.int .u64 0,.int .u64 0] 145):=⟨_,rfl⟩
    rw [show (Obj.cells [.int .u64 0,.int .u64 0,.int .u64 0,.int .u64 0,.int .u64 0,.int .u64 0,.int .u64 0,.int .u64 0].toArray 145)=Obj.cells #[.int .u64 0,.int .u64 0,.int .u64 0,.int .u64 0,.int .u64 0,.int .u64 0,.int .u64 0,.int .u64 0] 145 from rfl,← hwc] at BV
    rw [← hwc] at hHeld ⊢
    rw [← hbv] at BV hsv ⊢
    clear hbv hwc
    refine wpAnyH_ready (rs:=[0]) (by kernel_rfl) (by simp) ?_
    refine AllReadyH.cons rfl (fun K hK=>?_) ?_
    ·go_simp
     go_fit (con_BeginT (HKG.out.below (KB1.out _ hHeld)) HT.out)
     rintro e wa ⟨rfl,hb⟩
     refine hK.out _ _ ?_ (fun hHeld2=>?_)
     ·exact KL1.out _ _ hHeld hb
     ·clear hK K hHeld
      have hHeld:=hHeld2
      clear hHeld2
      try simp only [Act.put,List.setIfInBounds_toArray,List.set_cons_zero,List.set_cons_succ]
      replace BV:=BV.later hb
      clear hb
      refine wpAnyH_ready (rs:=[4]) (by kernel_rfl) (by simp) ?_
      refine AllReadyH.cons rfl (fun K hK=>?_) ?_
      ·go_simp
       go_fit (con_stepsL (q:=q) (HKG.out.below (KB1.out _ hHeld)) FT.out (HS1.out.later (KB1.out _ hHeld)) (byt_upto HB.out) HL1.out HX.out)
       rintro e wb ⟨rfl,hb⟩
       refine hK.out _ _ ?_ (fun hHeld2=>?_)
       ·exact KL1.out _ _ hHeld hb
       ·clear hK K hHeld
        have hHeld:=hHeld2
        clear hHeld2
        try simp only [Act.put,List.setIfInBounds_toArray,List.set_cons_zero,List.set_cons_succ]
        replace BV:=BV.later hb
        clear hb
        refine wpAnyH_ready (rs:=[6]) (by kernel_rfl) (by simp) ?_
        refine AllReadyH.cons rfl (fun K hK=>?_) ?_
        ·have lts:=BV.lt
         have e0:=BV.cell 0 _ rfl;have i0:=BV.frozen 0;have e1:=BV.cell 1 _ rfl;have i1:=BV.frozen 1;have e2:=BV.cell 2 _ rfl;have i2:=BV.frozen 2;have e3:=BV.cell 3 _ rfl;have i3:=BV.frozen 3;have e4:=BV.cell 4 _ rfl;have i4:=BV.frozen 4;have e5:=BV.cell 5 _ rfl;have i5:=BV.frozen 5;have e6:=BV.cell 6 _ rfl;have i6:=BV.frozen 6;have e7:=BV.cell 7 _ rfl;have i7:=BV.frozen 7
         go_simp
         refine hK.out _ _ ?_ (fun hHeld2=>?_)
         ·exact (KQ1.out _ _ _ _ (KQ1.out _ _ _ _ (KQ1.out _ _ _ _ (KQ1.out _ _ _ _ (KQ1.out _ _ _ _ (KQ1.out _ _ _ _ (KQ1.out _ _ _ _ (KQ1.out _ _ _ _ hHeld (Or.inr (by intro c X h;simp at h)) hsv) (Or.inr (by intro c X h;simp at h)) hsv) (Or.inr (by intro c X h;simp at h)) hsv) (Or.inr (by intro c X h;simp at h)) hsv) (Or.inr (by intro c X h;simp at h)) hsv) (Or.inr (by intro c X h;simp at h)) hsv) (Or.inr (by intro c X h;simp at h)) hsv) (Or.inr (by intro c X h;simp at h)) hsv)
         ·clear hK K hHeld
          have hHeld:=hHeld2
          clear hHeld2
          try simp only [Act.put,List.setIfInBounds_toArray,List.set_cons_zero,List.set_cons_succ]
          clear lts e0 i0 e1 i1 e2 i2 e3 i3 e4 i4 e5 i5 e6 i6 e7 i7
          replace BV:=BV.on_put8 hHeld
          refine wpAnyH_done (by kernel_rfl) ?_ _
          refine NoPanic.normal ?_
          have bel:=KB1.out _ hHeld
          go_wp2_with fail
          go_meet
          exact ⟨bv,rfl,BV,hsv,bel⟩
        exact AllReadyH.nil
      exact AllReadyH.nil
    exact AllReadyH.nil
  exact AllReadyH.nil
 case rest =>
  clear bel
  obtain ⟨bv,rfl,BV,hsv,bel⟩:=hcut
  clear w1 tm1 FT HS1
  go_upto_region 3 with fail
  go_cut [27] (fun _ wx=>SumMid KS [x0,x1,x2,x3,x4,x5,x6,x7] B n r wx bv∧Below w.heap.size w wx)
  case first =>
   simp only [us,List.map_cons,List.map_nil] at BV
   obtain ⟨S1,hS1,KL1,KA1,KD1,KS1,KQ1,KN1,KB1,KM1,KR1⟩:=held3 (w0:=w) (W:=_) [] (by intro b X h;simp at h) bel
   clear KS1 KN1 KM1 KR1 bel
   have ha3:=ha2.out
   have nrc:n≤cap:=q2
   refine wp_region_noPanic ?_
   refine wp_region_held_drew (S:=Hd S1) (by kernel_rfl) (KD1.out _ hS1) (fun hHeld=>?_)
   clear hS1
   replace BV:=BV.drew
   generalize World.drew _=wd at *
   refine wpAnyH_take (i:=1) (v:=?_) rfl (by kernel_rfl) (by kernel_rfl) (by kernel_rfl) (fun _ _ _ h=>h) (Or.inl ⟨by rfl,?_⟩) (by assumption) ?_
   rotate_left
   ·intro w hSw
    go_simp
    with_reducible rfl
   try simp only [Act.put,List.setIfInBounds_toArray,List.set_cons_zero,List.set_cons_succ]
   refine wpAnyH_take (i:=2) (v:=?_) rfl (by kernel_rfl) (by kernel_rfl) (by kernel_rfl) (fun _ _ _ h=>h) (Or.inl ⟨by rfl,?_⟩) (by assumption) ?_
   rotate_left
   ·intro w hSw
    go_simp
    with_reducible rfl
   try simp only [Act.put,List.setIfInBounds_toArray,List.set_cons_zero,List.set_cons_succ]
   refine wpAnyH_take (i:=3) (v:=?_) rfl (by kernel_rfl) (by kernel_rfl) (by kernel_rfl) (fun _ _ _ h=>h) (Or.inl ⟨by rfl,?_⟩) (by assumption) ?_
   rotate_left
   ·intro w hSw
    go_simp
    with_reducible rfl
   try simp only [Act.put,List.setIfInBounds_toArray,List.set_cons_zero,List.set_cons_succ]
   refine wpAnyH_take (i:=4) (v:=?_) rfl (by kernel_rfl) (by kernel_rfl) (by kernel_rfl) (fun _ _ _ h=>h) (Or.inl ⟨by rfl,?_⟩) (by assumption) ?_
   rotate_left
   ·intro w hSw
    go_simp
    with_reducible rfl
   try simp only [Act.put,List.setIfInBounds_toArray,List.set_cons_zero,List.set_cons_succ]
   refine wpAnyH_take (i:=5) (v:=?_) rfl (by kernel_rfl) (by kernel_rfl) (by kernel_rfl) (fun _ _ _ h=>h) (Or.inl ⟨by rfl,?_⟩) (by assumption) ?_
   rotate_left
   ·intro w hSw
    go_simp
    with_reducible rfl
   try simp only [Act.put,List.setIfInBounds_toArray,List.set_cons_zero,List.set_cons_succ]
   refine wpAnyH_ready (rs:=[0,6]) (by kernel_rfl) (by simp) ?_
   refine AllReadyH.cons rfl (fun K hK=>?_) ?_
   ·have lts:=BV.lt
    have e0:=BV.cell 0 _ rfl;have i0:=BV.frozen 0;have e1:=BV.cell 1 _ rfl;have i1:=BV.frozen 1;have e2:=BV.cell 2 _ rfl;have i2:=BV.frozen 2;have e3:=BV.cell 3 _ rfl;have i3:=BV.frozen 3;have e4:=BV.cell 4 _ rfl;have i4:=BV.frozen 4;have e5:=BV.cell 5 _ rfl;have i5:=BV.frozen 5;have e6:=BV.cell 6 _ rfl;have i6:=BV.frozen 6;have e7:=BV.cell 7 _ rfl;have i7:=BV.frozen 7
    go_simp
    refine hK.out _ _ ?_ (fun hHeld2=>?_)
    ·exact hHeld
    ·clear hK K hHeld
     have hHeld:=hHeld2
     clear hHeld2
     try simp only [Act.put,List.setIfInBounds_toArray,List.set_cons_zero,List.set_cons_succ]
     clear lts e0 i0 e1 i1 e2 i2 e3 i3 e4 i4 e5 i5 e6 i6 e7 i7
     refine wpAnyH_ready (rs:=[6]) (by kernel_rfl) (by simp) ?_
     refine AllReadyH.cons rfl (fun K hK=>?_) ?_
     ·go_simp
      go_fit (con_padding (n:=n) l)
      rintro e wa ⟨g,pq,P,rfl,hP,hl,BP,hg,hb⟩
      refine hK.out _ _ ?_ (fun hHeld2=>?_)
      ·exact KL1.out _ _ hHeld hb
      ·clear hK K hHeld
       have hHeld:=hHeld2
       clear hHeld2
       try simp only [Act.put,List.setIfInBounds_toArray,List.set_cons_zero,List.set_cons_succ]
       replace BV:=BV.later hb
       have HP:Hid (PadIs n P):=hP
       have HPl:Hid (P.length=pq):=hl
       have HPp:Hid (pq≤145∧0 < pq):=by rw [← hl];exact pad_small hP
       obtain ⟨k2,hq2⟩:∃ z,(B.drop r++P).length / 128=z:=⟨_,rfl⟩
       have HQ2:Hid _:=hq2
       have HM2:Hid ((B.drop r++P).length=128 * k2):=by rw [← hq2];exact pad_whole hP HL2.out HQ.out rn
       obtain ⟨y0,y1,y2,y3,y4,y5,y6,y7,hy⟩:=eight (digN_len (K:=KS) (H:=[x0,x1,x2,x3,x4,x5,x6,x7]) (M:=B.drop r++P) rfl k2)
       have HY:Hid (digN KS [x0,x1,x2,x3,x4,x5,x6,x7] (B.drop r++P) k2=[y0,y1,y2,y3,y4,y5,y6,y7]):=hy
       clear hP hl hb hg hq2 hy
       refine wpAnyH_ready (rs:=[7]) (by kernel_rfl) (by simp) ?_
       refine AllReadyH.cons rfl (fun K hK=>?_) ?_
       ·go_simp
        refine hK.out _ _ ?_ (fun hHeld2=>?_)
        ·exact KA1.out _ _ hHeld
        ·clear hK K hHeld
         have hHeld:=hHeld2
         clear hHeld2
         try simp only [Act.put,List.setIfInBounds_toArray,List.set_cons_zero,List.set_cons_succ]
         have BK:=Blk.new wa [.slice a2 (n - r) (cap - r),.slice (some ⟨g,0,none⟩) pq pq] 27 wa.heap.size rfl
         replace BP:=BP.alloc (.cells #[.slice a2 (n - r) (cap - r),.slice (some ⟨g,0,none⟩) pq pq] 27)
         replace BV:=BV.alloc (.cells #[.slice a2 (n - r) (cap - r),.slice (some ⟨g,0,none⟩) pq pq] 27)
         obtain ⟨gk,hgk⟩:∃ b,b=wa.heap.size:=⟨_,rfl⟩
         obtain ⟨wc,hwc⟩:∃ z,z=wa.alloc (Obj.cells #[.slice a2 (n - r) (cap - r),.slice (some ⟨g,0,none⟩) pq pq] 27):=⟨_,rfl⟩
         rw [show (Obj.cells [.slice a2 (n - r) (cap - r),.slice (some ⟨g,0,none⟩) pq pq].toArray 27)=Obj.cells #[.slice a2 (n - r) (cap - r),.slice (some ⟨g,0,none⟩) pq pq] 27 from rfl,← hwc] at BK
         rw [← hwc] at hHeld BP BV ⊢
         rw [← hgk] at BK ⊢
         clear hgk hwc
         refine wpAnyH_ready (rs:=[8]) (by kernel_rfl) (by simp) ?_
         refine AllReadyH.cons rfl (fun K hK=>?_) ?_
         ·go_simp
          go_fit (con_concat BK (HS2.out.later (KB1.out _ hHeld)) (bs_blk BP HPl.out (by have:=HPp.out.1;unfold maxLen;omega)) (by rw [HPl.out];exact HPp.out.2) (by rw [HPl.out,HL2.out];have:=HPp.out.1;omega))
          rintro e wb ⟨v3,rfl,hown,hb⟩
          refine hK.out _ _ ?_ (fun hHeld2=>?_)
          ·exact KL1.out _ _ hHeld hb
          ·clear hK K hHeld
           have hHeld:=hHeld2
           clear hHeld2
           try simp only [Act.put,List.setIfInBounds_toArray,List.set_cons_zero,List.set_cons_succ]
           replace BV:=BV.later hb
           have HM:Hid (Bs wb v3 (B.drop r++P)):=Bs.of_own hown
           clear hown hb BK BP
           refine wpAnyH_ready (rs:=[9]) (by kernel_rfl) (by simp) ?_
           refine AllReadyH.cons rfl (fun K hK=>?_) ?_
           ·go_simp
            go_fit (con_stepsL (q:=k2) (HKG.out.below (KB1.out _ hHeld)) FX.out HM.out (byt_app (byt_dropS HB.out) HP.out.byt) HM2.out HY.out)
            rintro e wf ⟨rfl,hb⟩
            refine hK.out _ _ ?_ (fun hHeld2=>?_)
            ·exact KL1.out _ _ hHeld hb
            ·clear hK K hHeld
             have hHeld:=hHeld2
             clear hHeld2
             try simp only [Act.put,List.setIfInBounds_toArray,List.set_cons_zero,List.set_cons_succ]
             replace BV:=BV.later hb
             clear hb
             refine wpAnyH_ready (rs:=[10]) (by kernel_rfl) (by simp) ?_
             refine AllReadyH.cons rfl (fun K hK=>?_) ?_
             ·have lts:=BV.lt
              have e0:=BV.cell 0 _ rfl;have i0:=BV.frozen 0;have e1:=BV.cell 1 _ rfl;have i1:=BV.frozen 1;have e2:=BV.cell 2 _ rfl;have i2:=BV.frozen 2;have e3:=BV.cell 3 _ rfl;have i3:=BV.frozen 3;have e4:=BV.cell 4 _ rfl;have i4:=BV.frozen 4;have e5:=BV.cell 5 _ rfl;have i5:=BV.frozen 5;have e6:=BV.cell 6 _ rfl;have i6:=BV.frozen 6;have e7:=BV.cell 7 _ rfl;have i7:=BV.frozen 7
              go_simp
              refine hK.out _ _ ?_ (fun hHeld2=>?_)
              ·exact (KQ1.out _ _ _ _ (KQ1.out _ _ _ _ (KQ1.out _ _ _ _ (KQ1.out _ _ _ _ (KQ1.out _ _ _ _ (KQ1.out _ _ _ _ (KQ1.out _ _ _ _ (KQ1.out _ _ _ _ hHeld (Or.inr (by intro c X h;simp at h)) hsv) (Or.inr (by intro c X h;simp at h)) hsv) (Or.inr (by intro c X h;simp at h)) hsv) (Or.inr (by intro c X h;simp at h)) hsv) (Or.inr (by intro c X h;simp at h)) hsv) (Or.inr (by intro c X h;simp at h)) hsv) (Or.inr (by intro c X h;simp at h)) hsv) (Or.inr (by intro c X h;simp at h)) hsv)
              ·clear hK K hHeld
               have hHeld:=hHeld2
               clear hHeld2
               try simp only [Act.put,List.setIfInBounds_toArray,List.set_cons_zero,List.set_cons_succ]
               clear lts e0 i0 e1 i1 e2 i2 e3 i3 e4 i4 e5 i5 e6 i6 e7 i7
               replace BV:=BV.on_put8 hHeld
               refine wpAnyH_done (by kernel_rfl) ?_ _
               refine NoPanic.normal ?_
               have bel:=KB1.out _ hHeld
               go_wp2_with fail
               go_meet
               exact ⟨⟨P,[y0,y1,y2,y3,y4,y5,y6,y7],HP.out,by rw [HQ2.out,HY.out],BV⟩,bel⟩
             exact AllReadyH.nil
           exact AllReadyH.nil
         exact AllReadyH.nil
       exact AllReadyH.nil
     exact AllReadyH.nil
   refine AllReadyH.cons rfl (fun K hK=>?_) ?_
   ·go_simp
    go_fit (con_padding (n:=n) l)
    rintro e wa ⟨g,pq,P,rfl,hP,hl,BP,hg,hb⟩
    refine hK.out _ _ ?_ (fun hHeld2=>?_)
    ·exact KL1.out _ _ hHeld hb
    ·clear hK K hHeld
     have hHeld:=hHeld2
     clear hHeld2
     try simp only [Act.put,List.setIfInBounds_toArray,List.set_cons_zero,List.set_cons_succ]
     replace BV:=BV.later hb
     have HP:Hid (PadIs n P):=hP
     have HPl:Hid (P.length=pq):=hl
     have HPp:Hid (pq≤145∧0 < pq):=by rw [← hl];exact pad_small hP
     obtain ⟨k2,hq2⟩:∃ z,(B.drop r++P).length / 128=z:=⟨_,rfl⟩
     have HQ2:Hid _:=hq2
     have HM2:Hid ((B.drop r++P).length=128 * k2):=by rw [← hq2];exact pad_whole hP HL2.out HQ.out rn
     obtain ⟨y0,y1,y2,y3,y4,y5,y6,y7,hy⟩:=eight (digN_len (K:=KS) (H:=[x0,x1,x2,x3,x4,x5,x6,x7]) (M:=B.drop r++P) rfl k2)
     have HY:Hid (digN KS [x0,x1,x2,x3,x4,x5,x6,x7] (B.drop r++P) k2=[y0,y1,y2,y3,y4,y5,y6,y7]):=hy
     clear hP hl hb hg hq2 hy
     refine wpAnyH_ready (rs:=[0,7]) (by kernel_rfl) (by simp) ?_
     refine AllReadyH.cons rfl (fun K hK=>?_) ?_
     ·have lts:=BV.lt
      have e0:=BV.cell 0 _ rfl;have i0:=BV.frozen 0;have e1:=BV.cell 1 _ rfl;have i1:=BV.frozen 1;have e2:=BV.cell 2 _ rfl;have i2:=BV.frozen 2;have e3:=BV.cell 3 _ rfl;have i3:=BV.frozen 3;have e4:=BV.cell 4 _ rfl;have i4:=BV.frozen 4;have e5:=BV.cell 5 _ rfl;have i5:=BV.frozen 5;have e6:=BV.cell 6 _ rfl;have i6:=BV.frozen 6;have e7:=BV.cell 7 _ rfl;have i7:=BV.frozen 7
      go_simp
      refine hK.out _ _ ?_ (fun hHeld2=>?_)
      ·exact hHeld
      ·clear hK K hHeld
       have hHeld:=hHeld2
       clear hHeld2
       try simp only [Act.put,List.setIfInBounds_toArray,List.set_cons_zero,List.set_cons_succ]
       clear lts e0 i0 e1 i1 e2 i2 e3 i3 e4 i4 e5 i5 e6 i6 e7 i7
       refine wpAnyH_ready (rs:=[7]) (by kernel_rfl) (by simp) ?_
       refine AllReadyH.cons rfl (fun K hK=>?_) ?_
       ·go_simp
        refine hK.out _ _ ?_ (fun hHeld2=>?_)
        ·exact KA1.out _ _ hHeld
        ·clear hK K hHeld
         have hHeld:=hHeld2
         clear hHeld2
         try simp only [Act.put,List.setIfInBounds_toArray,List.set_cons_zero,List.set_cons_succ]
         have BK:=Blk.new wa [.slice a2 (n - r) (cap - r),.slice (some ⟨g,0,none⟩) pq pq] 27 wa.heap.size rfl
         replace BP:=BP.alloc (.cells #[.slice a2 (n - r) (cap - r),.slice (some ⟨g,0,none⟩) pq pq] 27)
         replace BV:=BV.alloc (.cells #[.slice a2 (n - r) (cap - r),.slice (some ⟨g,0,none⟩) pq pq] 27)
         obtain ⟨gk,hgk⟩:∃ b,b=wa.heap.size:=⟨_,rfl⟩
         obtain ⟨wc,hwc⟩:∃ z,z=wa.alloc (Obj.cells #[.slice a2 (n - r) (cap - r),.slice (some ⟨g,0,none⟩) pq pq] 27):=⟨_,rfl⟩
         rw [show (Obj.cells [.slice a2 (n - r) (cap - r),.slice (some ⟨g,0,none⟩) pq pq].toArray 27)=Obj.cells #[.slice a2 (n - r) (cap - r),.slice (some ⟨g,0,none⟩) pq pq] 27 from rfl,← hwc] at BK
         rw [← hwc] at hHeld BP BV ⊢
         rw [← hgk] at BK ⊢
         clear hgk hwc
         refine wpAnyH_ready (rs:=[8]) (by kernel_rfl) (by simp) ?_
         refine AllReadyH.cons rfl (fun K hK=>?_) ?_
         ·go_simp
          go_fit (con_concat BK (HS2.out.later (KB1.out _ hHeld)) (bs_blk BP HPl.out (by have:=HPp.out.1;unfold maxLen;omega)) (by rw [HPl.out];exact HPp.out.2) (by rw [HPl.out,HL2.out];have:=HPp.out.1;omega))
          rintro e wb ⟨v3,rfl,hown,hb⟩
          refine hK.out _ _ ?_ (fun hHeld2=>?_)
          ·exact KL1.out _ _ hHeld hb
          ·clear hK K hHeld
           have hHeld:=hHeld2
           clear hHeld2
           try simp only [Act.put,List.setIfInBounds_toArray,List.set_cons_zero,List.set_cons_succ]
           replace BV:=BV.later hb
           have HM:Hid (Bs wb v3 (B.drop r++P)):=Bs.of_own hown
           clear hown hb BK BP
           refine wpAnyH_ready (rs:=[9]) (by kernel_rfl) (by simp) ?_
           refine AllReadyH.cons rfl (fun K hK=>?_) ?_
           ·go_simp
            go_fit (con_stepsL (q:=k2) (HKG.out.below (KB1.out _ hHeld)) FX.out HM.out (byt_app (byt_dropS HB.out) HP.out.byt) HM2.out HY.out)
            rintro e wf ⟨rfl,hb⟩
            refine hK.out _ _ ?_ (fun hHeld2=>?_)
            ·exact KL1.out _ _ hHeld hb
            ·clear hK K hHeld
             have hHeld:=hHeld2
             clear hHeld2
             try simp only [Act.put,List.setIfInBounds_toArray,List.set_cons_zero,List.set_cons_succ]
             replace BV:=BV.later hb
             clear hb
             refine wpAnyH_ready (rs:=[10]) (by kernel_rfl) (by simp) ?_
             refine AllReadyH.cons rfl (fun K hK=>?_) ?_
             ·have lts:=BV.lt
              have e0:=BV.cell 0 _ rfl;have i0:=BV.frozen 0;have e1:=BV.cell 1 _ rfl;have i1:=BV.frozen 1;have e2:=BV.cell 2 _ rfl;have i2:=BV.frozen 2;have e3:=BV.cell 3 _ rfl;have i3:=BV.frozen 3;have e4:=BV.cell 4 _ rfl;have i4:=BV.frozen 4;have e5:=BV.cell 5 _ rfl;have i5:=BV.frozen 5;have e6:=BV.cell 6 _ rfl;have i6:=BV.frozen 6;have e7:=BV.cell 7 _ rfl;have i7:=BV.frozen 7
              go_simp
              refine hK.out _ _ ?_ (fun hHeld2=>?_)
              ·exact (KQ1.out _ _ _ _ (KQ1.out _ _ _ _ (KQ1.out _ _ _ _ (KQ1.out _ _ _ _ (KQ1.out _ _ _ _ (KQ1.out _ _ _ _ (KQ1.out _ _ _ _ (KQ1.out _ _ _ _ hHeld (Or.inr (by intro c X h;simp at h)) hsv) (Or.inr (by intro c X h;simp at h)) hsv) (Or.inr (by intro c X h;simp at h)) hsv) (Or.inr (by intro c X h;simp at h)) hsv) (Or.inr (by intro c X h;simp at h)) hsv) (Or.inr (by intro c X h;simp at h)) hsv) (Or.inr (by intro c X h;simp at h)) hsv) (Or.inr (by intro c X h;simp at h)) hsv)
              ·clear hK K hHeld
               have hHeld:=hHeld2
               clear hHeld2
               try simp only [Act.put,List.setIfInBounds_toArray,List.set_cons_zero,List.set_cons_succ]
               clear lts e0 i0 e1 i1 e2 i2 e3 i3 e4 i4 e5 i5 e6 i6 e7 i7
               replace BV:=BV.on_put8 hHeld
               refine wpAnyH_done (by kernel_rfl) ?_ _
               refine NoPanic.normal ?_
               have bel:=KB1.out _ hHeld
               go_wp2_with fail
               go_meet
               exact ⟨⟨P,[y0,y1,y2,y3,y4,y5,y6,y7],HP.out,by rw [HQ2.out,HY.out],BV⟩,bel⟩
             exact AllReadyH.nil
           exact AllReadyH.nil
         exact AllReadyH.nil
       exact AllReadyH.nil
     refine AllReadyH.cons rfl (fun K hK=>?_) ?_
     ·go_simp
      refine hK.out _ _ ?_ (fun hHeld2=>?_)
      ·exact KA1.out _ _ hHeld
      ·clear hK K hHeld
       have hHeld:=hHeld2
       clear hHeld2
       try simp only [Act.put,List.setIfInBounds_toArray,List.set_cons_zero,List.set_cons_succ]
       have BK:=Blk.new wa [.slice a2 (n - r) (cap - r),.slice (some ⟨g,0,none⟩) pq pq] 27 wa.heap.size rfl
       replace BP:=BP.alloc (.cells #[.slice a2 (n - r) (cap - r),.slice (some ⟨g,0,none⟩) pq pq] 27)
       replace BV:=BV.alloc (.cells #[.slice a2 (n - r) (cap - r),.slice (some ⟨g,0,none⟩) pq pq] 27)
       obtain ⟨gk,hgk⟩:∃ b,b=wa.heap.size:=⟨_,rfl⟩
       obtain ⟨wc,hwc⟩:∃ z,z=wa.alloc (Obj.cells #[.slice a2 (n - r) (cap - r),.slice (some ⟨g,0,none⟩) pq pq] 27):=⟨_,rfl⟩
       rw [show (Obj.cells [.slice a2 (n - r) (cap - r),.slice (some ⟨g,0,none⟩) pq pq].toArray 27)=Obj.cells #[.slice a2 (n - r) (cap - r),.slice (some ⟨g,0,none⟩) pq pq] 27 from rfl,← hwc] at BK
       rw [← hwc] at hHeld BP BV ⊢
       rw [← hgk] at BK ⊢
       clear hgk hwc
       refine wpAnyH_ready (rs:=[0,8]) (by kernel_rfl) (by simp) ?_
       refine AllReadyH.cons rfl (fun K hK=>?_) ?_
       ·have lts:=BV.lt
        have e0:=BV.cell 0 _ rfl;have i0:=BV.frozen 0;have e1:=BV.cell 1 _ rfl;have i1:=BV.frozen 1;have e2:=BV.cell 2 _ rfl;have i2:=BV.frozen 2;have e3:=BV.cell 3 _ rfl;have i3:=BV.frozen 3;have e4:=BV.cell 4 _ rfl;have i4:=BV.frozen 4;have e5:=BV.cell 5 _ rfl;have i5:=BV.frozen 5;have e6:=BV.cell 6 _ rfl;have i6:=BV.frozen 6;have e7:=BV.cell 7 _ rfl;have i7:=BV.frozen 7
        go_simp
        refine hK.out _ _ ?_ (fun hHeld2=>?_)
        ·exact hHeld
        ·clear hK K hHeld
         have hHeld:=hHeld2
         clear hHeld2
         try simp only [Act.put,List.setIfInBounds_toArray,List.set_cons_zero,List.set_cons_succ]
         clear lts e0 i0 e1 i1 e2 i2 e3 i3 e4 i4 e5 i5 e6 i6 e7 i7
         refine wpAnyH_ready (rs:=[8]) (by kernel_rfl) (by simp) ?_
         refine AllReadyH.cons rfl (fun K hK=>?_) ?_
         ·go_simp
          go_fit (con_concat BK (HS2.out.later (KB1.out _ hHeld)) (bs_blk BP HPl.out (by have:=HPp.out.1;unfold maxLen;omega)) (by rw [HPl.out];exact HPp.out.2) (by rw [HPl.out,HL2.out];have:=HPp.out.1;omega))
          rintro e wb ⟨v3,rfl,hown,hb⟩
          refine hK.out _ _ ?_ (fun hHeld2=>?_)
          ·exact KL1.out _ _ hHeld hb
          ·clear hK K hHeld
           have hHeld:=hHeld2
           clear hHeld2
           try simp only [Act.put,List.setIfInBounds_toArray,List.set_cons_zero,List.set_cons_succ]
           replace BV:=BV.later hb
           have HM:Hid (Bs wb v3 (B.drop r++P)):=Bs.of_own hown
           clear hown hb BK BP
           refine wpAnyH_ready (rs:=[9]) (by kernel_rfl) (by simp) ?_
           refine AllReadyH.cons rfl (fun K hK=>?_) ?_
           ·go_simp
            go_fit (con_stepsL (q:=k2) (HKG.out.below (KB1.out _ hHeld)) FX.out HM.out (byt_app (byt_dropS HB.out) HP.out.byt) HM2.out HY.out)
            rintro e wf ⟨rfl,hb⟩
            refine hK.out _ _ ?_ (fun hHeld2=>?_)
            ·exact KL1.out _ _ hHeld hb
            ·clear hK K hHeld
             have hHeld:=hHeld2
             clear hHeld2
             try simp only [Act.put,List.setIfInBounds_toArray,List.set_cons_zero,List.set_cons_succ]
             replace BV:=BV.later hb
             clear hb
             refine wpAnyH_ready (rs:=[10]) (by kernel_rfl) (by simp) ?_
             refine AllReadyH.cons rfl (fun K hK=>?_) ?_
             ·have lts:=BV.lt
              have e0:=BV.cell 0 _ rfl;have i0:=BV.frozen 0;have e1:=BV.cell 1 _ rfl;have i1:=BV.frozen 1;have e2:=BV.cell 2 _ rfl;have i2:=BV.frozen 2;have e3:=BV.cell 3 _ rfl;have i3:=BV.frozen 3;have e4:=BV.cell 4 _ rfl;have i4:=BV.frozen 4;have e5:=BV.cell 5 _ rfl;have i5:=BV.frozen 5;have e6:=BV.cell 6 _ rfl;have i6:=BV.frozen 6;have e7:=BV.cell 7 _ rfl;have i7:=BV.frozen 7
              go_simp
              refine hK.out _ _ ?_ (fun hHeld2=>?_)
              ·exact (KQ1.out _ _ _ _ (KQ1.out _ _ _ _ (KQ1.out _ _ _ _ (KQ1.out _ _ _ _ (KQ1.out _ _ _ _ (KQ1.out _ _ _ _ (KQ1.out _ _ _ _ (KQ1.out _ _ _ _ hHeld (Or.inr (by intro c X h;simp at h)) hsv) (Or.inr (by intro c X h;simp at h)) hsv) (Or.inr (by intro c X h;simp at h)) hsv) (Or.inr (by intro c X h;simp at h)) hsv) (Or.inr (by intro c X h;simp at h)) hsv) (Or.inr (by intro c X h;simp at h)) hsv) (Or.inr (by intro c X h;simp at h)) hsv) (Or.inr (by intro c X h;simp at h)) hsv)
              ·clear hK K hHeld
               have hHeld:=hHeld2
               clear hHeld2
               try simp only [Act.put,List.setIfInBounds_toArray,List.set_cons_zero,List.set_cons_succ]
               clear lts e0 i0 e1 i1 e2 i2 e3 i3 e4 i4 e5 i5 e6 i6 e7 i7
               replace BV:=BV.on_put8 hHeld
               refine wpAnyH_done (by kernel_rfl) ?_ _
               refine NoPanic.normal ?_
               have bel:=KB1.out _ hHeld
               go_wp2_with fail
               go_meet
               exact ⟨⟨P,[y0,y1,y2,y3,y4,y5,y6,y7],HP.out,by rw [HQ2.out,HY.out],BV⟩,bel⟩
             exact AllReadyH.nil
           exact AllReadyH.nil
         exact AllReadyH.nil
       refine AllReadyH.cons rfl (fun K hK=>?_) ?_
       ·go_simp
        go_fit (con_concat BK (HS2.out.later (KB1.out _ hHeld)) (bs_blk BP HPl.out (by have:=HPp.out.1;unfold maxLen;omega)) (by rw [HPl.out];exact HPp.out.2) (by rw [HPl.out,HL2.out];have:=HPp.out.1;omega))
        rintro e wb ⟨v3,rfl,hown,hb⟩
        refine hK.out _ _ ?_ (fun hHeld2=>?_)
        ·exact KL1.out _ _ hHeld hb
        ·clear hK K hHeld
         have hHeld:=hHeld2
         clear hHeld2
         try simp only [Act.put,List.setIfInBounds_toArray,List.set_cons_zero,List.set_cons_succ]
         replace BV:=BV.later hb
         have HM:Hid (Bs wb v3 (B.drop r++P)):=Bs.of_own hown
         clear hown hb BK BP
         refine wpAnyH_ready (rs:=[0]) (by kernel_rfl) (by simp) ?_
         refine AllReadyH.cons rfl (fun K hK=>?_) ?_
         ·have lts:=BV.lt
          have e0:=BV.cell 0 _ rfl;have i0:=BV.frozen 0;have e1:=BV.cell 1 _ rfl;have i1:=BV.frozen 1;have e2:=BV.cell 2 _ rfl;have i2:=BV.frozen 2;have e3:=BV.cell 3 _ rfl;have i3:=BV.frozen 3;have e4:=BV.cell 4 _ rfl;have i4:=BV.frozen 4;have e5:=BV.cell 5 _ rfl;have i5:=BV.frozen 5;have e6:=BV.cell 6 _ rfl;have i6:=BV.frozen 6;have e7:=BV.cell 7 _ rfl;have i7:=BV.frozen 7
          go_simp
          refine hK.out _ _ ?_ (fun hHeld2=>?_)
          ·exact hHeld
          ·clear hK K hHeld
           have hHeld:=hHeld2
           clear hHeld2
           try simp only [Act.put,List.setIfInBounds_toArray,List.set_cons_zero,List.set_cons_succ]
           clear lts e0 i0 e1 i1 e2 i2 e3 i3 e4 i4 e5 i5 e6 i6 e7 i7
           refine wpAnyH_ready (rs:=[9]) (by kernel_rfl) (by simp) ?_
           refine AllReadyH.cons rfl (fun K hK=>?_) ?_
           ·go_simp
            go_fit (con_stepsL (q:=k2) (HKG.out.below (KB1.out _ hHeld)) FX.out HM.out (byt_app (byt_dropS HB.out) HP.out.byt) HM2.out HY.out)
            rintro e wf ⟨rfl,hb⟩
            refine hK.out _ _ ?_ (fun hHeld2=>?_)
            ·exact KL1.out _ _ hHeld hb
            ·clear hK K hHeld
             have hHeld:=hHeld2
             clear hHeld2
             try simp only [Act.put,List.setIfInBounds_toArray,List.set_cons_zero,List.set_cons_succ]
             replace BV:=BV.later hb
             clear hb
             refine wpAnyH_ready (rs:=[10]) (by kernel_rfl) (by simp) ?_
             refine AllReadyH.cons rfl (fun K hK=>?_) ?_
             ·have lts:=BV.lt
              have e0:=BV.cell 0 _ rfl;have i0:=BV.frozen 0;have e1:=BV.cell 1 _ rfl;have i1:=BV.frozen 1;have e2:=BV.cell 2 _ rfl;have i2:=BV.frozen 2;have e3:=BV.cell 3 _ rfl;have i3:=BV.frozen 3;have e4:=BV.cell 4 _ rfl;have i4:=BV.frozen 4;have e5:=BV.cell 5 _ rfl;have i5:=BV.frozen 5;have e6:=BV.cell 6 _ rfl;have i6:=BV.frozen 6;have e7:=BV.cell 7 _ rfl;have i7:=BV.frozen 7
              go_simp
              refine hK.out _ _ ?_ (fun hHeld2=>?_)
              ·exact (KQ1.out _ _ _ _ (KQ1.out _ _ _ _ (KQ1.out _ _ _ _ (KQ1.out _ _ _ _ (KQ1.out _ _ _ _ (KQ1.out _ _ _ _ (KQ1.out _ _ _ _ (KQ1.out _ _ _ _ hHeld (Or.inr (by intro c X h;simp at h)) hsv) (Or.inr (by intro c X h;simp at h)) hsv) (Or.inr (by intro c X h;simp at h)) hsv) (Or.inr (by intro c X h;simp at h)) hsv) (Or.inr (by intro c X h;simp at h)) hsv) (Or.inr (by intro c X h;simp at h)) hsv) (Or.inr (by intro c X h;simp at h)) hsv) (Or.inr (by intro c X h;simp at h)) hsv)
              ·clear hK K hHeld
               have hHeld:=hHeld2
               clear hHeld2
               try simp only [Act.put,List.setIfInBounds_toArray,List.set_cons_zero,List.set_cons_succ]
               clear lts e0 i0 e1 i1 e2 i2 e3 i3 e4 i4 e5 i5 e6 i6 e7 i7
               replace BV:=BV.on_put8 hHeld
               refine wpAnyH_done (by kernel_rfl) ?_ _
               refine NoPanic.normal ?_
               have bel:=KB1.out _ hHeld
               go_wp2_with fail
               go_meet
               exact ⟨⟨P,[y0,y1,y2,y3,y4,y5,y6,y7],HP.out,by rw [HQ2.out,HY.out],BV⟩,bel⟩
             exact AllReadyH.nil
           exact AllReadyH.nil
         exact AllReadyH.nil
       exact AllReadyH.nil
     exact AllReadyH.nil
   exact AllReadyH.nil
  case rest =>
   clear BV bel
   obtain ⟨⟨P,Y,hP,hY,BV⟩,bel⟩:=hcut
   have HP:Hid (PadIs n P):=hP
   have HY:Hid (SumIs KS HS B (outN Y 6)):=sum_is HT.out HX.out HN.out HQ.out rn HL2.out hP hY (by rw [hY];exact digN_fits FX.out _)
   have FY:Hid (fits Y):=by rw [hY];exact digN_fits FX.out _
   have lY:Hid (Y.length=8):=by rw [hY];exact digN_len rfl _
   clear hP hY HX FX HT HS2 ha2
   obtain ⟨W,hW,BV⟩:=blk_world BV
   rw [← hW] at bel ⊢
   clear hW
   have hmk:=run_make_row' 27 5 (.int .u8 0) 1 Tryz.underlying27 info_b8 rfl .i64 .i64 48 (by omega) (by omega)
   rw [made_u8S] at hmk
   have BD:=Blk.new W (u8s (List.replicate 48 0)) 5 W.heap.size rfl
   have lv:=BV.lt
   replace BV:=BV.alloc (.cells (u8s (List.replicate 48 0)).toArray 5)
   have bs:=bel.size
   replace bel:=below_alloc (o:=.cells (u8s (List.replicate 48 0)).toArray 5) bel
   generalize (u8s (List.replicate 48 0)).toArray=cs at hmk BD BV bel
   replace hmk:∀ w:World,(Instr.makeSlice 27 (.int .i64 48) (.int .i64 48)).run Tryz.prog w=.ok (.slice (some ⟨w.heap.size,0,none⟩) 48 48) (w.alloc (.cells cs 5)):=hmk
   go_wp2_with fail
   clear hmk
   obtain ⟨bd,hbd⟩:∃ b,b=W.heap.size:=⟨_,rfl⟩
   generalize W.alloc (.cells cs 5)=W1 at *
   rw [← hbd] at BD lv bs ⊢
   clear hbd
   go_loopw [29] (fun iv wx=>∃ i:Nat,i≤6∧iv=.int .i64 i∧Blk wx bd (u8s (outZ Y i))∧Blk wx bv (us Y)∧Below w.heap.size w wx) (fun iv _=>6 - (intOf iv).toNat)
   case atStart=>exact ⟨0,by omega,rfl,BD,BV,bel⟩
   case round =>
    clear BD BV bel
    obtain ⟨i,hi,rfl,BD,BV,bel⟩:=hrel
    by_cases hil:i < 6
    ·have HS:Hid _:=puts_out (Y:=Y) hil
     have FYi:Hid (w64 (Y.getD i 0)):=FY.out i
     have cy:=us_get Y i (by rw [lY.out];omega)
     obtain ⟨y,hy⟩:∃ y,Y.getD i 0=y:=⟨_,rfl⟩
     rw [hy] at HS FYi cy
     clear hy
     have g1:(i:Int) < 6:=by omega
     have g2:(0:Int)≤(i:Int):=by omega
     have g3:(i:Int) < 8:=by omega
     have gi:IntKind.i64.wrap ((i:Int) + 1)=(i:Int) + 1:=by rw [IntKind.wrap_i64];omega
     have w1:IntKind.i64.wrap ((i:Int) * 8)=8 * (i:Int):=by rw [IntKind.wrap_i64];omega
     have g4:(0:Int)≤8 * (i:Int):=by omega
     have g5:8 * (i:Int)≤48:=by omega
     have g6:(8 * (i:Int)).toNat=8 * i:=by omega
     have g7:¬ 48=8 * i:=by omega
     go_upto_region 8 with fail
     obtain ⟨S1,hS1,KD1,KP1,KM1,KB1⟩:=held_put BV bel
     clear BV bel
     have ry:∀ wx,Hd S1 wx→wx.cell? ⟨bv,i,none⟩=some (.int .u64 y):=fun wx h=>(KM1.out wx h).cell i _ cy
     refine wp_region_noPanic ?_
     refine wp_region_held_drew (S:=Hd S1) (by kernel_rfl) (KD1.out _ hS1) (fun hHeld=>?_)
     clear hS1
     replace BD:=BD.drew
     generalize World.drew _=wd at *
     refine wpAnyH_take (i:=0) (v:=?_) rfl (by kernel_rfl) (by kernel_rfl) (by kernel_rfl) (fun _ _ _ h=>h) (Or.inl ⟨by rfl,?_⟩) (by assumption) ?_
     rotate_left
     ·intro w hSw
      go_simp
      with_reducible rfl
     try simp only [Act.put,List.setIfInBounds_toArray,List.set_cons_zero,List.set_cons_succ]
     refine wpAnyH_take (i:=1) (v:=?_) rfl (by kernel_rfl) (by kernel_rfl) (by kernel_rfl) (fun _ _ _ h=>h) (Or.inl ⟨by rfl,?_⟩) (by assumption) ?_
     rotate_left
     ·intro w hSw
      go_simp
      with_reducible rfl
     try simp only [Act.put,List.setIfInBounds_toArray,List.set_cons_zero,List.set_cons_succ]
     refine wpAnyH_take (i:=2) (v:=?_) rfl (by kernel_rfl) (by kernel_rfl) (by kernel_rfl) (fun _ _ _ h=>h) (Or.inl ⟨by rfl,?_⟩) (by assumption) ?_
     rotate_left
     ·intro w hSw
      go_simp
      with_reducible rfl
     try simp only [Act.put,List.setIfInBounds_toArray,List.set_cons_zero,List.set_cons_succ]
     refine wpAnyH_take (i:=3) (v:=?_) rfl (by kernel_rfl) (by kernel_rfl) (by kernel_rfl) (fun _ _ _ h=>h) (Or.inl ⟨by rfl,?_⟩) (by assumption) ?_
     rotate_left
     ·intro w hSw
      go_simp
      with_reducible rfl
     try simp only [Act.put,List.setIfInBounds_toArray,List.set_cons_zero,List.set_cons_succ]
     refine wpAnyH_take (i:=4) (v:=?_) rfl (by kernel_rfl) (by kernel_rfl) (by kernel_rfl) (fun _ _ _ h=>h) (Or.inl ⟨by rfl,?_⟩) (by assumption) ?_
     rotate_left
     ·intro w hSw
      go_simp
      with_reducible rfl
     try simp only [Act.put,List.setIfInBounds_toArray,List.set_cons_zero,List.set_cons_succ]
     refine wpAnyH_take (i:=5) (v:=?_) rfl (by kernel_rfl) (by kernel_rfl) (by kernel_rfl) (fun _ _ _ h=>h) (Or.inl ⟨by rfl,?_⟩) (by assumption) ?_
     rotate_left
     ·intro w hSw
      go_simp
      with_reducible rfl
     try simp only [Act.put,List.setIfInBounds_toArray,List.set_cons_zero,List.set_cons_succ]
     refine wpAnyH_take (i:=6) (v:=?_) rfl (by kernel_rfl) (by kernel_rfl) (by kernel_rfl) (fun _ _ _ h=>h) (Or.inl ⟨by rfl,?_⟩) (by assumption) ?_
     rotate_left
     ·intro w hSw
      go_simp
      with_reducible rfl
     try simp only [Act.put,List.setIfInBounds_toArray,List.set_cons_zero,List.set_cons_succ]
     clear ry
     refine wpAnyH_ready (rs:=[7]) (by kernel_rfl) (by simp) ?_
     refine AllReadyH.cons rfl (fun K hK=>?_) ?_
     ·go_simp
      go_fit (con_put BD (by omega) (by rw [outZ_len hi];omega) FYi.out)
      rintro e wp ⟨rfl,hp⟩
      refine hK.out _ _ ?_ (fun hHeld2=>?_)
      ·exact KP1.out _ _ _ _ hHeld hp (by omega) (by omega)
      ·clear hK K hHeld
       have hHeld:=hHeld2
       clear hHeld2
       try simp only [Act.put,List.setIfInBounds_toArray,List.set_cons_zero,List.set_cons_succ]
       refine wpAnyH_done (by kernel_rfl) ?_ _
       refine NoPanic.normal ?_
       have BV:=KM1.out _ hHeld
       have bel:=KB1.out _ hHeld
       rw [HS.out] at hp
       replace BD:=hp.1
       clear hp hHeld
       go_wp2_with fail
       go_roundw
       case rel=>exact ⟨i + 1,by omega,by go_num,BD,BV,bel⟩
       case measure=>simp [intOf];omega
     exact AllReadyH.nil
    ·have HI:Hid (i=6):=by show i=6;omega
     have g1:(6:Int)≤(i:Int):=by omega
     go_wp2_with fail
     go_ret
     refine ⟨_,outN Y 6,rfl,HY.out,?_,by omega,bel⟩
     rw [HI.out,show outZ Y 6=outN Y 6 from List.append_nil _] at BD
     exact BD
theorem con_SumN {v:Value} {B:List Int} {w:World} (G:GlsS w) (hv:Bs w v B) (hB:byt B) (l:B.length≤1125899906842624) :
  Calls Tryz.prog 78 #[v] w fun e w'=>∃ (v':Value) (O:List Int),e=.returned v'∧SumIs KS HS B O∧Bs w' v' O∧Below w.heap.size w w':=by
 refine (con_SumG G hv hB l).mono ?_
 rintro e w' ⟨g,O,rfl,hO,BO,_,hb⟩
 have hO2:=hO
 obtain ⟨_,_,h⟩:=hO2
 exact ⟨_,O,rfl,hO,bs_blk BO h.len (by decide),hb⟩
theorem con_Sum {v:Value} {B:List Int} {w:World} (G:GlsS w) (hv:Bs w v B) (hB:byt B) (l:B.length≤20000) :
  Calls Tryz.prog 78 #[v] w fun e w'=>∃ (v':Value) (O:List Int),e=.returned v'∧SumIs KS HS B O∧Bs w' v' O∧Below w.heap.size w w':=con_SumN G hv hB (by omega)
end Go.Proofs.YtlkljfnenonfgaaGreatDoor
