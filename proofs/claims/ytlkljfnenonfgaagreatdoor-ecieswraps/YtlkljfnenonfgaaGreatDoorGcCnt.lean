/- The program's Encrypt. The document's counter. (Plain part.) The program's counted: the code of a counter's block. -/
import Derived.Test.YtlkljfnenonfgaaGreatDoorAeCodeC
import Derived.Test.YtlkljfnenonfgaaGreatDoorAeCodeWG
import Derived.Test.YtlkljfnenonfgaaGreatDoorGhNumG
import Derived.Test.YtlkljfnenonfgaaGreatDoorAeCodeX
import Derived.Test.YtlkljfnenonfgaaGreatDoorAeNumG
import Derived.Test.YtlkljfnenonfgaaGreatDoorGhCodeA
import Derived.Test.YtlkljfnenonfgaaGreatDoorRows
import Derived.Deep.WholeRow
import Derived.Deep.RegionHeld3
import Derived.Deep.DeepCutAuto
import Derived.Deep.DeepFit
import Derived.Laws.CopyOwn
namespace Go.Proofs.YtlkljfnenonfgaaGreatDoor
open Go.RowKit
theorem con_codeL {K S:List Int} {F E:List Value} {w:World} (hF:u8s S=F) (hE:u8s (encN K S 15)=E) (bK:byt K) (l:S.length=16) (b:byt S) :
  Calls Tryz.prog 80 #[.agg (u8s (allN K 15)).toArray,.agg F.toArray] w fun e w'=>e=.returned (.agg E.toArray)∧Below w.heap.size w w':=by
 subst hF hE
 exact con_code bK l b
set_option linter.unusedSimpArgs false in
set_option maxRecDepth 100000 in
set_option maxHeartbeats 2000000 in
theorem con_Encrypt {kv:Value} {K S:List Int} {w:World} (hk:Bs w kv K) (bK:byt K) (lK:K.length=32) (l:S.length=16) (b:byt S) :
  Calls Tryz.prog 61 #[kv,.agg (u8s S).toArray] w fun e w'=>e=.returned (.tuple #[.agg (u8s (encN K S 15)).toArray,.nilIface])∧Below w.heap.size w w':=by
 have HK:Hid (Bs w kv K):=hk
 have HSb:Hid (byt S):=b
 have HSl:Hid (S.length=16):=l
 have HKb:Hid (byt K):=bK
 have HKl:Hid (K.length=32):=lK
 have hz:=zero_16.out
 obtain ⟨ao,cap,rfl,h1,h2,h3⟩:=hk
 clear h3
 rw [lK] at h2 HK ⊢
 clear b l bK lK
 obtain ⟨FS,hFS⟩:∃ F,u8s (S)=F:=⟨_,rfl⟩
 have FSh:Hid (u8s (S)=FS):=hFS
 have FSl:Hid (FS.length=16):=by show _=_;rw [← hFS,u8s,List.length_map];exact HSl.out
 have FSo:Hid (FS.toArray.all (·.oneCell')=true):=by rw [← hFS];exact u8_ones _
 clear hFS
 rw [FSh.out]
 obtain ⟨E,hE⟩:∃ F,u8s (encN K S 15)=F:=⟨_,rfl⟩
 have Eh:Hid (u8s (encN K S 15)=E):=hE
 have El:Hid (E.length=16):=by show _=_;rw [← hE,u8s,List.length_map];exact encN_len HSl.out _
 have Eo:Hid (E.toArray.all (·.oneCell')=true):=by rw [← hE];exact u8_ones _
 clear hE
 rw [Eh.out]
 have V0:=(Blk.new w FS 91 w.heap.size rfl).alloc (.cells (u8s (List.replicate 16 0)).toArray 91)
 have R0:=Blk.new (w.alloc (.cells FS.toArray 91)) (u8s (List.replicate 16 0)) 91 (w.heap.size + 1) (by simp)
 have bel:Below w.heap.size w ((w.alloc (.cells FS.toArray 91)).alloc (.cells (u8s (List.replicate 16 0)).toArray 91)):=(((Below.refl _ _).alloc (Nat.le_refl _) _).alloc (by simp) _)
 obtain ⟨Z,hZ⟩:∃ Z,(u8s (List.replicate 16 0))=Z:=⟨_,rfl⟩
 have HZl:Hid (Z.length=16):=by rw [← hZ];rfl
 rw [hZ] at hz V0 R0 bel
 clear hZ
 go_enter Tryz.func61,Tryz.ntmps61
 go_upto_region 1 with fail
 generalize (w.alloc (.cells FS.toArray 91)).alloc (.cells Z.toArray 91)=W at *
 clear hz
 go_upto_region 3 with fail
 obtain ⟨S1,hS1,KL1,KA1,KD1,KS1,KQ1,KN1,KB1,KM1,KR1⟩:=held3 (w0:=w) (W:=W) [(w.heap.size,FS)] (by
  intro b X h
  simp only [List.mem_cons,List.not_mem_nil,or_false,Prod.mk.injEq] at h
  obtain ⟨rfl,rfl⟩:=h
  exact V0) bel
 have rv:Hid (∀ wx,Hd S1 wx→(loadVar 91 ⟨w.heap.size,0,none⟩).run Tryz.prog wx=.ok (.agg FS.toArray) wx):=fun wx h=>(KM1.out wx w.heap.size _ h (List.Mem.head _)).load Tryz.underlying91 rfl size_16 FSl.out
 clear KS1 KA1 KN1 KQ1 V0 bel
 refine wp_region_noPanic ?_
 refine wp_region_held_drew (S:=Hd S1) (by kernel_rfl) (KD1.out _ hS1) (fun hHeld=>?_)
 clear hS1
 replace R0:=R0.drew
 generalize World.drew _=wd at *
 refine wpAnyH_take (i:=0) (v:=?_) rfl (by kernel_rfl) (by kernel_rfl) (by kernel_rfl) (fun _ _ _ h=>h) (Or.inl ⟨by rfl,?_⟩) (by assumption) ?_
 rotate_left
 ·intro w hSw
  go_simp
  with_reducible rfl
 try simp only [Act.put,List.getElem_toArray,List.getElem_cons_zero,List.getElem_cons_succ,List.setIfInBounds_toArray,List.set_cons_zero,List.set_cons_succ]
 refine wpAnyH_take (i:=2) (v:=.agg FS.toArray) rfl (by kernel_rfl) (by kernel_rfl) (by kernel_rfl) (fun _ _ _ h=>h) (Or.inl ⟨by rfl,fun wx h=>exec_load rfl rfl (rv.out wx h)⟩) (by assumption) ?_
 try simp only [Act.put,List.getElem_toArray,List.getElem_cons_zero,List.getElem_cons_succ,List.setIfInBounds_toArray,List.set_cons_zero,List.set_cons_succ]
 refine wpAnyH_ready (rs:=[1]) (by kernel_rfl) (by simp) ?_
 refine AllReadyH.cons rfl (fun K hK=>?_) ?_
 ·go_simp
  refine (con_roundKeys (HK.out.later (KB1.out _ hHeld)) HKb.out HKl.out).mono ?_
  rintro e w5 ⟨rfl,hb⟩
  refine hK.out _ _ ?_ (fun hHeld2=>?_)
  ·exact KL1.out _ _ hHeld hb
  ·clear hK K hHeld
   have hHeld:=hHeld2
   clear hHeld2
   try simp only [Act.put,List.getElem_toArray,List.getElem_cons_zero,List.getElem_cons_succ,List.setIfInBounds_toArray,List.set_cons_zero,List.set_cons_succ]
   replace R0:=R0.later hb
   clear hb
   refine wpAnyH_ready (rs:=[3]) (by kernel_rfl) (by simp) ?_
   refine AllReadyH.cons rfl (fun K hK=>?_) ?_
   ·go_simp
    refine (con_codeL FSh.out Eh.out HKb.out HSl.out HSb.out).mono ?_
    rintro e w6 ⟨rfl,hb⟩
    refine hK.out _ _ ?_ (fun hHeld2=>?_)
    ·exact KL1.out _ _ hHeld hb
    ·clear hK K hHeld
     have hHeld:=hHeld2
     clear hHeld2
     try simp only [Act.put,List.getElem_toArray,List.getElem_cons_zero,List.getElem_cons_succ,List.setIfInBounds_toArray,List.set_cons_zero,List.set_cons_succ]
     replace R0:=R0.later hb
     clear hb
     refine wpAnyH_ready (rs:=[4]) (by kernel_rfl) (by simp) ?_
     refine AllReadyH.cons rfl (fun K hK=>?_) ?_
     ·obtain ⟨tR,hR⟩:=R0
      rw [if_pos (by rfl)]
      refine wp_store_row 91 _ _ rfl (w.heap.size + 1) E.toArray rfl rfl tR Z.toArray hR (by rw [size_16,List.size_toArray,El.out]) (by rw [List.size_toArray,List.size_toArray,El.out,HZl.out]) Eo.out ?_
      refine hK.out _ _ ?_ (fun hHeld2=>?_)
      ·exact KR1.out _ _ _ hHeld (.inr (by intro c X h;simp only [List.mem_cons,List.not_mem_nil,or_false,Prod.mk.injEq] at h;obtain ⟨rfl,rfl⟩:=h;omega)) (by omega)
      ·clear hK K hHeld
       have hHeld:=hHeld2
       clear hHeld2
       try simp only [Act.put,List.getElem_toArray,List.getElem_cons_zero,List.getElem_cons_succ,List.setIfInBounds_toArray,List.set_cons_zero,List.set_cons_succ]
       have HR:Hid _:=setRow_heap w6 (w.heap.size + 1) _ E.toArray tR _ hR
       clear hR
       generalize w6.setRow (w.heap.size + 1) E.toArray=w7 at *
       refine wpAnyH_ready (rs:=[5]) (by kernel_rfl) (by simp) ?_
       refine AllReadyH.cons rfl (fun K hK=>?_) ?_
       ·go_simp
        refine hK.out _ _ ?_ (fun hHeld2=>?_)
        ·exact hHeld
        ·clear hK K hHeld
         have hHeld:=hHeld2
         clear hHeld2
         try simp only [Act.put,List.getElem_toArray,List.getElem_cons_zero,List.getElem_cons_succ,List.setIfInBounds_toArray,List.set_cons_zero,List.set_cons_succ]
         refine wpAnyH_done (by kernel_rfl) ?_ _
         refine NoPanic.normal ?_
         have bel:=KB1.out _ hHeld
         go_wp2_with fail
         exact bodyPost_ret (results_row_tmp rfl _ _ (w.heap.size + 1) tR E.toArray (0,0) _ rfl HR.out Tryz.underlying91 rfl (by rw [size_16,List.size_toArray,El.out])) rfl ⟨rfl,bel⟩
       exact AllReadyH.nil
     exact AllReadyH.nil
   exact AllReadyH.nil
 exact AllReadyH.nil
theorem rangeG_set {f g:Nat→Int} {n k:Nat} (x:Int) (_:k < n) (h1:x=g k) (h2:∀ j,j≠k→f j=g j):((List.range n).map f).set k x=(List.range n).map g:=by
 apply List.ext_getElem?
 intro j
 by_cases hj:j < n
 ·by_cases e:k=j
  ·subst e
   rw [List.getElem?_set_self (by simpa using hj)]
   simp [hj,h1]
  ·rw [List.getElem?_set_ne e]
   simp only [List.getElem?_map,List.getElem?_range hj,Option.map_some,Option.some.injEq]
   exact h2 j (fun h=>e h.symm)
 ·rw [List.getElem?_eq_none (by simp;omega),List.getElem?_eq_none (by simp;omega)]
/-- a counter's block while it is made: t bytes of the number, the highest first -/
def eZ (N:List Int) (n t:Nat):List Int:=(List.range 16).map fun j=>if j < 12 then N.getD j 0 else if j < 12 + t then ((n / 2 ^ (24 - 8 * (j - 12)) % 256:Nat):Int) else 0
theorem eZ_len (N:List Int) (n t:Nat):(eZ N n t).length=16:=by simp [eZ]
theorem eZ_set {N:List Int} {n t:Nat} (h:t < 4):(eZ N n t).set (12 + t) ((n / 2 ^ (24 - 8 * t) % 256:Nat):Int)=eZ N n (t + 1):=by
 refine rangeG_set _ (by omega) ?_ ?_
 ·rw [if_neg (by omega),if_pos (by omega),show 12 + t - 12=t by omega]
 ·intro j hj
  by_cases e:j < 12
  ·rw [if_pos e,if_pos e]
  ·rw [if_neg e,if_neg e]
   by_cases e2:j < 12 + t
   ·rw [if_pos e2,if_pos (by omega)]
   ·rw [if_neg e2,if_neg (by omega)]
theorem eZ_4 (N:List Int) (n:Nat):eZ N n 4=ctrN N n:=by
 unfold eZ ctrN
 apply List.map_congr_left
 intro j hj
 have:=List.mem_range.1 hj
 by_cases e:j < 12
 ·rw [if_pos e,if_pos e]
 ·rw [if_neg e,if_neg e,if_pos (by omega)]
  have e3:j=12∨j=13∨j=14∨j=15:=by omega
  rcases e3 with rfl|rfl|rfl|rfl<;>simp
theorem splice_ctr {N:List Int} {n:Nat} (l:N.length=12):splice (u8s (List.replicate 16 0)) 0 (u8s N)=u8s (eZ N n 0):=by
 unfold splice
 rw [List.take_zero,List.nil_append,Nat.zero_add,u8s,u8s,u8s,List.length_map,← List.map_drop,← List.map_append,l]
 congr 1
 apply List.ext_getElem?
 intro j
 by_cases h:j < 12
 ·rw [List.getElem?_append_left (by omega)]
  simp [eZ,List.getElem?_range (show j < 16 by omega),h,l]
 ·rw [List.getElem?_append_right (by omega),l]
  by_cases h2:j < 16
  ·have e3:j=12∨j=13∨j=14∨j=15:=by omega
   rcases e3 with rfl|rfl|rfl|rfl<;>simp [eZ]
  ·rw [List.getElem?_eq_none (by simp;omega),List.getElem?_eq_none (by simp [eZ];omega)]
theorem con_EncryptL {kv:Value} {K S:List Int} {F E:List Value} {w:World} (hF:u8s S=F) (hE:u8s (encN K S 15)=E) (hk:Bs w kv K) (bK:byt K) (lK:K.length=32) (l:S.length=16) (b:byt S) :
  Calls Tryz.prog 61 #[kv,.agg F.toArray] w fun e w'=>e=.returned (.tuple #[.agg E.toArray,.nilIface])∧Below w.heap.size w w':=by
 subst hF hE
 exact con_Encrypt hk bK lK l b
set_option linter.unusedSimpArgs false in
set_option maxRecDepth 100000 in
set_option maxHeartbeats 2000000 in
theorem con_counted {kv nv:Value} {K N:List Int} {n:Nat} {w:World} (hk:Bs w kv K) (bK:byt K) (lK:K.length=32) (hv:Bs w nv N) (bN:byt N) (l:N.length=12) :
  Calls Tryz.prog 60 #[kv,nv,.int .i64 (n:Int)] w fun e w'=>e=.returned (.tuple #[.agg (u8s (rowN K N n)).toArray,.nilIface])∧Below w.heap.size w w':=by
 have HK:Hid (Bs w kv K):=hk
 have HKb:Hid (byt K):=bK
 have HKl:Hid (K.length=32):=lK
 have HNb:Hid (byt N):=bN
 have HSp:Hid _:=splice_ctr (n:=n) l
 clear hk bK lK bN
 obtain ⟨ao,cap,rfl,h1,h2,h3⟩:=hv
 obtain ⟨b,o,rfl,hb0,hc0⟩:=h3 (by omega)
 clear h3
 have HCn:Hid ((u8s N).length=Nat.min 12 16):=by show _=_;rw [u8s,List.length_map,l];rfl
 have HCs0:Hid (∀ j v,(u8s N)[j]?=some v→w.cell? ⟨b,o + j,none⟩=some v):=fun j v hv=>by
  have hj:=(List.getElem?_eq_some_iff.1 hv).1
  rw [u8s,List.length_map] at hj
  rw [u8s_get _ j hj] at hv
  rw [hc0 j hj,← hv]
 rw [l] at h2 ⊢
 clear hc0 l
 unfold maxLen at h1
 obtain ⟨cs,hcs⟩:∃ cs,u8s N=cs:=⟨_,rfl⟩
 have HC1:Hid (∀ v∈cs,v.oneCell'=true):=by rw [← hcs];exact u8s_one _
 rw [hcs] at HSp HCs0 HCn
 clear hcs
 have hz:=zero_16.out
 have R0:=(Blk.new w (u8s (List.replicate 16 0)) 91 w.heap.size rfl).alloc (.cells (u8s (List.replicate 16 0)).toArray 91)
 have V0:=Blk.new (w.alloc (.cells (u8s (List.replicate 16 0)).toArray 91)) (u8s (List.replicate 16 0)) 91 (w.heap.size + 1) (by simp)
 have bel:Below w.heap.size w ((w.alloc (.cells (u8s (List.replicate 16 0)).toArray 91)).alloc (.cells (u8s (List.replicate 16 0)).toArray 91)):=(((Below.refl _ _).alloc (Nat.le_refl _) _).alloc (by simp) _)
 obtain ⟨Z,hZ⟩:∃ Z,(u8s (List.replicate 16 0))=Z:=⟨_,rfl⟩
 have HZl:Hid (Z.length=16):=by rw [← hZ];rfl
 rw [hZ] at HSp hz V0 R0 bel
 clear hZ
 go_enter Tryz.func60,Tryz.ntmps60
 go_upto_region 2 with fail
 clear hz
 generalize (w.alloc (Obj.cells Z.toArray 91)).alloc (Obj.cells Z.toArray 91)=W1 at *
 have HCs:Hid (∀ j v,cs[j]?=some v→W1.cell? ⟨b,o + j,none⟩=some v):=fun j v hv=>(bel.cell (p:=⟨b,o + j,none⟩) hb0).trans (HCs0.out j v hv)
 clear HCs0
 obtain ⟨t0,ht0⟩:=V0
 have HT0:Hid _:=ht0
 have lW1:=(Array.getElem?_eq_some_iff.1 ht0).1
 have l0:=R0.lt
 clear ht0
 have bW:Below (w.heap.size + 1) W1 W1:=⟨rfl,rfl,rfl,by omega,fun _ _=>rfl⟩
 obtain ⟨W0,hW0⟩:∃ z,z=W1:=⟨_,rfl⟩
 have bW0:Below (w.heap.size + 1) W0 W1:=by rw [hW0];exact bW
 have HW0:Hid (W0=W1):=hW0
 clear bW hW0
 go_upto_region 3 with (first|(refine wpList_copy_splice (by rfl) _ _ _ _ (by rfl) 5 Tryz.underlying27 size_u8g _ _ _ _ _ _ (by rfl) (by rfl) (w.heap.size + 1) 0 Z t0 HT0.out cs HCn.out (fun _=>⟨rfl,⟨b,o,none⟩,rfl,fun j v hv=>by rw [add_none];exact HCs.out j v hv⟩) (by rw [HZl.out,HCn.out];decide) HC1.out (w.heap.size + 1) W0 bW0 (Nat.le_refl _) ?_;intro w2 hg2 hb2)|fail)
 have V2:Blk w2 (w.heap.size + 1) (u8s (eZ N n 0)):=by rw [← HSp.out];exact ⟨t0,hg2.out⟩
 have hb3:Below (w.heap.size + 1) W1 w2:=by rw [← HW0.out];exact hb2
 replace R0:=R0.below hb3 (by omega)
 replace bel:=bel.trans (hb3.mono (by omega))
 clear hb2 hb3 hg2 HT0 HCs HCn HC1 HSp bW0 HW0 lW1 l0 hb0
 go_wp2_with fail
 go_loopw [13] (fun iv wx=>∃ t:Nat,t≤4∧iv=.int .i64 t∧Blk wx (w.heap.size + 1) (u8s (eZ N n t))∧Blk wx w.heap.size Z∧Below w.heap.size w wx) (fun iv _=>4 - (intOf iv).toNat)
 case atStart=>exact ⟨0,by omega,rfl,V2,R0,bel⟩
 case round =>
  clear V2 R0 bel
  obtain ⟨t,ht,rfl,V0,R0,bel⟩:=hrel
  by_cases htl:t < 4
  ·have g1:(t:Int) < 4:=by omega
   have g2:(0:Int)≤(t:Int):=by omega
   have i2:IntKind.i64.wrap (12 + (t:Int))=((12 + t:Nat):Int):=by rw [IntKind.wrap_i64];omega
   have l1:((12 + t:Nat):Int) < 16:=by omega
   have k1:(0:Int)≤((12 + t:Nat):Int):=by omega
   have j1:IntKind.i64.wrap (8 * (t:Int))=8 * (t:Int):=by rw [IntKind.wrap_i64];omega
   have gi:IntKind.i64.wrap ((t:Int) + 1)=(t:Int) + 1:=by rw [IntKind.wrap_i64];omega
   have HS:Hid _:=eZ_set (N:=N) (n:=n) htl
   obtain ⟨m,hm⟩:∃ m,24 - 8 * t=m:=⟨_,rfl⟩
   rw [hm] at HS
   have j2:IntKind.i64.wrap (24 - 8 * (t:Int))=(m:Int):=by rw [IntKind.wrap_i64];omega
   have j3:¬ (m:Int) < 0:=by omega
   have j4:min m 64=m:=by omega
   obtain ⟨p,hp⟩:∃ p,((n / 2 ^ m % 256:Nat):Int)=p:=⟨_,rfl⟩
   have z1:IntKind.u8.wrap ((n:Int) / 2 ^ m)=p:=by rw [IntKind.wrap_u8,← hp];simp
   rw [hp] at HS
   obtain ⟨q,hq⟩:∃ q,12 + t=q:=⟨_,rfl⟩
   have lv:=V0.lt
   have c1:=V0.cell (12 + t) _ (u8s_get _ _ (by rw [eZ_len];omega))
   have f1:=V0.frozen (12 + t)
   have V3:=V0.setb (12 + t) p
   rw [HS.out] at V3
   rw [hq] at c1 f1 V3 i2 l1 k1
   have HV3:Hid _:=V3
   clear V0 V3 hm hp hq HS
   go_wp2_with fail
   go_roundw
   case rel=>exact ⟨t + 1,by omega,by go_num,HV3.out,R0.other _ _ (by show w.heap.size≠w.heap.size + 1;omega),bel.setCell (by show w.heap.size≤w.heap.size + 1;omega) _⟩
   case measure=>simp [intOf];omega
  ·have HI:Hid (t=4):=by show t=4;omega
   have g1:(4:Int)≤(t:Int):=by omega
   rw [HI.out,eZ_4] at V0
   have HCb:Hid (byt (ctrN N n)):=ctrN_byt HNb.out n
   have HCl:Hid ((ctrN N n).length=16):=ctrN_len N n
   obtain ⟨FC,hFC⟩:∃ F,u8s (ctrN N n)=F:=⟨_,rfl⟩
   have FCh:Hid (u8s (ctrN N n)=FC):=hFC
   have FCl:Hid (FC.length=16):=by show _=_;rw [← hFC,u8s,List.length_map];exact HCl.out
   have FCo:Hid (FC.toArray.all (·.oneCell')=true):=by rw [← hFC];exact u8_ones _
   clear hFC
   rw [FCh.out] at V0
   obtain ⟨E,hE⟩:∃ F,u8s (encN K (ctrN N n) 15)=F:=⟨_,rfl⟩
   have Eh:Hid (u8s (encN K (ctrN N n) 15)=E):=hE
   have El:Hid (E.length=16):=by show _=_;rw [← hE,u8s,List.length_map];exact encN_len HCl.out _
   have Eo:Hid (E.toArray.all (·.oneCell')=true):=by rw [← hE];exact u8_ones _
   clear hE
   have HE9:Hid (u8s (rowN K N n)=E):=Eh.out
   go_wp2_with (first|(refine wpList_load_run (by rfl) (by rfl) (by rfl) (V0.load Tryz.underlying91 rfl size_16 FCl.out) ?_)|fail)
   refine (con_EncryptL FCh.out Eh.out (HK.out.later bel) HKb.out HKl.out HCl.out HCb.out).mono ?_
   rintro e w5 ⟨rfl,hb⟩
   replace R0:=R0.later hb
   replace bel:=below_step bel hb
   clear hb V0
   obtain ⟨tR,hR⟩:=R0
   have HR:Hid _:=hR
   clear hR
   go_wp2_with (first|(refine wpList_store_row rfl 91 _ _ rfl w.heap.size E.toArray rfl rfl tR Z.toArray HR.out (by rw [size_16,List.size_toArray,El.out]) (by rw [List.size_toArray,List.size_toArray,El.out,HZl.out]) Eo.out ?_)|fail)
   exact bodyPost_ret (results_row_tmp rfl _ _ w.heap.size tR E.toArray (0,0) _ rfl (setRow_heap _ _ _ _ _ _ HR.out) Tryz.underlying91 rfl (by rw [size_16,List.size_toArray,El.out])) rfl ⟨by rw [HE9.out];rfl,below_setRow bel (Nat.le_refl _) _⟩
end Go.Proofs.YtlkljfnenonfgaaGreatDoor
