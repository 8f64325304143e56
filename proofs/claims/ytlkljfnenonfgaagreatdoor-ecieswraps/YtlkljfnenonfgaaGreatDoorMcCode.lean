/- The document's Expand. (Plain part.) What the program's mac answers: keyed, Hmac, Extract, Expand. -/
import Derived.Test.YtlkljfnenonfgaaGreatDoorEiUp0
import Derived.Test.YtlkljfnenonfgaaGreatDoorAeNumG
import Derived.Test.YtlkljfnenonfgaaGreatDoorSCodeD
import Derived.Test.YtlkljfnenonfgaaGreatDoorMcBlk
import Derived.Test.YtlkljfnenonfgaaGreatDoorRows
import Derived.Deep.WholeRow
import Derived.Deep.RegionHeld3
import Derived.Deep.DeepCutAuto
import Derived.Deep.DeepFit
namespace Go.Proofs.YtlkljfnenonfgaaGreatDoor
open Go.RowKit
def MadeRet (w:World) (v:Value) (prk info:List Int) (n:Nat):Prop:=∃ X:List Int,MadeIs prk info n X∧Bs w v X
theorem byt_of1 {y:Int} (h0:0≤y) (h1:y < 256):byt [y]:=byt_of _ (fun j hj=>by
 have e:j=0:=by simp at hj;exact hj
 subst e
 exact ⟨h0,h1⟩)
theorem cat_two {w:World} {v1 v2:Value} {A P:List Int} (h1:Bs w v1 A) (h2:Bs w v2 P):CatOf w [v1,v2] [A,P] 2:=⟨rfl,rfl,fun i hi=>by
 match i,hi with
 | 0,_=>exact h1
 | 1,_=>exact h2⟩
theorem cat_three {w:World} {v1 v2 v3:Value} {A P Q:List Int} (h1:Bs w v1 A) (h2:Bs w v2 P) (h3:Bs w v3 Q):CatOf w [v1,v2,v3] [A,P,Q] 3:=⟨rfl,rfl,fun i hi=>by
 match i,hi with
 | 0,_=>exact h1
 | 1,_=>exact h2
 | 2,_=>exact h3⟩
theorem con_cat2 {gs:Nat} {v1 v2:Value} {A P:List Int} {w:World} (Bk:Blk w gs [v1,v2]) (h1:Bs w v1 A) (h2:Bs w v2 P) (hp:0 < A.length + P.length) (hl:A.length + P.length≤1099511627776) :
  Calls Tryz.prog 22 #[.slice (some ⟨gs,0,none⟩) 2 2] w fun e w'=>∃ v':Value,e=.returned v'∧Bs w' v' (A++P)∧Below w.heap.size w w':=by
 have e:[A,P].flatten=A++P:=by simp
 refine (con_cat Bk (cat_two h1 h2) (by decide) (by rw [e,List.length_append];exact hp) (by rw [e,List.length_append];exact hl)).mono ?_
 rintro _ w' ⟨v',rfl,ho,hb⟩
 rw [e] at ho
 exact ⟨v',rfl,Bs.of_own ho,hb⟩
theorem con_cat3 {gs:Nat} {v1 v2 v3:Value} {A P Q:List Int} {w:World} (Bk:Blk w gs [v1,v2,v3]) (h1:Bs w v1 A) (h2:Bs w v2 P) (h3:Bs w v3 Q) (hp:0 < A.length + P.length + Q.length) (hl:A.length + P.length + Q.length≤1099511627776) :
  Calls Tryz.prog 22 #[.slice (some ⟨gs,0,none⟩) 3 3] w fun e w'=>∃ v':Value,e=.returned v'∧Bs w' v' (A++P++Q)∧Below w.heap.size w w':=by
 have e:[A,P,Q].flatten=A++P++Q:=by simp
 refine (con_cat Bk (cat_three h1 h2 h3) (by decide) (by rw [e,List.length_append,List.length_append];exact hp) (by rw [e,List.length_append,List.length_append];exact hl)).mono ?_
 rintro _ w' ⟨v',rfl,ho,hb⟩
 rw [e] at ho
 exact ⟨v',rfl,Bs.of_own ho,hb⟩
/-- the digest of bytes by a key's block, in a block of its own -/
def KeyedR (w w':World) (g:Nat) (k b:List Int):Prop:=∃ I O:List Int,SumIs KS HS (xorN 54 k++b) I∧SumIs KS HS (xorN 92 k++I) O∧Blk w' g (u8s O)∧w.heap.size≤g
set_option linter.unusedSimpArgs false in
set_option maxRecDepth 100000 in
set_option maxHeartbeats 2000000 in
theorem con_keyed {k b:List Int} {bv:Value} {w:World} (G:GlsS w) (lk:k.length=128) (bk:byt k) (hb:Bs w bv b) (bb:byt b) (lb:b.length≤1000000000) :
  Calls Tryz.prog 58 #[.agg (u8s k).toArray,bv] w fun e w'=>∃ g:Nat,e=.returned (.slice (some ⟨g,0,none⟩) 48 48)∧KeyedR w w' g k b∧Below w.heap.size w w':=by
 have HL:Hid (k.length=128):=lk
 have HG:Hid (GlsS w):=G
 have HKb:Hid (byt k):=bk
 have HBb:Hid (byt b):=bb
 clear lk G bk bb
 have B0:=Blk.new w (u8s k) 88 w.heap.size rfl
 have bel:Below w.heap.size w (w.alloc (.cells (u8s k).toArray 88)):=(Below.refl _ _).alloc (Nat.le_refl _) _
 obtain ⟨F,hF⟩:∃ F,u8s k=F:=⟨_,rfl⟩
 have HF:Hid (u8s k=F):=hF
 have HZ:Hid ((Tryz.prog.info? 88).map (·.size)=some F.toArray.size):=by show _=_;rw [size_128,List.size_toArray,← hF,List.length_map,HL.out]
 rw [hF] at B0 bel ⊢
 clear hF
 have hb0:=hb
 obtain ⟨ao,cap,rfl,c1,c2,c3⟩:=hb
 clear c3
 go_enter Tryz.func58,Tryz.ntmps58
 go_upto_region 1 with fail
 have HB:Hid (Bs w (.slice ao b.length cap) b):=hb0
 clear hb0
 generalize w.alloc (Obj.cells F.toArray 88)=W at *
 have lt0:=B0.lt
 obtain ⟨t0,ht0⟩:=B0
 have HT0:Hid _:=ht0
 go_wp2_with (first
  | refine wpList_load_row rfl 88 _ rfl w.heap.size rfl t0 F.toArray (0,0) _ HT0.out Tryz.underlying88 rfl HZ.out ?_
  | fail)
 rw [← HF.out]
 refine (con_maskedM (m:=54) HL.out).mono ?_
 rintro e w1 ⟨g1,rfl,B1,hb⟩
 replace B0:Blk w1 w.heap.size F:=Blk.later ⟨t0,ht0⟩ hb
 replace bel:=below_step bel hb
 clear ht0 HT0 hb lt0
 have lt1:=B1.lt
 have hb2:=HB.out.later bel
 have BN:=Blk.new w1 [.slice (some ⟨g1,0,none⟩) 128 128,.slice ao b.length cap] 27 w1.heap.size rfl
 replace B0:=B0.alloc (.cells #[.slice (some ⟨g1,0,none⟩) 128 128,.slice ao b.length cap] 27)
 replace B1:=B1.alloc (.cells #[.slice (some ⟨g1,0,none⟩) 128 128,.slice ao b.length cap] 27)
 replace hb2:=hb2.later ((Below.refl _ _).alloc (Nat.le_refl _) (.cells #[.slice (some ⟨g1,0,none⟩) 128 128,.slice ao b.length cap] 27))
 replace bel:=below_alloc (o:=.cells #[.slice (some ⟨g1,0,none⟩) 128 128,.slice ao b.length cap] 27) bel
 rw [HF.out]
 go_wp2_with fail
 refine (con_cat2 BN (bs_blk B1 (by rw [xorN_len,HL.out]) (by decide)) hb2 (by rw [xorN_len,HL.out];omega) (by rw [xorN_len,HL.out];omega)).mono ?_
 rintro e w2 ⟨v2,rfl,b2,hb⟩
 replace B0:=B0.later hb
 replace bel:=below_step bel hb
 clear hb BN B1 hb2 lt1
 go_wp2_with fail
 refine (con_SumG (HG.out.below bel) b2 (byt_app (xorN_byt HKb.out (by decide) (by decide)) HBb.out) (by rw [List.length_append,xorN_len,HL.out];omega)).mono ?_
 rintro e w3 ⟨g3,I,rfl,hI,B3,_,hb⟩
 have HI:Hid (SumIs KS HS (xorN 54 k++b) I):=hI
 replace B0:=B0.later hb
 replace bel:=below_step bel hb
 clear hb b2 hI
 have lI:=HI.out.ln
 have lt0:=B0.lt
 obtain ⟨t0,ht0⟩:=B0
 have HT0:Hid _:=ht0
 go_wp2_with (first
  | refine wpList_load_row rfl 88 _ rfl w.heap.size rfl t0 F.toArray (0,0) _ HT0.out Tryz.underlying88 rfl HZ.out ?_
  | fail)
 rw [← HF.out]
 refine (con_maskedM (m:=92) HL.out).mono ?_
 rintro e w4 ⟨g4,rfl,B4,hb⟩
 replace B3:=B3.later hb
 replace bel:=below_step bel hb
 clear ht0 HT0 hb lt0
 have lt4:=B4.lt
 have lt3:=B3.lt
 have BN:=Blk.new w4 [.slice (some ⟨g4,0,none⟩) 128 128,.slice (some ⟨g3,0,none⟩) 48 48] 27 w4.heap.size rfl
 replace B3:=B3.alloc (.cells #[.slice (some ⟨g4,0,none⟩) 128 128,.slice (some ⟨g3,0,none⟩) 48 48] 27)
 replace B4:=B4.alloc (.cells #[.slice (some ⟨g4,0,none⟩) 128 128,.slice (some ⟨g3,0,none⟩) 48 48] 27)
 replace bel:=below_alloc (o:=.cells #[.slice (some ⟨g4,0,none⟩) 128 128,.slice (some ⟨g3,0,none⟩) 48 48] 27) bel
 go_wp2_with fail
 refine (con_cat2 BN (bs_blk B4 (by rw [xorN_len,HL.out]) (by decide)) (bs_blk B3 lI (by decide)) (by rw [xorN_len,HL.out];omega) (by rw [xorN_len,HL.out];omega)).mono ?_
 rintro e w5 ⟨v5,rfl,b5,hb⟩
 replace bel:=below_step bel hb
 clear hb BN B4 B3 lt4 lt3
 go_wp2_with fail
 refine (con_SumG (HG.out.below bel) b5 (byt_app (xorN_byt HKb.out (by decide) (by decide)) HI.out.byt) (by rw [List.length_append,xorN_len,HL.out];omega)).mono ?_
 rintro e w6 ⟨g6,O,rfl,hO,B6,hg6,hb⟩
 have hs:=bel.size
 go_wp2_with fail
 go_ret
 exact ⟨g6,rfl,⟨I,O,HI.out,hO,B6,by omega⟩,below_step bel hb⟩
def HmacR (w:World) (v:Value) (key b:List Int):Prop:=∃ O:List Int,HmacIs key b O∧Bs w v O
set_option maxHeartbeats 1000000 in
theorem con_Hmac {kv bv:Value} {key b:List Int} {w:World} (G:GlsS w) (hk:Bs w kv key) (bk:byt key) (lk:key.length≤20000) (hb:Bs w bv b) (bb:byt b) (lb:b.length≤19000) :
  Calls Tryz.prog 59 #[kv,bv] w fun e w'=>∃ v':Value,e=.returned v'∧HmacR w' v' key b∧Below w.heap.size w w':=by
 have HG:Hid (GlsS w):=G
 have HK:Hid (Bs w kv key):=hk
 have HB:Hid (Bs w bv b):=hb
 clear G hk hb
 go_enter Tryz.func59,Tryz.ntmps59
 go_wp2_with fail
 refine (con_keyBlock HG.out HK.out bk lk).mono ?_
 rintro e w1 ⟨D,hD,rfl,hb1⟩
 have HD:Hid (ShortIs key D):=hD
 have HL:Hid ((fillN D 128).length=128):=fillN_len hD.ln
 have HF:Hid (byt (fillN D 128)):=fillN_byt (hD.byt bk)
 obtain ⟨k,hk⟩:∃ k,fillN D 128=k:=⟨_,rfl⟩
 rw [hk] at HL HF ⊢
 have HKk:Hid _:=hk
 obtain ⟨F,hF⟩:∃ F,(u8s k).toArray=F:=⟨_,rfl⟩
 have HFF:Hid ((u8s k).toArray=F):=hF
 rw [hF]
 clear hk hD hF
 go_wp2_with fail
 rw [← HFF.out]
 refine (con_keyed (HG.out.below hb1) HL.out HF.out (HB.out.later hb1) bb (by omega)).mono ?_
 rintro e w2 ⟨g,rfl,⟨I,O,hI,hO,BO,_⟩,hb2⟩
 have HO:Hid (HmacIs key b O):=⟨D,I,HD.out,by rw [HKk.out];exact hI,by rw [HKk.out];exact hO⟩
 clear hI hO
 go_wp2_with fail
 go_ret
 exact ⟨_,rfl,⟨O,HO.out,bs_blk BO HO.out.ln (by decide)⟩,below_step hb1 hb2⟩
/-- rows apart: what lies there is no part of the row that grows -/
def Off (v u:Value):Prop:=∀ (g o n c:Nat),u=.slice (some ⟨g,o,none⟩) n c→v.ownBlock=some g→False
theorem off_nil (v:Value):Off v (.slice none 0 0):=fun g o n c h _=>by simp at h
theorem Bs.grownM {w w':World} {v u:Value} {L:List Int} (h:Bs w u L) (hg:w.grownBy w' v.ownBlock) (ho:Off v u):Bs w' u L:=by
 obtain ⟨ao,cap,rfl,h1,h2,h3⟩:=h
 refine ⟨ao,cap,rfl,h1,h2,fun h0=>?_⟩
 obtain ⟨b,o,rfl,k1,k2⟩:=h3 h0
 refine ⟨b,o,rfl,Nat.lt_of_lt_of_le k1 hg.size,fun j hj=>?_⟩
 rw [← k2 j hj]
 exact World.cell?_of_block (hg.block b k1 (fun e=>ho b o _ _ rfl e.symm))
theorem bs_upto3 {w:World} {ao:Option Addr} {n r cap:Nat} {B:List Int} (h:Bs w (.slice ao n cap) B) (hn:B.length=n) (hr:r≤n):Bs w (.slice ao r r) (B.take r):=by
 obtain ⟨a,c,e,h1,h2,h3⟩:=bs_upto h hn hr
 have el:(B.take r).length=r:=by rw [List.length_take];omega
 rw [el] at e h2 h3
 obtain ⟨rfl,rfl⟩:ao=a∧cap=c:=by simpa using e
 exact ⟨ao,r,by rw [el],by omega,by omega,by rw [el];exact h3⟩
theorem exec_loadM {P:Program} {o:Oper} {a:Act} {w:World} {ty:TypeId} {x:Operand} {g:Nat} {v:Value} (ho:o.op=.load ty x) (hx:a.eval x=.pointer (some ⟨g,0,none⟩)) (h:(loadVar ty ⟨g,0,none⟩).run P w=.ok v w):(execOp a.eval o).run P w=.ok (.value v) w:=by
 unfold execOp
 simp only [ho,hx,Instr.loadAt,Instr.sureAddr,Sem.run_bind,Sem.run_pure,Result.andThen_ok,h]
theorem con_keyedF {k b:List Int} {F:List Value} {bv:Value} {w:World} (hF:u8s k=F) (G:GlsS w) (lk:k.length=128) (bk:byt k) (hb:Bs w bv b) (bb:byt b) (lb:b.length≤1000000000) :
  Calls Tryz.prog 58 #[.agg F.toArray,bv] w fun e w'=>∃ g:Nat,e=.returned (.slice (some ⟨g,0,none⟩) 48 48)∧KeyedR w w' g k b∧Below w.heap.size w w':=by
 subst hF
 exact con_keyed G lk bk hb bb lb
theorem con_Extract {kv bv:Value} {key b:List Int} {w:World} (G:GlsS w) (hk:Bs w kv key) (bk:byt key) (lk:key.length≤20000) (hb:Bs w bv b) (bb:byt b) (lb:b.length≤19000) :
  Calls Tryz.prog 35 #[kv,bv] w fun e w'=>∃ v':Value,e=.returned v'∧HmacR w' v' key b∧Below w.heap.size w w':=by
 have HG:Hid (GlsS w):=G
 have HK:Hid (Bs w kv key):=hk
 have HB:Hid (Bs w bv b):=hb
 clear G hk hb
 go_enter Tryz.func35,Tryz.ntmps35
 go_wp2_with fail
 refine (con_Hmac HG.out HK.out bk lk HB.out bb lb).mono ?_
 rintro e w1 ⟨v1,rfl,h1,hb1⟩
 have H1:Hid (HmacR w1 v1 key b):=h1
 clear h1
 go_wp2_with fail
 go_ret
 exact ⟨_,rfl,H1.out,hb1⟩
set_option linter.unusedSimpArgs false in
set_option maxRecDepth 100000 in
set_option maxHeartbeats 4000000 in
theorem con_Expand {kv bv:Value} {key b:List Int} {n:Nat} {w:World} (G:GlsS w) (hk:Bs w kv key) (bk:byt key) (lk:key.length≤20000) (hb:Bs w bv b) (bb:byt b) (lb:b.length≤18000) (hn:n≤12240) :
    Calls Tryz.prog 34 #[kv,bv,.int .i64 (n:Int)] w fun e w'=>∃ v':Value,e=.returned (.tuple #[v',.nilIface])∧MadeRet w' v' key b n∧Below w.heap.size w w':=by
  have HG:Hid (GlsS w):=G
  have HKs:Hid (Bs w kv key):=hk
  have HIs:Hid (Bs w bv b):=hb
  have HKb:Hid (byt key):=bk
  have HIb:Hid (byt b):=bb
  clear G hk hb bk bb
  have g1:¬ (n:Int) < 0:=by omega
  have g2:¬ (12240:Int) < (n:Int):=by omega
  go_enter Tryz.func34,Tryz.ntmps34
  go_wp2_with fail
  refine (con_keyBlock HG.out HKs.out HKb.out lk).mono ?_
  rintro e w1 ⟨D,hD,rfl,hb1⟩
  have HD:Hid (ShortIs key D):=hD
  have HL:Hid ((fillN D 128).length=128):=fillN_len hD.ln
  have HF:Hid (byt (fillN D 128)):=fillN_byt (hD.byt HKb.out)
  obtain ⟨k,hk⟩:∃ k,fillN D 128=k:=⟨_,rfl⟩
  rw [hk] at HL HF ⊢
  have HKk:Hid _:=hk
  clear hk hD
  have hz:=zero_128.out
  have B0:=Blk.new w1 (u8s k) 88 w1.heap.size rfl
  obtain ⟨F,hF⟩:∃ F,u8s k=F:=⟨_,rfl⟩
  have HFF:Hid (u8s k=F):=hF
  have H1:Hid (F.toArray.all (·.oneCell')=true):=by rw [← hF];exact u8s_ones k
  have HFl:Hid (F.length=128):=by rw [← hF,List.length_map];exact HL.out
  have HZ:Hid ((Tryz.prog.info? 88).map (·.size)=some F.toArray.size):=by show _=_;rw [size_128,List.size_toArray,HFl.out]
  rw [hF] at B0 ⊢
  clear hF
  obtain ⟨cs,hcs⟩:∃ z,(u8s (List.replicate 128 (0:Int))).toArray=z:=⟨_,rfl⟩
  have HO:Hid (cs.size=F.toArray.size):=by rw [← hcs,List.size_toArray,List.size_toArray,HFl.out];rfl
  rw [hcs] at hz
  clear hcs
  go_upto_region 4 with (first
    | (refine wpList_store_row rfl 88 _ _ rfl w1.heap.size F.toArray rfl rfl 88 cs (heap_alloc_last _ _) HZ.out HO.out H1.out ?_;rw [World.setRow_alloc_new])
    | fail)
  clear hz HO H1
  replace hb1:=below_alloc (o:=.cells F.toArray 88) hb1
  obtain ⟨gb,hgb⟩:∃ b,b=w1.heap.size:=⟨_,rfl⟩
  generalize w1.alloc (Obj.cells F.toArray 88)=W1 at *
  rw [← hgb] at B0 ⊢
  clear hgb
  go_wp2_with fail
  have ltb:=B0.lt
  obtain ⟨W,hW⟩:∃ z,z=W1:=⟨_,rfl⟩
  rw [← hW] at B0 hb1 ltb ⊢
  clear hW
  have hsW:=hb1.size
  go_loopw [9,10,11] (fun av lv iv wx=>∃ (j:Nat) (L O:List Int),j≤255∧iv=.int .i64 ((j:Int) + 1)∧wx.ownsRow W.heap.size 5 1 av (48 * j) (u8s O)∧Bs wx lv L∧Off av lv∧Hid (ExpIs key b j L O)∧Below W.heap.size W wx) (fun _ _ iv _=>300 - (intOf iv).toNat)
  case atStart=>exact ⟨0,[],[],by omega,by simp,World.ownsRow_nil _ _ _ _,⟨none,0,rfl,Nat.zero_le _,Nat.le_refl _,fun h=>absurd h (by decide)⟩,off_nil _,⟨rfl,rfl⟩,Below.refl _ _⟩
  case round =>
    obtain ⟨j,L,O,hj,rfl,own1,bl,hoff,HE,bel⟩:=hrel
    obtain ⟨ao,co,rfl,e1,e2⟩:=own_slice own1
    unfold maxLen at e2
    by_cases hlt:48 * j < n
    · have g3:((48 * j:Nat):Int) < (n:Int):=by omega
      have gi:IntKind.i64.wrap ((j:Int) + 1 + 1)=(j:Int) + 1 + 1:=by rw [IntKind.wrap_i64];omega
      have lL:L.length≤48:=HE.out.ln.2
      have HOff:Off (.slice ao (48 * j) co) _:=hoff
      have hbl:=bl
      obtain ⟨lo,lc,rfl,d1,d2,d3⟩:=bl
      clear d3
      unfold maxLen at d1
      have hbi:=HIs.out.later (below_step hb1 bel)
      have hbi0:=hbi
      obtain ⟨io,ic,rfl,i1,i2,i3⟩:=hbi0
      clear i3
      unfold maxLen at i1
      have w1':IntKind.u8.wrap ((j:Int) + 1)=((j:Int) + 1) % 256:=IntKind.wrap_u8 _
      obtain ⟨y,hy⟩:∃ y,((j:Int) + 1) % 256=y:=⟨_,rfl⟩
      have HY:Hid _:=hy
      have yb:0≤y∧y < 256:=by omega
      rw [hy] at w1'
      clear hy
      replace B0:=B0.below bel B0.lt
      have bw:Below wr.heap.size wr wr:=Below.refl _ _
      go_upto_region 8 with fail
      obtain ⟨S1,hS1,KL1,KA1,KD1,KS1,KQ1,KN1,KB1,KM1,KR1⟩:=held3 (w0:=wr) (W:=wr) [(gb,F)] (by
        intro b X h
        simp only [List.mem_cons,List.not_mem_nil,or_false,Prod.mk.injEq] at h
        obtain ⟨rfl,rfl⟩:=h
        exact B0) bw
      clear KS1 KQ1 KN1 KR1
      have rl:Hid (∀ wx,Hd S1 wx→(loadVar 88 ⟨gb,0,none⟩).run Tryz.prog wx=.ok (.agg F.toArray) wx):=fun wx h=>by
        obtain ⟨t,ht⟩:=KM1.out wx gb F h (List.Mem.head _)
        exact run_loadVar_row wx gb t 88 F.toArray (0,0) _ ht Tryz.underlying88 rfl HZ.out
      have obl:Hid (∀ g,(Value.slice ao (48 * j) co).ownBlock=some g→g < wr.heap.size):=fun g hg=>own_under own1 hg
      refine wp_region_noPanic ?_
      refine wp_region_held_drew (S:=Hd S1) (by kernel_rfl) (KD1.out _ hS1) (fun hHeld=>?_)
      clear hS1
      generalize World.drew _=wd at *
      refine wpAnyH_take (i:=0) (v:=.agg F.toArray) rfl (by kernel_rfl) (by kernel_rfl) (by kernel_rfl) (fun _ _ _ h=>h) (Or.inl ⟨by rfl,fun wx h=>exec_loadM rfl rfl (rl.out wx h)⟩) (by assumption) ?_
      try simp only [Act.put,List.setIfInBounds_toArray,List.set_cons_zero,List.set_cons_succ]
      clear rl
      refine wpAnyH_take (i:=1) (v:=?_) rfl (by kernel_rfl) (by kernel_rfl) (by kernel_rfl) (fun _ _ _ h=>h) (Or.inl ⟨by rfl,?_⟩) (by assumption) ?_
      rotate_left
      · intro w hSw
        go_simp
        with_reducible rfl
      try simp only [Act.put,List.setIfInBounds_toArray,List.set_cons_zero,List.set_cons_succ]
      refine wpAnyH_take (i:=2) (v:=?_) rfl (by kernel_rfl) (by kernel_rfl) (by kernel_rfl) (fun _ _ _ h=>h) (Or.inl ⟨by rfl,?_⟩) (by assumption) ?_
      rotate_left
      · intro w hSw
        go_simp
        with_reducible rfl
      try simp only [Act.put,List.setIfInBounds_toArray,List.set_cons_zero,List.set_cons_succ]
      refine wpAnyH_take (i:=3) (v:=?_) rfl (by kernel_rfl) (by kernel_rfl) (by kernel_rfl) (fun _ _ _ h=>h) (Or.inl ⟨by rfl,?_⟩) (by assumption) ?_
      rotate_left
      · intro w hSw
        go_simp
        with_reducible rfl
      try simp only [Act.put,List.setIfInBounds_toArray,List.set_cons_zero,List.set_cons_succ]
      refine wpAnyH_take (i:=4) (v:=?_) rfl (by kernel_rfl) (by kernel_rfl) (by kernel_rfl) (fun _ _ _ h=>h) (Or.inl ⟨by rfl,?_⟩) (by assumption) ?_
      rotate_left
      · intro w hSw
        go_simp
        with_reducible rfl
      try simp only [Act.put,List.setIfInBounds_toArray,List.set_cons_zero,List.set_cons_succ]
      refine wpAnyH_ready (rs:=[5]) (by kernel_rfl) (by simp) ?_
      refine AllReadyH.cons rfl (fun K hK=>?_) ?_
      · go_simp
        refine hK.out _ _ ?_ (fun hHeld2=>?_)
        · exact KA1.out _ _ hHeld
        · clear hK K hHeld
          have hHeld:=hHeld2
          clear hHeld2
          try simp only [Act.put,List.setIfInBounds_toArray,List.set_cons_zero,List.set_cons_succ]
          have BY:=bs_one wd y
          have lt5:wd.heap.size < (wd.alloc (.cells #[.int .u8 y] 5)).heap.size:=by simp
          obtain ⟨g5,hg5⟩:∃ b,b=wd.heap.size:=⟨_,rfl⟩
          obtain ⟨w5,hw5⟩:∃ z,z=wd.alloc (Obj.cells #[.int .u8 y] 5):=⟨_,rfl⟩
          rw [← hw5] at hHeld BY lt5 ⊢
          rw [← hg5] at BY lt5 ⊢
          clear hg5 hw5
          refine wpAnyH_ready (rs:=[6]) (by kernel_rfl) (by simp) ?_
          refine AllReadyH.cons rfl (fun K hK=>?_) ?_
          · go_simp
            refine hK.out _ _ ?_ (fun hHeld2=>?_)
            · exact KA1.out _ _ hHeld
            · clear hK K hHeld
              have hHeld:=hHeld2
              clear hHeld2
              try simp only [Act.put,List.setIfInBounds_toArray,List.set_cons_zero,List.set_cons_succ]
              have BK:=Blk.new w5 [.slice lo L.length lc,.slice io b.length ic,.slice (some ⟨g5,0,none⟩) 1 1] 27 w5.heap.size rfl
              replace BY:=BY.later ((Below.refl _ _).alloc (Nat.le_refl _) (.cells #[.slice lo L.length lc,.slice io b.length ic,.slice (some ⟨g5,0,none⟩) 1 1] 27))
              obtain ⟨g6,hg6⟩:∃ b,b=w5.heap.size:=⟨_,rfl⟩
              obtain ⟨w6,hw6⟩:∃ z,z=w5.alloc (Obj.cells #[.slice lo L.length lc,.slice io b.length ic,.slice (some ⟨g5,0,none⟩) 1 1] 27):=⟨_,rfl⟩
              rw [show (Obj.cells [.slice lo L.length lc,.slice io b.length ic,.slice (some ⟨g5,0,none⟩) 1 1].toArray 27)=Obj.cells #[.slice lo L.length lc,.slice io b.length ic,.slice (some ⟨g5,0,none⟩) 1 1] 27 from rfl,← hw6] at BK
              rw [← hw6] at hHeld BY ⊢
              rw [← hg6] at BK ⊢
              clear hg6 hw6
              refine wpAnyH_ready (rs:=[7]) (by kernel_rfl) (by simp) ?_
              refine AllReadyH.cons rfl (fun K hK=>?_) ?_
              · go_simp
                go_fit (con_cat3 BK (hbl.later (KB1.out _ hHeld)) (hbi.later (KB1.out _ hHeld)) BY (by show 0 < _ + _ + 1;omega) (by show _ + _ + 1≤_;omega))
                rintro e w7 ⟨v7,rfl,b7,hb7⟩
                refine hK.out _ _ ?_ (fun hHeld2=>?_)
                · exact KL1.out _ _ hHeld hb7
                · clear hK K hHeld
                  have hHeld:=hHeld2
                  clear hHeld2
                  try simp only [Act.put,List.setIfInBounds_toArray,List.set_cons_zero,List.set_cons_succ]
                  clear hb7 BK BY
                  refine wpAnyH_ready (rs:=[8]) (by kernel_rfl) (by simp) ?_
                  refine AllReadyH.cons rfl (fun K hK=>?_) ?_
                  · go_simp
                    go_fit (con_keyedF HFF.out (HG.out.below (below_step (below_step hb1 bel) (KB1.out _ hHeld))) HL.out HF.out b7 (byt_app (byt_app HE.out.byt.1 HIb.out) (byt_of1 yb.1 yb.2)) (by simp;omega))
                    rintro e w8 ⟨g8,rfl,hR,hb8⟩
                    have hs8:=(KB1.out _ hHeld).size
                    refine hK.out _ _ ?_ (fun hHeld2=>?_)
                    · exact KL1.out _ _ hHeld hb8
                    · clear hK K hHeld
                      have hHeld:=hHeld2
                      clear hHeld2
                      try simp only [Act.put,List.setIfInBounds_toArray,List.set_cons_zero,List.set_cons_succ]
                      replace hR:KeyedR wr w8 g8 k (L++b++[y]):=by
                        obtain ⟨I,M,q1,q2,q3,q4⟩:=hR
                        exact ⟨I,M,q1,q2,q3,by omega⟩
                      have bMlt:Hid (g8 < w8.heap.size):=by
                        obtain ⟨I,M,q1,q2,q3,q4⟩:=hR
                        exact q3.lt
                      clear hb8 b7 hs8
                      refine wpAnyH_ready (rs:=[9]) (by kernel_rfl) (by simp) ?_
                      refine AllReadyH.cons rfl (fun K hK=>?_) ?_
                      · go_simp
                        refine hK.out _ _ ?_ (fun hHeld2=>?_)
                        · exact hHeld
                        · clear hK K hHeld
                          have hHeld:=hHeld2
                          clear hHeld2
                          try simp only [Act.put,List.setIfInBounds_toArray,List.set_cons_zero,List.set_cons_succ]
                          refine wpAnyH_done (by kernel_rfl) ?_ _
                          refine NoPanic.normal ?_
                          have hbx:=KB1.out _ hHeld
                          clear hHeld KL1 KA1 KD1 KB1 KM1
                          obtain ⟨I,M,hI,hM,BM,hgM⟩:=hR
                          have HM:Hid (HmacIs key (L++b++[y]) M):=⟨D,I,HD.out,by rw [HKk.out];exact hI,by rw [HKk.out];exact hM⟩
                          have lM:=HM.out.ln
                          clear hI hM
                          replace own1:=own_later own1 hbx
                          replace bel:=bel.trans (hbx.mono bel.size)
                          have bM:=bs_blk BM lM (by decide)
                          have hs9:=bel.size
                          have hub:∀ g,(Value.slice ao (48 * j) co).ownBlock=some g→g < wr.heap.size:=fun g hg=>obl.out g hg
                          have HUB:Hid _:=hub
                          clear hub obl BM
                          go_wp2_with (first|(at_builtin;refine wpList_append_bs (by rfl) _ _ (by rfl) W.heap.size _ (48 * j) O (by rfl) own1 _ M (by rfl) bM (by omega) hs9 ?_;intro v9 w9 own9 hgrow hat)|fail)
                          go_roundw
                          case rel =>
                            rw [lM,show 48 * j + 48=48 * (j + 1) by omega] at own9
                            have hlw:=hgM
                            refine ⟨j + 1,M,O++M,by omega,by go_num,own9,bM.grownM hgrow (fun g o n c h k=>?_),fun g o n c h k=>?_,⟨L,O,HE.out,by rw [HY.out];exact HM.out,rfl⟩,below_own (base:=W.heap.size) bel hgrow hs9 (fun g hg=>own_ge own1 hg) (Nat.le_refl _)⟩
                            · simp only [Value.slice.injEq,Option.some.injEq,Addr.mk.injEq] at h
                              have:=HUB.out g k
                              omega
                            · simp only [Value.slice.injEq,Option.some.injEq,Addr.mk.injEq] at h
                              rcases hat with q|q
                              · rw [q] at k
                                have:=HUB.out g k
                                omega
                              · rw [q] at k
                                simp only [Option.some.injEq] at k
                                have:=bMlt.out
                                omega
                          case measure=>simp [intOf];omega
                      exact AllReadyH.nil
                  exact AllReadyH.nil
              exact AllReadyH.nil
          exact AllReadyH.nil
      exact AllReadyH.nil
    · have g3:(n:Int)≤((48 * j:Nat):Int):=by omega
      have g4:(0:Int)≤(n:Int):=by omega
      have g5:(n:Int)≤(co:Int):=by omega
      have g6:n≤co:=by omega
      have lO:=HE.out.ln.1
      go_wp2_with fail
      go_ret2
      exact ⟨_,rfl,⟨O.take n,⟨j,L,O,HE.out,by omega,rfl⟩,bs_upto3 (Bs.of_own own1) lO (by omega)⟩,below_step hb1 bel⟩
end Go.Proofs.YtlkljfnenonfgaaGreatDoor
