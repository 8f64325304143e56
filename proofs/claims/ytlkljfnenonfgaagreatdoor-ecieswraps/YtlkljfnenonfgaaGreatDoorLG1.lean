/- Plain facts of layer 6: one of two points, a round of the walk. ladder.pick: one of two points. ladder.infinity and ladder.add. A told point in a block of its own; a number's bits. -/
import Derived.Test.YtlkljfnenonfgaaGreatDoorCAddC
import Derived.Test.YtlkljfnenonfgaaGreatDoorCNum
import Derived.Test.YtlkljfnenonfgaaGreatDoorLimb
import Derived.Test.YtlkljfnenonfgaaGreatDoorAeNumG
import Derived.Test.YtlkljfnenonfgaaGreatDoorRows
import Derived.Deep.WholeRow
import Derived.Deep.RegionHeld3
import Derived.Deep.DeepCutAuto
import Derived.Deep.DeepFit
namespace Go.Proofs.YtlkljfnenonfgaaGreatDoor
open Go.RowKit
/-- one of two points -/
def pkP (c:Int) (P Q:Pt):Pt:=if c=1 then Q else P
theorem pkP_one (P Q:Pt):pkP 1 P Q=Q:=rfl
theorem pkP_zero (P Q:Pt):pkP 0 P Q=P:=rfl
theorem told_self {P:Pt} {A B:List Int} {n:Bool} (t:Told P A B n) (hP:OnC P):Told P A B (Noo A B):=by
 refine told_noo t.fA t.fB hP ?_
 rcases t.is with ⟨rfl,_,hx,hy⟩|⟨rfl,_⟩
 ·exact .inl ⟨rfl,hx,hy⟩
 ·exact .inr rfl
theorem pk_told {P Q:Pt} {X Y A B S T:List Int} {n m:Bool} {c:Int} (c01:c=0∨c=1) (t:Told P X Y n) (u:Told Q A B m) (hP:OnC P) (hQ:OnC Q) (hs:S=pkN c X A) (ht:T=pkN c Y B):Told (pkP c P Q) S T (Noo S T):=by
 rcases c01 with rfl|rfl
 ·rw [pk_zero] at hs ht
  rw [pkP_zero,hs,ht]
  exact told_self t hP
 ·rw [pk_one] at hs ht
  rw [pkP_one,hs,ht]
  exact told_self u hQ
theorem bit_01 {A:List Int} {j:Nat} (l:A.length=6) (f:fits A) (hj:j < 384):bitN A j=0∨bitN A j=1:=by
 have:=bitN_nat A j l f hj
 omega
/-- a round: what was doubled, or that and the point, by the bit -/
theorem climb_round {P:Pt} (h:OnC P) {E j:Nat} {c:Int} (hc:c=((E / 2 ^ j % 2:Nat):Int)) :
  pkP c (cadd (cmul (E / 2 ^ (j + 1)) P) (cmul (E / 2 ^ (j + 1)) P)) (cadd (cadd (cmul (E / 2 ^ (j + 1)) P) (cmul (E / 2 ^ (j + 1)) P)) P)=cmul (E / 2 ^ j) P:=by
 by_cases hb:E / 2 ^ j % 2=1
 ·rw [hc,hb,← times_bit1 h hb];rfl
 ·have h0:E / 2 ^ j % 2=0:=by omega
  rw [hc,h0,← times_bit0 h hb];rfl
/-- as held3, from the world at hand on: what lies below B stays -/
theorem held4 {W:World} (B:Nat) (hBW:B≤W.heap.size) (bs:List (Nat × List Value)) (hB:∀ b X,(b,X)∈bs→Blk W b X) :
  ∃ S:World→Prop,Hd S W∧Hid (∀ w1 w2,Hd S w1→Below w1.heap.size w1 w2→Hd S w2)∧Hid (∀ w1 o,Hd S w1→Hd S (w1.alloc o))∧Hid (∀ w1,Hd S w1→Hd S w1.drew) ∧
   Hid (∀ w1 b j y,Hd S w1→(∀ c X,(c,X)∈bs→c≠b)→B≤b→Hd S (w1.setCell ⟨b,j,none⟩ y)) ∧
   Hid (∀ w1,Hd S w1→W.heap.size≤w1.heap.size)∧Hid (∀ w1,Hd S w1→Below B W w1)∧Hid (∀ w1 b X,Hd S w1→(b,X)∈bs→Blk w1 b X):=by
 refine ⟨fun wx=>(∀ b X,(b,X)∈bs→Blk wx b X)∧W.heap.size≤wx.heap.size∧Below B W wx,⟨hB,Nat.le_refl _,Below.refl _ _⟩,?_,?_,?_,?_,?_,?_,?_⟩
 ·rintro w1 w2 ⟨h1,h3,h4⟩ hb
  exact ⟨fun b X h=>(h1 b X h).later hb,Nat.le_trans h3 hb.size,h4.trans (hb.mono (Nat.le_trans hBW h3))⟩
 ·rintro w1 o ⟨h1,h3,h4⟩
  exact ⟨fun b X h=>(h1 b X h).alloc o,by simp;omega,h4.alloc (Nat.le_trans hBW h3) _⟩
 ·rintro w1 ⟨h1,h3,h4⟩
  exact ⟨h1,h3,h4.drew⟩
 ·rintro w1 b j y ⟨h1,h3,h4⟩ hn hl
  exact ⟨fun c X h=>(h1 c X h).other _ _ (hn c X h),by simpa using h3,h4.setCell hl _⟩
 ·rintro w1 ⟨_,h3,_⟩
  exact h3
 ·rintro w1 ⟨_,_,h4⟩
  exact h4
 ·rintro w1 b X ⟨h1,_,_⟩ h
  exact h1 b X h
theorem blk_farP {w:World} {b c:Nat} {cs:List Value} {v0 v1 v2 v3 v4 v5 v6 v7 v8 v9 v10 v11 v12:Value} (h:Blk w c cs) (hb:c≠b):Blk ((((((((((((((w.setCell ⟨b,0,none⟩ v0).setCell ⟨b,1,none⟩ v1).setCell ⟨b,2,none⟩ v2).setCell ⟨b,3,none⟩ v3).setCell ⟨b,4,none⟩ v4).setCell ⟨b,5,none⟩ v5).setCell ⟨b,6,none⟩ v6).setCell ⟨b,7,none⟩ v7).setCell ⟨b,8,none⟩ v8).setCell ⟨b,9,none⟩ v9).setCell ⟨b,10,none⟩ v10).setCell ⟨b,11,none⟩ v11).setCell ⟨b,12,none⟩ v12)) c cs :=
 (((((((((((((h.other _ _ hb).other _ _ hb).other _ _ hb).other _ _ hb).other _ _ hb).other _ _ hb).other _ _ hb).other _ _ hb).other _ _ hb).other _ _ hb).other _ _ hb).other _ _ hb).other _ _ hb)
theorem with_key {T G:Prop} (main:T→G) (kp:T):G:=main kp
/-- behind an alloc, a store, in a region that is gone by hand: the world is told by what is held of it -/
theorem new6_of {S:World→Prop} {w:World} {t:TypeId} (_:Hd S (w.alloc (Obj.cells #[.int .u64 0,.int .u64 0,.int .u64 0,.int .u64 0,.int .u64 0,.int .u64 0] t))):∃ b,b=w.heap.size∧Blk (w.alloc (Obj.cells #[.int .u64 0,.int .u64 0,.int .u64 0,.int .u64 0,.int .u64 0,.int .u64 0] t)) b (us [0,0,0,0,0,0]):=⟨_,rfl,Blk.new w (us [0,0,0,0,0,0]) t _ rfl⟩
theorem Blk.on_alloc {S:World→Prop} {w:World} {o:Obj} {b:Nat} {X:List Value} (B:Blk w b X) (_:Hd S (w.alloc o)):Blk (w.alloc o) b X:=B.alloc o
theorem Blk.on_put6 {S:World→Prop} {w:World} {b:Nat} {x0 x1 x2 x3 x4 x5 y0 y1 y2 y3 y4 y5:Int} (B:Blk w b (us [x0,x1,x2,x3,x4,x5])) (_:Hd S (((((((w.setCell ⟨b,0,none⟩ (.int .u64 y0)).setCell ⟨b,1,none⟩ (.int .u64 y1)).setCell ⟨b,2,none⟩ (.int .u64 y2)).setCell ⟨b,3,none⟩ (.int .u64 y3)).setCell ⟨b,4,none⟩ (.int .u64 y4)).setCell ⟨b,5,none⟩ (.int .u64 y5)))):Blk (((((((w.setCell ⟨b,0,none⟩ (.int .u64 y0)).setCell ⟨b,1,none⟩ (.int .u64 y1)).setCell ⟨b,2,none⟩ (.int .u64 y2)).setCell ⟨b,3,none⟩ (.int .u64 y3)).setCell ⟨b,4,none⟩ (.int .u64 y4)).setCell ⟨b,5,none⟩ (.int .u64 y5))) b (us [y0,y1,y2,y3,y4,y5]):=blk_put6 B
theorem Blk.on_far6 {S:World→Prop} {w:World} {b c:Nat} {X:List Value} {y0 y1 y2 y3 y4 y5:Int} (B:Blk w c X) (_:Hd S (((((((w.setCell ⟨b,0,none⟩ (.int .u64 y0)).setCell ⟨b,1,none⟩ (.int .u64 y1)).setCell ⟨b,2,none⟩ (.int .u64 y2)).setCell ⟨b,3,none⟩ (.int .u64 y3)).setCell ⟨b,4,none⟩ (.int .u64 y4)).setCell ⟨b,5,none⟩ (.int .u64 y5)))) (hc:c≠b):Blk (((((((w.setCell ⟨b,0,none⟩ (.int .u64 y0)).setCell ⟨b,1,none⟩ (.int .u64 y1)).setCell ⟨b,2,none⟩ (.int .u64 y2)).setCell ⟨b,3,none⟩ (.int .u64 y3)).setCell ⟨b,4,none⟩ (.int .u64 y4)).setCell ⟨b,5,none⟩ (.int .u64 y5))) c X:=blk_far6 B hc
theorem Blk.on_putP {S:World→Prop} {w:World} {b:Nat} {x0 x1 x2 x3 x4 x5 y0 y1 y2 y3 y4 y5 s0 s1 s2 s3 s4 s5 t0 t1 t2 t3 t4 t5:Int} {n k:Bool} (B:Blk w b [.int .u64 x0,.int .u64 x1,.int .u64 x2,.int .u64 x3,.int .u64 x4,.int .u64 x5,.int .u64 y0,.int .u64 y1,.int .u64 y2,.int .u64 y3,.int .u64 y4,.int .u64 y5,.bool n]) (_:Hd S ((((((((((((((w.setCell ⟨b,0,none⟩ (.int .u64 s0)).setCell ⟨b,1,none⟩ (.int .u64 s1)).setCell ⟨b,2,none⟩ (.int .u64 s2)).setCell ⟨b,3,none⟩ (.int .u64 s3)).setCell ⟨b,4,none⟩ (.int .u64 s4)).setCell ⟨b,5,none⟩ (.int .u64 s5)).setCell ⟨b,6,none⟩ (.int .u64 t0)).setCell ⟨b,7,none⟩ (.int .u64 t1)).setCell ⟨b,8,none⟩ (.int .u64 t2)).setCell ⟨b,9,none⟩ (.int .u64 t3)).setCell ⟨b,10,none⟩ (.int .u64 t4)).setCell ⟨b,11,none⟩ (.int .u64 t5)).setCell ⟨b,12,none⟩ (.bool k)))):Blk ((((((((((((((w.setCell ⟨b,0,none⟩ (.int .u64 s0)).setCell ⟨b,1,none⟩ (.int .u64 s1)).setCell ⟨b,2,none⟩ (.int .u64 s2)).setCell ⟨b,3,none⟩ (.int .u64 s3)).setCell ⟨b,4,none⟩ (.int .u64 s4)).setCell ⟨b,5,none⟩ (.int .u64 s5)).setCell ⟨b,6,none⟩ (.int .u64 t0)).setCell ⟨b,7,none⟩ (.int .u64 t1)).setCell ⟨b,8,none⟩ (.int .u64 t2)).setCell ⟨b,9,none⟩ (.int .u64 t3)).setCell ⟨b,10,none⟩ (.int .u64 t4)).setCell ⟨b,11,none⟩ (.int .u64 t5)).setCell ⟨b,12,none⟩ (.bool k))) b [.int .u64 s0,.int .u64 s1,.int .u64 s2,.int .u64 s3,.int .u64 s4,.int .u64 s5,.int .u64 t0,.int .u64 t1,.int .u64 t2,.int .u64 t3,.int .u64 t4,.int .u64 t5,.bool k]:=blk_putP B
theorem noo_beq {A B:List Int} {v:Int} (h:v=bnN A B):(v == 1)=Noo A B:=by
 rw [h,Bool.eq_iff_iff,beq_iff_eq,bn_one,noo_iff]
set_option linter.unusedSimpArgs false in
set_option maxRecDepth 100000 in
set_option maxHeartbeats 4000000 in
theorem con_pk {x0 x1 x2 x3 x4 x5 y0 y1 y2 y3 y4 y5 p0 p1 p2 p3 p4 p5 q0 q1 q2 q3 q4 q5 c1:Int} {n m:Bool} {w:World} (h01:c1=0∨c1=1) (fX:fits [x0,x1,x2,x3,x4,x5]) (fY:fits [y0,y1,y2,y3,y4,y5]) (fP:fits [p0,p1,p2,p3,p4,p5]) (fQ:fits [q0,q1,q2,q3,q4,q5]) :
    Calls Tryz.prog 55 #[.int .u64 c1,.agg #[.int .u64 x0,.int .u64 x1,.int .u64 x2,.int .u64 x3,.int .u64 x4,.int .u64 x5,.int .u64 y0,.int .u64 y1,.int .u64 y2,.int .u64 y3,.int .u64 y4,.int .u64 y5,.bool n],.agg #[.int .u64 p0,.int .u64 p1,.int .u64 p2,.int .u64 p3,.int .u64 p4,.int .u64 p5,.int .u64 q0,.int .u64 q1,.int .u64 q2,.int .u64 q3,.int .u64 q4,.int .u64 q5,.bool m]] w fun e w'=>Pts e (fun A B=>A=pkN c1 [x0,x1,x2,x3,x4,x5] [p0,p1,p2,p3,p4,p5]∧B=pkN c1 [y0,y1,y2,y3,y4,y5] [q0,q1,q2,q3,q4,q5])∧Below w.heap.size w w':=by
  have H01:Hid _:=h01
  clear h01
  have B0:=((Blk.new w [.int .u64 x0,.int .u64 x1,.int .u64 x2,.int .u64 x3,.int .u64 x4,.int .u64 x5,.int .u64 y0,.int .u64 y1,.int .u64 y2,.int .u64 y3,.int .u64 y4,.int .u64 y5,.bool n] 26 (w.heap.size) rfl).alloc (.cells [.int .u64 p0,.int .u64 p1,.int .u64 p2,.int .u64 p3,.int .u64 p4,.int .u64 p5,.int .u64 q0,.int .u64 q1,.int .u64 q2,.int .u64 q3,.int .u64 q4,.int .u64 q5,.bool m].toArray 26)).alloc (.cells [.int .u64 0,.int .u64 0,.int .u64 0,.int .u64 0,.int .u64 0,.int .u64 0,.int .u64 0,.int .u64 0,.int .u64 0,.int .u64 0,.int .u64 0,.int .u64 0,.bool false].toArray 26)
  have B1:=(Blk.new (w.alloc (.cells [.int .u64 x0,.int .u64 x1,.int .u64 x2,.int .u64 x3,.int .u64 x4,.int .u64 x5,.int .u64 y0,.int .u64 y1,.int .u64 y2,.int .u64 y3,.int .u64 y4,.int .u64 y5,.bool n].toArray 26)) [.int .u64 p0,.int .u64 p1,.int .u64 p2,.int .u64 p3,.int .u64 p4,.int .u64 p5,.int .u64 q0,.int .u64 q1,.int .u64 q2,.int .u64 q3,.int .u64 q4,.int .u64 q5,.bool m] 26 (w.heap.size + 1) (by simp)).alloc (.cells [.int .u64 0,.int .u64 0,.int .u64 0,.int .u64 0,.int .u64 0,.int .u64 0,.int .u64 0,.int .u64 0,.int .u64 0,.int .u64 0,.int .u64 0,.int .u64 0,.bool false].toArray 26)
  have B2:=Blk.new ((w.alloc (.cells [.int .u64 x0,.int .u64 x1,.int .u64 x2,.int .u64 x3,.int .u64 x4,.int .u64 x5,.int .u64 y0,.int .u64 y1,.int .u64 y2,.int .u64 y3,.int .u64 y4,.int .u64 y5,.bool n].toArray 26)).alloc (.cells [.int .u64 p0,.int .u64 p1,.int .u64 p2,.int .u64 p3,.int .u64 p4,.int .u64 p5,.int .u64 q0,.int .u64 q1,.int .u64 q2,.int .u64 q3,.int .u64 q4,.int .u64 q5,.bool m].toArray 26)) [.int .u64 0,.int .u64 0,.int .u64 0,.int .u64 0,.int .u64 0,.int .u64 0,.int .u64 0,.int .u64 0,.int .u64 0,.int .u64 0,.int .u64 0,.int .u64 0,.bool false] 26 (w.heap.size + 1 + 1) (by simp)
  have bel:Below w.heap.size w (((w.alloc (.cells [.int .u64 x0,.int .u64 x1,.int .u64 x2,.int .u64 x3,.int .u64 x4,.int .u64 x5,.int .u64 y0,.int .u64 y1,.int .u64 y2,.int .u64 y3,.int .u64 y4,.int .u64 y5,.bool n].toArray 26)).alloc (.cells [.int .u64 p0,.int .u64 p1,.int .u64 p2,.int .u64 p3,.int .u64 p4,.int .u64 p5,.int .u64 q0,.int .u64 q1,.int .u64 q2,.int .u64 q3,.int .u64 q4,.int .u64 q5,.bool m].toArray 26)).alloc (.cells [.int .u64 0,.int .u64 0,.int .u64 0,.int .u64 0,.int .u64 0,.int .u64 0,.int .u64 0,.int .u64 0,.int .u64 0,.int .u64 0,.int .u64 0,.int .u64 0,.bool false].toArray 26)):=((((Below.refl _ _).alloc (Nat.le_refl _) _).alloc (by simp) _).alloc (by simp;omega) _)
  go_enter Tryz.func55,Tryz.ntmps55
  go_upto_region 1 with fail
  try simp only [us,List.map_cons,List.map_nil] at bel
  generalize (((w.alloc (Obj.cells #[.int .u64 x0,.int .u64 x1,.int .u64 x2,.int .u64 x3,.int .u64 x4,.int .u64 x5,.int .u64 y0,.int .u64 y1,.int .u64 y2,.int .u64 y3,.int .u64 y4,.int .u64 y5,.bool n] 26)).alloc (Obj.cells #[.int .u64 p0,.int .u64 p1,.int .u64 p2,.int .u64 p3,.int .u64 p4,.int .u64 p5,.int .u64 q0,.int .u64 q1,.int .u64 q2,.int .u64 q3,.int .u64 q4,.int .u64 q5,.bool m] 26)).alloc (Obj.cells #[.int .u64 0,.int .u64 0,.int .u64 0,.int .u64 0,.int .u64 0,.int .u64 0,.int .u64 0,.int .u64 0,.int .u64 0,.int .u64 0,.int .u64 0,.int .u64 0,.bool false] 26))=W at *
  obtain ⟨S1,hS1,KL1,KA1,KD1,KS1,KQ1,KN1,KB1,KM1,KR1⟩:=held3 (w0:=w) (W:=W) [(w.heap.size,[.int .u64 x0,.int .u64 x1,.int .u64 x2,.int .u64 x3,.int .u64 x4,.int .u64 x5,.int .u64 y0,.int .u64 y1,.int .u64 y2,.int .u64 y3,.int .u64 y4,.int .u64 y5,.bool n]),(w.heap.size + 1,[.int .u64 p0,.int .u64 p1,.int .u64 p2,.int .u64 p3,.int .u64 p4,.int .u64 p5,.int .u64 q0,.int .u64 q1,.int .u64 q2,.int .u64 q3,.int .u64 q4,.int .u64 q5,.bool m]),(w.heap.size + 1 + 1,[.int .u64 0,.int .u64 0,.int .u64 0,.int .u64 0,.int .u64 0,.int .u64 0,.int .u64 0,.int .u64 0,.int .u64 0,.int .u64 0,.int .u64 0,.int .u64 0,.bool false])] (by
    intro b X h
    simp only [List.mem_cons,List.not_mem_nil,or_false,Prod.mk.injEq] at h
    rcases h with ⟨rfl,rfl⟩|⟨rfl,rfl⟩|⟨rfl,rfl⟩
    · exact B0
    · exact B1
    · exact B2) bel
  have kb1a:∀ wx,Hd S1 wx→Blk wx (w.heap.size) [.int .u64 x0,.int .u64 x1,.int .u64 x2,.int .u64 x3,.int .u64 x4,.int .u64 x5,.int .u64 y0,.int .u64 y1,.int .u64 y2,.int .u64 y3,.int .u64 y4,.int .u64 y5,.bool n]:=fun wx h=>KM1.out wx _ _ h (by simp)
  have c1a0:=rulec kb1a 0 _ rfl
  have c1a1:=rulec kb1a 1 _ rfl
  have c1a2:=rulec kb1a 2 _ rfl
  have c1a3:=rulec kb1a 3 _ rfl
  have c1a4:=rulec kb1a 4 _ rfl
  have c1a5:=rulec kb1a 5 _ rfl
  have c1a6:=rulec kb1a 6 _ rfl
  have c1a7:=rulec kb1a 7 _ rfl
  have c1a8:=rulec kb1a 8 _ rfl
  have c1a9:=rulec kb1a 9 _ rfl
  have c1a10:=rulec kb1a 10 _ rfl
  have c1a11:=rulec kb1a 11 _ rfl
  have c1a12:=rulec kb1a 12 _ rfl
  have c1al:=ruleb kb1a
  clear kb1a
  have kb1b:∀ wx,Hd S1 wx→Blk wx (w.heap.size + 1) [.int .u64 p0,.int .u64 p1,.int .u64 p2,.int .u64 p3,.int .u64 p4,.int .u64 p5,.int .u64 q0,.int .u64 q1,.int .u64 q2,.int .u64 q3,.int .u64 q4,.int .u64 q5,.bool m]:=fun wx h=>KM1.out wx _ _ h (by simp)
  have c1b0:=rulec kb1b 0 _ rfl
  have c1b1:=rulec kb1b 1 _ rfl
  have c1b2:=rulec kb1b 2 _ rfl
  have c1b3:=rulec kb1b 3 _ rfl
  have c1b4:=rulec kb1b 4 _ rfl
  have c1b5:=rulec kb1b 5 _ rfl
  have c1b6:=rulec kb1b 6 _ rfl
  have c1b7:=rulec kb1b 7 _ rfl
  have c1b8:=rulec kb1b 8 _ rfl
  have c1b9:=rulec kb1b 9 _ rfl
  have c1b10:=rulec kb1b 10 _ rfl
  have c1b11:=rulec kb1b 11 _ rfl
  have c1b12:=rulec kb1b 12 _ rfl
  have c1bl:=ruleb kb1b
  clear kb1b
  have kb1c:∀ wx,Hd S1 wx→Blk wx (w.heap.size + 1 + 1) [.int .u64 0,.int .u64 0,.int .u64 0,.int .u64 0,.int .u64 0,.int .u64 0,.int .u64 0,.int .u64 0,.int .u64 0,.int .u64 0,.int .u64 0,.int .u64 0,.bool false]:=fun wx h=>KM1.out wx _ _ h (by simp)
  have c1c0:=rulec kb1c 0 _ rfl
  have c1c1:=rulec kb1c 1 _ rfl
  have c1c2:=rulec kb1c 2 _ rfl
  have c1c3:=rulec kb1c 3 _ rfl
  have c1c4:=rulec kb1c 4 _ rfl
  have c1c5:=rulec kb1c 5 _ rfl
  have c1c6:=rulec kb1c 6 _ rfl
  have c1c7:=rulec kb1c 7 _ rfl
  have c1c8:=rulec kb1c 8 _ rfl
  have c1c9:=rulec kb1c 9 _ rfl
  have c1c10:=rulec kb1c 10 _ rfl
  have c1c11:=rulec kb1c 11 _ rfl
  have c1c12:=rulec kb1c 12 _ rfl
  have c1cl:=ruleb kb1c
  clear kb1c
  have hN1:=bel.size
  have ltr:=B2.lt
  clear bel B0 B1 B2
  go_cut [7,8] (fun u v wx=>∃ (b c:Nat) (s0 s1 s2 s3 s4 s5 t0 t1 t2 t3 t4 t5:Int),u=.pointer (some ⟨b,0,none⟩)∧v=.pointer (some ⟨c,0,none⟩)∧w.heap.size + 1 + 1 < b∧w.heap.size + 1 + 1 < c∧fits [s0,s1,s2,s3,s4,s5]∧fits [t0,t1,t2,t3,t4,t5]∧Hid ([s0,s1,s2,s3,s4,s5]=pkN c1 [x0,x1,x2,x3,x4,x5] [p0,p1,p2,p3,p4,p5])∧Hid ([t0,t1,t2,t3,t4,t5]=pkN c1 [y0,y1,y2,y3,y4,y5] [q0,q1,q2,q3,q4,q5])∧Blk wx b (us [s0,s1,s2,s3,s4,s5])∧Blk wx c (us [t0,t1,t2,t3,t4,t5])∧Hd S1 wx)
  case first =>
    refine wp_region_noPanic ?_
    refine wp_region_held_drew (S:=Hd S1) (by kernel_rfl) (KD1.out _ hS1) (fun hHeld=>?_)
    clear hS1
    generalize World.drew _=wd at *
    refine wpAnyH_take (i:=0) (v:=?_) rfl (by kernel_rfl) (by kernel_rfl) (by kernel_rfl) (fun _ _ _ h=>h) (Or.inl ⟨by rfl,?_⟩) (by assumption) ?_
    rotate_left
    · intro w hSw
      go_simp
      with_reducible rfl
    try simp only [Act.put,List.setIfInBounds_toArray,List.set_cons_zero,List.set_cons_succ]
    refine wpAnyH_take (i:=1) (v:=?_) rfl (by kernel_rfl) (by kernel_rfl) (by kernel_rfl) (fun _ _ _ h=>h) (Or.inl ⟨by rfl,?_⟩) (by assumption) ?_
    rotate_left
    · intro w hSw
      go_simp
      with_reducible rfl
    try simp only [Act.put,List.setIfInBounds_toArray,List.set_cons_zero,List.set_cons_succ]
    refine wpAnyH_take (i:=2) (v:=?_) rfl (by kernel_rfl) (by kernel_rfl) (by kernel_rfl) (fun _ _ _ h=>h) (Or.inl ⟨by rfl,?_⟩) (by assumption) ?_
    rotate_left
    · intro w hSw
      go_simp
      with_reducible rfl
    try simp only [Act.put,List.setIfInBounds_toArray,List.set_cons_zero,List.set_cons_succ]
    refine wpAnyH_take (i:=3) (v:=?_) rfl (by kernel_rfl) (by kernel_rfl) (by kernel_rfl) (fun _ _ _ h=>h) (Or.inl ⟨by rfl,?_⟩) (by assumption) ?_
    rotate_left
    · intro w hSw
      go_simp
      with_reducible rfl
    try simp only [Act.put,List.setIfInBounds_toArray,List.set_cons_zero,List.set_cons_succ]
    refine wpAnyH_take (i:=4) (v:=?_) rfl (by kernel_rfl) (by kernel_rfl) (by kernel_rfl) (fun _ _ _ h=>h) (Or.inl ⟨by rfl,?_⟩) (by assumption) ?_
    rotate_left
    · intro w hSw
      go_simp
      with_reducible rfl
    try simp only [Act.put,List.setIfInBounds_toArray,List.set_cons_zero,List.set_cons_succ]
    refine wpAnyH_take (i:=6) (v:=?_) rfl (by kernel_rfl) (by kernel_rfl) (by kernel_rfl) (fun _ _ _ h=>h) (Or.inl ⟨by rfl,?_⟩) (by assumption) ?_
    rotate_left
    · intro w hSw
      go_simp
      with_reducible rfl
    try simp only [Act.put,List.setIfInBounds_toArray,List.set_cons_zero,List.set_cons_succ]
    refine wpAnyH_take (i:=7) (v:=?_) rfl (by kernel_rfl) (by kernel_rfl) (by kernel_rfl) (fun _ _ _ h=>h) (Or.inl ⟨by rfl,?_⟩) (by assumption) ?_
    rotate_left
    · intro w hSw
      go_simp
      with_reducible rfl
    try simp only [Act.put,List.setIfInBounds_toArray,List.set_cons_zero,List.set_cons_succ]
    refine wpAnyH_take (i:=8) (v:=?_) rfl (by kernel_rfl) (by kernel_rfl) (by kernel_rfl) (fun _ _ _ h=>h) (Or.inl ⟨by rfl,?_⟩) (by assumption) ?_
    rotate_left
    · intro w hSw
      go_simp
      with_reducible rfl
    try simp only [Act.put,List.setIfInBounds_toArray,List.set_cons_zero,List.set_cons_succ]
    refine wpAnyH_take (i:=9) (v:=?_) rfl (by kernel_rfl) (by kernel_rfl) (by kernel_rfl) (fun _ _ _ h=>h) (Or.inl ⟨by rfl,?_⟩) (by assumption) ?_
    rotate_left
    · intro w hSw
      go_simp
      with_reducible rfl
    try simp only [Act.put,List.setIfInBounds_toArray,List.set_cons_zero,List.set_cons_succ]
    refine wpAnyH_take (i:=10) (v:=?_) rfl (by kernel_rfl) (by kernel_rfl) (by kernel_rfl) (fun _ _ _ h=>h) (Or.inl ⟨by rfl,?_⟩) (by assumption) ?_
    rotate_left
    · intro w hSw
      go_simp
      with_reducible rfl
    try simp only [Act.put,List.setIfInBounds_toArray,List.set_cons_zero,List.set_cons_succ]
    clear c1a0 c1b0 c1c0 c1a1 c1b1 c1c1 c1a2 c1b2 c1c2 c1a3 c1b3 c1c3 c1a4 c1b4 c1c4 c1a5 c1b5 c1c5 c1a6 c1b6 c1c6 c1a7 c1b7 c1c7 c1a8 c1b8 c1c8 c1a9 c1b9 c1c9 c1a10 c1b10 c1c10 c1a11 c1b11 c1c11 c1a12 c1b12 c1c12 c1al c1bl c1cl
    apply with_key (T:=∀ (wz:World) (bn:Nat) (bm:Nat) (s0 s1 s2 s3 s4 s5:Int) (t0 t1 t2 t3 t4 t5:Int),Hd S1 wz→Blk wz bn (us [0,0,0,0,0,0])→W.heap.size≤bn→Blk wz bm (us [0,0,0,0,0,0])→W.heap.size≤bm→bn≠bm→fits [s0,s1,s2,s3,s4,s5]→Hid ([s0,s1,s2,s3,s4,s5]=pkN c1 [x0,x1,x2,x3,x4,x5] [p0,p1,p2,p3,p4,p5])→fits [t0,t1,t2,t3,t4,t5]→Hid ([t0,t1,t2,t3,t4,t5]=pkN c1 [y0,y1,y2,y3,y4,y5] [q0,q1,q2,q3,q4,q5])→wpAnyH _ _ _ _ _ _ _ _ wz)
    case main =>
      intro k211
      apply with_key (T:=∀ (wz:World) (bm:Nat) (s0 s1 s2 s3 s4 s5:Int) (t0 t1 t2 t3 t4 t5:Int),Hd S1 wz→Blk wz bm (us [0,0,0,0,0,0])→W.heap.size≤bm→fits [s0,s1,s2,s3,s4,s5]→Hid ([s0,s1,s2,s3,s4,s5]=pkN c1 [x0,x1,x2,x3,x4,x5] [p0,p1,p2,p3,p4,p5])→fits [t0,t1,t2,t3,t4,t5]→Hid ([t0,t1,t2,t3,t4,t5]=pkN c1 [y0,y1,y2,y3,y4,y5] [q0,q1,q2,q3,q4,q5])→wpAnyH _ _ _ _ _ _ _ _ wz)
      case main =>
        intro k201
        apply with_key (T:=∀ (wz:World) (bn:Nat) (s0 s1 s2 s3 s4 s5:Int) (t0 t1 t2 t3 t4 t5:Int),Hd S1 wz→Blk wz bn (us [0,0,0,0,0,0])→W.heap.size≤bn→fits [s0,s1,s2,s3,s4,s5]→Hid ([s0,s1,s2,s3,s4,s5]=pkN c1 [x0,x1,x2,x3,x4,x5] [p0,p1,p2,p3,p4,p5])→fits [t0,t1,t2,t3,t4,t5]→Hid ([t0,t1,t2,t3,t4,t5]=pkN c1 [y0,y1,y2,y3,y4,y5] [q0,q1,q2,q3,q4,q5])→wpAnyH _ _ _ _ _ _ _ _ wz)
        case main =>
          intro k210
          apply with_key (T:=∀ (wz:World) (bn:Nat) (bm:Nat) (s0 s1 s2 s3 s4 s5:Int),Hd S1 wz→Blk wz bn (us [0,0,0,0,0,0])→W.heap.size≤bn→Blk wz bm (us [0,0,0,0,0,0])→W.heap.size≤bm→bn≠bm→fits [s0,s1,s2,s3,s4,s5]→Hid ([s0,s1,s2,s3,s4,s5]=pkN c1 [x0,x1,x2,x3,x4,x5] [p0,p1,p2,p3,p4,p5])→wpAnyH _ _ _ _ _ _ _ _ wz)
          case main =>
            intro k111
            apply with_key (T:=∀ (wz:World) (bm:Nat) (s0 s1 s2 s3 s4 s5:Int),Hd S1 wz→Blk wz bm (us [0,0,0,0,0,0])→W.heap.size≤bm→fits [s0,s1,s2,s3,s4,s5]→Hid ([s0,s1,s2,s3,s4,s5]=pkN c1 [x0,x1,x2,x3,x4,x5] [p0,p1,p2,p3,p4,p5])→wpAnyH _ _ _ _ _ _ _ _ wz)
            case main =>
              intro k101
              apply with_key (T:=∀ (wz:World) (bn:Nat) (s0 s1 s2 s3 s4 s5:Int),Hd S1 wz→Blk wz bn (us [0,0,0,0,0,0])→W.heap.size≤bn→fits [s0,s1,s2,s3,s4,s5]→Hid ([s0,s1,s2,s3,s4,s5]=pkN c1 [x0,x1,x2,x3,x4,x5] [p0,p1,p2,p3,p4,p5])→wpAnyH _ _ _ _ _ _ _ _ wz)
              case main =>
                intro k110
                apply with_key (T:=∀ (wz:World) (bn:Nat) (bm:Nat),Hd S1 wz→Blk wz bn (us [0,0,0,0,0,0])→W.heap.size≤bn→Blk wz bm (us [0,0,0,0,0,0])→W.heap.size≤bm→bn≠bm→wpAnyH _ _ _ _ _ _ _ _ wz)
                case main =>
                  intro k011
                  refine wpAnyH_ready (rs:=[5,12,13]) (by kernel_rfl) (by simp) ?_
                  refine AllReadyH.cons rfl (fun K hK=>?_) ?_
                  · go_simp
                    go_fit (pick_let H01.out fX fP)
                    rintro e w' ⟨s0,s1,s2,s3,s4,s5,rfl,fS,hv,hb⟩
                    have HS:Hid _:=hv
                    clear hv
                    refine hK.out _ _ ?_ (fun hHeld2=>?_)
                    · exact KL1.out _ _ hHeld hb
                    · clear hK K
                      try clear hHeld
                      have hHeld:=hHeld2
                      clear hHeld2
                      try simp only [Act.put,List.setIfInBounds_toArray,List.set_cons_zero,List.set_cons_succ]
                      clear hb
                      refine wpAnyH_ready (rs:=[11,12,13]) (by kernel_rfl) (by simp) ?_
                      refine AllReadyH.cons rfl (fun K hK=>?_) ?_
                      · go_simp
                        go_fit (pick_let H01.out fY fQ)
                        rintro e w' ⟨t0,t1,t2,t3,t4,t5,rfl,fT,hv,hb⟩
                        have HT:Hid _:=hv
                        clear hv
                        refine hK.out _ _ ?_ (fun hHeld2=>?_)
                        · exact KL1.out _ _ hHeld hb
                        · clear hK K
                          try clear hHeld
                          have hHeld:=hHeld2
                          clear hHeld2
                          try simp only [Act.put,List.setIfInBounds_toArray,List.set_cons_zero,List.set_cons_succ]
                          clear hb
                          refine wpAnyH_ready (rs:=[12,13]) (by kernel_rfl) (by simp) ?_
                          refine AllReadyH.cons rfl (fun K hK=>?_) ?_
                          · have hlt:=KN1.out _ hHeld
                            go_simp
                            refine hK.out _ _ ?_ (fun hHeld2=>?_)
                            · exact KA1.out _ _ hHeld
                            · clear hK K
                              try clear hHeld
                              have hHeld:=hHeld2
                              clear hHeld2
                              try simp only [Act.put,List.setIfInBounds_toArray,List.set_cons_zero,List.set_cons_succ]
                              obtain ⟨bn,hbn,BN⟩:=new6_of hHeld
                              rw [← hbn]
                              have lbn:W.heap.size≤bn:=by omega
                              clear hlt hbn
                              generalize World.alloc _ _=w9 at *
                              exact k210 w9 bn s0 s1 s2 s3 s4 s5 t0 t1 t2 t3 t4 t5 hHeld BN lbn fS HS fT HT
                          refine AllReadyH.cons rfl (fun K hK=>?_) ?_
                          · have hlt:=KN1.out _ hHeld
                            go_simp
                            refine hK.out _ _ ?_ (fun hHeld2=>?_)
                            · exact KA1.out _ _ hHeld
                            · clear hK K
                              try clear hHeld
                              have hHeld:=hHeld2
                              clear hHeld2
                              try simp only [Act.put,List.setIfInBounds_toArray,List.set_cons_zero,List.set_cons_succ]
                              obtain ⟨bm,hbm,BM⟩:=new6_of hHeld
                              rw [← hbm]
                              have lbm:W.heap.size≤bm:=by omega
                              clear hlt hbm
                              generalize World.alloc _ _=w9 at *
                              exact k201 w9 bm s0 s1 s2 s3 s4 s5 t0 t1 t2 t3 t4 t5 hHeld BM lbm fS HS fT HT
                          exact AllReadyH.nil
                      refine AllReadyH.cons rfl (fun K hK=>?_) ?_
                      · have hlt:=KN1.out _ hHeld
                        go_simp
                        refine hK.out _ _ ?_ (fun hHeld2=>?_)
                        · exact KA1.out _ _ hHeld
                        · clear hK K
                          try clear hHeld
                          have hHeld:=hHeld2
                          clear hHeld2
                          try simp only [Act.put,List.setIfInBounds_toArray,List.set_cons_zero,List.set_cons_succ]
                          obtain ⟨bn,hbn,BN⟩:=new6_of hHeld
                          rw [← hbn]
                          have lbn:W.heap.size≤bn:=by omega
                          clear hlt hbn
                          generalize World.alloc _ _=w9 at *
                          exact k110 w9 bn s0 s1 s2 s3 s4 s5 hHeld BN lbn fS HS
                      refine AllReadyH.cons rfl (fun K hK=>?_) ?_
                      · have hlt:=KN1.out _ hHeld
                        go_simp
                        refine hK.out _ _ ?_ (fun hHeld2=>?_)
                        · exact KA1.out _ _ hHeld
                        · clear hK K
                          try clear hHeld
                          have hHeld:=hHeld2
                          clear hHeld2
                          try simp only [Act.put,List.setIfInBounds_toArray,List.set_cons_zero,List.set_cons_succ]
                          obtain ⟨bm,hbm,BM⟩:=new6_of hHeld
                          rw [← hbm]
                          have lbm:W.heap.size≤bm:=by omega
                          clear hlt hbm
                          generalize World.alloc _ _=w9 at *
                          exact k101 w9 bm s0 s1 s2 s3 s4 s5 hHeld BM lbm fS HS
                      exact AllReadyH.nil
                  refine AllReadyH.cons rfl (fun K hK=>?_) ?_
                  · have hlt:=KN1.out _ hHeld
                    go_simp
                    refine hK.out _ _ ?_ (fun hHeld2=>?_)
                    · exact KA1.out _ _ hHeld
                    · clear hK K
                      try clear hHeld
                      have hHeld:=hHeld2
                      clear hHeld2
                      try simp only [Act.put,List.setIfInBounds_toArray,List.set_cons_zero,List.set_cons_succ]
                      obtain ⟨bn,hbn,BN⟩:=new6_of hHeld
                      rw [← hbn]
                      have lbn:W.heap.size≤bn:=by omega
                      clear hlt hbn
                      generalize World.alloc _ _=w9 at *
                      refine wpAnyH_ready (rs:=[5,13]) (by kernel_rfl) (by simp) ?_
                      refine AllReadyH.cons rfl (fun K hK=>?_) ?_
                      · go_simp
                        go_fit (pick_let H01.out fX fP)
                        rintro e w' ⟨s0,s1,s2,s3,s4,s5,rfl,fS,hv,hb⟩
                        have HS:Hid _:=hv
                        clear hv
                        refine hK.out _ _ ?_ (fun hHeld2=>?_)
                        · exact KL1.out _ _ hHeld hb
                        · clear hK K
                          try clear hHeld
                          have hHeld:=hHeld2
                          clear hHeld2
                          try simp only [Act.put,List.setIfInBounds_toArray,List.set_cons_zero,List.set_cons_succ]
                          replace BN:=BN.later hb
                          clear hb
                          exact k110 w' bn s0 s1 s2 s3 s4 s5 hHeld BN lbn fS HS
                      refine AllReadyH.cons rfl (fun K hK=>?_) ?_
                      · have hlt:=KN1.out _ hHeld
                        go_simp
                        refine hK.out _ _ ?_ (fun hHeld2=>?_)
                        · exact KA1.out _ _ hHeld
                        · clear hK K
                          try clear hHeld
                          have hHeld:=hHeld2
                          clear hHeld2
                          try simp only [Act.put,List.setIfInBounds_toArray,List.set_cons_zero,List.set_cons_succ]
                          have lto:=BN.lt
                          replace BN:=BN.on_alloc hHeld
                          obtain ⟨bm,hbm,BM⟩:=new6_of hHeld
                          rw [← hbm]
                          have hne:bn≠bm:=by omega
                          have lbm:W.heap.size≤bm:=by omega
                          clear hlt hbm lto
                          generalize World.alloc _ _=w9 at *
                          exact k011 w9 bn bm hHeld BN lbn BM lbm hne
                      exact AllReadyH.nil
                  refine AllReadyH.cons rfl (fun K hK=>?_) ?_
                  · have hlt:=KN1.out _ hHeld
                    go_simp
                    refine hK.out _ _ ?_ (fun hHeld2=>?_)
                    · exact KA1.out _ _ hHeld
                    · clear hK K
                      try clear hHeld
                      have hHeld:=hHeld2
                      clear hHeld2
                      try simp only [Act.put,List.setIfInBounds_toArray,List.set_cons_zero,List.set_cons_succ]
                      obtain ⟨bm,hbm,BM⟩:=new6_of hHeld
                      rw [← hbm]
                      have lbm:W.heap.size≤bm:=by omega
                      clear hlt hbm
                      generalize World.alloc _ _=w9 at *
                      refine wpAnyH_ready (rs:=[5,12]) (by kernel_rfl) (by simp) ?_
                      refine AllReadyH.cons rfl (fun K hK=>?_) ?_
                      · go_simp
                        go_fit (pick_let H01.out fX fP)
                        rintro e w' ⟨s0,s1,s2,s3,s4,s5,rfl,fS,hv,hb⟩
                        have HS:Hid _:=hv
                        clear hv
                        refine hK.out _ _ ?_ (fun hHeld2=>?_)
                        · exact KL1.out _ _ hHeld hb
                        · clear hK K
                          try clear hHeld
                          have hHeld:=hHeld2
                          clear hHeld2
                          try simp only [Act.put,List.setIfInBounds_toArray,List.set_cons_zero,List.set_cons_succ]
                          replace BM:=BM.later hb
                          clear hb
                          exact k101 w' bm s0 s1 s2 s3 s4 s5 hHeld BM lbm fS HS
                      refine AllReadyH.cons rfl (fun K hK=>?_) ?_
                      · have hlt:=KN1.out _ hHeld
                        go_simp
                        refine hK.out _ _ ?_ (fun hHeld2=>?_)
                        · exact KA1.out _ _ hHeld
                        · clear hK K
                          try clear hHeld
                          have hHeld:=hHeld2
                          clear hHeld2
                          try simp only [Act.put,List.setIfInBounds_toArray,List.set_cons_zero,List.set_cons_succ]
                          have lto:=BM.lt
                          replace BM:=BM.on_alloc hHeld
                          obtain ⟨bn,hbn,BN⟩:=new6_of hHeld
                          rw [← hbn]
                          have hne:bn≠bm:=by omega
                          have lbn:W.heap.size≤bn:=by omega
                          clear hlt hbn lto
                          generalize World.alloc _ _=w9 at *
                          exact k011 w9 bn bm hHeld BN lbn BM lbm hne
                      exact AllReadyH.nil
                  exact AllReadyH.nil
                case kp =>
                  intro wz bn bm hHeld BN lbn BM lbm hne
                  refine wpAnyH_ready (rs:=[5]) (by kernel_rfl) (by simp) ?_
                  refine AllReadyH.cons rfl (fun K hK=>?_) ?_
                  · go_simp
                    go_fit (pick_let H01.out fX fP)
                    rintro e w' ⟨s0,s1,s2,s3,s4,s5,rfl,fS,hv,hb⟩
                    have HS:Hid _:=hv
                    clear hv
                    refine hK.out _ _ ?_ (fun hHeld2=>?_)
                    · exact KL1.out _ _ hHeld hb
                    · clear hK K
                      try clear hHeld
                      have hHeld:=hHeld2
                      clear hHeld2
                      try simp only [Act.put,List.setIfInBounds_toArray,List.set_cons_zero,List.set_cons_succ]
                      replace BN:=BN.later hb
                      replace BM:=BM.later hb
                      clear hb
                      exact k111 w' bn bm s0 s1 s2 s3 s4 s5 hHeld BN lbn BM lbm hne fS HS
                  exact AllReadyH.nil
              case kp =>
                intro wz bn s0 s1 s2 s3 s4 s5 hHeld BN lbn fS HS
                refine wpAnyH_ready (rs:=[11,13]) (by kernel_rfl) (by simp) ?_
                refine AllReadyH.cons rfl (fun K hK=>?_) ?_
                · go_simp
                  go_fit (pick_let H01.out fY fQ)
                  rintro e w' ⟨t0,t1,t2,t3,t4,t5,rfl,fT,hv,hb⟩
                  have HT:Hid _:=hv
                  clear hv
                  refine hK.out _ _ ?_ (fun hHeld2=>?_)
                  · exact KL1.out _ _ hHeld hb
                  · clear hK K
                    try clear hHeld
                    have hHeld:=hHeld2
                    clear hHeld2
                    try simp only [Act.put,List.setIfInBounds_toArray,List.set_cons_zero,List.set_cons_succ]
                    replace BN:=BN.later hb
                    clear hb
                    exact k210 w' bn s0 s1 s2 s3 s4 s5 t0 t1 t2 t3 t4 t5 hHeld BN lbn fS HS fT HT
                refine AllReadyH.cons rfl (fun K hK=>?_) ?_
                · have hlt:=KN1.out _ hHeld
                  go_simp
                  refine hK.out _ _ ?_ (fun hHeld2=>?_)
                  · exact KA1.out _ _ hHeld
                  · clear hK K
                    try clear hHeld
                    have hHeld:=hHeld2
                    clear hHeld2
                    try simp only [Act.put,List.setIfInBounds_toArray,List.set_cons_zero,List.set_cons_succ]
                    have lto:=BN.lt
                    replace BN:=BN.on_alloc hHeld
                    obtain ⟨bm,hbm,BM⟩:=new6_of hHeld
                    rw [← hbm]
                    have hne:bn≠bm:=by omega
                    have lbm:W.heap.size≤bm:=by omega
                    clear hlt hbm lto
                    generalize World.alloc _ _=w9 at *
                    exact k111 w9 bn bm s0 s1 s2 s3 s4 s5 hHeld BN lbn BM lbm hne fS HS
                exact AllReadyH.nil
            case kp =>
              intro wz bm s0 s1 s2 s3 s4 s5 hHeld BM lbm fS HS
              refine wpAnyH_ready (rs:=[11,12]) (by kernel_rfl) (by simp) ?_
              refine AllReadyH.cons rfl (fun K hK=>?_) ?_
              · go_simp
                go_fit (pick_let H01.out fY fQ)
                rintro e w' ⟨t0,t1,t2,t3,t4,t5,rfl,fT,hv,hb⟩
                have HT:Hid _:=hv
                clear hv
                refine hK.out _ _ ?_ (fun hHeld2=>?_)
                · exact KL1.out _ _ hHeld hb
                · clear hK K
                  try clear hHeld
                  have hHeld:=hHeld2
                  clear hHeld2
                  try simp only [Act.put,List.setIfInBounds_toArray,List.set_cons_zero,List.set_cons_succ]
                  replace BM:=BM.later hb
                  clear hb
                  exact k201 w' bm s0 s1 s2 s3 s4 s5 t0 t1 t2 t3 t4 t5 hHeld BM lbm fS HS fT HT
              refine AllReadyH.cons rfl (fun K hK=>?_) ?_
              · have hlt:=KN1.out _ hHeld
                go_simp
                refine hK.out _ _ ?_ (fun hHeld2=>?_)
                · exact KA1.out _ _ hHeld
                · clear hK K
                  try clear hHeld
                  have hHeld:=hHeld2
                  clear hHeld2
                  try simp only [Act.put,List.setIfInBounds_toArray,List.set_cons_zero,List.set_cons_succ]
                  have lto:=BM.lt
                  replace BM:=BM.on_alloc hHeld
                  obtain ⟨bn,hbn,BN⟩:=new6_of hHeld
                  rw [← hbn]
                  have hne:bn≠bm:=by omega
                  have lbn:W.heap.size≤bn:=by omega
                  clear hlt hbn lto
                  generalize World.alloc _ _=w9 at *
                  exact k111 w9 bn bm s0 s1 s2 s3 s4 s5 hHeld BN lbn BM lbm hne fS HS
              exact AllReadyH.nil
          case kp =>
            intro wz bn bm s0 s1 s2 s3 s4 s5 hHeld BN lbn BM lbm hne fS HS
            refine wpAnyH_ready (rs:=[11]) (by kernel_rfl) (by simp) ?_
            refine AllReadyH.cons rfl (fun K hK=>?_) ?_
            · go_simp
              go_fit (pick_let H01.out fY fQ)
              rintro e w' ⟨t0,t1,t2,t3,t4,t5,rfl,fT,hv,hb⟩
              have HT:Hid _:=hv
              clear hv
              refine hK.out _ _ ?_ (fun hHeld2=>?_)
              · exact KL1.out _ _ hHeld hb
              · clear hK K
                try clear hHeld
                have hHeld:=hHeld2
                clear hHeld2
                try simp only [Act.put,List.setIfInBounds_toArray,List.set_cons_zero,List.set_cons_succ]
                replace BN:=BN.later hb
                replace BM:=BM.later hb
                clear hb
                exact k211 w' bn bm s0 s1 s2 s3 s4 s5 t0 t1 t2 t3 t4 t5 hHeld BN lbn BM lbm hne fS HS fT HT
            exact AllReadyH.nil
        case kp =>
          intro wz bn s0 s1 s2 s3 s4 s5 t0 t1 t2 t3 t4 t5 hHeld BN lbn fS HS fT HT
          refine wpAnyH_ready (rs:=[13]) (by kernel_rfl) (by simp) ?_
          refine AllReadyH.cons rfl (fun K hK=>?_) ?_
          · have hlt:=KN1.out _ hHeld
            go_simp
            refine hK.out _ _ ?_ (fun hHeld2=>?_)
            · exact KA1.out _ _ hHeld
            · clear hK K
              try clear hHeld
              have hHeld:=hHeld2
              clear hHeld2
              try simp only [Act.put,List.setIfInBounds_toArray,List.set_cons_zero,List.set_cons_succ]
              have lto:=BN.lt
              replace BN:=BN.on_alloc hHeld
              obtain ⟨bm,hbm,BM⟩:=new6_of hHeld
              rw [← hbm]
              have hne:bn≠bm:=by omega
              have lbm:W.heap.size≤bm:=by omega
              clear hlt hbm lto
              generalize World.alloc _ _=w9 at *
              exact k211 w9 bn bm s0 s1 s2 s3 s4 s5 t0 t1 t2 t3 t4 t5 hHeld BN lbn BM lbm hne fS HS fT HT
          exact AllReadyH.nil
      case kp =>
        intro wz bm s0 s1 s2 s3 s4 s5 t0 t1 t2 t3 t4 t5 hHeld BM lbm fS HS fT HT
        refine wpAnyH_ready (rs:=[12]) (by kernel_rfl) (by simp) ?_
        refine AllReadyH.cons rfl (fun K hK=>?_) ?_
        · have hlt:=KN1.out _ hHeld
          go_simp
          refine hK.out _ _ ?_ (fun hHeld2=>?_)
          · exact KA1.out _ _ hHeld
          · clear hK K
            try clear hHeld
            have hHeld:=hHeld2
            clear hHeld2
            try simp only [Act.put,List.setIfInBounds_toArray,List.set_cons_zero,List.set_cons_succ]
            have lto:=BM.lt
            replace BM:=BM.on_alloc hHeld
            obtain ⟨bn,hbn,BN⟩:=new6_of hHeld
            rw [← hbn]
            have hne:bn≠bm:=by omega
            have lbn:W.heap.size≤bn:=by omega
            clear hlt hbn lto
            generalize World.alloc _ _=w9 at *
            exact k211 w9 bn bm s0 s1 s2 s3 s4 s5 t0 t1 t2 t3 t4 t5 hHeld BN lbn BM lbm hne fS HS fT HT
        exact AllReadyH.nil
    case kp =>
      intro wz bn bm s0 s1 s2 s3 s4 s5 t0 t1 t2 t3 t4 t5 hHeld BN lbn BM lbm hne fS HS fT HT
      refine wpAnyH_ready (rs:=[14]) (by kernel_rfl) (by simp) ?_
      refine AllReadyH.cons rfl (fun K hK=>?_) ?_
      · have ltb:=BN.lt
        have e0:=BN.cell 0 _ rfl;have i0:=BN.frozen 0;have e1:=BN.cell 1 _ rfl;have i1:=BN.frozen 1;have e2:=BN.cell 2 _ rfl;have i2:=BN.frozen 2;have e3:=BN.cell 3 _ rfl;have i3:=BN.frozen 3;have e4:=BN.cell 4 _ rfl;have i4:=BN.frozen 4;have e5:=BN.cell 5 _ rfl;have i5:=BN.frozen 5
        go_simp
        refine hK.out _ _ ?_ (fun hHeld2=>?_)
        · exact (KQ1.out _ _ _ _ (KQ1.out _ _ _ _ (KQ1.out _ _ _ _ (KQ1.out _ _ _ _ (KQ1.out _ _ _ _ (KQ1.out _ _ _ _ hHeld (Or.inl (by omega)) (by omega)) (Or.inl (by omega)) (by omega)) (Or.inl (by omega)) (by omega)) (Or.inl (by omega)) (by omega)) (Or.inl (by omega)) (by omega)) (Or.inl (by omega)) (by omega))
        · clear hK K
          try clear hHeld
          have hHeld:=hHeld2
          clear hHeld2
          try simp only [Act.put,List.setIfInBounds_toArray,List.set_cons_zero,List.set_cons_succ]
          clear ltb e0 i0 e1 i1 e2 i2 e3 i3 e4 i4 e5 i5
          replace BN:=BN.on_put6 hHeld
          replace BM:=BM.on_far6 hHeld (by omega)
          refine wpAnyH_ready (rs:=[15]) (by kernel_rfl) (by simp) ?_
          refine AllReadyH.cons rfl (fun K hK=>?_) ?_
          · have ltb:=BM.lt
            have e0:=BM.cell 0 _ rfl;have i0:=BM.frozen 0;have e1:=BM.cell 1 _ rfl;have i1:=BM.frozen 1;have e2:=BM.cell 2 _ rfl;have i2:=BM.frozen 2;have e3:=BM.cell 3 _ rfl;have i3:=BM.frozen 3;have e4:=BM.cell 4 _ rfl;have i4:=BM.frozen 4;have e5:=BM.cell 5 _ rfl;have i5:=BM.frozen 5
            go_simp
            refine hK.out _ _ ?_ (fun hHeld2=>?_)
            · exact (KQ1.out _ _ _ _ (KQ1.out _ _ _ _ (KQ1.out _ _ _ _ (KQ1.out _ _ _ _ (KQ1.out _ _ _ _ (KQ1.out _ _ _ _ hHeld (Or.inl (by omega)) (by omega)) (Or.inl (by omega)) (by omega)) (Or.inl (by omega)) (by omega)) (Or.inl (by omega)) (by omega)) (Or.inl (by omega)) (by omega)) (Or.inl (by omega)) (by omega))
            · clear hK K
              try clear hHeld
              have hHeld:=hHeld2
              clear hHeld2
              try simp only [Act.put,List.setIfInBounds_toArray,List.set_cons_zero,List.set_cons_succ]
              clear ltb e0 i0 e1 i1 e2 i2 e3 i3 e4 i4 e5 i5
              replace BM:=BM.on_put6 hHeld
              replace BN:=BN.on_far6 hHeld (by omega)
              refine wpAnyH_done (by kernel_rfl) ?_ _
              refine NoPanic.normal ?_
              go_wp2_with fail
              go_meet
              exact ⟨bn,bm,s0,s1,s2,s3,s4,s5,t0,t1,t2,t3,t4,t5,rfl,rfl,by omega,by omega,fS,fT,HS,HT,BN,BM,hHeld⟩
          exact AllReadyH.nil
      exact AllReadyH.nil
  case rest =>
    clear hS1
    obtain ⟨bx,bz,s0,s1,s2,s3,s4,s5,t0,t1,t2,t3,t4,t5,rfl,rfl,hbx,hbz,fS,fT,HS,HT,BX,BZ,hS1⟩:=hcut
    simp only [us,List.map_cons,List.map_nil] at BX BZ
    have Br:=KM1.out _ (w.heap.size + 1 + 1) _ hS1 (List.Mem.tail _ (List.Mem.tail _ (List.Mem.head _)))
    have bel:=KB1.out _ hS1
    clear hS1 ltr c1a0 c1b0 c1c0 c1a1 c1b1 c1c1 c1a2 c1b2 c1c2 c1a3 c1b3 c1c3 c1a4 c1b4 c1c4 c1a5 c1b5 c1c5 c1a6 c1b6 c1c6 c1a7 c1b7 c1c7 c1a8 c1b8 c1c8 c1a9 c1b9 c1c9 c1a10 c1b10 c1c10 c1a11 c1b11 c1c11 c1a12 c1b12 c1c12 c1al c1bl c1cl
    obtain ⟨d1,h1⟩:∃ d,sameN [s0,s1,s2,s3,s4,s5] [0,0,0,0,0,0]=d:=⟨_,rfl⟩
    obtain ⟨d2,h2⟩:∃ d,sameN [t0,t1,t2,t3,t4,t5] [0,0,0,0,0,0]=d:=⟨_,rfl⟩
    have e:=bn_and [s0,s1,s2,s3,s4,s5] [t0,t1,t2,t3,t4,t5]
    rw [h1,h2] at e
    have H1:Hid _:=h1
    have H2:Hid _:=h2
    have HE:Hid _:=e
    clear h1 h2 e
    go_upto_region 2 with fail
    obtain ⟨S2,hS2,KL2,KA2,KD2,KS2,KQ2,KN2,KB2,KM2,KR2⟩:=held3 (w0:=w) (W:=_) [(w.heap.size + 1 + 1,[.int .u64 0,.int .u64 0,.int .u64 0,.int .u64 0,.int .u64 0,.int .u64 0,.int .u64 0,.int .u64 0,.int .u64 0,.int .u64 0,.int .u64 0,.int .u64 0,.bool false]),(bx,[.int .u64 s0,.int .u64 s1,.int .u64 s2,.int .u64 s3,.int .u64 s4,.int .u64 s5]),(bz,[.int .u64 t0,.int .u64 t1,.int .u64 t2,.int .u64 t3,.int .u64 t4,.int .u64 t5])] (by
      intro b X h
      simp only [List.mem_cons,List.not_mem_nil,or_false,Prod.mk.injEq] at h
      rcases h with ⟨rfl,rfl⟩|⟨rfl,rfl⟩|⟨rfl,rfl⟩
      · exact Br
      · exact BX
      · exact BZ) bel
    have kb2a:∀ wx,Hd S2 wx→Blk wx (w.heap.size + 1 + 1) [.int .u64 0,.int .u64 0,.int .u64 0,.int .u64 0,.int .u64 0,.int .u64 0,.int .u64 0,.int .u64 0,.int .u64 0,.int .u64 0,.int .u64 0,.int .u64 0,.bool false]:=fun wx h=>KM2.out wx _ _ h (by simp)
    have c2a0:=rulec kb2a 0 _ rfl
    have c2a1:=rulec kb2a 1 _ rfl
    have c2a2:=rulec kb2a 2 _ rfl
    have c2a3:=rulec kb2a 3 _ rfl
    have c2a4:=rulec kb2a 4 _ rfl
    have c2a5:=rulec kb2a 5 _ rfl
    have c2a6:=rulec kb2a 6 _ rfl
    have c2a7:=rulec kb2a 7 _ rfl
    have c2a8:=rulec kb2a 8 _ rfl
    have c2a9:=rulec kb2a 9 _ rfl
    have c2a10:=rulec kb2a 10 _ rfl
    have c2a11:=rulec kb2a 11 _ rfl
    have c2a12:=rulec kb2a 12 _ rfl
    have c2al:=ruleb kb2a
    clear kb2a
    have kb2b:∀ wx,Hd S2 wx→Blk wx (bx) [.int .u64 s0,.int .u64 s1,.int .u64 s2,.int .u64 s3,.int .u64 s4,.int .u64 s5]:=fun wx h=>KM2.out wx _ _ h (by simp)
    have c2b0:=rulec kb2b 0 _ rfl
    have c2b1:=rulec kb2b 1 _ rfl
    have c2b2:=rulec kb2b 2 _ rfl
    have c2b3:=rulec kb2b 3 _ rfl
    have c2b4:=rulec kb2b 4 _ rfl
    have c2b5:=rulec kb2b 5 _ rfl
    have c2bl:=ruleb kb2b
    clear kb2b
    have kb2c:∀ wx,Hd S2 wx→Blk wx (bz) [.int .u64 t0,.int .u64 t1,.int .u64 t2,.int .u64 t3,.int .u64 t4,.int .u64 t5]:=fun wx h=>KM2.out wx _ _ h (by simp)
    have c2c0:=rulec kb2c 0 _ rfl
    have c2c1:=rulec kb2c 1 _ rfl
    have c2c2:=rulec kb2c 2 _ rfl
    have c2c3:=rulec kb2c 3 _ rfl
    have c2c4:=rulec kb2c 4 _ rfl
    have c2c5:=rulec kb2c 5 _ rfl
    have c2cl:=ruleb kb2c
    clear kb2c
    have hN2:=bel.size
    clear bel Br BX BZ
    go_region_held3 (Hd S2)
      (first
        | with_reducible exact KL2.out _ _ (by assumption) hb
        | with_reducible exact KA2.out _ _ (by assumption)
        | with_reducible exact KS2.out _ _ _ (by omega) (by assumption)
        | with_reducible exact KD2.out _ hS2
        | with_reducible exact KD2.out _ (KA2.out _ _ hS2)
        | with_reducible assumption)
      (first
        | (go_at_call 47;go_fit (same_num fS (fits_zero 6) H1.out);rintro e w' ⟨rfl,hb⟩)
        | (go_at_call 47;go_fit (same_num fT (fits_zero 6) H2.out);rintro e w' ⟨rfl,hb⟩))
    all_goals
      have Br:=KM2.out _ (w.heap.size + 1 + 1) _ (by assumption) (List.Mem.head _)
      have ltr:=Br.lt
      have j0:=Br.cell 0 _ rfl;have i0:=Br.frozen 0;have j1:=Br.cell 1 _ rfl;have i1:=Br.frozen 1;have j2:=Br.cell 2 _ rfl;have i2:=Br.frozen 2;have j3:=Br.cell 3 _ rfl;have i3:=Br.frozen 3;have j4:=Br.cell 4 _ rfl;have i4:=Br.frozen 4;have j5:=Br.cell 5 _ rfl;have i5:=Br.frozen 5;have j6:=Br.cell 6 _ rfl;have i6:=Br.frozen 6;have j7:=Br.cell 7 _ rfl;have i7:=Br.frozen 7;have j8:=Br.cell 8 _ rfl;have i8:=Br.frozen 8;have j9:=Br.cell 9 _ rfl;have i9:=Br.frozen 9;have j10:=Br.cell 10 _ rfl;have i10:=Br.frozen 10;have j11:=Br.cell 11 _ rfl;have i11:=Br.frozen 11;have j12:=Br.cell 12 _ rfl;have i12:=Br.frozen 12
      go_wp2_with fail
      exact bodyPost_ret (v:=.agg #[.int .u64 s0,.int .u64 s1,.int .u64 s2,.int .u64 s3,.int .u64 s4,.int .u64 s5,.int .u64 t0,.int .u64 t1,.int .u64 t2,.int .u64 t3,.int .u64 t4,.int .u64 t5,.bool (bits .and .u64 d1 d2 == 1)]) (by simp [results,Tryz.results55,go_sem,j0,j1,j2,j3,j4,j5,j6,j7,j8,j9,j10,j11,j12]) rfl ⟨⟨s0,s1,s2,s3,s4,s5,t0,t1,t2,t3,t4,t5,by rw [noo_beq HE.out],fS,fT,HS.out,HT.out⟩,below_put13 (KB2.out _ (by assumption)) (by omega)⟩
/-- one of two told points -/
theorem con_pick6 {x0 x1 x2 x3 x4 x5 y0 y1 y2 y3 y4 y5 p0 p1 p2 p3 p4 p5 q0 q1 q2 q3 q4 q5 c1:Int} {n m:Bool} {P Q:Pt} {w:World} (h01:c1=0∨c1=1) (t:Told P [x0,x1,x2,x3,x4,x5] [y0,y1,y2,y3,y4,y5] n) (u:Told Q [p0,p1,p2,p3,p4,p5] [q0,q1,q2,q3,q4,q5] m) (hP:OnC P) (hQ:OnC Q) :
  Calls Tryz.prog 55 #[.int .u64 c1,.agg #[.int .u64 x0,.int .u64 x1,.int .u64 x2,.int .u64 x3,.int .u64 x4,.int .u64 x5,.int .u64 y0,.int .u64 y1,.int .u64 y2,.int .u64 y3,.int .u64 y4,.int .u64 y5,.bool n],.agg #[.int .u64 p0,.int .u64 p1,.int .u64 p2,.int .u64 p3,.int .u64 p4,.int .u64 p5,.int .u64 q0,.int .u64 q1,.int .u64 q2,.int .u64 q3,.int .u64 q4,.int .u64 q5,.bool m]] w fun e w'=>∃ (s0 s1 s2 s3 s4 s5 t0 t1 t2 t3 t4 t5:Int) (k:Bool),e=.returned (.agg #[.int .u64 s0,.int .u64 s1,.int .u64 s2,.int .u64 s3,.int .u64 s4,.int .u64 s5,.int .u64 t0,.int .u64 t1,.int .u64 t2,.int .u64 t3,.int .u64 t4,.int .u64 t5,.bool k])∧Told (pkP c1 P Q) [s0,s1,s2,s3,s4,s5] [t0,t1,t2,t3,t4,t5] k∧Below w.heap.size w w':=by
 refine (con_pk h01 t.fA t.fB u.fA u.fB).mono ?_
 rintro e w' ⟨⟨s0,s1,s2,s3,s4,s5,t0,t1,t2,t3,t4,t5,h1,_,_,h2,h3⟩,hb⟩
 exact ⟨s0,s1,s2,s3,s4,s5,t0,t1,t2,t3,t4,t5,_,h1,pk_told h01 t u hP hQ h2 h3,hb⟩
set_option maxRecDepth 100000 in
theorem con_inf {w:World} :
  Calls Tryz.prog 53 #[] w fun e w'=>e=.returned (.agg #[.int .u64 0,.int .u64 0,.int .u64 0,.int .u64 0,.int .u64 0,.int .u64 0,.int .u64 0,.int .u64 0,.int .u64 0,.int .u64 0,.int .u64 0,.int .u64 0,.bool true])∧Below w.heap.size w w':=by
 go_enter Tryz.func53,Tryz.ntmps53
 go_wp2
 exact bodyPost_ret (v:=.agg #[.int .u64 0,.int .u64 0,.int .u64 0,.int .u64 0,.int .u64 0,.int .u64 0,.int .u64 0,.int .u64 0,.int .u64 0,.int .u64 0,.int .u64 0,.int .u64 0,.bool true]) (by simp [results,Tryz.results53,go_sem]) rfl ⟨rfl,(Below.refl _ _).alloc (Nat.le_refl _) _⟩
set_option maxRecDepth 100000 in
set_option maxHeartbeats 4000000 in
theorem con_add6 {x0 x1 x2 x3 x4 x5 y0 y1 y2 y3 y4 y5 p0 p1 p2 p3 p4 p5 q0 q1 q2 q3 q4 q5:Int} {n m:Bool} {P Q:Pt} {w:World} (G:GlsC w) (t:Told P [x0,x1,x2,x3,x4,x5] [y0,y1,y2,y3,y4,y5] n) (u:Told Q [p0,p1,p2,p3,p4,p5] [q0,q1,q2,q3,q4,q5] m) (hP:OnC P) (hQ:OnC Q) :
  Calls Tryz.prog 54 #[.agg #[.int .u64 x0,.int .u64 x1,.int .u64 x2,.int .u64 x3,.int .u64 x4,.int .u64 x5,.int .u64 y0,.int .u64 y1,.int .u64 y2,.int .u64 y3,.int .u64 y4,.int .u64 y5,.bool n],.agg #[.int .u64 p0,.int .u64 p1,.int .u64 p2,.int .u64 p3,.int .u64 p4,.int .u64 p5,.int .u64 q0,.int .u64 q1,.int .u64 q2,.int .u64 q3,.int .u64 q4,.int .u64 q5,.bool m]] w fun e w'=>∃ (s0 s1 s2 s3 s4 s5 t0 t1 t2 t3 t4 t5:Int) (k:Bool),e=.returned (.agg #[.int .u64 s0,.int .u64 s1,.int .u64 s2,.int .u64 s3,.int .u64 s4,.int .u64 s5,.int .u64 t0,.int .u64 t1,.int .u64 t2,.int .u64 t3,.int .u64 t4,.int .u64 t5,.bool k])∧Told (cadd P Q) [s0,s1,s2,s3,s4,s5] [t0,t1,t2,t3,t4,t5] k∧Below w.heap.size w w':=by
 have B0:=((Blk.new w [.int .u64 x0,.int .u64 x1,.int .u64 x2,.int .u64 x3,.int .u64 x4,.int .u64 x5,.int .u64 y0,.int .u64 y1,.int .u64 y2,.int .u64 y3,.int .u64 y4,.int .u64 y5,.bool n] 26 (w.heap.size) rfl).alloc (.cells [.int .u64 p0,.int .u64 p1,.int .u64 p2,.int .u64 p3,.int .u64 p4,.int .u64 p5,.int .u64 q0,.int .u64 q1,.int .u64 q2,.int .u64 q3,.int .u64 q4,.int .u64 q5,.bool m].toArray 26)).alloc (.cells [.int .u64 0,.int .u64 0,.int .u64 0,.int .u64 0,.int .u64 0,.int .u64 0,.int .u64 0,.int .u64 0,.int .u64 0,.int .u64 0,.int .u64 0,.int .u64 0,.bool false].toArray 26)
 have B1:=(Blk.new (w.alloc (.cells [.int .u64 x0,.int .u64 x1,.int .u64 x2,.int .u64 x3,.int .u64 x4,.int .u64 x5,.int .u64 y0,.int .u64 y1,.int .u64 y2,.int .u64 y3,.int .u64 y4,.int .u64 y5,.bool n].toArray 26)) [.int .u64 p0,.int .u64 p1,.int .u64 p2,.int .u64 p3,.int .u64 p4,.int .u64 p5,.int .u64 q0,.int .u64 q1,.int .u64 q2,.int .u64 q3,.int .u64 q4,.int .u64 q5,.bool m] 26 (w.heap.size + 1) (by simp)).alloc (.cells [.int .u64 0,.int .u64 0,.int .u64 0,.int .u64 0,.int .u64 0,.int .u64 0,.int .u64 0,.int .u64 0,.int .u64 0,.int .u64 0,.int .u64 0,.int .u64 0,.bool false].toArray 26)
 have B2:=Blk.new ((w.alloc (.cells [.int .u64 x0,.int .u64 x1,.int .u64 x2,.int .u64 x3,.int .u64 x4,.int .u64 x5,.int .u64 y0,.int .u64 y1,.int .u64 y2,.int .u64 y3,.int .u64 y4,.int .u64 y5,.bool n].toArray 26)).alloc (.cells [.int .u64 p0,.int .u64 p1,.int .u64 p2,.int .u64 p3,.int .u64 p4,.int .u64 p5,.int .u64 q0,.int .u64 q1,.int .u64 q2,.int .u64 q3,.int .u64 q4,.int .u64 q5,.bool m].toArray 26)) [.int .u64 0,.int .u64 0,.int .u64 0,.int .u64 0,.int .u64 0,.int .u64 0,.int .u64 0,.int .u64 0,.int .u64 0,.int .u64 0,.int .u64 0,.int .u64 0,.bool false] 26 (w.heap.size + 1 + 1) (by simp)
 have bel:Below w.heap.size w (((w.alloc (.cells [.int .u64 x0,.int .u64 x1,.int .u64 x2,.int .u64 x3,.int .u64 x4,.int .u64 x5,.int .u64 y0,.int .u64 y1,.int .u64 y2,.int .u64 y3,.int .u64 y4,.int .u64 y5,.bool n].toArray 26)).alloc (.cells [.int .u64 p0,.int .u64 p1,.int .u64 p2,.int .u64 p3,.int .u64 p4,.int .u64 p5,.int .u64 q0,.int .u64 q1,.int .u64 q2,.int .u64 q3,.int .u64 q4,.int .u64 q5,.bool m].toArray 26)).alloc (.cells [.int .u64 0,.int .u64 0,.int .u64 0,.int .u64 0,.int .u64 0,.int .u64 0,.int .u64 0,.int .u64 0,.int .u64 0,.int .u64 0,.int .u64 0,.int .u64 0,.bool false].toArray 26)):=((((Below.refl _ _).alloc (Nat.le_refl _) _).alloc (by simp) _).alloc (by simp;omega) _)
 go_enter Tryz.func54,Tryz.ntmps54
 go_upto_region 1 with fail
 try simp only [us,List.map_cons,List.map_nil] at bel
 generalize (((w.alloc (Obj.cells #[.int .u64 x0,.int .u64 x1,.int .u64 x2,.int .u64 x3,.int .u64 x4,.int .u64 x5,.int .u64 y0,.int .u64 y1,.int .u64 y2,.int .u64 y3,.int .u64 y4,.int .u64 y5,.bool n] 26)).alloc (Obj.cells #[.int .u64 p0,.int .u64 p1,.int .u64 p2,.int .u64 p3,.int .u64 p4,.int .u64 p5,.int .u64 q0,.int .u64 q1,.int .u64 q2,.int .u64 q3,.int .u64 q4,.int .u64 q5,.bool m] 26)).alloc (Obj.cells #[.int .u64 0,.int .u64 0,.int .u64 0,.int .u64 0,.int .u64 0,.int .u64 0,.int .u64 0,.int .u64 0,.int .u64 0,.int .u64 0,.int .u64 0,.int .u64 0,.bool false] 26))=W at *
 have Bp:=B0
 have Bq:=B1
 have Br:=B2
 clear B0 B1 B2
 have ltp:=Bp.lt
 have cp0:=Bp.cell 0 _ rfl
 have cp1:=Bp.cell 1 _ rfl
 have cp2:=Bp.cell 2 _ rfl
 have cp3:=Bp.cell 3 _ rfl
 have cp4:=Bp.cell 4 _ rfl
 have cp5:=Bp.cell 5 _ rfl
 have cp6:=Bp.cell 6 _ rfl
 have cp7:=Bp.cell 7 _ rfl
 have cp8:=Bp.cell 8 _ rfl
 have cp9:=Bp.cell 9 _ rfl
 have cp10:=Bp.cell 10 _ rfl
 have cp11:=Bp.cell 11 _ rfl
 have cp12:=Bp.cell 12 _ rfl
 have ltq:=Bq.lt
 have cq0:=Bq.cell 0 _ rfl
 have cq1:=Bq.cell 1 _ rfl
 have cq2:=Bq.cell 2 _ rfl
 have cq3:=Bq.cell 3 _ rfl
 have cq4:=Bq.cell 4 _ rfl
 have cq5:=Bq.cell 5 _ rfl
 have cq6:=Bq.cell 6 _ rfl
 have cq7:=Bq.cell 7 _ rfl
 have cq8:=Bq.cell 8 _ rfl
 have cq9:=Bq.cell 9 _ rfl
 have cq10:=Bq.cell 10 _ rfl
 have cq11:=Bq.cell 11 _ rfl
 have cq12:=Bq.cell 12 _ rfl
 go_wp2_with fail
 refine (con_Add (G.below bel) t u hP hQ).mono ?_
 rintro e w1 ⟨s0,s1,s2,s3,s4,s5,t0,t1,t2,t3,t4,t5,kk,rfl,TS,hb⟩
 clear ltp cp0 cp1 cp2 cp3 cp4 cp5 cp6 cp7 cp8 cp9 cp10 cp11 cp12 ltq cq0 cq1 cq2 cq3 cq4 cq5 cq6 cq7 cq8 cq9 cq10 cq11 cq12
 replace Bp:=Bp.later hb
 replace Bq:=Bq.later hb
 replace Br:=Br.later hb
 replace bel:=below_step bel hb
 clear hb
 have ltr0:=Br.lt
 replace Bp:=Bp.alloc (.cells [.int .u64 s0,.int .u64 s1,.int .u64 s2,.int .u64 s3,.int .u64 s4,.int .u64 s5,.int .u64 t0,.int .u64 t1,.int .u64 t2,.int .u64 t3,.int .u64 t4,.int .u64 t5,.bool kk].toArray 26)
 replace Bq:=Bq.alloc (.cells [.int .u64 s0,.int .u64 s1,.int .u64 s2,.int .u64 s3,.int .u64 s4,.int .u64 s5,.int .u64 t0,.int .u64 t1,.int .u64 t2,.int .u64 t3,.int .u64 t4,.int .u64 t5,.bool kk].toArray 26)
 replace Br:=Br.alloc (.cells [.int .u64 s0,.int .u64 s1,.int .u64 s2,.int .u64 s3,.int .u64 s4,.int .u64 s5,.int .u64 t0,.int .u64 t1,.int .u64 t2,.int .u64 t3,.int .u64 t4,.int .u64 t5,.bool kk].toArray 26)
 have Bs:=Blk.new w1 [.int .u64 s0,.int .u64 s1,.int .u64 s2,.int .u64 s3,.int .u64 s4,.int .u64 s5,.int .u64 t0,.int .u64 t1,.int .u64 t2,.int .u64 t3,.int .u64 t4,.int .u64 t5,.bool kk] 26 w1.heap.size rfl
 replace bel:=below_alloc (o:=.cells [.int .u64 s0,.int .u64 s1,.int .u64 s2,.int .u64 s3,.int .u64 s4,.int .u64 s5,.int .u64 t0,.int .u64 t1,.int .u64 t2,.int .u64 t3,.int .u64 t4,.int .u64 t5,.bool kk].toArray 26) bel
 have lws:∀ z,z < w1.heap.size→z≠w1.heap.size:=fun z h=>Nat.ne_of_lt h
 go_upto_region 2 with fail
 obtain ⟨bs,hbs⟩:∃ b,b=w1.heap.size:=⟨_,rfl⟩
 clear lws
 generalize w1.alloc (Obj.cells #[.int .u64 s0,.int .u64 s1,.int .u64 s2,.int .u64 s3,.int .u64 s4,.int .u64 s5,.int .u64 t0,.int .u64 t1,.int .u64 t2,.int .u64 t3,.int .u64 t4,.int .u64 t5,.bool kk] 26)=Ws at *
 rw [← hbs] at Bs ltr0 ⊢
 clear hbs
 have lts:=Bs.lt
 have cs0:=Bs.cell 0 _ rfl
 have cs1:=Bs.cell 1 _ rfl
 have cs2:=Bs.cell 2 _ rfl
 have cs3:=Bs.cell 3 _ rfl
 have cs4:=Bs.cell 4 _ rfl
 have cs5:=Bs.cell 5 _ rfl
 have cs6:=Bs.cell 6 _ rfl
 have cs7:=Bs.cell 7 _ rfl
 have cs8:=Bs.cell 8 _ rfl
 have cs9:=Bs.cell 9 _ rfl
 have cs10:=Bs.cell 10 _ rfl
 have cs11:=Bs.cell 11 _ rfl
 have cs12:=Bs.cell 12 _ rfl
 have ltr:=Br.lt
 have d0:=Br.cell 0 _ rfl;have g0:=Br.frozen 0;have d1:=Br.cell 1 _ rfl;have g1:=Br.frozen 1;have d2:=Br.cell 2 _ rfl;have g2:=Br.frozen 2;have d3:=Br.cell 3 _ rfl;have g3:=Br.frozen 3;have d4:=Br.cell 4 _ rfl;have g4:=Br.frozen 4;have d5:=Br.cell 5 _ rfl;have g5:=Br.frozen 5;have d6:=Br.cell 6 _ rfl;have g6:=Br.frozen 6;have d7:=Br.cell 7 _ rfl;have g7:=Br.frozen 7;have d8:=Br.cell 8 _ rfl;have g8:=Br.frozen 8;have d9:=Br.cell 9 _ rfl;have g9:=Br.frozen 9;have d10:=Br.cell 10 _ rfl;have g10:=Br.frozen 10;have d11:=Br.cell 11 _ rfl;have g11:=Br.frozen 11;have d12:=Br.cell 12 _ rfl;have g12:=Br.frozen 12
 go_wp2_with fail
 exact bodyPost_ret (v:=.agg #[.int .u64 s0,.int .u64 s1,.int .u64 s2,.int .u64 s3,.int .u64 s4,.int .u64 s5,.int .u64 t0,.int .u64 t1,.int .u64 t2,.int .u64 t3,.int .u64 t4,.int .u64 t5,.bool kk]) (by simp [results,Tryz.results54,go_sem,d0,d1,d2,d3,d4,d5,d6,d7,d8,d9,d10,d11,d12]) rfl ⟨s0,s1,s2,s3,s4,s5,t0,t1,t2,t3,t4,t5,kk,rfl,TS,below_put13 bel (by omega)⟩
/-- a told point in a block of its own -/
def OutP (w:World) (b:Nat) (Q:Pt):Prop:=∃ (s0 s1 s2 s3 s4 s5 t0 t1 t2 t3 t4 t5:Int) (k:Bool),Blk w b [.int .u64 s0,.int .u64 s1,.int .u64 s2,.int .u64 s3,.int .u64 s4,.int .u64 s5,.int .u64 t0,.int .u64 t1,.int .u64 t2,.int .u64 t3,.int .u64 t4,.int .u64 t5,.bool k]∧Told Q [s0,s1,s2,s3,s4,s5] [t0,t1,t2,t3,t4,t5] k
theorem bit_num {a0 a1 a2 a3 a4 a5 i c:Int} {w:World} (fA:fits [a0,a1,a2,a3,a4,a5]) (hc:bitN [a0,a1,a2,a3,a4,a5] i=c) :
  Calls Tryz.prog 56 #[.agg #[.int .u64 a0,.int .u64 a1,.int .u64 a2,.int .u64 a3,.int .u64 a4,.int .u64 a5],.int .i64 i] w fun e w'=>e=.returned (.int .u64 c)∧Below w.heap.size w w':=by
 subst hc;exact bit6 fA
theorem nat_384 {a0 a1 a2 a3 a4 a5:Int} (fA:fits [a0,a1,a2,a3,a4,a5]):(v64 [a0,a1,a2,a3,a4,a5]).toNat < 2 ^ (384 - 0):=by
 have h:=v6_bound _ rfl fA
 have e:(18446744073709551616:Int) ^ 6=((2 ^ 384:Nat):Int):=by decide +kernel
 rw [show 384 - 0=384 from rfl]
 omega
theorem told_GC:Told GG [4203087948775033527,6125724927633205612,6482722621138151992,7934563412932533144,10282218360005504372,12288012358878168375] [8809917716911230559,747793036959711645,16850834916486723776,17938995913990739068,6745997240412855337,3897828414440483951] false:=⟨fits6 (by decide),fits6 (by decide),.inr ⟨by show some (GX,GY)=_;rw [show v64 [4203087948775033527,6125724927633205612,6482722621138151992,7934563412932533144,10282218360005504372,12288012358878168375]=GX by decide +kernel,show v64 [8809917716911230559,747793036959711645,16850834916486723776,17938995913990739068,6745997240412855337,3897828414440483951]=GY by decide +kernel],rfl⟩⟩
end Go.Proofs.YtlkljfnenonfgaaGreatDoor
