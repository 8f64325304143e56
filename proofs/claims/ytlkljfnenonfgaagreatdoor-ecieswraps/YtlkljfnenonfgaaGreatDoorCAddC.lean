/- curve.Add: the sum of two points. -/
import Derived.Test.YtlkljfnenonfgaaGreatDoorCCode
import Derived.Test.YtlkljfnenonfgaaGreatDoorCSum
import Derived.Test.YtlkljfnenonfgaaGreatDoorCNum
import Derived.Test.YtlkljfnenonfgaaGreatDoorRows
import Derived.Deep.WholeRow
import Derived.Deep.RegionHeld3
import Derived.Deep.DeepCutAuto
import Derived.Deep.DeepFit
namespace Go.Proofs.YtlkljfnenonfgaaGreatDoor
open Go.RowKit
theorem newP {w:World} {t:TypeId}:Blk (w.alloc (Obj.cells #[.int .u64 0,.int .u64 0,.int .u64 0,.int .u64 0,.int .u64 0,.int .u64 0,.int .u64 0,.int .u64 0,.int .u64 0,.int .u64 0,.int .u64 0,.int .u64 0,.bool false] t)) w.heap.size [.int .u64 0,.int .u64 0,.int .u64 0,.int .u64 0,.int .u64 0,.int .u64 0,.int .u64 0,.int .u64 0,.int .u64 0,.int .u64 0,.int .u64 0,.int .u64 0,.bool false]:=Blk.new w [.int .u64 0,.int .u64 0,.int .u64 0,.int .u64 0,.int .u64 0,.int .u64 0,.int .u64 0,.int .u64 0,.int .u64 0,.int .u64 0,.int .u64 0,.int .u64 0,.bool false] t w.heap.size rfl
theorem newPd {w:World} {t:TypeId}:Blk (w.alloc (Obj.cells #[.int .u64 0,.int .u64 0,.int .u64 0,.int .u64 0,.int .u64 0,.int .u64 0,.int .u64 0,.int .u64 0,.int .u64 0,.int .u64 0,.int .u64 0,.int .u64 0,.bool false] t)).drew w.heap.size [.int .u64 0,.int .u64 0,.int .u64 0,.int .u64 0,.int .u64 0,.int .u64 0,.int .u64 0,.int .u64 0,.int .u64 0,.int .u64 0,.int .u64 0,.int .u64 0,.bool false]:=(Blk.new w [.int .u64 0,.int .u64 0,.int .u64 0,.int .u64 0,.int .u64 0,.int .u64 0,.int .u64 0,.int .u64 0,.int .u64 0,.int .u64 0,.int .u64 0,.int .u64 0,.bool false] t w.heap.size rfl).drew
theorem blk_putP {w:World} {b:Nat} {x0 x1 x2 x3 x4 x5 y0 y1 y2 y3 y4 y5 s0 s1 s2 s3 s4 s5 t0 t1 t2 t3 t4 t5:Int} {n k:Bool} (h:Blk w b [.int .u64 x0,.int .u64 x1,.int .u64 x2,.int .u64 x3,.int .u64 x4,.int .u64 x5,.int .u64 y0,.int .u64 y1,.int .u64 y2,.int .u64 y3,.int .u64 y4,.int .u64 y5,.bool n]):Blk ((((((((((((((w.setCell ⟨b,0,none⟩ (.int .u64 s0)).setCell ⟨b,1,none⟩ (.int .u64 s1)).setCell ⟨b,2,none⟩ (.int .u64 s2)).setCell ⟨b,3,none⟩ (.int .u64 s3)).setCell ⟨b,4,none⟩ (.int .u64 s4)).setCell ⟨b,5,none⟩ (.int .u64 s5)).setCell ⟨b,6,none⟩ (.int .u64 t0)).setCell ⟨b,7,none⟩ (.int .u64 t1)).setCell ⟨b,8,none⟩ (.int .u64 t2)).setCell ⟨b,9,none⟩ (.int .u64 t3)).setCell ⟨b,10,none⟩ (.int .u64 t4)).setCell ⟨b,11,none⟩ (.int .u64 t5)).setCell ⟨b,12,none⟩ (.bool k))) b [.int .u64 s0,.int .u64 s1,.int .u64 s2,.int .u64 s3,.int .u64 s4,.int .u64 s5,.int .u64 t0,.int .u64 t1,.int .u64 t2,.int .u64 t3,.int .u64 t4,.int .u64 t5,.bool k] :=
 ((((((((((((((h.set 0 _).set 1 _).set 2 _).set 3 _).set 4 _).set 5 _).set 6 _).set 7 _).set 8 _).set 9 _).set 10 _).set 11 _).set 12 _))
theorem op_or (A B C D:List Int):opN A B C D=0∨opN A B C D=1:=by unfold opN;split<;>simp
theorem op_one (A B C D:List Int):opN A B C D=1↔A=C∧¬ B=D:=by
 unfold opN
 split<;>rename_i h
 ·exact ⟨fun _=>h,fun _=>rfl⟩
 ·exact ⟨fun k=>absurd k (by decide),fun k=>absurd k h⟩
theorem pk_one (A B:List Int):pkN 1 A B=B:=rfl
theorem pk_zero (A B:List Int):pkN 0 A B=A:=rfl
theorem aff_noo {A B:List Int} (h:Aff (v64 A) (v64 B)):bnN A B=0:=by
 refine (bn_or _ _).resolve_right (fun k=>?_)
 obtain ⟨rfl,rfl⟩:=(bn_one _ _).1 k
 exact not_nought h
theorem same_yc {x y1 y2:Int} (A1:Aff x y1) (A2:Aff x y2) (hn:¬ Opp x y1 x y2):y1=y2:=by
 have hs:¬ Nu (y1 + y2):=fun k=>hn ⟨rfl,nu_iff.1 k⟩
 have hd:Nu ((y1 - y2) * (y1 + y2)):=nu_of2 A1.cu 1 A2.cu (-1) (by grind)
 exact A1.ly.eq A2.ly (hd.left hs)
theorem y_not {x y:Int} (A:Aff x y):¬ Nu (y + y):=by
 intro h
 have k1:Nu y:=(Nu.to h (show y * 2=y + y by omega)).left nu_two
 exact no_two A.lx.1 (nu_of2 A.cu (-1) k1 y (by grind))
theorem add_told {P Q:Pt} {X Y A B G H S1 T1 S2 T2 S3 T3:List Int} {n m:Bool} {o c d:Int} (t:Told P X Y n) (u:Told Q A B m) (hP:OnC P) (hQ:OnC Q) (lX:X.length=6) (lY:Y.length=6) (lA:A.length=6) (lB:B.length=6)
  (hg:Aff (v64 X) (v64 Y)→Aff (v64 A) (v64 B)→¬ Opp (v64 X) (v64 Y) (v64 A) (v64 B)→cadd (some (v64 X,v64 Y)) (some (v64 A,v64 B))=some (v64 G,v64 H))
  (ho:opN X Y A B=o) (hc:bnN X Y=c) (hd:bnN A B=d) (h1:S1=pkN o G [0,0,0,0,0,0]∧T1=pkN o H [0,0,0,0,0,0]) (h2:S2=pkN c S1 A∧T2=pkN c T1 B) (h3:S3=pkN d S2 X∧T3=pkN d T2 Y) (fS:fits S3) (fT:fits T3):Told (cadd P Q) S3 T3 (Noo S3 T3):=by
 refine told_noo fS fT (on_add hP hQ) ?_
 rcases u.is with ⟨rfl,_,rfl,rfl⟩|⟨rfl,_⟩
 ·have d1:d=1:=by rw [← hd];exact (bn_one _ _).2 ⟨rfl,rfl⟩
  subst d1
  rw [pk_one,pk_one] at h3
  rw [h3.1,h3.2]
  rcases t.is with ⟨rfl,_,rfl,rfl⟩|⟨rfl,_⟩
  ·exact .inl ⟨rfl,rfl,rfl⟩
  ·exact .inr rfl
 ·have d0:d=0:=by rw [← hd];exact aff_noo hQ
  subst d0
  rw [pk_zero,pk_zero] at h3
  rcases t.is with ⟨rfl,_,rfl,rfl⟩|⟨rfl,_⟩
  ·have c1:c=1:=by rw [← hc];exact (bn_one _ _).2 ⟨rfl,rfl⟩
   subst c1
   rw [pk_one,pk_one] at h2
   rw [h3.1,h3.2,h2.1,h2.2]
   exact .inr rfl
  ·have c0:c=0:=by rw [← hc];exact aff_noo hP
   subst c0
   rw [pk_zero,pk_zero] at h2
   rw [h3.1,h3.2,h2.1,h2.2]
   have A1:Aff (v64 X) (v64 Y):=hP
   have A2:Aff (v64 A) (v64 B):=hQ
   by_cases hn:Opp (v64 X) (v64 Y) (v64 A) (v64 B)
   ·have o1:o=1:=by
     rw [← ho]
     refine (op_one _ _ _ _).2 ⟨v64_inj _ _ (by rw [lX,lA]) t.fA u.fA hn.1,?_⟩
     rintro rfl
     exact y_not A1 (nu_iff.2 hn.2)
    subst o1
    rw [pk_one,pk_one] at h1
    exact .inl ⟨add_opp hn,h1.1,h1.2⟩
   ·have o0:o=0:=by
     rw [← ho]
     refine (op_or _ _ _ _).resolve_right (fun k=>?_)
     obtain ⟨rfl,hy⟩:=(op_one _ _ _ _).1 k
     exact hy (v64_inj _ _ (by rw [lY,lB]) t.fB u.fB (same_yc A1 A2 hn))
    subst o0
    rw [pk_zero,pk_zero] at h1
    rw [h1.1,h1.2]
    exact .inr (hg A1 A2 hn)
theorem add_fin9 {P Q:Pt} {x0 x1 x2 x3 x4 x5 y0 y1 y2 y3 y4 y5 p0 p1 p2 p3 p4 p5 q0 q1 q2 q3 q4 q5 o c d:Int} {S1 T1 S2 T2 S3 T3:List Int} {n m:Bool} (t:Told P [x0,x1,x2,x3,x4,x5] [y0,y1,y2,y3,y4,y5] n∧OnC P) (u:Told Q [p0,p1,p2,p3,p4,p5] [q0,q1,q2,q3,q4,q5] m∧OnC Q) (ho:opN [x0,x1,x2,x3,x4,x5] [y0,y1,y2,y3,y4,y5] [p0,p1,p2,p3,p4,p5] [q0,q1,q2,q3,q4,q5]=o) (hc:bnN [x0,x1,x2,x3,x4,x5] [y0,y1,y2,y3,y4,y5]=c) (hd:bnN [p0,p1,p2,p3,p4,p5] [q0,q1,q2,q3,q4,q5]=d)
  (h1:∃ G H:List Int,(Aff (v64 [x0,x1,x2,x3,x4,x5]) (v64 [y0,y1,y2,y3,y4,y5])→Aff (v64 [p0,p1,p2,p3,p4,p5]) (v64 [q0,q1,q2,q3,q4,q5])→¬ Opp (v64 [x0,x1,x2,x3,x4,x5]) (v64 [y0,y1,y2,y3,y4,y5]) (v64 [p0,p1,p2,p3,p4,p5]) (v64 [q0,q1,q2,q3,q4,q5])→cadd (some (v64 [x0,x1,x2,x3,x4,x5],v64 [y0,y1,y2,y3,y4,y5])) (some (v64 [p0,p1,p2,p3,p4,p5],v64 [q0,q1,q2,q3,q4,q5]))=some (v64 G,v64 H))∧S1=pkN o G [0,0,0,0,0,0]∧T1=pkN o H [0,0,0,0,0,0]) (h2:S2=pkN c S1 [p0,p1,p2,p3,p4,p5]∧T2=pkN c T1 [q0,q1,q2,q3,q4,q5]) (h3:S3=pkN d S2 [x0,x1,x2,x3,x4,x5]∧T3=pkN d T2 [y0,y1,y2,y3,y4,y5]) (fS:fits S3) (fT:fits T3):Told (cadd P Q) S3 T3 (Noo S3 T3):=by
 obtain ⟨G,H,hg,h1⟩:=h1
 exact add_told t.1 u.1 t.2 u.2 rfl rfl rfl rfl hg ho hc hd h1 h2 h3 fS fT
set_option linter.unusedSimpArgs false in
set_option maxRecDepth 100000 in
set_option maxHeartbeats 8000000 in
theorem add_ret {x0 x1 x2 x3 x4 x5 y0 y1 y2 y3 y4 y5 p0 p1 p2 p3 p4 p5 q0 q1 q2 q3 q4 q5:Int} {n m:Bool} {P Q:Pt} {w:World} (G:GlsC w) (t:Told P [x0,x1,x2,x3,x4,x5] [y0,y1,y2,y3,y4,y5] n) (u:Told Q [p0,p1,p2,p3,p4,p5] [q0,q1,q2,q3,q4,q5] m) (hP:OnC P) (hQ:OnC Q) :
    Calls Tryz.prog 76 #[.agg #[.int .u64 x0,.int .u64 x1,.int .u64 x2,.int .u64 x3,.int .u64 x4,.int .u64 x5,.int .u64 y0,.int .u64 y1,.int .u64 y2,.int .u64 y3,.int .u64 y4,.int .u64 y5,.bool n],.agg #[.int .u64 p0,.int .u64 p1,.int .u64 p2,.int .u64 p3,.int .u64 p4,.int .u64 p5,.int .u64 q0,.int .u64 q1,.int .u64 q2,.int .u64 q3,.int .u64 q4,.int .u64 q5,.bool m]] w fun e w'=>TRet e (cadd P Q)∧Below w.heap.size w w':=by
  have fX:fits [x0,x1,x2,x3,x4,x5]:=t.fA
  have fY:fits [y0,y1,y2,y3,y4,y5]:=t.fB
  have fP:fits [p0,p1,p2,p3,p4,p5]:=u.fA
  have fQ:fits [q0,q1,q2,q3,q4,q5]:=u.fB
  have HO:Hid _:=on_told t hP
  have HU:Hid _:=on_told u hQ
  have HT:Hid (Told P [x0,x1,x2,x3,x4,x5] [y0,y1,y2,y3,y4,y5] n∧OnC P):=⟨t,hP⟩
  have HTU:Hid (Told Q [p0,p1,p2,p3,p4,p5] [q0,q1,q2,q3,q4,q5] m∧OnC Q):=⟨u,hQ⟩
  clear t u hP hQ
  obtain ⟨o,ho⟩:∃ c,opN [x0,x1,x2,x3,x4,x5] [y0,y1,y2,y3,y4,y5] [p0,p1,p2,p3,p4,p5] [q0,q1,q2,q3,q4,q5]=c:=⟨_,rfl⟩
  obtain ⟨c,hc⟩:∃ c,bnN [x0,x1,x2,x3,x4,x5] [y0,y1,y2,y3,y4,y5]=c:=⟨_,rfl⟩
  obtain ⟨d,hd⟩:∃ c,bnN [p0,p1,p2,p3,p4,p5] [q0,q1,q2,q3,q4,q5]=c:=⟨_,rfl⟩
  have HOP:Hid (opN [x0,x1,x2,x3,x4,x5] [y0,y1,y2,y3,y4,y5] [p0,p1,p2,p3,p4,p5] [q0,q1,q2,q3,q4,q5]=o):=ho
  have HC:Hid (bnN [x0,x1,x2,x3,x4,x5] [y0,y1,y2,y3,y4,y5]=c):=hc
  have HD:Hid (bnN [p0,p1,p2,p3,p4,p5] [q0,q1,q2,q3,q4,q5]=d):=hd
  have O01:Hid (o=0∨o=1):=by rw [← ho];exact op_or _ _ _ _
  have C01:Hid (c=0∨c=1):=by rw [← hc];exact bn_or _ _
  have D01:Hid (d=0∨d=1):=by rw [← hd];exact bn_or _ _
  clear ho hc hd
  have B0:=((Blk.new w [.int .u64 x0,.int .u64 x1,.int .u64 x2,.int .u64 x3,.int .u64 x4,.int .u64 x5,.int .u64 y0,.int .u64 y1,.int .u64 y2,.int .u64 y3,.int .u64 y4,.int .u64 y5,.bool n] 26 (w.heap.size) rfl).alloc (.cells [.int .u64 p0,.int .u64 p1,.int .u64 p2,.int .u64 p3,.int .u64 p4,.int .u64 p5,.int .u64 q0,.int .u64 q1,.int .u64 q2,.int .u64 q3,.int .u64 q4,.int .u64 q5,.bool m].toArray 26)).alloc (.cells [.int .u64 0,.int .u64 0,.int .u64 0,.int .u64 0,.int .u64 0,.int .u64 0,.int .u64 0,.int .u64 0,.int .u64 0,.int .u64 0,.int .u64 0,.int .u64 0,.bool false].toArray 26)
  have B1:=(Blk.new (w.alloc (.cells [.int .u64 x0,.int .u64 x1,.int .u64 x2,.int .u64 x3,.int .u64 x4,.int .u64 x5,.int .u64 y0,.int .u64 y1,.int .u64 y2,.int .u64 y3,.int .u64 y4,.int .u64 y5,.bool n].toArray 26)) [.int .u64 p0,.int .u64 p1,.int .u64 p2,.int .u64 p3,.int .u64 p4,.int .u64 p5,.int .u64 q0,.int .u64 q1,.int .u64 q2,.int .u64 q3,.int .u64 q4,.int .u64 q5,.bool m] 26 (w.heap.size + 1) (by simp)).alloc (.cells [.int .u64 0,.int .u64 0,.int .u64 0,.int .u64 0,.int .u64 0,.int .u64 0,.int .u64 0,.int .u64 0,.int .u64 0,.int .u64 0,.int .u64 0,.int .u64 0,.bool false].toArray 26)
  have B2:=Blk.new ((w.alloc (.cells [.int .u64 x0,.int .u64 x1,.int .u64 x2,.int .u64 x3,.int .u64 x4,.int .u64 x5,.int .u64 y0,.int .u64 y1,.int .u64 y2,.int .u64 y3,.int .u64 y4,.int .u64 y5,.bool n].toArray 26)).alloc (.cells [.int .u64 p0,.int .u64 p1,.int .u64 p2,.int .u64 p3,.int .u64 p4,.int .u64 p5,.int .u64 q0,.int .u64 q1,.int .u64 q2,.int .u64 q3,.int .u64 q4,.int .u64 q5,.bool m].toArray 26)) [.int .u64 0,.int .u64 0,.int .u64 0,.int .u64 0,.int .u64 0,.int .u64 0,.int .u64 0,.int .u64 0,.int .u64 0,.int .u64 0,.int .u64 0,.int .u64 0,.bool false] 26 (w.heap.size + 1 + 1) (by simp)
  have bel:Below w.heap.size w (((w.alloc (.cells [.int .u64 x0,.int .u64 x1,.int .u64 x2,.int .u64 x3,.int .u64 x4,.int .u64 x5,.int .u64 y0,.int .u64 y1,.int .u64 y2,.int .u64 y3,.int .u64 y4,.int .u64 y5,.bool n].toArray 26)).alloc (.cells [.int .u64 p0,.int .u64 p1,.int .u64 p2,.int .u64 p3,.int .u64 p4,.int .u64 p5,.int .u64 q0,.int .u64 q1,.int .u64 q2,.int .u64 q3,.int .u64 q4,.int .u64 q5,.bool m].toArray 26)).alloc (.cells [.int .u64 0,.int .u64 0,.int .u64 0,.int .u64 0,.int .u64 0,.int .u64 0,.int .u64 0,.int .u64 0,.int .u64 0,.int .u64 0,.int .u64 0,.int .u64 0,.bool false].toArray 26)):=((((Below.refl _ _).alloc (Nat.le_refl _) _).alloc (by simp) _).alloc (by simp;omega) _)
  go_enter Tryz.func76,Tryz.ntmps76
  go_upto_region 1 with fail
  try simp only [us,List.map_cons,List.map_nil] at bel
  generalize (((w.alloc (Obj.cells #[.int .u64 x0,.int .u64 x1,.int .u64 x2,.int .u64 x3,.int .u64 x4,.int .u64 x5,.int .u64 y0,.int .u64 y1,.int .u64 y2,.int .u64 y3,.int .u64 y4,.int .u64 y5,.bool n] 26)).alloc (Obj.cells #[.int .u64 p0,.int .u64 p1,.int .u64 p2,.int .u64 p3,.int .u64 p4,.int .u64 p5,.int .u64 q0,.int .u64 q1,.int .u64 q2,.int .u64 q3,.int .u64 q4,.int .u64 q5,.bool m] 26)).alloc (Obj.cells #[.int .u64 0,.int .u64 0,.int .u64 0,.int .u64 0,.int .u64 0,.int .u64 0,.int .u64 0,.int .u64 0,.int .u64 0,.int .u64 0,.int .u64 0,.int .u64 0,.bool false] 26))=W at *
  have Bp:=B0
  have Bq:=B1
  have Br:=B2
  clear B0 B1 B2
  have ltp:=Bp.lt
  have cp0:=Bp.cell 0 _ rfl
  have cp1:=Bp.cell 1 _ rfl
  have cp2:=Bp.cell 2 _ rfl
  have cp3:=Bp.cell 3 _ rfl
  have cp4:=Bp.cell 4 _ rfl
  have cp5:=Bp.cell 5 _ rfl
  have cp6:=Bp.cell 6 _ rfl
  have cp7:=Bp.cell 7 _ rfl
  have cp8:=Bp.cell 8 _ rfl
  have cp9:=Bp.cell 9 _ rfl
  have cp10:=Bp.cell 10 _ rfl
  have cp11:=Bp.cell 11 _ rfl
  have cp12:=Bp.cell 12 _ rfl
  go_wp2_with fail
  refine (con_On (b:=true) (G.below bel) fX fY ⟨fun _=>HO.out,fun _=>rfl⟩).mono ?_
  rintro e w1 ⟨rfl,hb⟩
  clear ltp cp0 cp1 cp2 cp3 cp4 cp5 cp6 cp7 cp8 cp9 cp10 cp11 cp12
  replace Bp:=Bp.later hb
  replace Bq:=Bq.later hb
  replace Br:=Br.later hb
  replace bel:=below_step bel hb
  clear hb
  have ltq:=Bq.lt
  have cq0:=Bq.cell 0 _ rfl
  have cq1:=Bq.cell 1 _ rfl
  have cq2:=Bq.cell 2 _ rfl
  have cq3:=Bq.cell 3 _ rfl
  have cq4:=Bq.cell 4 _ rfl
  have cq5:=Bq.cell 5 _ rfl
  have cq6:=Bq.cell 6 _ rfl
  have cq7:=Bq.cell 7 _ rfl
  have cq8:=Bq.cell 8 _ rfl
  have cq9:=Bq.cell 9 _ rfl
  have cq10:=Bq.cell 10 _ rfl
  have cq11:=Bq.cell 11 _ rfl
  have cq12:=Bq.cell 12 _ rfl
  go_wp2_with fail
  refine (con_On (b:=true) (G.below bel) fP fQ ⟨fun _=>HU.out,fun _=>rfl⟩).mono ?_
  rintro e w2 ⟨rfl,hb⟩
  clear ltq cq0 cq1 cq2 cq3 cq4 cq5 cq6 cq7 cq8 cq9 cq10 cq11 cq12
  replace Bp:=Bp.later hb
  replace Bq:=Bq.later hb
  replace Br:=Br.later hb
  replace bel:=below_step bel hb
  clear hb
  go_upto_region 3 with fail
  obtain ⟨S1,hS1,KL1,KA1,KD1,KS1,KQ1,KN1,KB1,KM1,KR1⟩:=held3 (w0:=w) (W:=_) [(w.heap.size,[.int .u64 x0,.int .u64 x1,.int .u64 x2,.int .u64 x3,.int .u64 x4,.int .u64 x5,.int .u64 y0,.int .u64 y1,.int .u64 y2,.int .u64 y3,.int .u64 y4,.int .u64 y5,.bool n]),(w.heap.size + 1,[.int .u64 p0,.int .u64 p1,.int .u64 p2,.int .u64 p3,.int .u64 p4,.int .u64 p5,.int .u64 q0,.int .u64 q1,.int .u64 q2,.int .u64 q3,.int .u64 q4,.int .u64 q5,.bool m]),(w.heap.size + 1 + 1,[.int .u64 0,.int .u64 0,.int .u64 0,.int .u64 0,.int .u64 0,.int .u64 0,.int .u64 0,.int .u64 0,.int .u64 0,.int .u64 0,.int .u64 0,.int .u64 0,.bool false])] (by
    intro b X h
    simp only [List.mem_cons,List.not_mem_nil,or_false,Prod.mk.injEq] at h
    rcases h with ⟨rfl,rfl⟩|⟨rfl,rfl⟩|⟨rfl,rfl⟩
    · exact Bp
    · exact Bq
    · exact Br) bel
  have kb1a:∀ wx,Hd S1 wx→Blk wx (w.heap.size) [.int .u64 x0,.int .u64 x1,.int .u64 x2,.int .u64 x3,.int .u64 x4,.int .u64 x5,.int .u64 y0,.int .u64 y1,.int .u64 y2,.int .u64 y3,.int .u64 y4,.int .u64 y5,.bool n]:=fun wx h=>KM1.out wx _ _ h (by simp)
  have c1a0:=rulec kb1a 0 _ rfl
  have c1a1:=rulec kb1a 1 _ rfl
  have c1a2:=rulec kb1a 2 _ rfl
  have c1a3:=rulec kb1a 3 _ rfl
  have c1a4:=rulec kb1a 4 _ rfl
  have c1a5:=rulec kb1a 5 _ rfl
  have c1a6:=rulec kb1a 6 _ rfl
  have c1a7:=rulec kb1a 7 _ rfl
  have c1a8:=rulec kb1a 8 _ rfl
  have c1a9:=rulec kb1a 9 _ rfl
  have c1a10:=rulec kb1a 10 _ rfl
  have c1a11:=rulec kb1a 11 _ rfl
  have c1a12:=rulec kb1a 12 _ rfl
  have c1al:=ruleb kb1a
  clear kb1a
  have kb1b:∀ wx,Hd S1 wx→Blk wx (w.heap.size + 1) [.int .u64 p0,.int .u64 p1,.int .u64 p2,.int .u64 p3,.int .u64 p4,.int .u64 p5,.int .u64 q0,.int .u64 q1,.int .u64 q2,.int .u64 q3,.int .u64 q4,.int .u64 q5,.bool m]:=fun wx h=>KM1.out wx _ _ h (by simp)
  have c1b0:=rulec kb1b 0 _ rfl
  have c1b1:=rulec kb1b 1 _ rfl
  have c1b2:=rulec kb1b 2 _ rfl
  have c1b3:=rulec kb1b 3 _ rfl
  have c1b4:=rulec kb1b 4 _ rfl
  have c1b5:=rulec kb1b 5 _ rfl
  have c1b6:=rulec kb1b 6 _ rfl
  have c1b7:=rulec kb1b 7 _ rfl
  have c1b8:=rulec kb1b 8 _ rfl
  have c1b9:=rulec kb1b 9 _ rfl
  have c1b10:=rulec kb1b 10 _ rfl
  have c1b11:=rulec kb1b 11 _ rfl
  have c1b12:=rulec kb1b 12 _ rfl
  have c1bl:=ruleb kb1b
  clear kb1b
  have kb1c:∀ wx,Hd S1 wx→Blk wx (w.heap.size + 1 + 1) [.int .u64 0,.int .u64 0,.int .u64 0,.int .u64 0,.int .u64 0,.int .u64 0,.int .u64 0,.int .u64 0,.int .u64 0,.int .u64 0,.int .u64 0,.int .u64 0,.bool false]:=fun wx h=>KM1.out wx _ _ h (by simp)
  have c1c0:=rulec kb1c 0 _ rfl
  have c1c1:=rulec kb1c 1 _ rfl
  have c1c2:=rulec kb1c 2 _ rfl
  have c1c3:=rulec kb1c 3 _ rfl
  have c1c4:=rulec kb1c 4 _ rfl
  have c1c5:=rulec kb1c 5 _ rfl
  have c1c6:=rulec kb1c 6 _ rfl
  have c1c7:=rulec kb1c 7 _ rfl
  have c1c8:=rulec kb1c 8 _ rfl
  have c1c9:=rulec kb1c 9 _ rfl
  have c1c10:=rulec kb1c 10 _ rfl
  have c1c11:=rulec kb1c 11 _ rfl
  have c1c12:=rulec kb1c 12 _ rfl
  have c1cl:=ruleb kb1c
  clear kb1c
  have hN1:=bel.size
  have ltr:=Br.lt
  clear bel Bp Bq Br
  go_cut [6] (fun p wx=>∃ (b:Nat) (s0 s1 s2 s3 s4 s5 t0 t1 t2 t3 t4 t5:Int),p=.pointer (some ⟨b,0,none⟩)∧w.heap.size + 1 + 1 < b∧fits [s0,s1,s2,s3,s4,s5]∧fits [t0,t1,t2,t3,t4,t5]∧Hid (∃ G H:List Int,(Aff (v64 [x0,x1,x2,x3,x4,x5]) (v64 [y0,y1,y2,y3,y4,y5])→Aff (v64 [p0,p1,p2,p3,p4,p5]) (v64 [q0,q1,q2,q3,q4,q5])→¬ Opp (v64 [x0,x1,x2,x3,x4,x5]) (v64 [y0,y1,y2,y3,y4,y5]) (v64 [p0,p1,p2,p3,p4,p5]) (v64 [q0,q1,q2,q3,q4,q5])→cadd (some (v64 [x0,x1,x2,x3,x4,x5],v64 [y0,y1,y2,y3,y4,y5])) (some (v64 [p0,p1,p2,p3,p4,p5],v64 [q0,q1,q2,q3,q4,q5]))=some (v64 G,v64 H))∧[s0,s1,s2,s3,s4,s5]=pkN o G [0,0,0,0,0,0]∧[t0,t1,t2,t3,t4,t5]=pkN o H [0,0,0,0,0,0])∧Blk wx b [.int .u64 s0,.int .u64 s1,.int .u64 s2,.int .u64 s3,.int .u64 s4,.int .u64 s5,.int .u64 t0,.int .u64 t1,.int .u64 t2,.int .u64 t3,.int .u64 t4,.int .u64 t5,.bool (Noo [s0,s1,s2,s3,s4,s5] [t0,t1,t2,t3,t4,t5])]∧Hd S1 wx)
  case first =>
    go_region_held3 (Hd S1)
      (first
        | with_reducible exact (KQ1.out _ _ _ _ (KQ1.out _ _ _ _ (KQ1.out _ _ _ _ (KQ1.out _ _ _ _ (KQ1.out _ _ _ _ (KQ1.out _ _ _ _ (KQ1.out _ _ _ _ (KQ1.out _ _ _ _ (KQ1.out _ _ _ _ (KQ1.out _ _ _ _ (KQ1.out _ _ _ _ (KQ1.out _ _ _ _ (KQ1.out _ _ _ _ (by assumption) (Or.inl (by omega)) (by omega)) (Or.inl (by omega)) (by omega)) (Or.inl (by omega)) (by omega)) (Or.inl (by omega)) (by omega)) (Or.inl (by omega)) (by omega)) (Or.inl (by omega)) (by omega)) (Or.inl (by omega)) (by omega)) (Or.inl (by omega)) (by omega)) (Or.inl (by omega)) (by omega)) (Or.inl (by omega)) (by omega)) (Or.inl (by omega)) (by omega)) (Or.inl (by omega)) (by omega)) (Or.inl (by omega)) (by omega))
        | with_reducible exact KL1.out _ _ (by assumption) hb
        | with_reducible exact KA1.out _ _ (by assumption)
        | with_reducible exact KS1.out _ _ _ (by omega) (by assumption)
        | with_reducible exact KD1.out _ hS1
        | with_reducible exact KD1.out _ (KA1.out _ _ hS1)
        | with_reducible assumption)
      (first
        | (go_at_call 97;go_fit (con_opp fX fY fP fQ HOP.out);rintro e w' ⟨rfl,hb⟩;(first|replace BN:=BN.later hb|with_reducible have BN:=Blk.later newP hb|with_reducible have BN:=Blk.later newPd hb|skip);have hlt:=KN1.out _ (KL1.out _ _ (by assumption) hb))
        | (go_at_call 98;go_fit (con_by (G.below (KB1.out _ (by first|with_reducible assumption|with_reducible exact KA1.out _ _ (by assumption)|with_reducible exact KD1.out _ (by assumption)))).fld fX fY fP fQ);rintro e w' ⟨⟨g0,g1,g2,g3,g4,g5,h0,h1,h2,h3,h4,h5,rfl,fG,fH,hv⟩,hb⟩;have HG:Hid _:=hv;clear hv;(first|replace BN:=BN.later hb|with_reducible have BN:=Blk.later newP hb|with_reducible have BN:=Blk.later newPd hb|skip);have hlt:=KN1.out _ (KL1.out _ _ (by assumption) hb))
        | (go_at_call 99;go_fit (con_pt (k:=true) (fits_zero 6) (fits_zero 6) ⟨fun _=>⟨rfl,rfl⟩,fun _=>rfl⟩);rintro e w' ⟨rfl,hb⟩;(first|replace BN:=BN.later hb|with_reducible have BN:=Blk.later newP hb|with_reducible have BN:=Blk.later newPd hb|skip);have hlt:=KN1.out _ (KL1.out _ _ (by assumption) hb))
        | (go_at_call 96;go_fit (con_pick O01.out fG fH (fits_zero 6) (fits_zero 6));rintro e w' ⟨⟨s0,s1,s2,s3,s4,s5,t0,t1,t2,t3,t4,t5,rfl,fS,fT,hv⟩,hb⟩;have H1:Hid _:=hv;clear hv;(first|replace BN:=BN.later hb|with_reducible have BN:=Blk.later newP hb|with_reducible have BN:=Blk.later newPd hb|skip);have hlt:=KN1.out _ (KL1.out _ _ (by assumption) hb);(first|(have ltn:=BN.lt;have j0:=BN.cell 0 _ rfl;have i0:=BN.frozen 0;have j1:=BN.cell 1 _ rfl;have i1:=BN.frozen 1;have j2:=BN.cell 2 _ rfl;have i2:=BN.frozen 2;have j3:=BN.cell 3 _ rfl;have i3:=BN.frozen 3;have j4:=BN.cell 4 _ rfl;have i4:=BN.frozen 4;have j5:=BN.cell 5 _ rfl;have i5:=BN.frozen 5;have j6:=BN.cell 6 _ rfl;have i6:=BN.frozen 6;have j7:=BN.cell 7 _ rfl;have i7:=BN.frozen 7;have j8:=BN.cell 8 _ rfl;have i8:=BN.frozen 8;have j9:=BN.cell 9 _ rfl;have i9:=BN.frozen 9;have j10:=BN.cell 10 _ rfl;have i10:=BN.frozen 10;have j11:=BN.cell 11 _ rfl;have i11:=BN.frozen 11;have j12:=BN.cell 12 _ rfl;have i12:=BN.frozen 12)|skip)))
    all_goals
      go_wp2_with fail
      go_meet
      refine ⟨_,s0,s1,s2,s3,s4,s5,t0,t1,t2,t3,t4,t5,rfl,by omega,fS,fT,⟨_,_,HG.out,H1.out⟩,?_,by with_reducible assumption⟩
      first
        | with_reducible exact blk_putP BN
        | exact Blk.new w' [.int .u64 s0,.int .u64 s1,.int .u64 s2,.int .u64 s3,.int .u64 s4,.int .u64 s5,.int .u64 t0,.int .u64 t1,.int .u64 t2,.int .u64 t3,.int .u64 t4,.int .u64 t5,.bool (Noo [s0,s1,s2,s3,s4,s5] [t0,t1,t2,t3,t4,t5])] 26 w'.heap.size rfl
  case rest =>
    clear hS1 O01
    obtain ⟨bs,s0,s1,s2,s3,s4,s5,t0,t1,t2,t3,t4,t5,rfl,hbs,fS,fT,H1,BS,hS1⟩:=hcut
    have mq:∀ c X,(c,X)∈[((w.heap.size:Nat),([.int .u64 x0,.int .u64 x1,.int .u64 x2,.int .u64 x3,.int .u64 x4,.int .u64 x5,.int .u64 y0,.int .u64 y1,.int .u64 y2,.int .u64 y3,.int .u64 y4,.int .u64 y5,.bool n]:List Value)),((w.heap.size + 1:Nat),([.int .u64 p0,.int .u64 p1,.int .u64 p2,.int .u64 p3,.int .u64 p4,.int .u64 p5,.int .u64 q0,.int .u64 q1,.int .u64 q2,.int .u64 q3,.int .u64 q4,.int .u64 q5,.bool m]:List Value)),((w.heap.size + 1 + 1:Nat),([.int .u64 0,.int .u64 0,.int .u64 0,.int .u64 0,.int .u64 0,.int .u64 0,.int .u64 0,.int .u64 0,.int .u64 0,.int .u64 0,.int .u64 0,.int .u64 0,.bool false]:List Value))]→c≠bs:=by
      intro c X h
      simp only [List.mem_cons,List.not_mem_nil,or_false,Prod.mk.injEq] at h
      omega
    go_upto_region 4 with fail
    go_cut [] (fun wx=>∃ (a0 a1 a2 a3 a4 a5 b0 b1 b2 b3 b4 b5:Int),fits [a0,a1,a2,a3,a4,a5]∧fits [b0,b1,b2,b3,b4,b5]∧Hid ([a0,a1,a2,a3,a4,a5]=pkN c [s0,s1,s2,s3,s4,s5] [p0,p1,p2,p3,p4,p5]∧[b0,b1,b2,b3,b4,b5]=pkN c [t0,t1,t2,t3,t4,t5] [q0,q1,q2,q3,q4,q5])∧Blk wx bs [.int .u64 a0,.int .u64 a1,.int .u64 a2,.int .u64 a3,.int .u64 a4,.int .u64 a5,.int .u64 b0,.int .u64 b1,.int .u64 b2,.int .u64 b3,.int .u64 b4,.int .u64 b5,.bool (Noo [a0,a1,a2,a3,a4,a5] [b0,b1,b2,b3,b4,b5])]∧Hd S1 wx)
    case first =>
      refine wp_region_noPanic ?_
      refine wp_region_held_drew (S:=Hd S1) (by kernel_rfl) (KD1.out _ hS1) (fun hHeld=>?_)
      clear hS1
      replace BS:=BS.drew
      have lts:=BS.lt
      have e0:=BS.cell 0 _ rfl;have i0:=BS.frozen 0;have e1:=BS.cell 1 _ rfl;have i1:=BS.frozen 1;have e2:=BS.cell 2 _ rfl;have i2:=BS.frozen 2;have e3:=BS.cell 3 _ rfl;have i3:=BS.frozen 3;have e4:=BS.cell 4 _ rfl;have i4:=BS.frozen 4;have e5:=BS.cell 5 _ rfl;have i5:=BS.frozen 5;have e6:=BS.cell 6 _ rfl;have i6:=BS.frozen 6;have e7:=BS.cell 7 _ rfl;have i7:=BS.frozen 7;have e8:=BS.cell 8 _ rfl;have i8:=BS.frozen 8;have e9:=BS.cell 9 _ rfl;have i9:=BS.frozen 9;have e10:=BS.cell 10 _ rfl;have i10:=BS.frozen 10;have e11:=BS.cell 11 _ rfl;have i11:=BS.frozen 11;have e12:=BS.cell 12 _ rfl;have i12:=BS.frozen 12
      refine wpAnyH_take (i:=0) (v:=?_) rfl (by kernel_rfl) (by kernel_rfl) (by kernel_rfl) (fun _ _ _ h=>h) (Or.inl ⟨by rfl,?_⟩) (by assumption) ?_
      rotate_left
      · intro w hSw
        go_simp
        with_reducible rfl
      try simp only [Act.put,List.setIfInBounds_toArray,List.set_cons_zero,List.set_cons_succ]
      refine wpAnyH_take (i:=1) (v:=?_) rfl (by kernel_rfl) (by kernel_rfl) (by kernel_rfl) (fun _ _ _ h=>h) (Or.inl ⟨by rfl,?_⟩) (by assumption) ?_
      rotate_left
      · intro w hSw
        go_simp
        with_reducible rfl
      try simp only [Act.put,List.setIfInBounds_toArray,List.set_cons_zero,List.set_cons_succ]
      refine wpAnyH_take (i:=2) (v:=?_) rfl (by kernel_rfl) (by kernel_rfl) (by kernel_rfl) (fun _ _ _ h=>h) (Or.inl ⟨by rfl,?_⟩) (by assumption) ?_
      rotate_left
      · intro w hSw
        go_simp
        with_reducible rfl
      try simp only [Act.put,List.setIfInBounds_toArray,List.set_cons_zero,List.set_cons_succ]
      refine wpAnyH_take (i:=3) (v:=?_) rfl (by kernel_rfl) (by kernel_rfl) (by kernel_rfl) (fun _ _ _ h=>h) (Or.inl ⟨by rfl,?_⟩) (by assumption) ?_
      rotate_left
      · intro w hSw
        go_simp
        with_reducible rfl
      try simp only [Act.put,List.setIfInBounds_toArray,List.set_cons_zero,List.set_cons_succ]
      refine wpAnyH_take (i:=6) (v:=?_) rfl (by kernel_rfl) (by kernel_rfl) (by kernel_rfl) (fun _ _ _ h=>h) (Or.inl ⟨by rfl,?_⟩) (by assumption) ?_
      rotate_left
      · intro w hSw
        go_simp
        with_reducible rfl
      try simp only [Act.put,List.setIfInBounds_toArray,List.set_cons_zero,List.set_cons_succ]
      refine wpAnyH_ready (rs:=[4,5]) (by kernel_rfl) (by simp) ?_
      refine AllReadyH.cons rfl (fun K hK=>?_) ?_
      · go_simp
        go_fit (con_bn fX fY HC.out)
        rintro e w' ⟨rfl,hb⟩
        replace BS:=BS.later hb
        clear lts e0 i0 e1 i1 e2 i2 e3 i3 e4 i4 e5 i5 e6 i6 e7 i7 e8 i8 e9 i9 e10 i10 e11 i11 e12 i12
        have lts:=BS.lt;have e0:=BS.cell 0 _ rfl;have i0:=BS.frozen 0;have e1:=BS.cell 1 _ rfl;have i1:=BS.frozen 1;have e2:=BS.cell 2 _ rfl;have i2:=BS.frozen 2;have e3:=BS.cell 3 _ rfl;have i3:=BS.frozen 3;have e4:=BS.cell 4 _ rfl;have i4:=BS.frozen 4;have e5:=BS.cell 5 _ rfl;have i5:=BS.frozen 5;have e6:=BS.cell 6 _ rfl;have i6:=BS.frozen 6;have e7:=BS.cell 7 _ rfl;have i7:=BS.frozen 7;have e8:=BS.cell 8 _ rfl;have i8:=BS.frozen 8;have e9:=BS.cell 9 _ rfl;have i9:=BS.frozen 9;have e10:=BS.cell 10 _ rfl;have i10:=BS.frozen 10;have e11:=BS.cell 11 _ rfl;have i11:=BS.frozen 11;have e12:=BS.cell 12 _ rfl;have i12:=BS.frozen 12
        try simp only []
        refine hK.out _ _ ?_ (fun hHeld2=>?_)
        · exact KL1.out _ _ hHeld hb
        · clear hK K hHeld hb
          have hHeld:=hHeld2
          clear hHeld2
          try simp only [Act.put,List.setIfInBounds_toArray,List.set_cons_zero,List.set_cons_succ]
          refine wpAnyH_ready (rs:=[5]) (by kernel_rfl) (by simp) ?_
          refine AllReadyH.cons rfl (fun K hK=>?_) ?_
          · go_simp
            refine hK.out _ _ ?_ (fun hHeld2=>?_)
            · exact hHeld
            · clear hK K hHeld
              have hHeld:=hHeld2
              clear hHeld2
              try simp only [Act.put,List.setIfInBounds_toArray,List.set_cons_zero,List.set_cons_succ]
              refine wpAnyH_ready (rs:=[7]) (by kernel_rfl) (by simp) ?_
              refine AllReadyH.cons rfl (fun K hK=>?_) ?_
              · go_simp
                go_fit (con_pick C01.out fS fT fP fQ)
                rintro e w' ⟨⟨a0,a1,a2,a3,a4,a5,b0,b1,b2,b3,b4,b5,rfl,fA,fB,hv⟩,hb⟩
                have H2:Hid _:=hv
                clear hv
                replace BS:=BS.later hb
                clear lts e0 i0 e1 i1 e2 i2 e3 i3 e4 i4 e5 i5 e6 i6 e7 i7 e8 i8 e9 i9 e10 i10 e11 i11 e12 i12
                have lts:=BS.lt;have e0:=BS.cell 0 _ rfl;have i0:=BS.frozen 0;have e1:=BS.cell 1 _ rfl;have i1:=BS.frozen 1;have e2:=BS.cell 2 _ rfl;have i2:=BS.frozen 2;have e3:=BS.cell 3 _ rfl;have i3:=BS.frozen 3;have e4:=BS.cell 4 _ rfl;have i4:=BS.frozen 4;have e5:=BS.cell 5 _ rfl;have i5:=BS.frozen 5;have e6:=BS.cell 6 _ rfl;have i6:=BS.frozen 6;have e7:=BS.cell 7 _ rfl;have i7:=BS.frozen 7;have e8:=BS.cell 8 _ rfl;have i8:=BS.frozen 8;have e9:=BS.cell 9 _ rfl;have i9:=BS.frozen 9;have e10:=BS.cell 10 _ rfl;have i10:=BS.frozen 10;have e11:=BS.cell 11 _ rfl;have i11:=BS.frozen 11;have e12:=BS.cell 12 _ rfl;have i12:=BS.frozen 12
                try simp only []
                refine hK.out _ _ ?_ (fun hHeld2=>?_)
                · exact KL1.out _ _ hHeld hb
                · clear hK K hHeld hb
                  have hHeld:=hHeld2
                  clear hHeld2
                  try simp only [Act.put,List.setIfInBounds_toArray,List.set_cons_zero,List.set_cons_succ]
                  refine wpAnyH_ready (rs:=[8]) (by kernel_rfl) (by simp) ?_
                  refine AllReadyH.cons rfl (fun K hK=>?_) ?_
                  · go_simp
                    refine hK.out _ _ ?_ (fun hHeld2=>?_)
                    · exact (KQ1.out _ _ _ _ (KQ1.out _ _ _ _ (KQ1.out _ _ _ _ (KQ1.out _ _ _ _ (KQ1.out _ _ _ _ (KQ1.out _ _ _ _ (KQ1.out _ _ _ _ (KQ1.out _ _ _ _ (KQ1.out _ _ _ _ (KQ1.out _ _ _ _ (KQ1.out _ _ _ _ (KQ1.out _ _ _ _ (KQ1.out _ _ _ _ hHeld (Or.inr mq) (by omega)) (Or.inr mq) (by omega)) (Or.inr mq) (by omega)) (Or.inr mq) (by omega)) (Or.inr mq) (by omega)) (Or.inr mq) (by omega)) (Or.inr mq) (by omega)) (Or.inr mq) (by omega)) (Or.inr mq) (by omega)) (Or.inr mq) (by omega)) (Or.inr mq) (by omega)) (Or.inr mq) (by omega)) (Or.inr mq) (by omega))
                    · clear hK K hHeld
                      have hHeld:=hHeld2
                      clear hHeld2
                      try simp only [Act.put,List.setIfInBounds_toArray,List.set_cons_zero,List.set_cons_succ]
                      refine wpAnyH_done (by kernel_rfl) ?_ _
                      refine NoPanic.normal ?_
                      go_wp2_with fail
                      go_meet
                      exact ⟨a0,a1,a2,a3,a4,a5,b0,b1,b2,b3,b4,b5,fA,fB,H2,blk_putP BS,hHeld⟩
                  exact AllReadyH.nil
              exact AllReadyH.nil
          exact AllReadyH.nil
      refine AllReadyH.cons rfl (fun K hK=>?_) ?_
      · go_simp
        refine hK.out _ _ ?_ (fun hHeld2=>?_)
        · exact hHeld
        · clear hK K hHeld
          have hHeld:=hHeld2
          clear hHeld2
          try simp only [Act.put,List.setIfInBounds_toArray,List.set_cons_zero,List.set_cons_succ]
          refine wpAnyH_ready (rs:=[4]) (by kernel_rfl) (by simp) ?_
          refine AllReadyH.cons rfl (fun K hK=>?_) ?_
          · go_simp
            go_fit (con_bn fX fY HC.out)
            rintro e w' ⟨rfl,hb⟩
            replace BS:=BS.later hb
            clear lts e0 i0 e1 i1 e2 i2 e3 i3 e4 i4 e5 i5 e6 i6 e7 i7 e8 i8 e9 i9 e10 i10 e11 i11 e12 i12
            have lts:=BS.lt;have e0:=BS.cell 0 _ rfl;have i0:=BS.frozen 0;have e1:=BS.cell 1 _ rfl;have i1:=BS.frozen 1;have e2:=BS.cell 2 _ rfl;have i2:=BS.frozen 2;have e3:=BS.cell 3 _ rfl;have i3:=BS.frozen 3;have e4:=BS.cell 4 _ rfl;have i4:=BS.frozen 4;have e5:=BS.cell 5 _ rfl;have i5:=BS.frozen 5;have e6:=BS.cell 6 _ rfl;have i6:=BS.frozen 6;have e7:=BS.cell 7 _ rfl;have i7:=BS.frozen 7;have e8:=BS.cell 8 _ rfl;have i8:=BS.frozen 8;have e9:=BS.cell 9 _ rfl;have i9:=BS.frozen 9;have e10:=BS.cell 10 _ rfl;have i10:=BS.frozen 10;have e11:=BS.cell 11 _ rfl;have i11:=BS.frozen 11;have e12:=BS.cell 12 _ rfl;have i12:=BS.frozen 12
            try simp only []
            refine hK.out _ _ ?_ (fun hHeld2=>?_)
            · exact KL1.out _ _ hHeld hb
            · clear hK K hHeld hb
              have hHeld:=hHeld2
              clear hHeld2
              try simp only [Act.put,List.setIfInBounds_toArray,List.set_cons_zero,List.set_cons_succ]
              refine wpAnyH_ready (rs:=[7]) (by kernel_rfl) (by simp) ?_
              refine AllReadyH.cons rfl (fun K hK=>?_) ?_
              · go_simp
                go_fit (con_pick C01.out fS fT fP fQ)
                rintro e w' ⟨⟨a0,a1,a2,a3,a4,a5,b0,b1,b2,b3,b4,b5,rfl,fA,fB,hv⟩,hb⟩
                have H2:Hid _:=hv
                clear hv
                replace BS:=BS.later hb
                clear lts e0 i0 e1 i1 e2 i2 e3 i3 e4 i4 e5 i5 e6 i6 e7 i7 e8 i8 e9 i9 e10 i10 e11 i11 e12 i12
                have lts:=BS.lt;have e0:=BS.cell 0 _ rfl;have i0:=BS.frozen 0;have e1:=BS.cell 1 _ rfl;have i1:=BS.frozen 1;have e2:=BS.cell 2 _ rfl;have i2:=BS.frozen 2;have e3:=BS.cell 3 _ rfl;have i3:=BS.frozen 3;have e4:=BS.cell 4 _ rfl;have i4:=BS.frozen 4;have e5:=BS.cell 5 _ rfl;have i5:=BS.frozen 5;have e6:=BS.cell 6 _ rfl;have i6:=BS.frozen 6;have e7:=BS.cell 7 _ rfl;have i7:=BS.frozen 7;have e8:=BS.cell 8 _ rfl;have i8:=BS.frozen 8;have e9:=BS.cell 9 _ rfl;have i9:=BS.frozen 9;have e10:=BS.cell 10 _ rfl;have i10:=BS.frozen 10;have e11:=BS.cell 11 _ rfl;have i11:=BS.frozen 11;have e12:=BS.cell 12 _ rfl;have i12:=BS.frozen 12
                try simp only []
                refine hK.out _ _ ?_ (fun hHeld2=>?_)
                · exact KL1.out _ _ hHeld hb
                · clear hK K hHeld hb
                  have hHeld:=hHeld2
                  clear hHeld2
                  try simp only [Act.put,List.setIfInBounds_toArray,List.set_cons_zero,List.set_cons_succ]
                  refine wpAnyH_ready (rs:=[8]) (by kernel_rfl) (by simp) ?_
                  refine AllReadyH.cons rfl (fun K hK=>?_) ?_
                  · go_simp
                    refine hK.out _ _ ?_ (fun hHeld2=>?_)
                    · exact (KQ1.out _ _ _ _ (KQ1.out _ _ _ _ (KQ1.out _ _ _ _ (KQ1.out _ _ _ _ (KQ1.out _ _ _ _ (KQ1.out _ _ _ _ (KQ1.out _ _ _ _ (KQ1.out _ _ _ _ (KQ1.out _ _ _ _ (KQ1.out _ _ _ _ (KQ1.out _ _ _ _ (KQ1.out _ _ _ _ (KQ1.out _ _ _ _ hHeld (Or.inr mq) (by omega)) (Or.inr mq) (by omega)) (Or.inr mq) (by omega)) (Or.inr mq) (by omega)) (Or.inr mq) (by omega)) (Or.inr mq) (by omega)) (Or.inr mq) (by omega)) (Or.inr mq) (by omega)) (Or.inr mq) (by omega)) (Or.inr mq) (by omega)) (Or.inr mq) (by omega)) (Or.inr mq) (by omega)) (Or.inr mq) (by omega))
                    · clear hK K hHeld
                      have hHeld:=hHeld2
                      clear hHeld2
                      try simp only [Act.put,List.setIfInBounds_toArray,List.set_cons_zero,List.set_cons_succ]
                      refine wpAnyH_done (by kernel_rfl) ?_ _
                      refine NoPanic.normal ?_
                      go_wp2_with fail
                      go_meet
                      exact ⟨a0,a1,a2,a3,a4,a5,b0,b1,b2,b3,b4,b5,fA,fB,H2,blk_putP BS,hHeld⟩
                  exact AllReadyH.nil
              exact AllReadyH.nil
          exact AllReadyH.nil
      exact AllReadyH.nil
    case rest =>
      clear hS1 BS fS fT C01
      obtain ⟨a0,a1,a2,a3,a4,a5,b0,b1,b2,b3,b4,b5,fS,fT,H2,BS,hS1⟩:=hcut
      go_upto_region 5 with fail
      go_cut [] (fun wx=>∃ (c0 c1 c2 c3 c4 c5 d0 d1 d2 d3 d4 d5:Int),fits [c0,c1,c2,c3,c4,c5]∧fits [d0,d1,d2,d3,d4,d5]∧Hid ([c0,c1,c2,c3,c4,c5]=pkN d [a0,a1,a2,a3,a4,a5] [x0,x1,x2,x3,x4,x5]∧[d0,d1,d2,d3,d4,d5]=pkN d [b0,b1,b2,b3,b4,b5] [y0,y1,y2,y3,y4,y5])∧Blk wx bs [.int .u64 c0,.int .u64 c1,.int .u64 c2,.int .u64 c3,.int .u64 c4,.int .u64 c5,.int .u64 d0,.int .u64 d1,.int .u64 d2,.int .u64 d3,.int .u64 d4,.int .u64 d5,.bool (Noo [c0,c1,c2,c3,c4,c5] [d0,d1,d2,d3,d4,d5])]∧Hd S1 wx)
      case first =>
        refine wp_region_noPanic ?_
        refine wp_region_held_drew (S:=Hd S1) (by kernel_rfl) (KD1.out _ hS1) (fun hHeld=>?_)
        clear hS1
        replace BS:=BS.drew
        have lts:=BS.lt
        have e0:=BS.cell 0 _ rfl;have i0:=BS.frozen 0;have e1:=BS.cell 1 _ rfl;have i1:=BS.frozen 1;have e2:=BS.cell 2 _ rfl;have i2:=BS.frozen 2;have e3:=BS.cell 3 _ rfl;have i3:=BS.frozen 3;have e4:=BS.cell 4 _ rfl;have i4:=BS.frozen 4;have e5:=BS.cell 5 _ rfl;have i5:=BS.frozen 5;have e6:=BS.cell 6 _ rfl;have i6:=BS.frozen 6;have e7:=BS.cell 7 _ rfl;have i7:=BS.frozen 7;have e8:=BS.cell 8 _ rfl;have i8:=BS.frozen 8;have e9:=BS.cell 9 _ rfl;have i9:=BS.frozen 9;have e10:=BS.cell 10 _ rfl;have i10:=BS.frozen 10;have e11:=BS.cell 11 _ rfl;have i11:=BS.frozen 11;have e12:=BS.cell 12 _ rfl;have i12:=BS.frozen 12
        refine wpAnyH_take (i:=0) (v:=?_) rfl (by kernel_rfl) (by kernel_rfl) (by kernel_rfl) (fun _ _ _ h=>h) (Or.inl ⟨by rfl,?_⟩) (by assumption) ?_
        rotate_left
        · intro w hSw
          go_simp
          with_reducible rfl
        try simp only [Act.put,List.setIfInBounds_toArray,List.set_cons_zero,List.set_cons_succ]
        refine wpAnyH_take (i:=1) (v:=?_) rfl (by kernel_rfl) (by kernel_rfl) (by kernel_rfl) (fun _ _ _ h=>h) (Or.inl ⟨by rfl,?_⟩) (by assumption) ?_
        rotate_left
        · intro w hSw
          go_simp
          with_reducible rfl
        try simp only [Act.put,List.setIfInBounds_toArray,List.set_cons_zero,List.set_cons_succ]
        refine wpAnyH_take (i:=2) (v:=?_) rfl (by kernel_rfl) (by kernel_rfl) (by kernel_rfl) (fun _ _ _ h=>h) (Or.inl ⟨by rfl,?_⟩) (by assumption) ?_
        rotate_left
        · intro w hSw
          go_simp
          with_reducible rfl
        try simp only [Act.put,List.setIfInBounds_toArray,List.set_cons_zero,List.set_cons_succ]
        refine wpAnyH_take (i:=3) (v:=?_) rfl (by kernel_rfl) (by kernel_rfl) (by kernel_rfl) (fun _ _ _ h=>h) (Or.inl ⟨by rfl,?_⟩) (by assumption) ?_
        rotate_left
        · intro w hSw
          go_simp
          with_reducible rfl
        try simp only [Act.put,List.setIfInBounds_toArray,List.set_cons_zero,List.set_cons_succ]
        refine wpAnyH_take (i:=6) (v:=?_) rfl (by kernel_rfl) (by kernel_rfl) (by kernel_rfl) (fun _ _ _ h=>h) (Or.inl ⟨by rfl,?_⟩) (by assumption) ?_
        rotate_left
        · intro w hSw
          go_simp
          with_reducible rfl
        try simp only [Act.put,List.setIfInBounds_toArray,List.set_cons_zero,List.set_cons_succ]
        refine wpAnyH_ready (rs:=[4,5]) (by kernel_rfl) (by simp) ?_
        refine AllReadyH.cons rfl (fun K hK=>?_) ?_
        · go_simp
          go_fit (con_bn fP fQ HD.out)
          rintro e w' ⟨rfl,hb⟩
          replace BS:=BS.later hb
          clear lts e0 i0 e1 i1 e2 i2 e3 i3 e4 i4 e5 i5 e6 i6 e7 i7 e8 i8 e9 i9 e10 i10 e11 i11 e12 i12
          have lts:=BS.lt;have e0:=BS.cell 0 _ rfl;have i0:=BS.frozen 0;have e1:=BS.cell 1 _ rfl;have i1:=BS.frozen 1;have e2:=BS.cell 2 _ rfl;have i2:=BS.frozen 2;have e3:=BS.cell 3 _ rfl;have i3:=BS.frozen 3;have e4:=BS.cell 4 _ rfl;have i4:=BS.frozen 4;have e5:=BS.cell 5 _ rfl;have i5:=BS.frozen 5;have e6:=BS.cell 6 _ rfl;have i6:=BS.frozen 6;have e7:=BS.cell 7 _ rfl;have i7:=BS.frozen 7;have e8:=BS.cell 8 _ rfl;have i8:=BS.frozen 8;have e9:=BS.cell 9 _ rfl;have i9:=BS.frozen 9;have e10:=BS.cell 10 _ rfl;have i10:=BS.frozen 10;have e11:=BS.cell 11 _ rfl;have i11:=BS.frozen 11;have e12:=BS.cell 12 _ rfl;have i12:=BS.frozen 12
          try simp only []
          refine hK.out _ _ ?_ (fun hHeld2=>?_)
          · exact KL1.out _ _ hHeld hb
          · clear hK K hHeld hb
            have hHeld:=hHeld2
            clear hHeld2
            try simp only [Act.put,List.setIfInBounds_toArray,List.set_cons_zero,List.set_cons_succ]
            refine wpAnyH_ready (rs:=[5]) (by kernel_rfl) (by simp) ?_
            refine AllReadyH.cons rfl (fun K hK=>?_) ?_
            · go_simp
              refine hK.out _ _ ?_ (fun hHeld2=>?_)
              · exact hHeld
              · clear hK K hHeld
                have hHeld:=hHeld2
                clear hHeld2
                try simp only [Act.put,List.setIfInBounds_toArray,List.set_cons_zero,List.set_cons_succ]
                refine wpAnyH_ready (rs:=[7]) (by kernel_rfl) (by simp) ?_
                refine AllReadyH.cons rfl (fun K hK=>?_) ?_
                · go_simp
                  go_fit (con_pick D01.out fS fT fX fY)
                  rintro e w' ⟨⟨c0,c1,c2,c3,c4,c5,d0,d1,d2,d3,d4,d5,rfl,fA,fB,hv⟩,hb⟩
                  have H3:Hid _:=hv
                  clear hv
                  replace BS:=BS.later hb
                  clear lts e0 i0 e1 i1 e2 i2 e3 i3 e4 i4 e5 i5 e6 i6 e7 i7 e8 i8 e9 i9 e10 i10 e11 i11 e12 i12
                  have lts:=BS.lt;have e0:=BS.cell 0 _ rfl;have i0:=BS.frozen 0;have e1:=BS.cell 1 _ rfl;have i1:=BS.frozen 1;have e2:=BS.cell 2 _ rfl;have i2:=BS.frozen 2;have e3:=BS.cell 3 _ rfl;have i3:=BS.frozen 3;have e4:=BS.cell 4 _ rfl;have i4:=BS.frozen 4;have e5:=BS.cell 5 _ rfl;have i5:=BS.frozen 5;have e6:=BS.cell 6 _ rfl;have i6:=BS.frozen 6;have e7:=BS.cell 7 _ rfl;have i7:=BS.frozen 7;have e8:=BS.cell 8 _ rfl;have i8:=BS.frozen 8;have e9:=BS.cell 9 _ rfl;have i9:=BS.frozen 9;have e10:=BS.cell 10 _ rfl;have i10:=BS.frozen 10;have e11:=BS.cell 11 _ rfl;have i11:=BS.frozen 11;have e12:=BS.cell 12 _ rfl;have i12:=BS.frozen 12
                  try simp only []
                  refine hK.out _ _ ?_ (fun hHeld2=>?_)
                  · exact KL1.out _ _ hHeld hb
                  · clear hK K hHeld hb
                    have hHeld:=hHeld2
                    clear hHeld2
                    try simp only [Act.put,List.setIfInBounds_toArray,List.set_cons_zero,List.set_cons_succ]
                    refine wpAnyH_ready (rs:=[8]) (by kernel_rfl) (by simp) ?_
                    refine AllReadyH.cons rfl (fun K hK=>?_) ?_
                    · go_simp
                      refine hK.out _ _ ?_ (fun hHeld2=>?_)
                      · exact (KQ1.out _ _ _ _ (KQ1.out _ _ _ _ (KQ1.out _ _ _ _ (KQ1.out _ _ _ _ (KQ1.out _ _ _ _ (KQ1.out _ _ _ _ (KQ1.out _ _ _ _ (KQ1.out _ _ _ _ (KQ1.out _ _ _ _ (KQ1.out _ _ _ _ (KQ1.out _ _ _ _ (KQ1.out _ _ _ _ (KQ1.out _ _ _ _ hHeld (Or.inr mq) (by omega)) (Or.inr mq) (by omega)) (Or.inr mq) (by omega)) (Or.inr mq) (by omega)) (Or.inr mq) (by omega)) (Or.inr mq) (by omega)) (Or.inr mq) (by omega)) (Or.inr mq) (by omega)) (Or.inr mq) (by omega)) (Or.inr mq) (by omega)) (Or.inr mq) (by omega)) (Or.inr mq) (by omega)) (Or.inr mq) (by omega))
                      · clear hK K hHeld
                        have hHeld:=hHeld2
                        clear hHeld2
                        try simp only [Act.put,List.setIfInBounds_toArray,List.set_cons_zero,List.set_cons_succ]
                        refine wpAnyH_done (by kernel_rfl) ?_ _
                        refine NoPanic.normal ?_
                        go_wp2_with fail
                        go_meet
                        exact ⟨c0,c1,c2,c3,c4,c5,d0,d1,d2,d3,d4,d5,fA,fB,H3,blk_putP BS,hHeld⟩
                    exact AllReadyH.nil
                exact AllReadyH.nil
            exact AllReadyH.nil
        refine AllReadyH.cons rfl (fun K hK=>?_) ?_
        · go_simp
          refine hK.out _ _ ?_ (fun hHeld2=>?_)
          · exact hHeld
          · clear hK K hHeld
            have hHeld:=hHeld2
            clear hHeld2
            try simp only [Act.put,List.setIfInBounds_toArray,List.set_cons_zero,List.set_cons_succ]
            refine wpAnyH_ready (rs:=[4]) (by kernel_rfl) (by simp) ?_
            refine AllReadyH.cons rfl (fun K hK=>?_) ?_
            · go_simp
              go_fit (con_bn fP fQ HD.out)
              rintro e w' ⟨rfl,hb⟩
              replace BS:=BS.later hb
              clear lts e0 i0 e1 i1 e2 i2 e3 i3 e4 i4 e5 i5 e6 i6 e7 i7 e8 i8 e9 i9 e10 i10 e11 i11 e12 i12
              have lts:=BS.lt;have e0:=BS.cell 0 _ rfl;have i0:=BS.frozen 0;have e1:=BS.cell 1 _ rfl;have i1:=BS.frozen 1;have e2:=BS.cell 2 _ rfl;have i2:=BS.frozen 2;have e3:=BS.cell 3 _ rfl;have i3:=BS.frozen 3;have e4:=BS.cell 4 _ rfl;have i4:=BS.frozen 4;have e5:=BS.cell 5 _ rfl;have i5:=BS.frozen 5;have e6:=BS.cell 6 _ rfl;have i6:=BS.frozen 6;have e7:=BS.cell 7 _ rfl;have i7:=BS.frozen 7;have e8:=BS.cell 8 _ rfl;have i8:=BS.frozen 8;have e9:=BS.cell 9 _ rfl;have i9:=BS.frozen 9;have e10:=BS.cell 10 _ rfl;have i10:=BS.frozen 10;have e11:=BS.cell 11 _ rfl;have i11:=BS.frozen 11;have e12:=BS.cell 12 _ rfl;have i12:=BS.frozen 12
              try simp only []
              refine hK.out _ _ ?_ (fun hHeld2=>?_)
              · exact KL1.out _ _ hHeld hb
              · clear hK K hHeld hb
                have hHeld:=hHeld2
                clear hHeld2
                try simp only [Act.put,List.setIfInBounds_toArray,List.set_cons_zero,List.set_cons_succ]
                refine wpAnyH_ready (rs:=[7]) (by kernel_rfl) (by simp) ?_
                refine AllReadyH.cons rfl (fun K hK=>?_) ?_
                · go_simp
                  go_fit (con_pick D01.out fS fT fX fY)
                  rintro e w' ⟨⟨c0,c1,c2,c3,c4,c5,d0,d1,d2,d3,d4,d5,rfl,fA,fB,hv⟩,hb⟩
                  have H3:Hid _:=hv
                  clear hv
                  replace BS:=BS.later hb
                  clear lts e0 i0 e1 i1 e2 i2 e3 i3 e4 i4 e5 i5 e6 i6 e7 i7 e8 i8 e9 i9 e10 i10 e11 i11 e12 i12
                  have lts:=BS.lt;have e0:=BS.cell 0 _ rfl;have i0:=BS.frozen 0;have e1:=BS.cell 1 _ rfl;have i1:=BS.frozen 1;have e2:=BS.cell 2 _ rfl;have i2:=BS.frozen 2;have e3:=BS.cell 3 _ rfl;have i3:=BS.frozen 3;have e4:=BS.cell 4 _ rfl;have i4:=BS.frozen 4;have e5:=BS.cell 5 _ rfl;have i5:=BS.frozen 5;have e6:=BS.cell 6 _ rfl;have i6:=BS.frozen 6;have e7:=BS.cell 7 _ rfl;have i7:=BS.frozen 7;have e8:=BS.cell 8 _ rfl;have i8:=BS.frozen 8;have e9:=BS.cell 9 _ rfl;have i9:=BS.frozen 9;have e10:=BS.cell 10 _ rfl;have i10:=BS.frozen 10;have e11:=BS.cell 11 _ rfl;have i11:=BS.frozen 11;have e12:=BS.cell 12 _ rfl;have i12:=BS.frozen 12
                  try simp only []
                  refine hK.out _ _ ?_ (fun hHeld2=>?_)
                  · exact KL1.out _ _ hHeld hb
                  · clear hK K hHeld hb
                    have hHeld:=hHeld2
                    clear hHeld2
                    try simp only [Act.put,List.setIfInBounds_toArray,List.set_cons_zero,List.set_cons_succ]
                    refine wpAnyH_ready (rs:=[8]) (by kernel_rfl) (by simp) ?_
                    refine AllReadyH.cons rfl (fun K hK=>?_) ?_
                    · go_simp
                      refine hK.out _ _ ?_ (fun hHeld2=>?_)
                      · exact (KQ1.out _ _ _ _ (KQ1.out _ _ _ _ (KQ1.out _ _ _ _ (KQ1.out _ _ _ _ (KQ1.out _ _ _ _ (KQ1.out _ _ _ _ (KQ1.out _ _ _ _ (KQ1.out _ _ _ _ (KQ1.out _ _ _ _ (KQ1.out _ _ _ _ (KQ1.out _ _ _ _ (KQ1.out _ _ _ _ (KQ1.out _ _ _ _ hHeld (Or.inr mq) (by omega)) (Or.inr mq) (by omega)) (Or.inr mq) (by omega)) (Or.inr mq) (by omega)) (Or.inr mq) (by omega)) (Or.inr mq) (by omega)) (Or.inr mq) (by omega)) (Or.inr mq) (by omega)) (Or.inr mq) (by omega)) (Or.inr mq) (by omega)) (Or.inr mq) (by omega)) (Or.inr mq) (by omega)) (Or.inr mq) (by omega))
                      · clear hK K hHeld
                        have hHeld:=hHeld2
                        clear hHeld2
                        try simp only [Act.put,List.setIfInBounds_toArray,List.set_cons_zero,List.set_cons_succ]
                        refine wpAnyH_done (by kernel_rfl) ?_ _
                        refine NoPanic.normal ?_
                        go_wp2_with fail
                        go_meet
                        exact ⟨c0,c1,c2,c3,c4,c5,d0,d1,d2,d3,d4,d5,fA,fB,H3,blk_putP BS,hHeld⟩
                    exact AllReadyH.nil
                exact AllReadyH.nil
            exact AllReadyH.nil
        exact AllReadyH.nil
      case rest =>
        clear hS1 BS fS fT D01
        obtain ⟨c0,c1,c2,c3,c4,c5,d0,d1,d2,d3,d4,d5,fS,fT,H3,BS,hS1⟩:=hcut
        have TS:Hid _:=add_fin9 HT.out HTU.out HOP.out HC.out HD.out H1.out H2.out H3.out fS fT
        have Br:=KM1.out _ (w.heap.size + 1 + 1) _ hS1 (List.mem_cons_of_mem _ (List.mem_cons_of_mem _ List.mem_cons_self))
        have bel:=KB1.out _ hS1
        clear hS1 ltr H1 H2 H3 HT HTU HOP HC HD mq c1a0 c1b0 c1c0 c1a1 c1b1 c1c1 c1a2 c1b2 c1c2 c1a3 c1b3 c1c3 c1a4 c1b4 c1c4 c1a5 c1b5 c1c5 c1a6 c1b6 c1c6 c1a7 c1b7 c1c7 c1a8 c1b8 c1c8 c1a9 c1b9 c1c9 c1a10 c1b10 c1c10 c1a11 c1b11 c1c11 c1a12 c1b12 c1c12 c1al c1bl c1cl
        have ltr:=Br.lt
        have lts:=BS.lt
        have e0:=BS.cell 0 _ rfl
        have e1:=BS.cell 1 _ rfl
        have e2:=BS.cell 2 _ rfl
        have e3:=BS.cell 3 _ rfl
        have e4:=BS.cell 4 _ rfl
        have e5:=BS.cell 5 _ rfl
        have e6:=BS.cell 6 _ rfl
        have e7:=BS.cell 7 _ rfl
        have e8:=BS.cell 8 _ rfl
        have e9:=BS.cell 9 _ rfl
        have e10:=BS.cell 10 _ rfl
        have e11:=BS.cell 11 _ rfl
        have e12:=BS.cell 12 _ rfl
        have j0:=Br.cell 0 _ rfl;have i0:=Br.frozen 0;have j1:=Br.cell 1 _ rfl;have i1:=Br.frozen 1;have j2:=Br.cell 2 _ rfl;have i2:=Br.frozen 2;have j3:=Br.cell 3 _ rfl;have i3:=Br.frozen 3;have j4:=Br.cell 4 _ rfl;have i4:=Br.frozen 4;have j5:=Br.cell 5 _ rfl;have i5:=Br.frozen 5;have j6:=Br.cell 6 _ rfl;have i6:=Br.frozen 6;have j7:=Br.cell 7 _ rfl;have i7:=Br.frozen 7;have j8:=Br.cell 8 _ rfl;have i8:=Br.frozen 8;have j9:=Br.cell 9 _ rfl;have i9:=Br.frozen 9;have j10:=Br.cell 10 _ rfl;have i10:=Br.frozen 10;have j11:=Br.cell 11 _ rfl;have i11:=Br.frozen 11;have j12:=Br.cell 12 _ rfl;have i12:=Br.frozen 12
        go_wp2_with fail
        exact bodyPost_ret (v:=.tuple #[.agg #[.int .u64 c0,.int .u64 c1,.int .u64 c2,.int .u64 c3,.int .u64 c4,.int .u64 c5,.int .u64 d0,.int .u64 d1,.int .u64 d2,.int .u64 d3,.int .u64 d4,.int .u64 d5,.bool (Noo [c0,c1,c2,c3,c4,c5] [d0,d1,d2,d3,d4,d5])],.nilIface]) (by simp [results,Tryz.results76,go_sem,j0,j1,j2,j3,j4,j5,j6,j7,j8,j9,j10,j11,j12]) rfl ⟨⟨c0,c1,c2,c3,c4,c5,d0,d1,d2,d3,d4,d5,rfl,TS.out⟩,below_put13 bel (by omega)⟩
theorem con_Add {x0 x1 x2 x3 x4 x5 y0 y1 y2 y3 y4 y5 p0 p1 p2 p3 p4 p5 q0 q1 q2 q3 q4 q5:Int} {n m:Bool} {P Q:Pt} {w:World} (G:GlsC w) (t:Told P [x0,x1,x2,x3,x4,x5] [y0,y1,y2,y3,y4,y5] n) (u:Told Q [p0,p1,p2,p3,p4,p5] [q0,q1,q2,q3,q4,q5] m) (hP:OnC P) (hQ:OnC Q) :
  Calls Tryz.prog 76 #[.agg #[.int .u64 x0,.int .u64 x1,.int .u64 x2,.int .u64 x3,.int .u64 x4,.int .u64 x5,.int .u64 y0,.int .u64 y1,.int .u64 y2,.int .u64 y3,.int .u64 y4,.int .u64 y5,.bool n],.agg #[.int .u64 p0,.int .u64 p1,.int .u64 p2,.int .u64 p3,.int .u64 p4,.int .u64 p5,.int .u64 q0,.int .u64 q1,.int .u64 q2,.int .u64 q3,.int .u64 q4,.int .u64 q5,.bool m]] w fun e w'=>∃ (s0 s1 s2 s3 s4 s5 t0 t1 t2 t3 t4 t5:Int) (k:Bool),e=.returned (.tuple #[.agg #[.int .u64 s0,.int .u64 s1,.int .u64 s2,.int .u64 s3,.int .u64 s4,.int .u64 s5,.int .u64 t0,.int .u64 t1,.int .u64 t2,.int .u64 t3,.int .u64 t4,.int .u64 t5,.bool k],.nilIface])∧Told (cadd P Q) [s0,s1,s2,s3,s4,s5] [t0,t1,t2,t3,t4,t5] k∧Below w.heap.size w w':=by
 refine (add_ret G t u hP hQ).mono ?_
 rintro e w' ⟨⟨s0,s1,s2,s3,s4,s5,t0,t1,t2,t3,t4,t5,h1,h2⟩,hb⟩
 exact ⟨s0,s1,s2,s3,s4,s5,t0,t1,t2,t3,t4,t5,_,h1,h2,hb⟩
end Go.Proofs.YtlkljfnenonfgaaGreatDoor
