/- curve.slope: two points' slope. curve.bySlope: the sum of two points by their slope. -/
import Derived.Test.YtlkljfnenonfgaaGreatDoorCCode
import Derived.Test.YtlkljfnenonfgaaGreatDoorFAdd
import Derived.Test.YtlkljfnenonfgaaGreatDoorFInvG
import Derived.Test.YtlkljfnenonfgaaGreatDoorRows
import Derived.Deep.WholeRow
import Derived.Deep.RegionHeld3
import Derived.Deep.DeepCutAuto
import Derived.Deep.DeepFit
namespace Go.Proofs.YtlkljfnenonfgaaGreatDoor
open Go.RowKit
/-- what curve.slope reckons: two points' slope, where they have one -/
def SlIs (x1 y1 x2 y2 s:Int):Prop:=Lo s∧(Aff x1 y1→Aff x2 y2→¬ Opp x1 y1 x2 y2→SlR x1 y1 x2 y2 s)
theorem inv_nu {d i:Int} (h0:0≤d) (hd:¬ Nu d) (h:Out d 39402006196394479212279040100143613805079739270465446667948293404245721771496870329047266088258938001861606973112317 i):Nu (d * i - 1):=by
 have k:=(out_inv h0 h).2 (fun q=>hd (nu_iff.2 q))
 have e:=nu_emod (d * i)
 rw [k] at e
 exact nu_of1 e (-1) (by grind)
theorem slope_is {A B C D T U R V:List Int} {q r i s:Int} {c:Int} (lA:A.length=6) (lB:B.length=6) (lC:C.length=6) (lD:D.length=6) (fA:fits A) (fB:fits B) (fC:fits C) (fD:fits D) (hc:itN A B C D=c)
  (ht:q=(v64 A * v64 A) % PP∧r=(q - 1) % PP∧v64 T=(3 * r) % PP) (hu:v64 U=(v64 D - v64 B) % PP) (hR:R=pkN c U T) {G E:List Int} (hg:v64 G=(v64 C - v64 A) % PP) (he:v64 E=(v64 B + v64 B) % PP) (hV:V=pkN c G E) (fV:fits V)
  (hi:Out (v64 V) 39402006196394479212279040100143613805079739270465446667948293404245721771496870329047266088258938001861606973112317 i) (hs:s=(v64 R * i) % PP):SlIs (v64 A) (v64 B) (v64 C) (v64 D) s:=by
 refine ⟨by rw [hs];exact lo_emod _,fun A1 A2 hn=>?_⟩
 have es:=nu_emod (v64 R * i)
 rw [← hs] at es
 have v0:0≤v64 V:=(v64_bound V fV).1
 unfold itN at hc
 by_cases hx:A=C∧B=D
 ·rw [if_pos hx] at hc
  unfold pkN at hR hV
  rw [if_pos hc.symm] at hR hV
  subst hR hV
  obtain ⟨rfl,rfl⟩:=hx
  obtain ⟨hq,hr,ht⟩:=ht
  have e1:=nu_emod (v64 A * v64 A)
  rw [← hq] at e1
  have e2:=nu_emod (q - 1)
  rw [← hr] at e2
  have e3:=nu_emod (3 * r)
  rw [← ht] at e3
  have hy:¬ Nu (v64 B + v64 B):=fun k=>hn ⟨rfl,nu_iff.1 k⟩
  have nv:¬ Nu (v64 V):=by rw [he];exact not_emod hy
  have e4:=nu_emod (v64 B + v64 B)
  rw [← he] at e4
  have n1:Nu (v64 R - (3 * (v64 A * v64 A) - 3)):=nu_of3 e3 1 e2 3 e1 3 (by grind)
  have m:=mulinv n1 e4 (inv_nu v0 nv hi) es
  exact ⟨Nu.to nu_zero (by grind),Nu.to m (by grind)⟩
 ·rw [if_neg hx] at hc
  have c1:¬ c=1:=by omega
  unfold pkN at hR hV
  rw [if_neg c1] at hR hV
  subst hR hV
  have hxx:¬ v64 A=v64 C:=by
   intro k
   have hs2:¬ Nu (v64 B + v64 D):=fun q=>hn ⟨k,nu_iff.1 q⟩
   have hd:Nu ((v64 B - v64 D) * (v64 B + v64 D)):=by
    have a1:=A1.cu
    have a2:=A2.cu
    rw [k] at a1
    exact nu_of2 a1 1 a2 (-1) (by grind)
   have ey:=A1.ly.eq A2.ly (hd.left hs2)
   exact hx ⟨v64_inj _ _ (by rw [lA,lC]) fA fC k,v64_inj _ _ (by rw [lB,lD]) fB fD ey⟩
  have hs2:=sub_not A1.lx A2.lx hxx
  have nv:¬ Nu (v64 V):=by rw [hg];exact not_emod hs2
  have e1:=nu_emod (v64 D - v64 B)
  rw [← hu] at e1
  have e2:=nu_emod (v64 C - v64 A)
  rw [← hg] at e2
  have m:=mulinv e1 e2 (inv_nu v0 nv hi) es
  refine ⟨Nu.to m (by grind),?_⟩
  have q:Nu ((s * (v64 B + v64 D) - (v64 A * v64 A + v64 A * v64 C + v64 C * v64 C - 3)) * (v64 C - v64 A)):=nu_of3 m (v64 B + v64 D) A1.cu (-1) A2.cu 1 (by grind)
  exact q.left hs2
theorem it_or (A B C D:List Int):itN A B C D=0∨itN A B C D=1:=by unfold itN;split<;>simp
theorem slope_fin {x0 x1 x2 x3 x4 x5 y0 y1 y2 y3 y4 y5 p0 p1 p2 p3 p4 p5 q0 q1 q2 q3 q4 q5 c i s:Int} {T R V:List Int} (fA:fits [x0,x1,x2,x3,x4,x5]) (fB:fits [y0,y1,y2,y3,y4,y5]) (fC:fits [p0,p1,p2,p3,p4,p5]) (fD:fits [q0,q1,q2,q3,q4,q5]) (hc:itN [x0,x1,x2,x3,x4,x5] [y0,y1,y2,y3,y4,y5] [p0,p1,p2,p3,p4,p5] [q0,q1,q2,q3,q4,q5]=c)
  (ht:∃ q r,q=(v64 [x0,x1,x2,x3,x4,x5] * v64 [x0,x1,x2,x3,x4,x5]) % PP∧r=(q - 1) % PP∧v64 T=(3 * r) % PP) (hR:∃ U:List Int,v64 U=(v64 [q0,q1,q2,q3,q4,q5] - v64 [y0,y1,y2,y3,y4,y5]) % PP∧R=pkN c U T) (hV:∃ D E:List Int,v64 D=(v64 [p0,p1,p2,p3,p4,p5] - v64 [x0,x1,x2,x3,x4,x5]) % PP∧v64 E=(v64 [y0,y1,y2,y3,y4,y5] + v64 [y0,y1,y2,y3,y4,y5]) % PP∧V=pkN c D E) (fV:fits V)
  (hi:Out (v64 V) 39402006196394479212279040100143613805079739270465446667948293404245721771496870329047266088258938001861606973112317 i) (hs:s=(v64 R * i) % PP):SlIs (v64 [x0,x1,x2,x3,x4,x5]) (v64 [y0,y1,y2,y3,y4,y5]) (v64 [p0,p1,p2,p3,p4,p5]) (v64 [q0,q1,q2,q3,q4,q5]) s:=by
 obtain ⟨q,r,ht⟩:=ht
 obtain ⟨U,hu,hR⟩:=hR
 obtain ⟨D,E,hg,he,hV⟩:=hV
 exact slope_is rfl rfl rfl rfl fA fB fC fD hc ht hu hR hg he hV fV hi hs
set_option maxRecDepth 100000 in
set_option maxHeartbeats 8000000 in
theorem con_slope {x0 x1 x2 x3 x4 x5 y0 y1 y2 y3 y4 y5 p0 p1 p2 p3 p4 p5 q0 q1 q2 q3 q4 q5:Int} {n m:Bool} {w:World} (G:Gls w) (fX:fits [x0,x1,x2,x3,x4,x5]) (fY:fits [y0,y1,y2,y3,y4,y5]) (fP:fits [p0,p1,p2,p3,p4,p5]) (fQ:fits [q0,q1,q2,q3,q4,q5]) :
    Calls Tryz.prog 116 #[.agg #[.int .u64 x0,.int .u64 x1,.int .u64 x2,.int .u64 x3,.int .u64 x4,.int .u64 x5,.int .u64 y0,.int .u64 y1,.int .u64 y2,.int .u64 y3,.int .u64 y4,.int .u64 y5,.bool n],.agg #[.int .u64 p0,.int .u64 p1,.int .u64 p2,.int .u64 p3,.int .u64 p4,.int .u64 p5,.int .u64 q0,.int .u64 q1,.int .u64 q2,.int .u64 q3,.int .u64 q4,.int .u64 q5,.bool m]] w fun e w'=>∃ z0 z1 z2 z3 z4 z5:Int,e=.returned (.agg #[.int .u64 z0,.int .u64 z1,.int .u64 z2,.int .u64 z3,.int .u64 z4,.int .u64 z5])∧fits [z0,z1,z2,z3,z4,z5]∧SlIs (v64 [x0,x1,x2,x3,x4,x5]) (v64 [y0,y1,y2,y3,y4,y5]) (v64 [p0,p1,p2,p3,p4,p5]) (v64 [q0,q1,q2,q3,q4,q5]) (v64 [z0,z1,z2,z3,z4,z5])∧Below w.heap.size w w':=by
  obtain ⟨c1,h1⟩:∃ c,sameN [x0,x1,x2,x3,x4,x5] [p0,p1,p2,p3,p4,p5]=c:=⟨_,rfl⟩
  obtain ⟨c2,h2⟩:∃ c,sameN [y0,y1,y2,y3,y4,y5] [q0,q1,q2,q3,q4,q5]=c:=⟨_,rfl⟩
  obtain ⟨c,hc⟩:∃ c,itN [x0,x1,x2,x3,x4,x5] [y0,y1,y2,y3,y4,y5] [p0,p1,p2,p3,p4,p5] [q0,q1,q2,q3,q4,q5]=c:=⟨_,rfl⟩
  have e:=it_and [x0,x1,x2,x3,x4,x5] [y0,y1,y2,y3,y4,y5] [p0,p1,p2,p3,p4,p5] [q0,q1,q2,q3,q4,q5]
  rw [h1,h2,hc] at e
  have H1:Hid (sameN [x0,x1,x2,x3,x4,x5] [p0,p1,p2,p3,p4,p5]=c1):=h1
  have H2:Hid (sameN [y0,y1,y2,y3,y4,y5] [q0,q1,q2,q3,q4,q5]=c2):=h2
  have HE:Hid (bits .and .u64 c1 c2=c):=e
  have HC:Hid (itN [x0,x1,x2,x3,x4,x5] [y0,y1,y2,y3,y4,y5] [p0,p1,p2,p3,p4,p5] [q0,q1,q2,q3,q4,q5]=c):=hc
  have H01:Hid (c=0∨c=1):=by rw [← hc];exact it_or _ _ _ _
  clear hc h1 h2 e
  have B0:=((Blk.new w [.int .u64 x0,.int .u64 x1,.int .u64 x2,.int .u64 x3,.int .u64 x4,.int .u64 x5,.int .u64 y0,.int .u64 y1,.int .u64 y2,.int .u64 y3,.int .u64 y4,.int .u64 y5,.bool n] 26 (w.heap.size) rfl).alloc (.cells [.int .u64 p0,.int .u64 p1,.int .u64 p2,.int .u64 p3,.int .u64 p4,.int .u64 p5,.int .u64 q0,.int .u64 q1,.int .u64 q2,.int .u64 q3,.int .u64 q4,.int .u64 q5,.bool m].toArray 26)).alloc (.cells [.int .u64 0,.int .u64 0,.int .u64 0,.int .u64 0,.int .u64 0,.int .u64 0].toArray 24)
  have B1:=(Blk.new (w.alloc (.cells [.int .u64 x0,.int .u64 x1,.int .u64 x2,.int .u64 x3,.int .u64 x4,.int .u64 x5,.int .u64 y0,.int .u64 y1,.int .u64 y2,.int .u64 y3,.int .u64 y4,.int .u64 y5,.bool n].toArray 26)) [.int .u64 p0,.int .u64 p1,.int .u64 p2,.int .u64 p3,.int .u64 p4,.int .u64 p5,.int .u64 q0,.int .u64 q1,.int .u64 q2,.int .u64 q3,.int .u64 q4,.int .u64 q5,.bool m] 26 (w.heap.size + 1) (by simp)).alloc (.cells [.int .u64 0,.int .u64 0,.int .u64 0,.int .u64 0,.int .u64 0,.int .u64 0].toArray 24)
  have B2:=Blk.new ((w.alloc (.cells [.int .u64 x0,.int .u64 x1,.int .u64 x2,.int .u64 x3,.int .u64 x4,.int .u64 x5,.int .u64 y0,.int .u64 y1,.int .u64 y2,.int .u64 y3,.int .u64 y4,.int .u64 y5,.bool n].toArray 26)).alloc (.cells [.int .u64 p0,.int .u64 p1,.int .u64 p2,.int .u64 p3,.int .u64 p4,.int .u64 p5,.int .u64 q0,.int .u64 q1,.int .u64 q2,.int .u64 q3,.int .u64 q4,.int .u64 q5,.bool m].toArray 26)) [.int .u64 0,.int .u64 0,.int .u64 0,.int .u64 0,.int .u64 0,.int .u64 0] 24 (w.heap.size + 1 + 1) (by simp)
  have bel:Below w.heap.size w (((w.alloc (.cells [.int .u64 x0,.int .u64 x1,.int .u64 x2,.int .u64 x3,.int .u64 x4,.int .u64 x5,.int .u64 y0,.int .u64 y1,.int .u64 y2,.int .u64 y3,.int .u64 y4,.int .u64 y5,.bool n].toArray 26)).alloc (.cells [.int .u64 p0,.int .u64 p1,.int .u64 p2,.int .u64 p3,.int .u64 p4,.int .u64 p5,.int .u64 q0,.int .u64 q1,.int .u64 q2,.int .u64 q3,.int .u64 q4,.int .u64 q5,.bool m].toArray 26)).alloc (.cells [.int .u64 0,.int .u64 0,.int .u64 0,.int .u64 0,.int .u64 0,.int .u64 0].toArray 24)):=((((Below.refl _ _).alloc (Nat.le_refl _) _).alloc (by simp) _).alloc (by simp;omega) _)
  go_enter Tryz.func116,Tryz.ntmps116
  go_upto_region 1 with fail
  try simp only [us,List.map_cons,List.map_nil] at bel
  generalize (((w.alloc (Obj.cells #[.int .u64 x0,.int .u64 x1,.int .u64 x2,.int .u64 x3,.int .u64 x4,.int .u64 x5,.int .u64 y0,.int .u64 y1,.int .u64 y2,.int .u64 y3,.int .u64 y4,.int .u64 y5,.bool n] 26)).alloc (Obj.cells #[.int .u64 p0,.int .u64 p1,.int .u64 p2,.int .u64 p3,.int .u64 p4,.int .u64 p5,.int .u64 q0,.int .u64 q1,.int .u64 q2,.int .u64 q3,.int .u64 q4,.int .u64 q5,.bool m] 26)).alloc (Obj.cells #[.int .u64 0,.int .u64 0,.int .u64 0,.int .u64 0,.int .u64 0,.int .u64 0] 24))=W at *
  obtain ⟨S1,hS1,KL1,KA1,KD1,KS1,KQ1,KN1,KB1,KM1,KR1⟩:=held3 (w0:=w) (W:=W) [(w.heap.size,[.int .u64 x0,.int .u64 x1,.int .u64 x2,.int .u64 x3,.int .u64 x4,.int .u64 x5,.int .u64 y0,.int .u64 y1,.int .u64 y2,.int .u64 y3,.int .u64 y4,.int .u64 y5,.bool n]),(w.heap.size + 1,[.int .u64 p0,.int .u64 p1,.int .u64 p2,.int .u64 p3,.int .u64 p4,.int .u64 p5,.int .u64 q0,.int .u64 q1,.int .u64 q2,.int .u64 q3,.int .u64 q4,.int .u64 q5,.bool m]),(w.heap.size + 1 + 1,[.int .u64 0,.int .u64 0,.int .u64 0,.int .u64 0,.int .u64 0,.int .u64 0])] (by
    intro b X h
    simp only [List.mem_cons,List.not_mem_nil,or_false,Prod.mk.injEq] at h
    rcases h with ⟨rfl,rfl⟩|⟨rfl,rfl⟩|⟨rfl,rfl⟩
    · exact B0
    · exact B1
    · exact B2) bel
  have kb1a:∀ wx,Hd S1 wx→Blk wx (w.heap.size) [.int .u64 x0,.int .u64 x1,.int .u64 x2,.int .u64 x3,.int .u64 x4,.int .u64 x5,.int .u64 y0,.int .u64 y1,.int .u64 y2,.int .u64 y3,.int .u64 y4,.int .u64 y5,.bool n]:=fun wx h=>KM1.out wx _ _ h (by simp)
  have c1a0:=rulec kb1a 0 _ rfl
  have c1a1:=rulec kb1a 1 _ rfl
  have c1a2:=rulec kb1a 2 _ rfl
  have c1a3:=rulec kb1a 3 _ rfl
  have c1a4:=rulec kb1a 4 _ rfl
  have c1a5:=rulec kb1a 5 _ rfl
  have c1a6:=rulec kb1a 6 _ rfl
  have c1a7:=rulec kb1a 7 _ rfl
  have c1a8:=rulec kb1a 8 _ rfl
  have c1a9:=rulec kb1a 9 _ rfl
  have c1a10:=rulec kb1a 10 _ rfl
  have c1a11:=rulec kb1a 11 _ rfl
  have c1a12:=rulec kb1a 12 _ rfl
  have c1al:=ruleb kb1a
  clear kb1a
  have kb1b:∀ wx,Hd S1 wx→Blk wx (w.heap.size + 1) [.int .u64 p0,.int .u64 p1,.int .u64 p2,.int .u64 p3,.int .u64 p4,.int .u64 p5,.int .u64 q0,.int .u64 q1,.int .u64 q2,.int .u64 q3,.int .u64 q4,.int .u64 q5,.bool m]:=fun wx h=>KM1.out wx _ _ h (by simp)
  have c1b0:=rulec kb1b 0 _ rfl
  have c1b1:=rulec kb1b 1 _ rfl
  have c1b2:=rulec kb1b 2 _ rfl
  have c1b3:=rulec kb1b 3 _ rfl
  have c1b4:=rulec kb1b 4 _ rfl
  have c1b5:=rulec kb1b 5 _ rfl
  have c1b6:=rulec kb1b 6 _ rfl
  have c1b7:=rulec kb1b 7 _ rfl
  have c1b8:=rulec kb1b 8 _ rfl
  have c1b9:=rulec kb1b 9 _ rfl
  have c1b10:=rulec kb1b 10 _ rfl
  have c1b11:=rulec kb1b 11 _ rfl
  have c1b12:=rulec kb1b 12 _ rfl
  have c1bl:=ruleb kb1b
  clear kb1b
  have kb1c:∀ wx,Hd S1 wx→Blk wx (w.heap.size + 1 + 1) [.int .u64 0,.int .u64 0,.int .u64 0,.int .u64 0,.int .u64 0,.int .u64 0]:=fun wx h=>KM1.out wx _ _ h (by simp)
  have c1c0:=rulec kb1c 0 _ rfl
  have c1c1:=rulec kb1c 1 _ rfl
  have c1c2:=rulec kb1c 2 _ rfl
  have c1c3:=rulec kb1c 3 _ rfl
  have c1c4:=rulec kb1c 4 _ rfl
  have c1c5:=rulec kb1c 5 _ rfl
  have c1cl:=ruleb kb1c
  clear kb1c
  have hN1:=bel.size
  clear bel B0 B1 B2
  go_cut [5] (fun p wx=>p=.int .u64 c∧Hd S1 wx)
  case first =>
    go_region_held3 (Hd S1)
      (first
        | with_reducible exact KL1.out _ _ (by assumption) hb
        | with_reducible exact KA1.out _ _ (by assumption)
        | with_reducible exact KS1.out _ _ _ (by omega) (by assumption)
        | with_reducible exact KD1.out _ hS1
        | with_reducible exact KD1.out _ (KA1.out _ _ hS1)
        | with_reducible assumption)
      (first
        | (go_at_call 47;go_fit (same_num fX fP H1.out);rintro e w' ⟨rfl,hb⟩)
        | (go_at_call 47;go_fit (same_num fY fQ H2.out);rintro e w' ⟨rfl,hb⟩))
    all_goals
      go_wp2_with fail
      go_meet
      exact ⟨by rw [← HE.out],by with_reducible assumption⟩
  case rest =>
    clear hS1 HE H1 H2
    obtain ⟨rfl,hS1⟩:=hcut
    have B0:=KM1.out _ (w.heap.size) _ hS1 List.mem_cons_self
    have B1:=KM1.out _ (w.heap.size + 1) _ hS1 (List.mem_cons_of_mem _ List.mem_cons_self)
    have B2:=KM1.out _ (w.heap.size + 1 + 1) _ hS1 (List.mem_cons_of_mem _ (List.mem_cons_of_mem _ List.mem_cons_self))
    have bel:=KB1.out _ hS1
    clear hS1 c1a0 c1b0 c1a1 c1b1 c1a2 c1b2 c1a3 c1b3 c1a4 c1b4 c1a5 c1b5 c1a6 c1b6 c1a7 c1b7 c1a8 c1b8 c1a9 c1b9 c1a10 c1b10 c1a11 c1b11 c1a12 c1b12 c1al c1bl c1c0 c1c1 c1c2 c1c3 c1c4 c1c5 c1cl
    have lt0:=B0.lt
    have d0:=B0.cell 0 _ rfl
    have d1:=B0.cell 1 _ rfl
    have d2:=B0.cell 2 _ rfl
    have d3:=B0.cell 3 _ rfl
    have d4:=B0.cell 4 _ rfl
    have d5:=B0.cell 5 _ rfl
    go_wp2_with fail
    refine (fmul6 (G.below bel) fX fX).mono ?_
    rintro e w1 ⟨k0,k1,k2,k3,k4,k5,rfl,fK,HK,hb⟩
    replace B0:=B0.later hb
    replace B1:=B1.later hb
    replace B2:=B2.later hb
    replace bel:=below_step bel hb
    clear hb lt0 d0 d1 d2 d3 d4 d5
    have HQ:Hid _:=HK
    clear HK
    go_wp2_with fail
    refine (fsub6 (G.below bel) fK fits_1).mono ?_
    rintro e w2 ⟨o0,o1,o2,o3,o4,o5,rfl,fO,HO,hb⟩
    replace B0:=B0.later hb
    replace B1:=B1.later hb
    replace B2:=B2.later hb
    replace bel:=below_step bel hb
    have HR:Hid _:=HO
    clear hb HO
    go_wp2_with fail
    refine (fmul6 (G.below bel) fits_3 fO).mono ?_
    rintro e w3 ⟨t0,t1,t2,t3,t4,t5,rfl,fT,HT,hb⟩
    replace B0:=B0.later hb
    replace B1:=B1.later hb
    replace B2:=B2.later hb
    replace bel:=below_step bel hb
    have HTT:Hid (∃ q r,q=(v64 [x0,x1,x2,x3,x4,x5] * v64 [x0,x1,x2,x3,x4,x5]) % PP∧r=(q - 1) % PP∧v64 [t0,t1,t2,t3,t4,t5]=(3 * r) % PP):=⟨v64 [k0,k1,k2,k3,k4,k5],v64 [o0,o1,o2,o3,o4,o5],HQ.out,by rw [← v_1];exact HR.out,by rw [← v_3];exact HT⟩
    clear hb HT HQ HR
    have B3:=Blk.new w3 (us [t0,t1,t2,t3,t4,t5]) 24 w3.heap.size rfl
    replace B0:=B0.alloc (.cells (us [t0,t1,t2,t3,t4,t5]).toArray 24)
    replace B1:=B1.alloc (.cells (us [t0,t1,t2,t3,t4,t5]).toArray 24)
    replace B2:=B2.alloc (.cells (us [t0,t1,t2,t3,t4,t5]).toArray 24)
    replace bel:=below_alloc (o:=.cells (us [t0,t1,t2,t3,t4,t5]).toArray 24) bel
    go_upto_region 3 with fail
    simp only [us,List.map_cons,List.map_nil] at B0 B1 B2 B3 bel
    obtain ⟨bt,hbt⟩:∃ b,b=w3.heap.size:=⟨_,rfl⟩
    generalize w3.alloc (Obj.cells #[.int .u64 t0,.int .u64 t1,.int .u64 t2,.int .u64 t3,.int .u64 t4,.int .u64 t5] 24)=W3 at *
    rw [← hbt] at B3 ⊢
    clear hbt
    obtain ⟨S2,hS2,KL2,KA2,KD2,KS2,KQ2,KN2,KB2,KM2,KR2⟩:=held3 (w0:=w) (W:=_) [(w.heap.size,[.int .u64 x0,.int .u64 x1,.int .u64 x2,.int .u64 x3,.int .u64 x4,.int .u64 x5,.int .u64 y0,.int .u64 y1,.int .u64 y2,.int .u64 y3,.int .u64 y4,.int .u64 y5,.bool n]),(w.heap.size + 1,[.int .u64 p0,.int .u64 p1,.int .u64 p2,.int .u64 p3,.int .u64 p4,.int .u64 p5,.int .u64 q0,.int .u64 q1,.int .u64 q2,.int .u64 q3,.int .u64 q4,.int .u64 q5,.bool m]),(w.heap.size + 1 + 1,[.int .u64 0,.int .u64 0,.int .u64 0,.int .u64 0,.int .u64 0,.int .u64 0]),(bt,[.int .u64 t0,.int .u64 t1,.int .u64 t2,.int .u64 t3,.int .u64 t4,.int .u64 t5])] (by
      intro b X h
      simp only [List.mem_cons,List.not_mem_nil,or_false,Prod.mk.injEq] at h
      rcases h with ⟨rfl,rfl⟩|⟨rfl,rfl⟩|⟨rfl,rfl⟩|⟨rfl,rfl⟩
      · exact B0
      · exact B1
      · exact B2
      · exact B3) bel
    have kb2a:∀ wx,Hd S2 wx→Blk wx (w.heap.size) [.int .u64 x0,.int .u64 x1,.int .u64 x2,.int .u64 x3,.int .u64 x4,.int .u64 x5,.int .u64 y0,.int .u64 y1,.int .u64 y2,.int .u64 y3,.int .u64 y4,.int .u64 y5,.bool n]:=fun wx h=>KM2.out wx _ _ h (by simp)
    have c2a0:=rulec kb2a 0 _ rfl
    have c2a1:=rulec kb2a 1 _ rfl
    have c2a2:=rulec kb2a 2 _ rfl
    have c2a3:=rulec kb2a 3 _ rfl
    have c2a4:=rulec kb2a 4 _ rfl
    have c2a5:=rulec kb2a 5 _ rfl
    have c2a6:=rulec kb2a 6 _ rfl
    have c2a7:=rulec kb2a 7 _ rfl
    have c2a8:=rulec kb2a 8 _ rfl
    have c2a9:=rulec kb2a 9 _ rfl
    have c2a10:=rulec kb2a 10 _ rfl
    have c2a11:=rulec kb2a 11 _ rfl
    have c2a12:=rulec kb2a 12 _ rfl
    have c2al:=ruleb kb2a
    clear kb2a
    have kb2b:∀ wx,Hd S2 wx→Blk wx (w.heap.size + 1) [.int .u64 p0,.int .u64 p1,.int .u64 p2,.int .u64 p3,.int .u64 p4,.int .u64 p5,.int .u64 q0,.int .u64 q1,.int .u64 q2,.int .u64 q3,.int .u64 q4,.int .u64 q5,.bool m]:=fun wx h=>KM2.out wx _ _ h (by simp)
    have c2b0:=rulec kb2b 0 _ rfl
    have c2b1:=rulec kb2b 1 _ rfl
    have c2b2:=rulec kb2b 2 _ rfl
    have c2b3:=rulec kb2b 3 _ rfl
    have c2b4:=rulec kb2b 4 _ rfl
    have c2b5:=rulec kb2b 5 _ rfl
    have c2b6:=rulec kb2b 6 _ rfl
    have c2b7:=rulec kb2b 7 _ rfl
    have c2b8:=rulec kb2b 8 _ rfl
    have c2b9:=rulec kb2b 9 _ rfl
    have c2b10:=rulec kb2b 10 _ rfl
    have c2b11:=rulec kb2b 11 _ rfl
    have c2b12:=rulec kb2b 12 _ rfl
    have c2bl:=ruleb kb2b
    clear kb2b
    have kb2c:∀ wx,Hd S2 wx→Blk wx (w.heap.size + 1 + 1) [.int .u64 0,.int .u64 0,.int .u64 0,.int .u64 0,.int .u64 0,.int .u64 0]:=fun wx h=>KM2.out wx _ _ h (by simp)
    have c2c0:=rulec kb2c 0 _ rfl
    have c2c1:=rulec kb2c 1 _ rfl
    have c2c2:=rulec kb2c 2 _ rfl
    have c2c3:=rulec kb2c 3 _ rfl
    have c2c4:=rulec kb2c 4 _ rfl
    have c2c5:=rulec kb2c 5 _ rfl
    have c2cl:=ruleb kb2c
    clear kb2c
    have kb2d:∀ wx,Hd S2 wx→Blk wx (bt) [.int .u64 t0,.int .u64 t1,.int .u64 t2,.int .u64 t3,.int .u64 t4,.int .u64 t5]:=fun wx h=>KM2.out wx _ _ h (by simp)
    have c2d0:=rulec kb2d 0 _ rfl
    have c2d1:=rulec kb2d 1 _ rfl
    have c2d2:=rulec kb2d 2 _ rfl
    have c2d3:=rulec kb2d 3 _ rfl
    have c2d4:=rulec kb2d 4 _ rfl
    have c2d5:=rulec kb2d 5 _ rfl
    have c2dl:=ruleb kb2d
    clear kb2d
    have hN2:=bel.size
    have lt22:=B2.lt
    clear bel B0 B1 B2 B3
    go_cut [7] (fun p wx=>∃ (b:Nat) (a0 a1 a2 a3 a4 a5:Int),p=.pointer (some ⟨b,0,none⟩)∧W3.heap.size≤b∧fits [a0,a1,a2,a3,a4,a5]∧Hid (∃ U:List Int,v64 U=(v64 [q0,q1,q2,q3,q4,q5] - v64 [y0,y1,y2,y3,y4,y5]) % PP∧[a0,a1,a2,a3,a4,a5]=pkN c U [t0,t1,t2,t3,t4,t5])∧Blk wx b (us [a0,a1,a2,a3,a4,a5])∧Hd S2 wx)
    case first =>
      go_region_held3 (Hd S2)
        (first
          | with_reducible exact (KQ2.out _ _ _ _ (KQ2.out _ _ _ _ (KQ2.out _ _ _ _ (KQ2.out _ _ _ _ (KQ2.out _ _ _ _ (KQ2.out _ _ _ _ (by assumption) (Or.inl (by omega)) (by omega)) (Or.inl (by omega)) (by omega)) (Or.inl (by omega)) (by omega)) (Or.inl (by omega)) (by omega)) (Or.inl (by omega)) (by omega)) (Or.inl (by omega)) (by omega))
          | with_reducible exact KL2.out _ _ (by assumption) hb
          | with_reducible exact KA2.out _ _ (by assumption)
          | with_reducible exact KS2.out _ _ _ (by omega) (by assumption)
          | with_reducible exact KD2.out _ hS2
          | with_reducible exact KD2.out _ (KA2.out _ _ hS2)
          | with_reducible assumption)
        (first
          | (go_at_call 51;go_fit (fsub6 (G.below (KB2.out _ (by first|with_reducible assumption|with_reducible exact KA2.out _ _ (by assumption)|with_reducible exact KD2.out _ (by assumption)))) fQ fY);rintro e w' ⟨l0,l1,l2,l3,l4,l5,rfl,fU,hv,hb⟩;have HU:Hid _:=hv;clear hv;(first|replace BN:=BN.later hb|with_reducible have BN:=Wr6.later Wr6.new hb|with_reducible have BN:=Wr6.later (Wr6.drew Wr6.new) hb|skip);have hlt:=KN2.out _ (KL2.out _ _ (by assumption) hb))
          | (go_at_call 77;go_fit (pick_let H01.out fU fT);rintro e w' ⟨a0,a1,a2,a3,a4,a5,rfl,fA,hv,hb⟩;have HA:Hid _:=hv;clear hv;(first|replace BN:=BN.later hb|with_reducible have BN:=Wr6.later Wr6.new hb|with_reducible have BN:=Wr6.later (Wr6.drew Wr6.new) hb|skip);have hlt:=KN2.out _ (KL2.out _ _ (by assumption) hb);(first|(obtain ⟨o0,o1,o2,o3,o4,o5,⟨j0,j1,j2,j3,j4,j5⟩,⟨i0,i1,i2,i3,i4,i5⟩⟩:=BN.cells)|skip)))
      all_goals
        go_wp2_with fail
        go_meet
        refine ⟨_,a0,a1,a2,a3,a4,a5,rfl,by omega,fA,⟨_,HU.out,HA.out⟩,?_,by with_reducible assumption⟩
        first
          | with_reducible exact Wr6.is BN
          | exact Blk.new w' (us [a0,a1,a2,a3,a4,a5]) 24 w'.heap.size rfl
    case rest =>
      clear hS2
      obtain ⟨ba,a0,a1,a2,a3,a4,a5,rfl,hba,fA,HA,BA,hS2⟩:=hcut
      simp only [us,List.map_cons,List.map_nil] at BA
      have B0:=KM2.out _ (w.heap.size) _ hS2 List.mem_cons_self
      have B1:=KM2.out _ (w.heap.size + 1) _ hS2 (List.mem_cons_of_mem _ List.mem_cons_self)
      have B2:=KM2.out _ (w.heap.size + 1 + 1) _ hS2 (List.mem_cons_of_mem _ (List.mem_cons_of_mem _ List.mem_cons_self))
      have bel:=KB2.out _ hS2
      have hN2b:=KN2.out _ hS2
      go_upto_region 4 with fail
      clear hS2 c2a0 c2b0 c2a1 c2b1 c2a2 c2b2 c2a3 c2b3 c2a4 c2b4 c2a5 c2b5 c2a6 c2b6 c2a7 c2b7 c2a8 c2b8 c2a9 c2b9 c2a10 c2b10 c2a11 c2b11 c2a12 c2b12 c2al c2bl c2c0 c2d0 c2c1 c2d1 c2c2 c2d2 c2c3 c2d3 c2c4 c2d4 c2c5 c2d5 c2cl c2dl
      obtain ⟨S3,hS3,KL3,KA3,KD3,KS3,KQ3,KN3,KB3,KM3,KR3⟩:=held3 (w0:=w) (W:=_) [(w.heap.size,[.int .u64 x0,.int .u64 x1,.int .u64 x2,.int .u64 x3,.int .u64 x4,.int .u64 x5,.int .u64 y0,.int .u64 y1,.int .u64 y2,.int .u64 y3,.int .u64 y4,.int .u64 y5,.bool n]),(w.heap.size + 1,[.int .u64 p0,.int .u64 p1,.int .u64 p2,.int .u64 p3,.int .u64 p4,.int .u64 p5,.int .u64 q0,.int .u64 q1,.int .u64 q2,.int .u64 q3,.int .u64 q4,.int .u64 q5,.bool m]),(w.heap.size + 1 + 1,[.int .u64 0,.int .u64 0,.int .u64 0,.int .u64 0,.int .u64 0,.int .u64 0]),(ba,[.int .u64 a0,.int .u64 a1,.int .u64 a2,.int .u64 a3,.int .u64 a4,.int .u64 a5])] (by
        intro b X h
        simp only [List.mem_cons,List.not_mem_nil,or_false,Prod.mk.injEq] at h
        rcases h with ⟨rfl,rfl⟩|⟨rfl,rfl⟩|⟨rfl,rfl⟩|⟨rfl,rfl⟩
        · exact B0
        · exact B1
        · exact B2
        · exact BA) bel
      have kb3a:∀ wx,Hd S3 wx→Blk wx (w.heap.size) [.int .u64 x0,.int .u64 x1,.int .u64 x2,.int .u64 x3,.int .u64 x4,.int .u64 x5,.int .u64 y0,.int .u64 y1,.int .u64 y2,.int .u64 y3,.int .u64 y4,.int .u64 y5,.bool n]:=fun wx h=>KM3.out wx _ _ h (by simp)
      have c3a0:=rulec kb3a 0 _ rfl
      have c3a1:=rulec kb3a 1 _ rfl
      have c3a2:=rulec kb3a 2 _ rfl
      have c3a3:=rulec kb3a 3 _ rfl
      have c3a4:=rulec kb3a 4 _ rfl
      have c3a5:=rulec kb3a 5 _ rfl
      have c3a6:=rulec kb3a 6 _ rfl
      have c3a7:=rulec kb3a 7 _ rfl
      have c3a8:=rulec kb3a 8 _ rfl
      have c3a9:=rulec kb3a 9 _ rfl
      have c3a10:=rulec kb3a 10 _ rfl
      have c3a11:=rulec kb3a 11 _ rfl
      have c3a12:=rulec kb3a 12 _ rfl
      have c3al:=ruleb kb3a
      clear kb3a
      have kb3b:∀ wx,Hd S3 wx→Blk wx (w.heap.size + 1) [.int .u64 p0,.int .u64 p1,.int .u64 p2,.int .u64 p3,.int .u64 p4,.int .u64 p5,.int .u64 q0,.int .u64 q1,.int .u64 q2,.int .u64 q3,.int .u64 q4,.int .u64 q5,.bool m]:=fun wx h=>KM3.out wx _ _ h (by simp)
      have c3b0:=rulec kb3b 0 _ rfl
      have c3b1:=rulec kb3b 1 _ rfl
      have c3b2:=rulec kb3b 2 _ rfl
      have c3b3:=rulec kb3b 3 _ rfl
      have c3b4:=rulec kb3b 4 _ rfl
      have c3b5:=rulec kb3b 5 _ rfl
      have c3b6:=rulec kb3b 6 _ rfl
      have c3b7:=rulec kb3b 7 _ rfl
      have c3b8:=rulec kb3b 8 _ rfl
      have c3b9:=rulec kb3b 9 _ rfl
      have c3b10:=rulec kb3b 10 _ rfl
      have c3b11:=rulec kb3b 11 _ rfl
      have c3b12:=rulec kb3b 12 _ rfl
      have c3bl:=ruleb kb3b
      clear kb3b
      have kb3c:∀ wx,Hd S3 wx→Blk wx (w.heap.size + 1 + 1) [.int .u64 0,.int .u64 0,.int .u64 0,.int .u64 0,.int .u64 0,.int .u64 0]:=fun wx h=>KM3.out wx _ _ h (by simp)
      have c3c0:=rulec kb3c 0 _ rfl
      have c3c1:=rulec kb3c 1 _ rfl
      have c3c2:=rulec kb3c 2 _ rfl
      have c3c3:=rulec kb3c 3 _ rfl
      have c3c4:=rulec kb3c 4 _ rfl
      have c3c5:=rulec kb3c 5 _ rfl
      have c3cl:=ruleb kb3c
      clear kb3c
      have kb3d:∀ wx,Hd S3 wx→Blk wx (ba) [.int .u64 a0,.int .u64 a1,.int .u64 a2,.int .u64 a3,.int .u64 a4,.int .u64 a5]:=fun wx h=>KM3.out wx _ _ h (by simp)
      have c3d0:=rulec kb3d 0 _ rfl
      have c3d1:=rulec kb3d 1 _ rfl
      have c3d2:=rulec kb3d 2 _ rfl
      have c3d3:=rulec kb3d 3 _ rfl
      have c3d4:=rulec kb3d 4 _ rfl
      have c3d5:=rulec kb3d 5 _ rfl
      have c3dl:=ruleb kb3d
      clear kb3d
      have hN3:=bel.size
      have lt2:=B2.lt
      clear bel B0 B1 B2 BA
      go_cut [8] (fun p wx=>∃ (b:Nat) (v0 v1 v2 v3 v4 v5:Int),p=.pointer (some ⟨b,0,none⟩)∧w.heap.size + 1 + 1 < b∧fits [v0,v1,v2,v3,v4,v5]∧Hid (∃ D E:List Int,v64 D=(v64 [p0,p1,p2,p3,p4,p5] - v64 [x0,x1,x2,x3,x4,x5]) % PP∧v64 E=(v64 [y0,y1,y2,y3,y4,y5] + v64 [y0,y1,y2,y3,y4,y5]) % PP∧[v0,v1,v2,v3,v4,v5]=pkN c D E)∧Blk wx b (us [v0,v1,v2,v3,v4,v5])∧Hd S3 wx)
      case first =>
        go_region_held3 (Hd S3)
          (first
            | with_reducible exact (KQ3.out _ _ _ _ (KQ3.out _ _ _ _ (KQ3.out _ _ _ _ (KQ3.out _ _ _ _ (KQ3.out _ _ _ _ (KQ3.out _ _ _ _ (by assumption) (Or.inl (by omega)) (by omega)) (Or.inl (by omega)) (by omega)) (Or.inl (by omega)) (by omega)) (Or.inl (by omega)) (by omega)) (Or.inl (by omega)) (by omega)) (Or.inl (by omega)) (by omega))
            | with_reducible exact KL3.out _ _ (by assumption) hb
            | with_reducible exact KA3.out _ _ (by assumption)
            | with_reducible exact KS3.out _ _ _ (by omega) (by assumption)
            | with_reducible exact KD3.out _ hS3
            | with_reducible exact KD3.out _ (KA3.out _ _ hS3)
            | with_reducible assumption)
          (first
            | (go_at_call 51;go_fit (fsub6 (G.below (KB3.out _ (by first|with_reducible assumption|with_reducible exact KA3.out _ _ (by assumption)|with_reducible exact KD3.out _ (by assumption)))) fP fX);rintro e w' ⟨g0,g1,g2,g3,g4,g5,rfl,fG,hv,hb⟩;have HG:Hid _:=hv;clear hv;(first|replace BN:=BN.later hb|with_reducible have BN:=Wr6.later Wr6.new hb|with_reducible have BN:=Wr6.later (Wr6.drew Wr6.new) hb|skip);have hlt:=KN3.out _ (KL3.out _ _ (by assumption) hb))
            | (go_at_call 52;go_fit (fadd6 (G.below (KB3.out _ (by first|with_reducible assumption|with_reducible exact KA3.out _ _ (by assumption)|with_reducible exact KD3.out _ (by assumption)))) fY fY);rintro e w' ⟨d0,d1,d2,d3,d4,d5,rfl,fD,hv,hb⟩;have HD:Hid _:=hv;clear hv;(first|replace BN:=BN.later hb|with_reducible have BN:=Wr6.later Wr6.new hb|with_reducible have BN:=Wr6.later (Wr6.drew Wr6.new) hb|skip);have hlt:=KN3.out _ (KL3.out _ _ (by assumption) hb))
            | (go_at_call 77;go_fit (pick_let H01.out fG fD);rintro e w' ⟨v0,v1,v2,v3,v4,v5,rfl,fV,hv,hb⟩;have HVV:Hid _:=hv;clear hv;(first|replace BN:=BN.later hb|with_reducible have BN:=Wr6.later Wr6.new hb|with_reducible have BN:=Wr6.later (Wr6.drew Wr6.new) hb|skip);have hlt:=KN3.out _ (KL3.out _ _ (by assumption) hb);(first|(obtain ⟨o0,o1,o2,o3,o4,o5,⟨j0,j1,j2,j3,j4,j5⟩,⟨i0,i1,i2,i3,i4,i5⟩⟩:=BN.cells)|skip)))
        all_goals
          go_wp2_with fail
          go_meet
          refine ⟨_,v0,v1,v2,v3,v4,v5,rfl,by omega,fV,⟨_,_,HG.out,HD.out,HVV.out⟩,?_,by with_reducible assumption⟩
          first
            | with_reducible exact Wr6.is BN
            | exact Blk.new w' (us [v0,v1,v2,v3,v4,v5]) 24 w'.heap.size rfl
      case rest =>
        clear hS3
        obtain ⟨bv,v0,v1,v2,v3,v4,v5,rfl,hbv,fV,HV,BV,hS3⟩:=hcut
        simp only [us,List.map_cons,List.map_nil] at BV
        have B2:=KM3.out _ (w.heap.size + 1 + 1) _ hS3 (List.mem_cons_of_mem _ (List.mem_cons_of_mem _ List.mem_cons_self))
        have BA:=KM3.out _ ba _ hS3 (List.mem_cons_of_mem _ (List.mem_cons_of_mem _ (List.mem_cons_of_mem _ List.mem_cons_self)))
        have bel:=KB3.out _ hS3
        go_upto_region 5 with fail
        clear hS3 c3a0 c3b0 c3a1 c3b1 c3a2 c3b2 c3a3 c3b3 c3a4 c3b4 c3a5 c3b5 c3a6 c3b6 c3a7 c3b7 c3a8 c3b8 c3a9 c3b9 c3a10 c3b10 c3a11 c3b11 c3a12 c3b12 c3al c3bl c3c0 c3d0 c3c1 c3d1 c3c2 c3d2 c3c3 c3d3 c3c4 c3d4 c3c5 c3d5 c3cl c3dl
        have n1:ba≠w.heap.size + 1 + 1:=by omega
        have n2:bv≠w.heap.size + 1 + 1:=by omega
        obtain ⟨S4,hS4,KL4,KA4,KD4,KS4,KQ4,KN4,KB4,KM4,KR4⟩:=held3 (w0:=w) (W:=_) [(ba,[.int .u64 a0,.int .u64 a1,.int .u64 a2,.int .u64 a3,.int .u64 a4,.int .u64 a5]),(bv,[.int .u64 v0,.int .u64 v1,.int .u64 v2,.int .u64 v3,.int .u64 v4,.int .u64 v5])] (by
          intro b X h
          simp only [List.mem_cons,List.not_mem_nil,or_false,Prod.mk.injEq] at h
          rcases h with ⟨rfl,rfl⟩|⟨rfl,rfl⟩
          · exact BA
          · exact BV) bel
        have kb4a:∀ wx,Hd S4 wx→Blk wx (ba) [.int .u64 a0,.int .u64 a1,.int .u64 a2,.int .u64 a3,.int .u64 a4,.int .u64 a5]:=fun wx h=>KM4.out wx _ _ h (by simp)
        have c4a0:=rulec kb4a 0 _ rfl
        have c4a1:=rulec kb4a 1 _ rfl
        have c4a2:=rulec kb4a 2 _ rfl
        have c4a3:=rulec kb4a 3 _ rfl
        have c4a4:=rulec kb4a 4 _ rfl
        have c4a5:=rulec kb4a 5 _ rfl
        have c4al:=ruleb kb4a
        clear kb4a
        have kb4b:∀ wx,Hd S4 wx→Blk wx (bv) [.int .u64 v0,.int .u64 v1,.int .u64 v2,.int .u64 v3,.int .u64 v4,.int .u64 v5]:=fun wx h=>KM4.out wx _ _ h (by simp)
        have c4b0:=rulec kb4b 0 _ rfl
        have c4b1:=rulec kb4b 1 _ rfl
        have c4b2:=rulec kb4b 2 _ rfl
        have c4b3:=rulec kb4b 3 _ rfl
        have c4b4:=rulec kb4b 4 _ rfl
        have c4b5:=rulec kb4b 5 _ rfl
        have c4bl:=ruleb kb4b
        clear kb4b
        have mq4a:∀ c X,(c,X)∈[((ba:Nat),([.int .u64 a0,.int .u64 a1,.int .u64 a2,.int .u64 a3,.int .u64 a4,.int .u64 a5]:List Value)),((bv:Nat),([.int .u64 v0,.int .u64 v1,.int .u64 v2,.int .u64 v3,.int .u64 v4,.int .u64 v5]:List Value))]→c≠w.heap.size + 1 + 1:=by
          intro c X h
          simp only [List.mem_cons,List.not_mem_nil,or_false,Prod.mk.injEq] at h
          omega
        have hN4:=bel.size
        clear bel BA BV
        go_region_held3 (Hd S4)
          (first
            | with_reducible exact (KQ4.out _ _ _ _ (KQ4.out _ _ _ _ (KQ4.out _ _ _ _ (KQ4.out _ _ _ _ (KQ4.out _ _ _ _ (KQ4.out _ _ _ _ (by assumption) (Or.inr mq4a) (by omega)) (Or.inr mq4a) (by omega)) (Or.inr mq4a) (by omega)) (Or.inr mq4a) (by omega)) (Or.inr mq4a) (by omega)) (Or.inr mq4a) (by omega))
            | with_reducible exact KL4.out _ _ (by assumption) hb
            | with_reducible exact KA4.out _ _ (by assumption)
            | with_reducible exact KS4.out _ _ _ (by omega) (by assumption)
            | with_reducible exact KD4.out _ hS4
            | with_reducible exact KD4.out _ (KA4.out _ _ hS4)
            | with_reducible assumption)
          (first
            | (go_at_call 126;go_fit (finv6 (G.below (KB4.out _ (by first|with_reducible assumption|with_reducible exact KA4.out _ _ (by assumption)|with_reducible exact KD4.out _ (by assumption)))) fV);rintro e w' ⟨j0,j1,j2,j3,j4,j5,rfl,fI,hv,hb⟩;have HI:Hid _:=hv;clear hv;(first|replace B2:=B2.later hb|replace B2:=B2.drew.later hb|skip))
            | (go_at_call 50;go_fit (fmul6 (G.below (KB4.out _ (by first|with_reducible assumption|with_reducible exact KA4.out _ _ (by assumption)|with_reducible exact KD4.out _ (by assumption)))) fA fI);rintro e w' ⟨z0,z1,z2,z3,z4,z5,rfl,fZ,hv,hb⟩;have HZ:Hid _:=hv;clear hv;(first|replace B2:=B2.later hb|replace B2:=B2.drew.later hb|skip);have lt2:=B2.lt;have d0:=B2.cell 0 _ rfl;have g0:=B2.frozen 0;have d1:=B2.cell 1 _ rfl;have g1:=B2.frozen 1;have d2:=B2.cell 2 _ rfl;have g2:=B2.frozen 2;have d3:=B2.cell 3 _ rfl;have g3:=B2.frozen 3;have d4:=B2.cell 4 _ rfl;have g4:=B2.frozen 4;have d5:=B2.cell 5 _ rfl;have g5:=B2.frozen 5))
        all_goals go_wp2
        all_goals exact bodyPost_ret (v:=.agg #[.int .u64 z0,.int .u64 z1,.int .u64 z2,.int .u64 z3,.int .u64 z4,.int .u64 z5]) (by simp [results,Tryz.results116,go_sem,d0,d1,d2,d3,d4,d5]) rfl ⟨z0,z1,z2,z3,z4,z5,rfl,fZ,slope_fin fX fY fP fQ HC.out HTT.out HA.out HV.out fV HI.out HZ.out,KB4.out _ (by assumption)⟩
theorem by_fin {x1 y1 x2 y2 s x y:Int} (hs:SlIs x1 y1 x2 y2 s) (hx:∃ a b,a=(s * s) % PP∧b=(a - x1) % PP∧x=(b - x2) % PP) (hy:∃ d e,d=(x1 - x) % PP∧e=(s * d) % PP∧y=(e - y1) % PP):Aff x1 y1→Aff x2 y2→¬ Opp x1 y1 x2 y2→cadd (some (x1,y1)) (some (x2,y2))=some (x,y):=by
 intro A1 A2 hn
 have S:=hs.2 A1 A2 hn
 obtain ⟨a,b,ha,hb,hx⟩:=hx
 obtain ⟨d,e,hd,he,hy⟩:=hy
 have e1:=nu_emod (s * s)
 rw [← ha] at e1
 have e2:=nu_emod (a - x1)
 rw [← hb] at e2
 have e3:=nu_emod (b - x2)
 rw [← hx] at e3
 have e4:=nu_emod (x1 - x)
 rw [← hd] at e4
 have e5:=nu_emod (s * d)
 rw [← he] at e5
 have e6:=nu_emod (e - y1)
 rw [← hy] at e6
 refine add_is A1 A2 hn S (by rw [hx];exact lo_emod _) (by rw [hy];exact lo_emod _) ?_ ?_
 ·exact nu_of3 e3 1 e2 1 e1 1 (by grind)
 ·exact nu_of3 e6 1 e5 1 e4 s (by grind)
set_option maxRecDepth 100000 in
set_option maxHeartbeats 8000000 in
theorem con_by {x0 x1 x2 x3 x4 x5 y0 y1 y2 y3 y4 y5 p0 p1 p2 p3 p4 p5 q0 q1 q2 q3 q4 q5:Int} {n m:Bool} {w:World} (G:Gls w) (fX:fits [x0,x1,x2,x3,x4,x5]) (fY:fits [y0,y1,y2,y3,y4,y5]) (fP:fits [p0,p1,p2,p3,p4,p5]) (fQ:fits [q0,q1,q2,q3,q4,q5]) :
    Calls Tryz.prog 98 #[.agg #[.int .u64 x0,.int .u64 x1,.int .u64 x2,.int .u64 x3,.int .u64 x4,.int .u64 x5,.int .u64 y0,.int .u64 y1,.int .u64 y2,.int .u64 y3,.int .u64 y4,.int .u64 y5,.bool n],.agg #[.int .u64 p0,.int .u64 p1,.int .u64 p2,.int .u64 p3,.int .u64 p4,.int .u64 p5,.int .u64 q0,.int .u64 q1,.int .u64 q2,.int .u64 q3,.int .u64 q4,.int .u64 q5,.bool m]] w fun e w'=>Pts e (fun A B=>Aff (v64 [x0,x1,x2,x3,x4,x5]) (v64 [y0,y1,y2,y3,y4,y5])→Aff (v64 [p0,p1,p2,p3,p4,p5]) (v64 [q0,q1,q2,q3,q4,q5])→¬ Opp (v64 [x0,x1,x2,x3,x4,x5]) (v64 [y0,y1,y2,y3,y4,y5]) (v64 [p0,p1,p2,p3,p4,p5]) (v64 [q0,q1,q2,q3,q4,q5])→cadd (some (v64 [x0,x1,x2,x3,x4,x5],v64 [y0,y1,y2,y3,y4,y5])) (some (v64 [p0,p1,p2,p3,p4,p5],v64 [q0,q1,q2,q3,q4,q5]))=some (v64 A,v64 B))∧Below w.heap.size w w':=by
  have B0:=((Blk.new w [.int .u64 x0,.int .u64 x1,.int .u64 x2,.int .u64 x3,.int .u64 x4,.int .u64 x5,.int .u64 y0,.int .u64 y1,.int .u64 y2,.int .u64 y3,.int .u64 y4,.int .u64 y5,.bool n] 26 (w.heap.size) rfl).alloc (.cells [.int .u64 p0,.int .u64 p1,.int .u64 p2,.int .u64 p3,.int .u64 p4,.int .u64 p5,.int .u64 q0,.int .u64 q1,.int .u64 q2,.int .u64 q3,.int .u64 q4,.int .u64 q5,.bool m].toArray 26)).alloc (.cells [.int .u64 0,.int .u64 0,.int .u64 0,.int .u64 0,.int .u64 0,.int .u64 0,.int .u64 0,.int .u64 0,.int .u64 0,.int .u64 0,.int .u64 0,.int .u64 0,.bool false].toArray 26)
  have B1:=(Blk.new (w.alloc (.cells [.int .u64 x0,.int .u64 x1,.int .u64 x2,.int .u64 x3,.int .u64 x4,.int .u64 x5,.int .u64 y0,.int .u64 y1,.int .u64 y2,.int .u64 y3,.int .u64 y4,.int .u64 y5,.bool n].toArray 26)) [.int .u64 p0,.int .u64 p1,.int .u64 p2,.int .u64 p3,.int .u64 p4,.int .u64 p5,.int .u64 q0,.int .u64 q1,.int .u64 q2,.int .u64 q3,.int .u64 q4,.int .u64 q5,.bool m] 26 (w.heap.size + 1) (by simp)).alloc (.cells [.int .u64 0,.int .u64 0,.int .u64 0,.int .u64 0,.int .u64 0,.int .u64 0,.int .u64 0,.int .u64 0,.int .u64 0,.int .u64 0,.int .u64 0,.int .u64 0,.bool false].toArray 26)
  have B2:=Blk.new ((w.alloc (.cells [.int .u64 x0,.int .u64 x1,.int .u64 x2,.int .u64 x3,.int .u64 x4,.int .u64 x5,.int .u64 y0,.int .u64 y1,.int .u64 y2,.int .u64 y3,.int .u64 y4,.int .u64 y5,.bool n].toArray 26)).alloc (.cells [.int .u64 p0,.int .u64 p1,.int .u64 p2,.int .u64 p3,.int .u64 p4,.int .u64 p5,.int .u64 q0,.int .u64 q1,.int .u64 q2,.int .u64 q3,.int .u64 q4,.int .u64 q5,.bool m].toArray 26)) [.int .u64 0,.int .u64 0,.int .u64 0,.int .u64 0,.int .u64 0,.int .u64 0,.int .u64 0,.int .u64 0,.int .u64 0,.int .u64 0,.int .u64 0,.int .u64 0,.bool false] 26 (w.heap.size + 1 + 1) (by simp)
  have bel:Below w.heap.size w (((w.alloc (.cells [.int .u64 x0,.int .u64 x1,.int .u64 x2,.int .u64 x3,.int .u64 x4,.int .u64 x5,.int .u64 y0,.int .u64 y1,.int .u64 y2,.int .u64 y3,.int .u64 y4,.int .u64 y5,.bool n].toArray 26)).alloc (.cells [.int .u64 p0,.int .u64 p1,.int .u64 p2,.int .u64 p3,.int .u64 p4,.int .u64 p5,.int .u64 q0,.int .u64 q1,.int .u64 q2,.int .u64 q3,.int .u64 q4,.int .u64 q5,.bool m].toArray 26)).alloc (.cells [.int .u64 0,.int .u64 0,.int .u64 0,.int .u64 0,.int .u64 0,.int .u64 0,.int .u64 0,.int .u64 0,.int .u64 0,.int .u64 0,.int .u64 0,.int .u64 0,.bool false].toArray 26)):=((((Below.refl _ _).alloc (Nat.le_refl _) _).alloc (by simp) _).alloc (by simp;omega) _)
  go_enter Tryz.func98,Tryz.ntmps98
  go_upto_region 1 with fail
  try simp only [us,List.map_cons,List.map_nil] at bel
  generalize (((w.alloc (Obj.cells #[.int .u64 x0,.int .u64 x1,.int .u64 x2,.int .u64 x3,.int .u64 x4,.int .u64 x5,.int .u64 y0,.int .u64 y1,.int .u64 y2,.int .u64 y3,.int .u64 y4,.int .u64 y5,.bool n] 26)).alloc (Obj.cells #[.int .u64 p0,.int .u64 p1,.int .u64 p2,.int .u64 p3,.int .u64 p4,.int .u64 p5,.int .u64 q0,.int .u64 q1,.int .u64 q2,.int .u64 q3,.int .u64 q4,.int .u64 q5,.bool m] 26)).alloc (Obj.cells #[.int .u64 0,.int .u64 0,.int .u64 0,.int .u64 0,.int .u64 0,.int .u64 0,.int .u64 0,.int .u64 0,.int .u64 0,.int .u64 0,.int .u64 0,.int .u64 0,.bool false] 26))=W at *
  have Bp:=B0
  have Bq:=B1
  have Br:=B2
  clear B0 B1 B2
  have ltp:=Bp.lt
  have cp0:=Bp.cell 0 _ rfl
  have cp1:=Bp.cell 1 _ rfl
  have cp2:=Bp.cell 2 _ rfl
  have cp3:=Bp.cell 3 _ rfl
  have cp4:=Bp.cell 4 _ rfl
  have cp5:=Bp.cell 5 _ rfl
  have cp6:=Bp.cell 6 _ rfl
  have cp7:=Bp.cell 7 _ rfl
  have cp8:=Bp.cell 8 _ rfl
  have cp9:=Bp.cell 9 _ rfl
  have cp10:=Bp.cell 10 _ rfl
  have cp11:=Bp.cell 11 _ rfl
  have cp12:=Bp.cell 12 _ rfl
  have ltq:=Bq.lt
  have cq0:=Bq.cell 0 _ rfl
  have cq1:=Bq.cell 1 _ rfl
  have cq2:=Bq.cell 2 _ rfl
  have cq3:=Bq.cell 3 _ rfl
  have cq4:=Bq.cell 4 _ rfl
  have cq5:=Bq.cell 5 _ rfl
  have cq6:=Bq.cell 6 _ rfl
  have cq7:=Bq.cell 7 _ rfl
  have cq8:=Bq.cell 8 _ rfl
  have cq9:=Bq.cell 9 _ rfl
  have cq10:=Bq.cell 10 _ rfl
  have cq11:=Bq.cell 11 _ rfl
  have cq12:=Bq.cell 12 _ rfl
  go_wp2_with fail
  refine (con_slope (G.below bel) fX fY fP fQ).mono ?_
  rintro e w1 ⟨z0,z1,z2,z3,z4,z5,rfl,fZ,SZ,hb⟩
  clear ltp cp0 cp1 cp2 cp3 cp4 cp5 cp6 cp7 cp8 cp9 cp10 cp11 cp12 ltq cq0 cq1 cq2 cq3 cq4 cq5 cq6 cq7 cq8 cq9 cq10 cq11 cq12
  replace Bp:=Bp.later hb
  replace Bq:=Bq.later hb
  replace Br:=Br.later hb
  replace bel:=below_step bel hb
  clear hb
  have HZ:Hid (SlIs (v64 [x0,x1,x2,x3,x4,x5]) (v64 [y0,y1,y2,y3,y4,y5]) (v64 [p0,p1,p2,p3,p4,p5]) (v64 [q0,q1,q2,q3,q4,q5]) (v64 [z0,z1,z2,z3,z4,z5])):=SZ
  clear SZ
  replace Bp:=Bp.alloc (.cells [.int .u64 z0,.int .u64 z1,.int .u64 z2,.int .u64 z3,.int .u64 z4,.int .u64 z5].toArray 24)
  replace Bq:=Bq.alloc (.cells [.int .u64 z0,.int .u64 z1,.int .u64 z2,.int .u64 z3,.int .u64 z4,.int .u64 z5].toArray 24)
  replace Br:=Br.alloc (.cells [.int .u64 z0,.int .u64 z1,.int .u64 z2,.int .u64 z3,.int .u64 z4,.int .u64 z5].toArray 24)
  have Bz:=Blk.new w1 [.int .u64 z0,.int .u64 z1,.int .u64 z2,.int .u64 z3,.int .u64 z4,.int .u64 z5] 24 w1.heap.size rfl
  replace bel:=below_alloc (o:=.cells [.int .u64 z0,.int .u64 z1,.int .u64 z2,.int .u64 z3,.int .u64 z4,.int .u64 z5].toArray 24) bel
  have lwz:∀ z,z < w1.heap.size→z≠w1.heap.size:=fun z h=>Nat.ne_of_lt h
  go_upto_region 2 with fail
  obtain ⟨bz,hbz⟩:∃ b,b=w1.heap.size:=⟨_,rfl⟩
  clear lwz
  generalize w1.alloc (Obj.cells #[.int .u64 z0,.int .u64 z1,.int .u64 z2,.int .u64 z3,.int .u64 z4,.int .u64 z5] 24)=Wz at *
  rw [← hbz] at Bz ⊢
  clear hbz
  obtain ⟨S1,hS1,KL1,KA1,KD1,KS1,KQ1,KN1,KB1,KM1,KR1⟩:=held3 (w0:=w) (W:=_) [(w.heap.size,[.int .u64 x0,.int .u64 x1,.int .u64 x2,.int .u64 x3,.int .u64 x4,.int .u64 x5,.int .u64 y0,.int .u64 y1,.int .u64 y2,.int .u64 y3,.int .u64 y4,.int .u64 y5,.bool n]),(w.heap.size + 1,[.int .u64 p0,.int .u64 p1,.int .u64 p2,.int .u64 p3,.int .u64 p4,.int .u64 p5,.int .u64 q0,.int .u64 q1,.int .u64 q2,.int .u64 q3,.int .u64 q4,.int .u64 q5,.bool m]),(w.heap.size + 1 + 1,[.int .u64 0,.int .u64 0,.int .u64 0,.int .u64 0,.int .u64 0,.int .u64 0,.int .u64 0,.int .u64 0,.int .u64 0,.int .u64 0,.int .u64 0,.int .u64 0,.bool false]),(bz,[.int .u64 z0,.int .u64 z1,.int .u64 z2,.int .u64 z3,.int .u64 z4,.int .u64 z5])] (by
    intro b X h
    simp only [List.mem_cons,List.not_mem_nil,or_false,Prod.mk.injEq] at h
    rcases h with ⟨rfl,rfl⟩|⟨rfl,rfl⟩|⟨rfl,rfl⟩|⟨rfl,rfl⟩
    · exact Bp
    · exact Bq
    · exact Br
    · exact Bz) bel
  have kb1a:∀ wx,Hd S1 wx→Blk wx (w.heap.size) [.int .u64 x0,.int .u64 x1,.int .u64 x2,.int .u64 x3,.int .u64 x4,.int .u64 x5,.int .u64 y0,.int .u64 y1,.int .u64 y2,.int .u64 y3,.int .u64 y4,.int .u64 y5,.bool n]:=fun wx h=>KM1.out wx _ _ h (by simp)
  have c1a0:=rulec kb1a 0 _ rfl
  have c1a1:=rulec kb1a 1 _ rfl
  have c1a2:=rulec kb1a 2 _ rfl
  have c1a3:=rulec kb1a 3 _ rfl
  have c1a4:=rulec kb1a 4 _ rfl
  have c1a5:=rulec kb1a 5 _ rfl
  have c1a6:=rulec kb1a 6 _ rfl
  have c1a7:=rulec kb1a 7 _ rfl
  have c1a8:=rulec kb1a 8 _ rfl
  have c1a9:=rulec kb1a 9 _ rfl
  have c1a10:=rulec kb1a 10 _ rfl
  have c1a11:=rulec kb1a 11 _ rfl
  have c1a12:=rulec kb1a 12 _ rfl
  have c1al:=ruleb kb1a
  clear kb1a
  have kb1b:∀ wx,Hd S1 wx→Blk wx (w.heap.size + 1) [.int .u64 p0,.int .u64 p1,.int .u64 p2,.int .u64 p3,.int .u64 p4,.int .u64 p5,.int .u64 q0,.int .u64 q1,.int .u64 q2,.int .u64 q3,.int .u64 q4,.int .u64 q5,.bool m]:=fun wx h=>KM1.out wx _ _ h (by simp)
  have c1b0:=rulec kb1b 0 _ rfl
  have c1b1:=rulec kb1b 1 _ rfl
  have c1b2:=rulec kb1b 2 _ rfl
  have c1b3:=rulec kb1b 3 _ rfl
  have c1b4:=rulec kb1b 4 _ rfl
  have c1b5:=rulec kb1b 5 _ rfl
  have c1b6:=rulec kb1b 6 _ rfl
  have c1b7:=rulec kb1b 7 _ rfl
  have c1b8:=rulec kb1b 8 _ rfl
  have c1b9:=rulec kb1b 9 _ rfl
  have c1b10:=rulec kb1b 10 _ rfl
  have c1b11:=rulec kb1b 11 _ rfl
  have c1b12:=rulec kb1b 12 _ rfl
  have c1bl:=ruleb kb1b
  clear kb1b
  have kb1c:∀ wx,Hd S1 wx→Blk wx (w.heap.size + 1 + 1) [.int .u64 0,.int .u64 0,.int .u64 0,.int .u64 0,.int .u64 0,.int .u64 0,.int .u64 0,.int .u64 0,.int .u64 0,.int .u64 0,.int .u64 0,.int .u64 0,.bool false]:=fun wx h=>KM1.out wx _ _ h (by simp)
  have c1c0:=rulec kb1c 0 _ rfl
  have c1c1:=rulec kb1c 1 _ rfl
  have c1c2:=rulec kb1c 2 _ rfl
  have c1c3:=rulec kb1c 3 _ rfl
  have c1c4:=rulec kb1c 4 _ rfl
  have c1c5:=rulec kb1c 5 _ rfl
  have c1c6:=rulec kb1c 6 _ rfl
  have c1c7:=rulec kb1c 7 _ rfl
  have c1c8:=rulec kb1c 8 _ rfl
  have c1c9:=rulec kb1c 9 _ rfl
  have c1c10:=rulec kb1c 10 _ rfl
  have c1c11:=rulec kb1c 11 _ rfl
  have c1c12:=rulec kb1c 12 _ rfl
  have c1cl:=ruleb kb1c
  clear kb1c
  have kb1d:∀ wx,Hd S1 wx→Blk wx (bz) [.int .u64 z0,.int .u64 z1,.int .u64 z2,.int .u64 z3,.int .u64 z4,.int .u64 z5]:=fun wx h=>KM1.out wx _ _ h (by simp)
  have c1d0:=rulec kb1d 0 _ rfl
  have c1d1:=rulec kb1d 1 _ rfl
  have c1d2:=rulec kb1d 2 _ rfl
  have c1d3:=rulec kb1d 3 _ rfl
  have c1d4:=rulec kb1d 4 _ rfl
  have c1d5:=rulec kb1d 5 _ rfl
  have c1dl:=ruleb kb1d
  clear kb1d
  have hN1:=bel.size
  have ltr:=Br.lt
  clear bel Bp Bq Br Bz
  go_cut [6] (fun p wx=>∃ (b:Nat) (s0 s1 s2 s3 s4 s5:Int),p=.pointer (some ⟨b,0,none⟩)∧w.heap.size + 1 + 1 < b∧fits [s0,s1,s2,s3,s4,s5]∧Hid (∃ a b,a=(v64 [z0,z1,z2,z3,z4,z5] * v64 [z0,z1,z2,z3,z4,z5]) % PP∧b=(a - v64 [x0,x1,x2,x3,x4,x5]) % PP∧v64 [s0,s1,s2,s3,s4,s5]=(b - v64 [p0,p1,p2,p3,p4,p5]) % PP)∧Blk wx b (us [s0,s1,s2,s3,s4,s5])∧Hd S1 wx)
  case first =>
    go_region_held3 (Hd S1)
      (first
        | with_reducible exact (KQ1.out _ _ _ _ (KQ1.out _ _ _ _ (KQ1.out _ _ _ _ (KQ1.out _ _ _ _ (KQ1.out _ _ _ _ (KQ1.out _ _ _ _ (by assumption) (Or.inl (by omega)) (by omega)) (Or.inl (by omega)) (by omega)) (Or.inl (by omega)) (by omega)) (Or.inl (by omega)) (by omega)) (Or.inl (by omega)) (by omega)) (Or.inl (by omega)) (by omega))
        | with_reducible exact KL1.out _ _ (by assumption) hb
        | with_reducible exact KA1.out _ _ (by assumption)
        | with_reducible exact KS1.out _ _ _ (by omega) (by assumption)
        | with_reducible exact KD1.out _ hS1
        | with_reducible exact KD1.out _ (KA1.out _ _ hS1)
        | with_reducible assumption)
      (first
        | (go_at_call 50;go_fit (fmul6 (G.below (KB1.out _ (by first|with_reducible assumption|with_reducible exact KA1.out _ _ (by assumption)|with_reducible exact KD1.out _ (by assumption)))) fZ fZ);rintro e w' ⟨a0,a1,a2,a3,a4,a5,rfl,fA,hv,hb⟩;have HA:Hid _:=hv;clear hv;(first|replace BN:=BN.later hb|with_reducible have BN:=Wr6.later Wr6.new hb|with_reducible have BN:=Wr6.later (Wr6.drew Wr6.new) hb|skip);have hlt:=KN1.out _ (KL1.out _ _ (by assumption) hb))
        | (go_at_call 51;go_fit (fsub6 (G.below (KB1.out _ (by first|with_reducible assumption|with_reducible exact KA1.out _ _ (by assumption)|with_reducible exact KD1.out _ (by assumption)))) fA fX);rintro e w' ⟨b0,b1,b2,b3,b4,b5,rfl,fB,hv,hb⟩;have HB:Hid _:=hv;clear hv;(first|replace BN:=BN.later hb|with_reducible have BN:=Wr6.later Wr6.new hb|with_reducible have BN:=Wr6.later (Wr6.drew Wr6.new) hb|skip);have hlt:=KN1.out _ (KL1.out _ _ (by assumption) hb))
        | (go_at_call 51;go_fit (fsub6 (G.below (KB1.out _ (by first|with_reducible assumption|with_reducible exact KA1.out _ _ (by assumption)|with_reducible exact KD1.out _ (by assumption)))) fB fP);rintro e w' ⟨s0,s1,s2,s3,s4,s5,rfl,fS,hv,hb⟩;have HX:Hid _:=hv;clear hv;(first|replace BN:=BN.later hb|with_reducible have BN:=Wr6.later Wr6.new hb|with_reducible have BN:=Wr6.later (Wr6.drew Wr6.new) hb|skip);have hlt:=KN1.out _ (KL1.out _ _ (by assumption) hb);(first|(obtain ⟨o0,o1,o2,o3,o4,o5,⟨j0,j1,j2,j3,j4,j5⟩,⟨i0,i1,i2,i3,i4,i5⟩⟩:=BN.cells)|skip)))
    all_goals
      go_wp2_with fail
      go_meet
      refine ⟨_,s0,s1,s2,s3,s4,s5,rfl,by omega,fS,⟨_,_,HA.out,HB.out,HX.out⟩,?_,by with_reducible assumption⟩
      first
        | with_reducible exact Wr6.is BN
        | exact Blk.new w' (us [s0,s1,s2,s3,s4,s5]) 24 w'.heap.size rfl
  case rest =>
    clear hS1
    obtain ⟨bx,s0,s1,s2,s3,s4,s5,rfl,hbx,fS,HX,BX,hS1⟩:=hcut
    simp only [us,List.map_cons,List.map_nil] at BX
    have Bp:=KM1.out _ (w.heap.size) _ hS1 List.mem_cons_self
    have Br:=KM1.out _ (w.heap.size + 1 + 1) _ hS1 (List.mem_cons_of_mem _ (List.mem_cons_of_mem _ List.mem_cons_self))
    have Bz:=KM1.out _ bz _ hS1 (List.mem_cons_of_mem _ (List.mem_cons_of_mem _ (List.mem_cons_of_mem _ List.mem_cons_self)))
    have bel:=KB1.out _ hS1
    go_upto_region 3 with fail
    clear hS1 ltr c1a0 c1b0 c1c0 c1a1 c1b1 c1c1 c1a2 c1b2 c1c2 c1a3 c1b3 c1c3 c1a4 c1b4 c1c4 c1a5 c1b5 c1c5 c1a6 c1b6 c1c6 c1a7 c1b7 c1c7 c1a8 c1b8 c1c8 c1a9 c1b9 c1c9 c1a10 c1b10 c1c10 c1a11 c1b11 c1c11 c1a12 c1b12 c1c12 c1al c1bl c1cl c1d0 c1d1 c1d2 c1d3 c1d4 c1d5 c1dl
    obtain ⟨S2,hS2,KL2,KA2,KD2,KS2,KQ2,KN2,KB2,KM2,KR2⟩:=held3 (w0:=w) (W:=_) [(w.heap.size,[.int .u64 x0,.int .u64 x1,.int .u64 x2,.int .u64 x3,.int .u64 x4,.int .u64 x5,.int .u64 y0,.int .u64 y1,.int .u64 y2,.int .u64 y3,.int .u64 y4,.int .u64 y5,.bool n]),(w.heap.size + 1 + 1,[.int .u64 0,.int .u64 0,.int .u64 0,.int .u64 0,.int .u64 0,.int .u64 0,.int .u64 0,.int .u64 0,.int .u64 0,.int .u64 0,.int .u64 0,.int .u64 0,.bool false]),(bz,[.int .u64 z0,.int .u64 z1,.int .u64 z2,.int .u64 z3,.int .u64 z4,.int .u64 z5]),(bx,[.int .u64 s0,.int .u64 s1,.int .u64 s2,.int .u64 s3,.int .u64 s4,.int .u64 s5])] (by
      intro b X h
      simp only [List.mem_cons,List.not_mem_nil,or_false,Prod.mk.injEq] at h
      rcases h with ⟨rfl,rfl⟩|⟨rfl,rfl⟩|⟨rfl,rfl⟩|⟨rfl,rfl⟩
      · exact Bp
      · exact Br
      · exact Bz
      · exact BX) bel
    have kb2a:∀ wx,Hd S2 wx→Blk wx (w.heap.size) [.int .u64 x0,.int .u64 x1,.int .u64 x2,.int .u64 x3,.int .u64 x4,.int .u64 x5,.int .u64 y0,.int .u64 y1,.int .u64 y2,.int .u64 y3,.int .u64 y4,.int .u64 y5,.bool n]:=fun wx h=>KM2.out wx _ _ h (by simp)
    have c2a0:=rulec kb2a 0 _ rfl
    have c2a1:=rulec kb2a 1 _ rfl
    have c2a2:=rulec kb2a 2 _ rfl
    have c2a3:=rulec kb2a 3 _ rfl
    have c2a4:=rulec kb2a 4 _ rfl
    have c2a5:=rulec kb2a 5 _ rfl
    have c2a6:=rulec kb2a 6 _ rfl
    have c2a7:=rulec kb2a 7 _ rfl
    have c2a8:=rulec kb2a 8 _ rfl
    have c2a9:=rulec kb2a 9 _ rfl
    have c2a10:=rulec kb2a 10 _ rfl
    have c2a11:=rulec kb2a 11 _ rfl
    have c2a12:=rulec kb2a 12 _ rfl
    have c2al:=ruleb kb2a
    clear kb2a
    have kb2b:∀ wx,Hd S2 wx→Blk wx (w.heap.size + 1 + 1) [.int .u64 0,.int .u64 0,.int .u64 0,.int .u64 0,.int .u64 0,.int .u64 0,.int .u64 0,.int .u64 0,.int .u64 0,.int .u64 0,.int .u64 0,.int .u64 0,.bool false]:=fun wx h=>KM2.out wx _ _ h (by simp)
    have c2b0:=rulec kb2b 0 _ rfl
    have c2b1:=rulec kb2b 1 _ rfl
    have c2b2:=rulec kb2b 2 _ rfl
    have c2b3:=rulec kb2b 3 _ rfl
    have c2b4:=rulec kb2b 4 _ rfl
    have c2b5:=rulec kb2b 5 _ rfl
    have c2b6:=rulec kb2b 6 _ rfl
    have c2b7:=rulec kb2b 7 _ rfl
    have c2b8:=rulec kb2b 8 _ rfl
    have c2b9:=rulec kb2b 9 _ rfl
    have c2b10:=rulec kb2b 10 _ rfl
    have c2b11:=rulec kb2b 11 _ rfl
    have c2b12:=rulec kb2b 12 _ rfl
    have c2bl:=ruleb kb2b
    clear kb2b
    have kb2c:∀ wx,Hd S2 wx→Blk wx (bz) [.int .u64 z0,.int .u64 z1,.int .u64 z2,.int .u64 z3,.int .u64 z4,.int .u64 z5]:=fun wx h=>KM2.out wx _ _ h (by simp)
    have c2c0:=rulec kb2c 0 _ rfl
    have c2c1:=rulec kb2c 1 _ rfl
    have c2c2:=rulec kb2c 2 _ rfl
    have c2c3:=rulec kb2c 3 _ rfl
    have c2c4:=rulec kb2c 4 _ rfl
    have c2c5:=rulec kb2c 5 _ rfl
    have c2cl:=ruleb kb2c
    clear kb2c
    have kb2d:∀ wx,Hd S2 wx→Blk wx (bx) [.int .u64 s0,.int .u64 s1,.int .u64 s2,.int .u64 s3,.int .u64 s4,.int .u64 s5]:=fun wx h=>KM2.out wx _ _ h (by simp)
    have c2d0:=rulec kb2d 0 _ rfl
    have c2d1:=rulec kb2d 1 _ rfl
    have c2d2:=rulec kb2d 2 _ rfl
    have c2d3:=rulec kb2d 3 _ rfl
    have c2d4:=rulec kb2d 4 _ rfl
    have c2d5:=rulec kb2d 5 _ rfl
    have c2dl:=ruleb kb2d
    clear kb2d
    have hN2:=bel.size
    have ltr:=Br.lt
    clear bel Bp Br Bz BX
    go_cut [7] (fun p wx=>∃ (b:Nat) (t0 t1 t2 t3 t4 t5:Int),p=.pointer (some ⟨b,0,none⟩)∧w.heap.size + 1 + 1 < b∧fits [t0,t1,t2,t3,t4,t5]∧Hid (∃ d e,d=(v64 [x0,x1,x2,x3,x4,x5] - v64 [s0,s1,s2,s3,s4,s5]) % PP∧e=(v64 [z0,z1,z2,z3,z4,z5] * d) % PP∧v64 [t0,t1,t2,t3,t4,t5]=(e - v64 [y0,y1,y2,y3,y4,y5]) % PP)∧Blk wx b (us [t0,t1,t2,t3,t4,t5])∧Hd S2 wx)
    case first =>
      go_region_held3 (Hd S2)
        (first
          | with_reducible exact (KQ2.out _ _ _ _ (KQ2.out _ _ _ _ (KQ2.out _ _ _ _ (KQ2.out _ _ _ _ (KQ2.out _ _ _ _ (KQ2.out _ _ _ _ (by assumption) (Or.inl (by omega)) (by omega)) (Or.inl (by omega)) (by omega)) (Or.inl (by omega)) (by omega)) (Or.inl (by omega)) (by omega)) (Or.inl (by omega)) (by omega)) (Or.inl (by omega)) (by omega))
          | with_reducible exact KL2.out _ _ (by assumption) hb
          | with_reducible exact KA2.out _ _ (by assumption)
          | with_reducible exact KS2.out _ _ _ (by omega) (by assumption)
          | with_reducible exact KD2.out _ hS2
          | with_reducible exact KD2.out _ (KA2.out _ _ hS2)
          | with_reducible assumption)
        (first
          | (go_at_call 51;go_fit (fsub6 (G.below (KB2.out _ (by first|with_reducible assumption|with_reducible exact KA2.out _ _ (by assumption)|with_reducible exact KD2.out _ (by assumption)))) fX fS);rintro e w' ⟨d0,d1,d2,d3,d4,d5,rfl,fD,hv,hb⟩;have HD:Hid _:=hv;clear hv;(first|replace BN:=BN.later hb|with_reducible have BN:=Wr6.later Wr6.new hb|with_reducible have BN:=Wr6.later (Wr6.drew Wr6.new) hb|skip);have hlt:=KN2.out _ (KL2.out _ _ (by assumption) hb))
          | (go_at_call 50;go_fit (fmul6 (G.below (KB2.out _ (by first|with_reducible assumption|with_reducible exact KA2.out _ _ (by assumption)|with_reducible exact KD2.out _ (by assumption)))) fZ fD);rintro e w' ⟨l0,l1,l2,l3,l4,l5,rfl,fE,hv,hb⟩;have HE:Hid _:=hv;clear hv;(first|replace BN:=BN.later hb|with_reducible have BN:=Wr6.later Wr6.new hb|with_reducible have BN:=Wr6.later (Wr6.drew Wr6.new) hb|skip);have hlt:=KN2.out _ (KL2.out _ _ (by assumption) hb))
          | (go_at_call 51;go_fit (fsub6 (G.below (KB2.out _ (by first|with_reducible assumption|with_reducible exact KA2.out _ _ (by assumption)|with_reducible exact KD2.out _ (by assumption)))) fE fY);rintro e w' ⟨t0,t1,t2,t3,t4,t5,rfl,fT,hv,hb⟩;have HY:Hid _:=hv;clear hv;(first|replace BN:=BN.later hb|with_reducible have BN:=Wr6.later Wr6.new hb|with_reducible have BN:=Wr6.later (Wr6.drew Wr6.new) hb|skip);have hlt:=KN2.out _ (KL2.out _ _ (by assumption) hb);(first|(obtain ⟨o0,o1,o2,o3,o4,o5,⟨j0,j1,j2,j3,j4,j5⟩,⟨i0,i1,i2,i3,i4,i5⟩⟩:=BN.cells)|skip)))
      all_goals
        go_wp2_with fail
        go_meet
        refine ⟨_,t0,t1,t2,t3,t4,t5,rfl,by omega,fT,⟨_,_,HD.out,HE.out,HY.out⟩,?_,by with_reducible assumption⟩
        first
          | with_reducible exact Wr6.is BN
          | exact Blk.new w' (us [t0,t1,t2,t3,t4,t5]) 24 w'.heap.size rfl
    case rest =>
      clear hS2
      obtain ⟨by_,t0,t1,t2,t3,t4,t5,rfl,hby,fT,HY,BY,hS2⟩:=hcut
      simp only [us,List.map_cons,List.map_nil] at BY
      have Br:=KM2.out _ (w.heap.size + 1 + 1) _ hS2 (List.mem_cons_of_mem _ List.mem_cons_self)
      have BX:=KM2.out _ bx _ hS2 (List.mem_cons_of_mem _ (List.mem_cons_of_mem _ (List.mem_cons_of_mem _ List.mem_cons_self)))
      have bel:=KB2.out _ hS2
      have HF:Hid _:=by_fin HZ.out HX.out HY.out
      clear HX HY HZ hS2 ltr c2a0 c2b0 c2a1 c2b1 c2a2 c2b2 c2a3 c2b3 c2a4 c2b4 c2a5 c2b5 c2a6 c2b6 c2a7 c2b7 c2a8 c2b8 c2a9 c2b9 c2a10 c2b10 c2a11 c2b11 c2a12 c2b12 c2al c2bl c2c0 c2d0 c2c1 c2d1 c2c2 c2d2 c2c3 c2d3 c2c4 c2d4 c2c5 c2d5 c2cl c2dl
      have ltx:=BX.lt
      have lty:=BY.lt
      have cx0:=BX.cell 0 _ rfl
      have cx1:=BX.cell 1 _ rfl
      have cx2:=BX.cell 2 _ rfl
      have cx3:=BX.cell 3 _ rfl
      have cx4:=BX.cell 4 _ rfl
      have cx5:=BX.cell 5 _ rfl
      have cy0:=BY.cell 0 _ rfl
      have cy1:=BY.cell 1 _ rfl
      have cy2:=BY.cell 2 _ rfl
      have cy3:=BY.cell 3 _ rfl
      have cy4:=BY.cell 4 _ rfl
      have cy5:=BY.cell 5 _ rfl
      go_wp2_with fail
      refine (con_pt (k:=Noo [s0,s1,s2,s3,s4,s5] [t0,t1,t2,t3,t4,t5]) fS fT (noo_iff _ _)).mono ?_
      rintro e w9 ⟨rfl,hb⟩
      replace Br:=Br.later hb
      replace bel:=below_step bel hb
      clear hb ltx lty cx0 cy0 cx1 cy1 cx2 cy2 cx3 cy3 cx4 cy4 cx5 cy5
      have ltr:=Br.lt
      have d0:=Br.cell 0 _ rfl;have g0:=Br.frozen 0;have d1:=Br.cell 1 _ rfl;have g1:=Br.frozen 1;have d2:=Br.cell 2 _ rfl;have g2:=Br.frozen 2;have d3:=Br.cell 3 _ rfl;have g3:=Br.frozen 3;have d4:=Br.cell 4 _ rfl;have g4:=Br.frozen 4;have d5:=Br.cell 5 _ rfl;have g5:=Br.frozen 5;have d6:=Br.cell 6 _ rfl;have g6:=Br.frozen 6;have d7:=Br.cell 7 _ rfl;have g7:=Br.frozen 7;have d8:=Br.cell 8 _ rfl;have g8:=Br.frozen 8;have d9:=Br.cell 9 _ rfl;have g9:=Br.frozen 9;have d10:=Br.cell 10 _ rfl;have g10:=Br.frozen 10;have d11:=Br.cell 11 _ rfl;have g11:=Br.frozen 11;have d12:=Br.cell 12 _ rfl;have g12:=Br.frozen 12
      go_wp2_with fail
      exact bodyPost_ret (v:=.agg #[.int .u64 s0,.int .u64 s1,.int .u64 s2,.int .u64 s3,.int .u64 s4,.int .u64 s5,.int .u64 t0,.int .u64 t1,.int .u64 t2,.int .u64 t3,.int .u64 t4,.int .u64 t5,.bool (Noo [s0,s1,s2,s3,s4,s5] [t0,t1,t2,t3,t4,t5])]) (by simp [results,Tryz.results98,go_sem,d0,d1,d2,d3,d4,d5,d6,d7,d8,d9,d10,d11,d12]) rfl ⟨⟨s0,s1,s2,s3,s4,s5,t0,t1,t2,t3,t4,t5,rfl,fS,fT,HF.out⟩,below_put13 bel (by omega)⟩
end Go.Proofs.YtlkljfnenonfgaaGreatDoor
