import Derived.Test.YtdfmoghjimghhaaGreatDoorCtBase
import Derived.Test.YtdfmoghjimghhaaGreatDoorClCa
import Derived.Test.YtdfmoghjimghhaaGreatDoorRows
import Derived.Deep.OwnRows
import Derived.Deep.AppendLies
import Derived.Great.BuildSlice
import Derived.Laws.Rows
import Derived.BigQuiet
import Derived.Deep.WholeRow
import Derived.Deep.RegionHeld3
import Derived.Deep.DeepCutAuto
import Derived.Deep.DeepFit
namespace Go.Proofs.YtdfmoghjimghhaaGreatDoor
open Go.RowKit
def Zc2 (c:Ct):Prop:=c.serial.length<1000∧c.issuer.length<100∧c.subject.length<100∧c.uses.length<100∧c.permit.length<100∧c.exclude.length<100
def ZcU (w:World) (c:Ct) (e:Ending) (w':World):Prop:=∃ b:Bool,e=.returned (.bool b)∧(b=true↔Zc2 c)∧Below w.heap.size w w'
theorem ZcU.no {w w':World} {c:Ct} (h:¬ Zc2 c) (hb:Below w.heap.size w w'):ZcU w c (.returned (.bool false)) w':=⟨false,rfl,⟨fun k=>(by cases k),fun k=>absurd k h⟩,hb⟩
theorem ZcU.yes {w w':World} {c:Ct} (h:Zc2 c) (hb:Below w.heap.size w w'):ZcU w c (.returned (.bool true)) w':=⟨true,rfl,⟨fun _=>h,fun _=>rfl⟩,hb⟩
set_option linter.unusedSimpArgs false in
set_option maxRecDepth 100000 in
set_option maxHeartbeats 1000000 in
theorem ZhC {c:Ct} {cs:List Value} {w:World} (h:Zds w c cs) (wf:WfC c) :
  Calls Tryz.prog 8 #[.agg cs.toArray] w (ZcU w c):=by
 have HC:Hid (Zds w c cs):=h;obtain ⟨sv,iv,jv,xs,ys,uv,pv,ev,bv,rs,zs,hl,q0,q1,q2,q3,q4,q17,q18,q19,q20,q21,q22,q23,q24,-,qk,-,hS,hI,hJ,hX,hY,hU,hP,hE,-,-,-⟩:=h.open;have HL38:Hid (cs.length=38):=hl;have HS:Hid (Bs w sv c.serial):=hS;have HI:Hid (Zb3 w iv c.issuer):=hI;have HJ:Hid (Zb3 w jv c.subject):=hJ;have HU:Hid (Zgo w uv c.uses):=hU;have HP:Hid (ZcY w pv c.permit):=hP;have HE:Hid (ZcY w ev c.exclude):=hE;have HX:Hid (U6 xs c.kx∧U6 ys c.ky):=⟨hX,hY⟩;have HQk:Hid _:=qk;have HWc:Hid (WfC c):=wf;obtain ⟨wS,wI,wJ,wF,wT,wPa,wUs,wUses,wPer,wExc,-⟩:=wf;clear hS hI hJ hX hY qk h;obtain ⟨sa,sc,rfl,-,-,-⟩:=id HS.out;obtain ⟨ia,ic,rfl,-,-,-⟩:=id HI.out;obtain ⟨ja,jc,rfl,-,-,-⟩:=id HJ.out;obtain ⟨ua,uc,rfl,-,-,-⟩:=hU;obtain ⟨pa,pc,rfl,-,-,-⟩:=hP;obtain ⟨ea,ec,rfl,-,-,-⟩:=hE
 skip
 obtain⟨SL,hSL⟩:∃ z,c.serial.length=z:=⟨_,rfl⟩;have HSL:Hid (c.serial.length=SL):=hSL;obtain ⟨IL,hIL⟩:∃ z,c.issuer.length=z:=⟨_,rfl⟩;have HIL:Hid (c.issuer.length=IL):=hIL;obtain ⟨JL,hJL⟩:∃ z,c.subject.length=z:=⟨_,rfl⟩;have HJL:Hid (c.subject.length=JL):=hJL;obtain ⟨UL,hUL⟩:∃ z,c.uses.length=z:=⟨_,rfl⟩;have HUL:Hid (c.uses.length=UL):=hUL;obtain ⟨PL,hPL⟩:∃ z,c.permit.length=z:=⟨_,rfl⟩;have HPL:Hid (c.permit.length=PL):=hPL;obtain ⟨EL,hEL⟩:∃ z,c.exclude.length=z:=⟨_,rfl⟩;have HEL:Hid (c.exclude.length=EL):=hEL;rw[hSL] at q0 HS;rw[hIL] at q1 HI;rw[hJL] at q2 HJ;rw[hUL] at q21 HU;rw[hPL] at q22 HP;rw[hEL] at q23 HE;clear hSL hIL hJL hUL hPL hEL hl;obtain ⟨pth,hpth⟩:∃ z,c.path=z:=⟨_,rfl⟩;have Hpth:Hid (c.path=pth):=hpth;obtain ⟨usg,husg⟩:∃ z,c.usage=z:=⟨_,rfl⟩;have Husg:Hid (c.usage=usg):=husg;obtain ⟨frm,hfrm⟩:∃ z,c.frm=z:=⟨_,rfl⟩;have Hfrm:Hid (c.frm=frm):=hfrm;obtain ⟨til,htil⟩:∃ z,c.til=z:=⟨_,rfl⟩;have Htil:Hid (c.til=til):=htil;obtain ⟨cb,hcb⟩:∃ z,c.ca=z:=⟨_,rfl⟩;have Hcb:Hid (c.ca=cb):=hcb;obtain ⟨kb,hkb⟩:∃ z,c.kn=z:=⟨_,rfl⟩;have Hkb:Hid (c.kn=kb):=hkb;rw[hpth] at q19 wPa;rw[husg] at q20 wUs;rw[hfrm] at q3 wF;rw[htil] at q4 wT;rw[hcb] at q18;rw[hkb] at q17;clear hpth husg hfrm htil hcb hkb;have B0:=Blk.new w cs 35 w.heap.size rfl;have bel:=bal w (.cells cs.toArray 35);go_enter Tryz.func8,Tryz.ntmps8;go_upto_region 1 with fail;generalize w.alloc (.cells cs.toArray 35)=W at *;have e0:=B0.cell 0 _ q0;have e1:=B0.cell 1 _ q1;have e2:=B0.cell 2 _ q2;have e21:=B0.cell 21 _ q21;have e22:=B0.cell 22 _ q22;have e23:=B0.cell 23 _ q23;have l0:=B0.lt
 by_cases hq0:SL<1000
 rotate_left
 ·have d:¬ (SL:Int)<1000:=by omega
  have H:Hid (¬ Zc2 c):=fun h=>hq0 (by rw[← HSL.out];exact h.1);go_wp2_with fail;go_ret;exact ZcU.no H.out bel
 have d0:(SL:Int)<1000:=by omega
 by_cases hq1:IL<100
 rotate_left
 ·have d:¬ (IL:Int)<100:=by omega
  have H:Hid (¬ Zc2 c):=fun h=>hq1 (by rw[← HIL.out];exact h.2.1);go_wp2_with fail;go_ret;exact ZcU.no H.out bel
 have d1:(IL:Int)<100:=by omega
 by_cases hq2:JL<100
 rotate_left
 ·have d:¬ (JL:Int)<100:=by omega
  have H:Hid (¬ Zc2 c):=fun h=>hq2 (by rw[← HJL.out];exact h.2.2.1);go_wp2_with fail;go_ret;exact ZcU.no H.out bel
 have d2:(JL:Int)<100:=by omega
 by_cases hq3:UL<100
 rotate_left
 ·have d:¬ (UL:Int)<100:=by omega
  have H:Hid (¬ Zc2 c):=fun h=>hq3 (by rw[← HUL.out];exact h.2.2.2.1);go_wp2_with fail;go_ret;exact ZcU.no H.out bel
 have d3:(UL:Int)<100:=by omega
 by_cases hq4:PL<100
 rotate_left
 ·have d:¬ (PL:Int)<100:=by omega
  have H:Hid (¬ Zc2 c):=fun h=>hq4 (by rw[← HPL.out];exact h.2.2.2.2.1);go_wp2_with fail;go_ret;exact ZcU.no H.out bel
 have d4:(PL:Int)<100:=by omega
 by_cases hq5:EL<100
 rotate_left
 ·have d:¬ (EL:Int)<100:=by omega
  have H:Hid (¬ Zc2 c):=fun h=>hq5 (by rw[← HEL.out];exact h.2.2.2.2.2);go_wp2_with fail;go_ret;exact ZcU.no H.out bel
 have d5:(EL:Int)<100:=by omega
 have H:Hid (Zc2 c):=⟨by rw[HSL.out];exact hq0,by rw[HIL.out];exact hq1,by rw[HJL.out];exact hq2,by rw[HUL.out];exact hq3,by rw[HPL.out];exact hq4,by rw[HEL.out];exact hq5⟩;go_wp2_with fail;go_ret;exact ZcU.yes H.out bel
end Go.Proofs.YtdfmoghjimghhaaGreatDoor
