import Derived.Test.YtdfmoghjimghhaaGreatDoorClBody
import Derived.Test.YtdfmoghjimghhaaGreatDoorCtBodyR
import Derived.Test.YtdfmoghjimghhaaGreatDoorCtTold
import Derived.Test.YtdfmoghjimghhaaGreatDoorCtSmall
import Derived.Test.YtdfmoghjimghhaaGreatDoorCtBase
import Derived.Test.YtdfmoghjimghhaaGreatDoorCtSize
import Derived.Test.YtdfmoghjimghhaaGreatDoorRows
import Derived.Deep.OwnRows
import Derived.Deep.AppendLies
import Derived.Great.BuildSlice
import Derived.Laws.Rows
import Derived.BigQuiet
import Derived.Deep.WholeRow
import Derived.Deep.RegionHeld3
import Derived.Deep.DeepCutAuto
import Derived.Deep.DeepFit
namespace Go.Proofs.YtdfmoghjimghhaaGreatDoor
open Go.RowKit
set_option linter.unusedSimpArgs false in
set_option maxRecDepth 100000 in
set_option maxHeartbeats 2000000 in
theorem Zfj {c:Ct} {cs:List Value} {w:World} (G:Zel w) (h:Zds w c cs) (wf:WfC c):Calls Tryz.prog 3 #[.agg cs.toArray] w fun e w'=>e=.returned (.bool true)∧Below w.heap.size w w':=by
 have HWf:Hid (WfC c):=wf;have HG:Hid (Zel w):=G;have HC:Hid (Zds w c cs):=h;have HL38:Hid (cs.length=38):=h.len;clear wf G h;have B0:=Blk.new w cs 35 w.heap.size rfl;have bel:=bal w (.cells cs.toArray 35);go_enter Tryz.func3,Tryz.ntmps3;go_upto_region 1 with fail;generalize w.alloc (.cells cs.toArray 35)=W at *;go_wp2_with fail;refine Zmk.mono ?_;rintro e w1 ⟨rfl,hb⟩;replace B0:=B0.later hb;replace bel:=Zaa bel hb;clear hb;have HLd:Hid (∀ wx,Blk wx w.heap.size cs→(loadVar 35 ⟨w.heap.size,0,none⟩).run Tryz.prog wx=.ok (.agg cs.toArray) wx):=fun wx h=>h.load Tryz.underlying35 rfl ZeG HL38.out;have hld:=HLd.out _ B0;have l0:=B0.lt;go_wp2_with (first|((with_reducible show wpList _ _ _ ({ dst:=_,op:=.load _ _,type:=_,pos:=_,after:=_,guard:=_ } :: _) _ _);refine Zae (by rfl) (by rfl) (by rfl) hld ?_)|fail);refine (ZhC (HC.out.later bel) HWf.out).mono ?_;rintro e w2 ⟨b,rfl,hbs,hb⟩;replace B0:=B0.later hb;replace bel:=Zaa bel hb;clear hb hld l0
 cases b with
 | false =>
  clear hbs;go_wp2_with fail;go_ret;exact ⟨rfl,bel⟩
 | true =>
  have HSm:Hid (Zc2 c):=hbs.1 rfl;clear hbs;have hld:=HLd.out _ B0;have l0:=B0.lt;go_wp2_with (first|((with_reducible show wpList _ _ _ ({ dst:=_,op:=.load _ _,type:=_,pos:=_,after:=_,guard:=_ } :: _) _ _);refine Zae (by rfl) (by rfl) (by rfl) hld ?_)|fail);refine (Zka (HG.out.below bel) (HC.out.later bel) HWf.out (by have:=HSm.out.1;omega)).mono ?_;rintro e w3 ⟨hb,hno,hyes⟩;replace B0:=B0.later hb;replace bel:=Zaa bel hb;clear hb hld l0
  by_cases hm:Zcn c
  rotate_left
  ·obtain rfl:=hno hm
   have H:Hid (¬ Zcn c):=hm;clear hno hyes hm;have hld:=HLd.out _ B0;have l0:=B0.lt;go_wp2_with (first|((with_reducible show wpList _ _ _ ({ dst:=_,op:=.load _ _,type:=_,pos:=_,after:=_,guard:=_ } :: _) _ _);refine Zae (by rfl) (by rfl) (by rfl) hld ?_)|fail);refine (Ziw (HC.out.later bel) HWf.out ⟨HSm.out.2.2.2.1,HSm.out.2.2.2.2.1,HSm.out.2.2.2.2.2⟩).mono ?_;rintro e w4 ⟨hb,dno,dyes⟩;obtain rfl:=dno H.out;replace bel:=Zaa bel hb;clear hb dno dyes hld l0 B0;have sq:((strOfNums []).toList == (strOfNums []).toList)=true:=beq_self_eq_true _;have x1:=ZdS (w:=w4) (v:=.slice none 0 0) (bs:=[]) ⟨none,0,rfl,Nat.zero_le _,Nat.zero_le _,fun h=>absurd h (Nat.lt_irrefl 0)⟩;go_wp2_with fail;refine (Zi9 (c:=1) (by omega) (by omega)).mono ?_;rintro e w5 ⟨rfl,hw5⟩;rw[hw5];clear hw5;go_wp2_with fail;go_ret;exact ⟨rfl,bel⟩
  obtain⟨v5,rfl,hv5,-⟩:=hyes hm;have H:Hid (Zcn c):=hm;have HV5:Hid (Bs w3 v5 (Zao (ZaX c (Zf9 c.kx c.ky)))):=hv5;obtain ⟨a5,c5,hve,-,-,-⟩:=id hv5;obtain ⟨L5,hL5⟩:∃ z,(Zao (ZaX c (Zf9 c.kx c.ky))).length=z:=⟨_,rfl⟩;rw[hL5] at hve;subst hve;clear hno hyes hm hv5 hL5;have hld:=HLd.out _ B0;have l0:=B0.lt;go_wp2_with (first|((with_reducible show wpList _ _ _ ({ dst:=_,op:=.load _ _,type:=_,pos:=_,after:=_,guard:=_ } :: _) _ _);refine Zae (by rfl) (by rfl) (by rfl) hld ?_)|fail);refine (Ziw (HC.out.later bel) HWf.out ⟨HSm.out.2.2.2.1,HSm.out.2.2.2.2.1,HSm.out.2.2.2.2.2⟩).mono ?_;rintro e w4 ⟨hb,dno,dyes⟩;obtain ⟨v6,p6,hp6,rfl,hv6⟩:=dyes H.out;obtain rfl:=ZhK hp6;have hw0:wrN (ZaX c (Zf9 c.kx c.ky))=0:=ZlS H.out (ZeE hp6);rw[hw0];unfold wrB at hv6;rw[if_pos hw0] at hv6;have HV6:Hid (Bs w4 v6 (Zao (ZaX c (Zf9 c.kx c.ky)))):=hv6;replace HV5:=BsL HV5 hb;replace bel:=Zaa bel hb;clear hb dno dyes hld l0 B0 hp6 hw0;obtain ⟨a6,c6,hve6,-,-,-⟩:=id hv6;obtain ⟨L6,hL6⟩:∃ z,(Zao (ZaX c (Zf9 c.kx c.ky))).length=z:=⟨_,rfl⟩;rw[hL6] at hve6;subst hve6;clear hv6 hL6;obtain ⟨Z,hZ⟩:∃ z,strOfNums (Zao (ZaX c (Zf9 c.kx c.ky)))=z:=⟨_,rfl⟩;have x1:=ZdS HV5.out;have x2:=ZdS HV6.out;rw[hZ] at x1 x2;have sq:(Z.toList == Z.toList)=true:=beq_self_eq_true _;clear hZ;go_wp2_with fail;refine Zhy.mono ?_;rintro e w5 ⟨rfl,hw5⟩;rw[hw5];clear hw5;go_wp2_with fail;go_ret;exact ⟨rfl,bel⟩
end Go.Proofs.YtdfmoghjimghhaaGreatDoor
