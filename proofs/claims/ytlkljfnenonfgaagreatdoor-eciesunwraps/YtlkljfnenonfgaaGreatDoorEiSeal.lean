/- What limb.Less answers of rows of cells. What limb.From answers, as a row of cells. What limb.Bytes answers of a row of cells. What limb.Same answers of rows of cells. The law's sealing. -/
import Derived.Test.YtlkljfnenonfgaaGreatDoorEdG
import Derived.Test.YtlkljfnenonfgaaGreatDoorLimb
import Derived.Test.YtlkljfnenonfgaaGreatDoorAeNumG
import Derived.Test.YtlkljfnenonfgaaGreatDoorCEncC
import Derived.Test.YtlkljfnenonfgaaGreatDoorEiUp0
import Derived.Test.YtlkljfnenonfgaaGreatDoorMcCode
import Derived.Test.YtlkljfnenonfgaaGreatDoorEiCode
import Derived.Test.YtlkljfnenonfgaaGreatDoorBase
import Derived.Test.YtlkljfnenonfgaaGreatDoorRows
import Derived.Deep.WholeRow
import Derived.Deep.RegionHeld3
import Derived.Deep.OwnRows
import Derived.Deep.AppendLies
import Derived.Great.BuildSlice
import Derived.Laws.Rows
import Derived.BigQuiet
import Derived.Lib.SlBytesConst
import Derived.Deep.DeepCutAuto
import Derived.Deep.DeepFit
namespace Go.Proofs.YtlkljfnenonfgaaGreatDoor
open Go.RowKit
theorem uBytes {cs:List Value} {x:Int} {w:World} (h:U6 cs x):Calls Tryz.prog 31 #[.agg cs.toArray] w fun e w'=>∃ (g:Nat) (X:List Int),e=.returned (.slice (some ⟨g,0,none⟩) 48 48)∧Blk w' g (u8s X)∧X.length=48∧byt X∧beN X=x∧Below w.heap.size w w':=by
 obtain ⟨z0,z1,z2,z3,z4,z5,rfl,hf,rfl⟩:=h
 refine (bytes_any [z0,z1,z2,z3,z4,z5] w rfl hf).mono ?_
 rintro e w' ⟨g,rfl,B,hb⟩
 exact ⟨g,_,rfl,B,bytesOf_len _,bytesOf_byt _,bytesOf_num _ rfl hf,hb⟩
set_option linter.unusedSimpArgs false in
set_option maxRecDepth 100000 in
set_option maxHeartbeats 1000000 in
theorem con_sealing15 {v:Value} {cs:List Value} {p:List Int} {X Y:Int} {n:Bool} {w:World} (G:GlsS w) (hv:Bs w v p) (bp:byt p) (lp:p.length≤20000) (hc:P13R cs X Y n) :
  Calls Tryz.prog 13 #[v,.agg cs.toArray] w fun e w'=>∃ v1 v2 O,e=.returned (.tuple #[v1,v2])∧KeyIs p X O∧Bs w' v1 (O.take 32)∧Bs w' v2 (O.drop 32)∧Below w.heap.size w w':=by
 have HG:Hid (GlsS w):=G
 have HC:Hid (P13R cs X Y n):=hc
 have HLc:Hid (cs.length=13):=hc.len
 have HB:Hid (byt p):=bp
 have HV:Hid (Bs w v p):=hv
 obtain ⟨ao,cap,rfl,h1,h2,h3⟩:=hv
 clear G hc bp h1 h2 h3
 have C0:=Blk.new w cs 26 w.heap.size rfl
 have bel:Below w.heap.size w (w.alloc (.cells cs.toArray 26)):=(Below.refl _ _).alloc (Nat.le_refl _) _
 go_enter Tryz.func13,Tryz.ntmps13
 go_upto_region 1 with fail
 generalize w.alloc (.cells cs.toArray 26)=W at *
 have hld:∃ xs,(loadVar 24 ⟨w.heap.size,0,none⟩).run Tryz.prog W=.ok (.agg xs.toArray) W∧U6 xs X:=by
  obtain ⟨xs,ys,e,u1,u2⟩:=HC.out
  exact ⟨xs,load_u C0 u1 (fun j v hv=>by rw [e,List.append_assoc];exact app_at0 j v hv),u1⟩
 obtain ⟨xs,hld,hux⟩:=hld
 have l0:=C0.lt
 go_wp2_with (first|(refine wpList_load_run (by rfl) (by rfl) (by rfl) hld ?_)|fail)
 refine (uBytes hux).mono ?_
 rintro e w1 ⟨gx,xb,rfl,BX,lX,bX,eX,hb⟩
 have HX:Hid (B48 xb X):=⟨lX,bX,eX⟩
 have HBx:Hid (Bs w1 (.slice (some ⟨gx,0,none⟩) 48 48) xb):=BX.bs lX (by decide)
 replace bel:=below_step bel hb
 clear hb BX lX bX eX hld hux l0 C0
 go_wp2_with fail
 refine (con_Extract (HG.out.below bel) (HV.out.later bel) HB.out lp HBx.out HX.out.2.1 (by rw [HX.out.1];omega)).mono ?_
 rintro e w2 ⟨v2,rfl,⟨prk,hm,hb2⟩,hb⟩
 have HM:Hid (HmacIs p xb prk):=hm
 have HB2:Hid (Bs w2 v2 prk):=hb2
 obtain ⟨a2,c2,rfl,-,-,-⟩:=hb2
 replace bel:=below_step bel hb
 clear hb hm HBx
 have HBw:Hid (Bs (w2.alloc (.cells #[.int .u8 119,.int .u8 114,.int .u8 97,.int .u8 112] 5 (4,5))) (.slice (some ⟨w2.heap.size,0,none⟩) 4 4) wrapB):=bs_constX w2 wrapB 4 rfl (by decide) (4,5)
 have q8:=Lib.run_convert_bytes_const (P:=Tryz.prog) w2 27 5 #[.int .u8 119,.int .u8 114,.int .u8 97,.int .u8 112] 4 4 Tryz.underlying27 Tryz.underlying5
 have belw:=below_alloc (o:=.cells #[.int .u8 119,.int .u8 114,.int .u8 97,.int .u8 112] 5 (4,5)) bel
 have HB2w:Hid (Bs (w2.alloc (.cells #[.int .u8 119,.int .u8 114,.int .u8 97,.int .u8 112] 5 (4,5))) (.slice a2 prk.length c2) prk):=HB2.out.later ((Below.refl _ _).alloc (Nat.le_refl _) _)
 clear bel HB2
 go_wp2_with fail
 clear q8
 refine (con_Expand (n:=44) (HG.out.below belw) HB2w.out HM.out.byt (by rw [HM.out.ln];omega) HBw.out (by intro j;unfold wrapB;match j with|0=>decide|1=>decide|2=>decide|3=>decide|j + 4=>simp) (by decide) (by omega)).mono ?_
 rintro e w3 ⟨v3,rfl,⟨O,hm,hb3⟩,hb⟩
 have HK:Hid (KeyIs p X O):=⟨xb,prk,HX.out,HM.out,hm⟩
 have HB3:Hid (Bs w3 v3 O):=hb3
 have hln:=HK.out.ln
 obtain ⟨a3,c3,rfl,-,hc3,h5⟩:=hb3
 obtain ⟨b3,o3,rfl,-,-⟩:=h5 (by omega)
 replace belw:=below_step belw hb
 have HT:Hid (Bs w3 (.slice (some ⟨b3,o3,none⟩) 32 c3) (O.take 32)):=bs_uptoC HB3.out rfl (by omega)
 have HD:Hid (Bs w3 (.slice (some ⟨b3,o3 + 32,none⟩) (O.length - 32) (c3 - 32)) (O.drop 32)):=bs_dropC HB3.out rfl (by omega)
 obtain ⟨m,hm44⟩:∃ m,O.length=m:=⟨_,rfl⟩
 rw [hm44] at HD hln hc3 ⊢
 subst hln
 clear hb hm h5 HB2w HBw
 have q3:=ne_nilX
 have g1:¬ c3=32:=by omega
 go_upto_region 4 with fail
 go_quiet (fail)
 go_wp2_with fail
 refine bodyPost_ret (results_tmp2 rfl _ _ _) rfl ?_
 exact ⟨_,_,O,rfl,HK.out,bs_drN HT.out _,bs_drN HD.out _,below_dN belw _⟩
end Go.Proofs.YtlkljfnenonfgaaGreatDoor
