import Derived.Test.YtdfmoghjimghhaaGreatDoorClLay
import Derived.Test.YtdfmoghjimghhaaGreatDoorClCa
import Derived.Test.YtdfmoghjimghhaaGreatDoorClUsg
import Derived.Test.YtdfmoghjimghhaaGreatDoorClUses
import Derived.Test.YtdfmoghjimghhaaGreatDoorClNms
import Derived.Test.YtdfmoghjimghhaaGreatDoorCtSize
import Derived.Test.YtdfmoghjimghhaaGreatDoorRows
import Derived.Deep.OwnRows
import Derived.Deep.AppendLies
import Derived.Great.BuildSlice
import Derived.Laws.Rows
import Derived.BigQuiet
import Derived.Deep.Cut
import Derived.Deep.WholeRow
import Derived.Deep.RegionHeld3
import Derived.Deep.DeepCutAuto
import Derived.Deep.DeepFit
namespace Go.Proofs.YtdfmoghjimghhaaGreatDoor
open Go.RowKit
def Zfl (x:Option (List Tl)) (y:Option Tl):Option (List Tl):=match x,y with|some l,some T=>some (l++[T])|_,_=>none
noncomputable def ex1 (c:Ct):Option (List Tl):=Zfl (some []) (Zik [85,29,19] true (caO c))
noncomputable def ex2 (c:Ct):Option (List Tl):=if c.usage=-1 then ex1 c else Zfl (ex1 c) (Zik [85,29,15] true (Zcj c))
noncomputable def ex3 (c:Ct):Option (List Tl):=if 0<c.uses.length then Zfl (ex2 c) (Zik [85,29,37] false (Zd4 c)) else ex2 c
noncomputable def ex4 (c:Ct):Option (List Tl):=if 0<c.permit.length∨0<c.exclude.length then Zfl (ex3 c) (Zik [85,29,30] true (Zci c)) else ex3 c
noncomputable def Zco (c:Ct):Option Tl:=if c.odd=true then none else (ex4 c).map Zak
def ZiP (w0:World) (N1 gc ga gl:Nat) (cs:List Value) (x:Option (List Tl)) (m:Nat) (wx:World):Prop:=Blk wx gc cs∧Blk wx (w0.heap.size+1) [.int .i64 0,.int .i64 0,.bool false,.slice none 0 0,.slice none 0 0]∧Below w0.heap.size w0 wx∧N1≤wx.heap.size∧∃ (er:Value) (Ts:List Tl) (ka:Option Addr) (kc:Nat),Blk wx ga [er]∧Blk wx gl (allC (.slice ka Ts.length kc))∧RwT wx N1 (.slice ka Ts.length kc) Ts∧Ts.length≤m∧((x=some Ts∧er=.nilIface)∨(x=none∧∃ c:Int,er=.iface 53 (.int .i64 c)))
theorem ZdQ {s:List Int} {z:ByteArray} {must:Bool} {K gc ga gl N1 m:Nat} {cs:List Value} {o:Option Tl} {x:Option (List Tl)} {w0 w:World} (st:ZiP w0 N1 gc ga gl cs x m w) (hs9:byt s) (hl9:s.length≤maxLen) (hz9:strOfNums s=z) (hF:∀ (xs:Array Value) (w:World),(callFunc K xs).run Tryz.prog w=.ok (.enter K xs) w) (hK:Calls Tryz.prog K #[.agg cs.toArray] w (ElR w o)) (hsm:∀ T,o=some T→(Zao T).length≤1099511627776) (lc:cs.length=38) (l1:gc=w0.heap.size) (l2:w0.heap.size+1<gl) (l3:gl<ga) (l4:ga<N1) (hm:m≤10) :
  Calls Tryz.prog 110 #[.string z,.bool must,.func (.func K) #[] #[],.pointer (some ⟨gc,0,none⟩),.pointer (some ⟨ga,0,none⟩),.pointer (some ⟨gl,0,none⟩)] w fun e w'=>e=.returned (.tuple #[])∧ZiP w0 N1 gc ga gl cs (Zfl x (Zik s must o)) (m+1) w':=by
 obtain⟨Bc,R0,bel,hN,er,Ts,ka,kc,Ba,Bl,hr,hTm,hx⟩:=st;refine (Zof hs9 hl9 hz9 hF hK hsm Bc lc Ba Bl hr (by omega) (by omega) (by omega) (by omega) hN (B:=w0.heap.size) ⟨by omega,by omega⟩).mono ?_;rintro e w' ⟨he,hb,hN2,hfr,hor⟩;refine ⟨he,hfr gc cs (by omega) (by omega) (by omega) Bc,hfr _ _ (by omega) (by omega) (by omega) R0,bel.trans hb,hN2,?_⟩;rcases hor with ⟨hno,c,ka2,kc2,Ba2,Bl2,hr2⟩|⟨T,ka2,kc2,hyes,Ba2,Bl2,hr2⟩
 ·refine ⟨_,Ts,ka2,kc2,Ba2,Bl2,hr2,by omega,.inr ⟨?_,c,rfl⟩⟩
  rw[hno]
  cases x<;>rfl
 ·refine ⟨er,Ts++[T],ka2,kc2,Ba2,by rw[List.length_append];exact Bl2,by rw[List.length_append];exact hr2,by rw[List.length_append,List.length_singleton];omega,?_⟩
  rw[hyes];rcases hx with ⟨rfl,h⟩|⟨rfl,h⟩
  ·exact .inl ⟨rfl,h⟩
  ·exact .inr ⟨rfl,h⟩
theorem ca_sm {c:Ct} {T:Tl} (h:caO c=some T):(Zao T).length≤1099511627776:=by
 have k:Sm 40 T:=by
  unfold caO at h
  split at h
  ·split at h
   ·cases h
    exact(ZaZ ZaP.nil).le (by omega)
   ·cases h
  ·split at h
   ·cases h
    exact(ZaZ (ZaP.one ZiI)).le (by omega)
   ·cases hs:Zau c.path with
    | error e=>rw[hs] at h;cases h
    | ok b =>
     rw[hs] at h
     cases h
     refine(ZaZ (ZaP.cons ZiI (ZaP.one (Zcv (n:=5) ?_)))).le (by omega);unfold Zau at hs
     split at hs
     ·cases hs
     ·have:=Ze4 hs
      have:=ZdT 4 c.path.toNat [];simp only[List.length_nil] at *;omega
 have:=k.1;omega
theorem ZnL {c:Ct} {T:Tl} (h:Zcj c=some T):(Zao T).length≤1099511627776:=by
 unfold Zcj at h
 split at h
 ·cases h
 ·cases h
  have:=(Zg7 c.usage.toNat).1;omega
theorem Zpd {c:Ct} {T:Tl} (h:Zd4 c=some T):(Zao T).length≤1099511627776:=by
 unfold Zd4 at h
 split at h
 ·rename_i k
  cases h
  have h2:ZaP 1240 (c.uses.map ZaV):=(ZaP.map (fun l _=>ZfL l)).le (by have:=k.1;omega);have:=(ZaZ h2).1;omega
 ·cases h
theorem Zis {c:Ct} {T:Tl} (h:Zci c=some T):(Zao T).length≤1099511627776:=by
 unfold Zci at h
 split at h
 ·rename_i k
  cases h
  have a:ZaP 6525 (if 0<c.permit.length then [ZaA 0 c.permit] else []):=by
   split
   ·exact ZaP.one (ZeH k.1.1 k.1.2)
   ·exact ZaP.nil.le (by omega)
  have b:ZaP 6525 (if 0<c.exclude.length then [ZaA 1 c.exclude] else []):=by
   split
   ·exact ZaP.one (ZeH k.2.1 k.2.2)
   ·exact ZaP.nil.le (by omega)
  have:=(ZaZ (ZaP.app a b)).1;have e:Zao (Zak (ZaT c))=Zao (Zak ((if 0<c.permit.length then [ZaA 0 c.permit] else [])++(if 0<c.exclude.length then [ZaA 1 c.exclude] else []))):=rfl;rw[e];omega
 ·cases h
theorem ZhE {w0:World} {N1 gc ga gl m:Nat} {cs:List Value} {x:Option (List Tl)} {wx:World} (h:ZiP w0 N1 gc ga gl cs x m wx):ZiP w0 N1 gc ga gl cs x (m+1) wx:=by
 obtain⟨h1,h2,h3,h4,er,Ts,ka,kc,k1,k2,k3,k4,k5⟩:=h;exact ⟨h1,h2,h3,h4,er,Ts,ka,kc,k1,k2,k3,by omega,k5⟩
set_option linter.unusedSimpArgs false in
set_option maxRecDepth 100000 in
set_option maxHeartbeats 8000000 in
theorem Zc5 {c:Ct} {cs:List Value} {w:World} (h:Zds w c cs) (wf:WfC c):Calls Tryz.prog 57 #[.agg cs.toArray] w (ElR w (Zco c)):=by
 have HWf:Hid (WfC c):=wf;clear wf;have HC:Hid (Zds w c cs):=h;obtain ⟨sv,iv,jv,xs,ys,uv,pv,ev,bv,rs,zs,hl,q0,q1,q2,q3,q4,q17,q18,q19,q20,q21,q22,q23,q24,-,qk,-,hS,hI,hJ,hX,hY,hU,hP,hE,-,-,-⟩:=h.open;have HL38:Hid (cs.length=38):=hl;clear h hl;have B0:=(Blk.new w cs 35 w.heap.size rfl).alloc (.cells #[.int .i64 0,.int .i64 0,.bool false,.slice none 0 0,.slice none 0 0] 57);have R0:=Blk.new (w.alloc (.cells cs.toArray 35)) [.int .i64 0,.int .i64 0,.bool false,.slice none 0 0,.slice none 0 0] 57 (w.heap.size+1) (by simp);have bel:Below w.heap.size w ((w.alloc (.cells cs.toArray 35)).alloc (.cells #[.int .i64 0,.int .i64 0,.bool false,.slice none 0 0,.slice none 0 0] 57)):=((Below.refl _ _).alloc (Nat.le_refl _) _).alloc (by simp) _;have hz:=Zad.out;go_enter Tryz.func57,Tryz.ntmps57;go_upto_region 1 with fail;have lW:=bel.size;generalize (w.alloc (.cells cs.toArray 35)).alloc (.cells #[.int .i64 0,.int .i64 0,.bool false,.slice none 0 0,.slice none 0 0] 57)=W at *;have lR:=R0.lt;obtain ⟨N0,hN0⟩:∃ n,n=W.heap.size:=⟨_,rfl⟩;rw[← hN0] at lR lW;have hs:N0≤W.heap.size:=by omega
 clear hz;obtain ⟨jt,hjt,ht0,ht1,ht2⟩:=Zap ZaI

 obtain⟨ua,uc,hue,-,-,-⟩:=id hU;obtain ⟨pa,pc,hpe,-,-,-⟩:=id hP;obtain ⟨ea,ec,hee,-,-,-⟩:=id hE;obtain ⟨UL,hUL⟩:∃ z,c.uses.length=z:=⟨_,rfl⟩;obtain ⟨PL,hPL⟩:∃ z,c.permit.length=z:=⟨_,rfl⟩;obtain ⟨EL,hEL⟩:∃ z,c.exclude.length=z:=⟨_,rfl⟩;have HUL:Hid (c.uses.length=UL):=hUL;have HPL:Hid (c.permit.length=PL):=hPL;have HEL:Hid (c.exclude.length=EL):=hEL;rw[hUL] at hue;rw[hPL] at hpe;rw[hEL] at hee;subst hue hpe hee;obtain ⟨us,hus⟩:∃ z,c.usage=z:=⟨_,rfl⟩;obtain ⟨od,hod⟩:∃ z,c.odd=z:=⟨_,rfl⟩;have Hus:Hid (c.usage=us):=hus;have Hod:Hid (c.odd=od):=hod;rw[hus] at q20;rw[hod] at q24;have HQ20:Hid _:=q20;have HQ21:Hid _:=q21;have HQ22:Hid _:=q22;have HQ23:Hid _:=q23;have l0:=B0.lt;have e24:=B0.cell 24 _ q24;clear hus hod hUL hPL hEL q0 q1 q2 q3 q4 q17 q18 q19 q20 q21 q22 q23 q24 qk hS hI hJ hX hY hU hP hE
 cases od with
 | true =>
  have H:Hid (Zco c=none):=by show _=_;unfold Zco;rw[if_pos Hod.out]
  have hz:=Zad.out;obtain ⟨tR,hR⟩:=R0;have HR1:Hid _:=hR;clear hR;go_wp2_with (first|((with_reducible show wpList _ _ _ ({ dst:=_,op:=.store _ _ _,type:=_,pos:=_,after:=_,guard:=_ } :: _) _ _);refine wpList_store_row rfl 57 _ _ rfl (w.heap.size+1) #[.int .i64 0,.int .i64 0,.bool false,.slice none 0 0,.slice none 0 0] rfl rfl tR _ HR1.out (by rw[Zab];rfl) rfl (by simp[Value.oneCell']) ?_)|fail);refine bodyPost_ret (Zag rfl _ _ (w.heap.size+1) tR #[.int .i64 0,.int .i64 0,.bool false,.slice none 0 0,.slice none 0 0] (0,0) _ rfl (setRow_heap _ _ _ _ _ _ HR1.out) Tryz.underlying57 rfl (by rw[Zab];rfl)) rfl ?_;exact ElR.bad H.out (below_setRow bel (by omega) _)
 | false =>
  go_wp2_with fail;refine Zbd.mono ?_;rintro e w1 ⟨rfl,hb⟩;replace R0:=R0.later hb;replace B0:=B0.later hb;replace bel:=Zaa bel hb;have lt1:w.heap.size+1<w1.heap.size:=R0.lt;clear hb e24 l0;have hz:=Zad.out;have Bv:=Blk.new w1 [.int .i64 0,.int .i64 16,.bool true,.slice none 0 0,.slice none 0 0] 57 w1.heap.size rfl;replace R0:=R0.alloc (.cells #[.int .i64 0,.int .i64 16,.bool true,.slice none 0 0,.slice none 0 0] 57);replace B0:=B0.alloc (.cells #[.int .i64 0,.int .i64 16,.bool true,.slice none 0 0,.slice none 0 0] 57);replace bel:=Zaf (o:=.cells #[.int .i64 0,.int .i64 16,.bool true,.slice none 0 0,.slice none 0 0] 57) bel;go_upto_region 4 with (first|((with_reducible show wpList _ _ _ ({ dst:=_,op:=.store _ _ _,type:=_,pos:=_,after:=_,guard:=_ } :: _) _ _);refine wpList_store_row rfl 57 _ _ rfl w1.heap.size #[.int .i64 0,.int .i64 16,.bool true,.slice none 0 0,.slice none 0 0] rfl rfl 57 _ (heap_alloc_last _ _) (by rw[Zab];rfl) rfl (by simp[Value.oneCell']) ?_;rw[World.setRow_alloc_new])|fail);clear hz;obtain ⟨gl,hgl⟩:∃ g,g=w1.heap.size:=⟨_,rfl⟩;rw[← hgl] at Bv lt1 ⊢;have ltv:gl<(w1.alloc (.cells #[.int .i64 0,.int .i64 16,.bool true,.slice none 0 0,.slice none 0 0] 57)).heap.size:=Bv.lt;generalize w1.alloc (.cells #[.int .i64 0,.int .i64 16,.bool true,.slice none 0 0,.slice none 0 0] 57)=V1 at *;clear hgl;have Ba:=Blk.new V1 [.nilIface] 39 V1.heap.size rfl;have hbx:=bal V1 (.cells #[.nilIface] 39);replace Bv:=Bv.later hbx;replace R0:=R0.later hbx;replace B0:=B0.later hbx;replace bel:=Zaa bel hbx;go_upto_region 5 with fail;clear hbx;obtain ⟨ga,hga⟩:∃ g,g=V1.heap.size:=⟨_,rfl⟩;rw[← hga] at Ba ltv ⊢;have lta:ga<(V1.alloc (.cells #[.nilIface] 39)).heap.size:=Ba.lt;generalize (V1.alloc (.cells #[.nilIface] 39))=V2 at *;clear hga;obtain ⟨N1,hN1⟩:∃ n,n=V2.heap.size:=⟨_,rfl⟩;rw[← hN1] at lta;have HSt:Hid (ZiP w N1 w.heap.size ga gl cs (some []) 0 V2):=⟨B0,R0,bel,by omega,.nilIface,[],none,0,Ba,Bv,RwT.nil0 _ _,Nat.le_refl _,.inl ⟨rfl,rfl⟩⟩;clear hN1 B0 R0 bel Ba Bv lW lR hN0 hs;go_wp2_with fail;refine (ZdQ HSt.out (s:=[85,29,19]) (ZdN (by decide)) (by decide) (by rfl) (fun _ _=>rfl) (ZfT (HC.out.later HSt.out.2.2.1) HWf.out) (fun T h=>ca_sm h) HL38.out rfl (by omega) (by omega) (by omega) (by omega)).mono ?_;rintro e w3 ⟨rfl,st2⟩;replace HSt:Hid (ZiP w N1 w.heap.size ga gl cs (ex1 c) 1 w3):=st2;clear st2;have B0:=HSt.out.1;have l0:=B0.lt;have e20:=B0.cell 20 _ HQ20.out;go_upto_if 17 with fail;clear B0 l0 e20;go_cut [] (fun wx=>Hid (ZiP w N1 w.heap.size ga gl cs (ex2 c) 2 wx))
  case first =>
   by_cases hu:us=-1
   ·have d1:(us == -1)=true:=by rw[hu];rfl
    have d2:(us != -1)=false:=by rw[bne,d1];rfl
    have HE:Hid (ex2 c=ex1 c):=by show _=_;unfold ex2;rw[if_pos (by rw[Hus.out];exact hu)]
    clear hu;go_wp2_with fail;go_meet;exact (by rw[HE.out];exact ZhE HSt.out)
   ·have d1:(us == -1)=false:=by rw[beq_eq_false_iff_ne];exact hu
    have d2:(us != -1)=true:=by rw[bne,d1];rfl
    have HE:Hid (ex2 c=Zfl (ex1 c) (Zik [85,29,15] true (Zcj c))):=by show _=_;unfold ex2;rw[if_neg (by rw[Hus.out];exact hu)]
    clear hu;go_wp2_with fail;refine (ZdQ HSt.out (s:=[85,29,15]) (ZdN (by decide)) (by decide) (by rfl) (fun _ _=>rfl) (Zew (HC.out.later HSt.out.2.2.1)) (fun T h=>ZnL h) HL38.out rfl (by omega) (by omega) (by omega) (by omega)).mono ?_;rintro e w4 ⟨rfl,st2⟩;go_wp2_with fail;go_meet;exact (by rw[HE.out];exact st2)
  case rest =>
   clear HSt;have HSt:Hid (ZiP w N1 w.heap.size ga gl cs (ex2 c) 2 wc):=hcut;clear hcut;have B0:=HSt.out.1;have l0:=B0.lt;have e21:=B0.cell 21 _ HQ21.out;go_upto_if 23 with fail;clear B0 l0 e21;go_cut [] (fun wx=>Hid (ZiP w N1 w.heap.size ga gl cs (ex3 c) 3 wx))
   case first =>
    by_cases hu:0<UL
    rotate_left
    ·have g1:¬ (0:Int)<(UL:Int):=by omega
     have HE:Hid (ex3 c=ex2 c):=by show _=_;unfold ex3;rw[if_neg (by rw[HUL.out];exact hu)]
     clear hu;go_wp2_with fail;go_meet;exact (by rw[HE.out];exact ZhE HSt.out)
    ·have g1:(0:Int)<(UL:Int):=by omega
     have HE:Hid (ex3 c=Zfl (ex2 c) (Zik [85,29,37] false (Zd4 c))):=by show _=_;unfold ex3;rw[if_pos (by rw[HUL.out];exact hu)]
     clear hu;go_wp2_with fail;refine (ZdQ HSt.out (s:=[85,29,37]) (ZdN (by decide)) (by decide) (by rfl) (fun _ _=>rfl) (ZeR (HC.out.later HSt.out.2.2.1) HWf.out) (fun T h=>Zpd h) HL38.out rfl (by omega) (by omega) (by omega) (by omega)).mono ?_;rintro e w4 ⟨rfl,st2⟩;go_wp2_with fail;go_meet;exact (by rw[HE.out];exact st2)
   case rest =>
    clear HSt;have HSt:Hid (ZiP w N1 w.heap.size ga gl cs (ex3 c) 3 wc):=hcut;clear hcut;have B0:=HSt.out.1;have l0:=B0.lt;have e22:=B0.cell 22 _ HQ22.out;have e23:=B0.cell 23 _ HQ23.out;rcases (show 0<PL∨(PL=0∧0<EL)∨(PL=0∧EL=0) by omega) with hp|hp|hp
    ·have HE:Hid (ex4 c=Zfl (ex3 c) (Zik [85,29,30] true (Zci c))):=by show _=_;unfold ex4;rw[if_pos (by rw[HPL.out,HEL.out];omega)]
     have g1:(0:Int)<(PL:Int):=by omega
     clear hp;go_wp2_with fail;refine (ZdQ HSt.out (s:=[85,29,30]) (ZdN (by decide)) (by decide) (by rfl) (fun _ _=>rfl) (ZcV (HC.out.later HSt.out.2.2.1) HWf.out) (fun T h=>Zis h) HL38.out rfl (by omega) (by omega) (by omega) (by omega)).mono ?_;rintro e w4 ⟨rfl,st2⟩;clear HSt B0 l0 e22 e23;have HSt:Hid (ZiP w N1 w.heap.size ga gl cs (ex4 c) 4 w4):=by rw[HE.out];exact st2
     clear st2 HE;obtain ⟨-,R0,bel,hN,er,Ts,ka,kc,Ba,Bl,hr,hTm,hx⟩:=HSt.out;clear HSt;obtain ⟨K,hK⟩:∃ z,Ts.length=z:=⟨_,rfl⟩;rw[hK] at Bl hr;have HD:Hid (Dep (fun b=>N1≤b) w4 (Zak Ts) [.int .i64 0,.int .i64 16,.bool true,.slice none 0 0,.slice ka K kc]):=hr.dep 0 16 true;have Bl2:Blk w4 gl [.int .i64 0,.int .i64 16,.bool true,.slice none 0 0,.slice ka K kc]:=Bl;clear hK hr Bl;have e0:=Ba.cell 0 _ rfl;have la:=Ba.lt;rcases hx with ⟨hx,rfl⟩|⟨hx,c9,rfl⟩
     ·have H:Hid (Zco c=some (Zak Ts)):=by show _=_;unfold Zco;rw[if_neg (by rw[Hod.out];decide),hx];rfl
      have q:=ZaS;have hld:(loadVar 57 ⟨gl,0,none⟩).run Tryz.prog w4=.ok (.agg #[.int .i64 0,.int .i64 16,.bool true,.slice none 0 0,.slice ka K kc]) w4:=Bl2.load Tryz.underlying57 rfl Zab rfl;have l9:=Bl2.lt;clear hx;obtain ⟨tR,hR⟩:=R0;have HR1:Hid _:=hR;clear hR;go_wp2_with (first|((with_reducible show wpList _ _ _ ({ dst:=_,op:=.load _ _,type:=_,pos:=_,after:=_,guard:=_ } :: _) _ _);refine Zae (by rfl) (by rfl) (by rfl) hld ?_)|((with_reducible show wpList _ _ _ ({ dst:=_,op:=.store _ _ _,type:=_,pos:=_,after:=_,guard:=_ } :: _) _ _);refine wpList_store_row rfl 57 _ _ rfl (w.heap.size+1) #[.int .i64 0,.int .i64 16,.bool true,.slice none 0 0,.slice ka K kc] rfl rfl tR _ HR1.out (by rw[Zab];rfl) rfl (by simp[Value.oneCell']) ?_)|fail);refine bodyPost_ret (Zag rfl _ _ (w.heap.size+1) tR #[.int .i64 0,.int .i64 16,.bool true,.slice none 0 0,.slice ka K kc] (0,0) _ rfl (setRow_heap _ _ _ _ _ _ HR1.out) Tryz.underlying57 rfl (by rw[Zab];rfl)) rfl ?_;exact ElR.ok (cs:=[.int .i64 0,.int .i64 16,.bool true,.slice none 0 0,.slice ka K kc]) H.out (ZaB HD.out (by omega) (by omega)) (below_setRow bel (by omega) _)
     ·have H:Hid (Zco c=none):=by show _=_;unfold Zco;rw[if_neg (by rw[Hod.out];decide),hx];rfl
      have q:=ZaE c9;clear hx HD Bl2;go_upto_region 14 with fail;clear q e0 la;obtain ⟨S1,hS1,KB1,KI1⟩:∃ S:World→Prop,Hd S w4∧Hid (∀ wx,Hd S wx→Blk wx ga [.iface 53 (.int .i64 c9)])∧Hid (∀ wx,Blk wx ga [.iface 53 (.int .i64 c9)]→Hd S wx):=⟨fun wx=>Blk wx ga [.iface 53 (.int .i64 c9)],Ba,fun _ h=>h,fun _ h=>h⟩;have ra:∀ wx,Hd S1 wx→wx.cell? ⟨ga,0,none⟩=some (.iface 53 (.int .i64 c9)):=fun wx h=>(KB1.out wx h).cell 0 _ rfl;have rl:∀ wx,Hd S1 wx→ga<wx.heap.size:=fun wx h=>(KB1.out wx h).lt;refine wp_region_noPanic ?_;have hdr:Below w4.heap.size w4 w4.drew:=Below.drew (Below.refl _ _);replace R0:=R0.later hdr;replace bel:=Zaa bel hdr;replace Ba:=Ba.later hdr;clear hdr;have hz:=Zad.out;refine wp_region_held_drew (S:=Hd S1) (by kernel_rfl) (KI1.out _ Ba) (fun hHeld=>?_);clear hS1;generalize World.drew _=wd1 at *;refine wpAnyH_take (i:=0) (v:=?_) rfl (by kernel_rfl) (by kernel_rfl) (by kernel_rfl) (fun _ _ _ h=>h) (Or.inl ⟨by rfl,?_⟩) (by assumption) ?_;rotate_left
      ·intro w hSw
       go_simp
       with_reducible rfl
      refine wpAnyH_take (i:=1) (v:=?_) rfl (by kernel_rfl) (by kernel_rfl) (by kernel_rfl) (fun _ _ _ h=>h) (Or.inl ⟨by rfl,?_⟩) (by assumption) ?_;rotate_left
      ·intro w hSw
       go_simp
       with_reducible rfl
      refine wpAnyH_ready (rs:=[2]) (by kernel_rfl) (by simp) ?_;refine AllReadyH.cons rfl (fun K hK=>?_) ?_
      ·obtain ⟨tR,hR⟩:=R0
       have HR1:Hid _:=hR;clear hR;rw[if_pos (by rfl)];refine wp_store_row 57 _ _ rfl (w.heap.size+1) #[.int .i64 0,.int .i64 0,.bool false,.slice none 0 0,.slice none 0 0] rfl rfl tR _ HR1.out (by rw[Zab];rfl) rfl (by simp[Value.oneCell']) ?_;refine hK.out _ _ ?_ (fun hHeld2=>?_)
       ·exact KI1.out _ ((KB1.out _ hHeld).row (by omega))
       ·clear hK K
        try clear hHeld
        have hHeld:=hHeld2;clear hHeld2;refine wpAnyH_ready (rs:=[3]) (by kernel_rfl) (by simp) ?_;refine AllReadyH.cons rfl (fun K hK=>?_) ?_
        ·go_simp
         refine hK.out _ _ ?_ (fun hHeld2=>?_)
         ·exact hHeld
         ·clear hK K
          try clear hHeld
          have hHeld:=hHeld2;clear hHeld2;refine wpAnyH_done (by kernel_rfl) ?_ _;refine NoPanic.normal ?_;clear hHeld ra rl;go_wp2_with fail;refine bodyPost_ret (Zag rfl _ _ (w.heap.size+1) tR #[.int .i64 0,.int .i64 0,.bool false,.slice none 0 0,.slice none 0 0] (0,0) _ rfl (setRow_heap _ _ _ _ _ _ HR1.out) Tryz.underlying57 rfl (by rw[Zab];rfl)) rfl ?_;exact ElR.bad H.out (below_setRow bel (by omega) _)
        exact AllReadyH.nil
      exact AllReadyH.nil
    ·have HE:Hid (ex4 c=Zfl (ex3 c) (Zik [85,29,30] true (Zci c))):=by show _=_;unfold ex4;rw[if_pos (by rw[HPL.out,HEL.out];omega)]
     have g1:¬ (0:Int)<(PL:Int):=by omega
     have g2:(0:Int)<(EL:Int):=by omega
     clear hp;go_wp2_with fail;refine (ZdQ HSt.out (s:=[85,29,30]) (ZdN (by decide)) (by decide) (by rfl) (fun _ _=>rfl) (ZcV (HC.out.later HSt.out.2.2.1) HWf.out) (fun T h=>Zis h) HL38.out rfl (by omega) (by omega) (by omega) (by omega)).mono ?_;rintro e w4 ⟨rfl,st2⟩;clear HSt B0 l0 e22 e23;have HSt:Hid (ZiP w N1 w.heap.size ga gl cs (ex4 c) 4 w4):=by rw[HE.out];exact st2
     clear st2 HE;obtain ⟨-,R0,bel,hN,er,Ts,ka,kc,Ba,Bl,hr,hTm,hx⟩:=HSt.out;clear HSt;obtain ⟨K,hK⟩:∃ z,Ts.length=z:=⟨_,rfl⟩;rw[hK] at Bl hr;have HD:Hid (Dep (fun b=>N1≤b) w4 (Zak Ts) [.int .i64 0,.int .i64 16,.bool true,.slice none 0 0,.slice ka K kc]):=hr.dep 0 16 true;have Bl2:Blk w4 gl [.int .i64 0,.int .i64 16,.bool true,.slice none 0 0,.slice ka K kc]:=Bl;clear hK hr Bl;have e0:=Ba.cell 0 _ rfl;have la:=Ba.lt;rcases hx with ⟨hx,rfl⟩|⟨hx,c9,rfl⟩
     ·have H:Hid (Zco c=some (Zak Ts)):=by show _=_;unfold Zco;rw[if_neg (by rw[Hod.out];decide),hx];rfl
      have q:=ZaS;have hld:(loadVar 57 ⟨gl,0,none⟩).run Tryz.prog w4=.ok (.agg #[.int .i64 0,.int .i64 16,.bool true,.slice none 0 0,.slice ka K kc]) w4:=Bl2.load Tryz.underlying57 rfl Zab rfl;have l9:=Bl2.lt;clear hx;obtain ⟨tR,hR⟩:=R0;have HR1:Hid _:=hR;clear hR;go_wp2_with (first|((with_reducible show wpList _ _ _ ({ dst:=_,op:=.load _ _,type:=_,pos:=_,after:=_,guard:=_ } :: _) _ _);refine Zae (by rfl) (by rfl) (by rfl) hld ?_)|((with_reducible show wpList _ _ _ ({ dst:=_,op:=.store _ _ _,type:=_,pos:=_,after:=_,guard:=_ } :: _) _ _);refine wpList_store_row rfl 57 _ _ rfl (w.heap.size+1) #[.int .i64 0,.int .i64 16,.bool true,.slice none 0 0,.slice ka K kc] rfl rfl tR _ HR1.out (by rw[Zab];rfl) rfl (by simp[Value.oneCell']) ?_)|fail);refine bodyPost_ret (Zag rfl _ _ (w.heap.size+1) tR #[.int .i64 0,.int .i64 16,.bool true,.slice none 0 0,.slice ka K kc] (0,0) _ rfl (setRow_heap _ _ _ _ _ _ HR1.out) Tryz.underlying57 rfl (by rw[Zab];rfl)) rfl ?_;exact ElR.ok (cs:=[.int .i64 0,.int .i64 16,.bool true,.slice none 0 0,.slice ka K kc]) H.out (ZaB HD.out (by omega) (by omega)) (below_setRow bel (by omega) _)
     ·have H:Hid (Zco c=none):=by show _=_;unfold Zco;rw[if_neg (by rw[Hod.out];decide),hx];rfl
      have q:=ZaE c9;clear hx HD Bl2;go_upto_region 14 with fail;clear q e0 la;obtain ⟨S1,hS1,KB1,KI1⟩:∃ S:World→Prop,Hd S w4∧Hid (∀ wx,Hd S wx→Blk wx ga [.iface 53 (.int .i64 c9)])∧Hid (∀ wx,Blk wx ga [.iface 53 (.int .i64 c9)]→Hd S wx):=⟨fun wx=>Blk wx ga [.iface 53 (.int .i64 c9)],Ba,fun _ h=>h,fun _ h=>h⟩;have ra:∀ wx,Hd S1 wx→wx.cell? ⟨ga,0,none⟩=some (.iface 53 (.int .i64 c9)):=fun wx h=>(KB1.out wx h).cell 0 _ rfl;have rl:∀ wx,Hd S1 wx→ga<wx.heap.size:=fun wx h=>(KB1.out wx h).lt;refine wp_region_noPanic ?_;have hdr:Below w4.heap.size w4 w4.drew:=Below.drew (Below.refl _ _);replace R0:=R0.later hdr;replace bel:=Zaa bel hdr;replace Ba:=Ba.later hdr;clear hdr;have hz:=Zad.out;refine wp_region_held_drew (S:=Hd S1) (by kernel_rfl) (KI1.out _ Ba) (fun hHeld=>?_);clear hS1;generalize World.drew _=wd1 at *;refine wpAnyH_take (i:=0) (v:=?_) rfl (by kernel_rfl) (by kernel_rfl) (by kernel_rfl) (fun _ _ _ h=>h) (Or.inl ⟨by rfl,?_⟩) (by assumption) ?_;rotate_left
      ·intro w hSw
       go_simp
       with_reducible rfl
      refine wpAnyH_take (i:=1) (v:=?_) rfl (by kernel_rfl) (by kernel_rfl) (by kernel_rfl) (fun _ _ _ h=>h) (Or.inl ⟨by rfl,?_⟩) (by assumption) ?_;rotate_left
      ·intro w hSw
       go_simp
       with_reducible rfl
      refine wpAnyH_ready (rs:=[2]) (by kernel_rfl) (by simp) ?_;refine AllReadyH.cons rfl (fun K hK=>?_) ?_
      ·obtain ⟨tR,hR⟩:=R0
       have HR1:Hid _:=hR;clear hR;rw[if_pos (by rfl)];refine wp_store_row 57 _ _ rfl (w.heap.size+1) #[.int .i64 0,.int .i64 0,.bool false,.slice none 0 0,.slice none 0 0] rfl rfl tR _ HR1.out (by rw[Zab];rfl) rfl (by simp[Value.oneCell']) ?_;refine hK.out _ _ ?_ (fun hHeld2=>?_)
       ·exact KI1.out _ ((KB1.out _ hHeld).row (by omega))
       ·clear hK K
        try clear hHeld
        have hHeld:=hHeld2;clear hHeld2;refine wpAnyH_ready (rs:=[3]) (by kernel_rfl) (by simp) ?_;refine AllReadyH.cons rfl (fun K hK=>?_) ?_
        ·go_simp
         refine hK.out _ _ ?_ (fun hHeld2=>?_)
         ·exact hHeld
         ·clear hK K
          try clear hHeld
          have hHeld:=hHeld2;clear hHeld2;refine wpAnyH_done (by kernel_rfl) ?_ _;refine NoPanic.normal ?_;clear hHeld ra rl;go_wp2_with fail;refine bodyPost_ret (Zag rfl _ _ (w.heap.size+1) tR #[.int .i64 0,.int .i64 0,.bool false,.slice none 0 0,.slice none 0 0] (0,0) _ rfl (setRow_heap _ _ _ _ _ _ HR1.out) Tryz.underlying57 rfl (by rw[Zab];rfl)) rfl ?_;exact ElR.bad H.out (below_setRow bel (by omega) _)
        exact AllReadyH.nil
      exact AllReadyH.nil
    ·have g1:¬ (0:Int)<(PL:Int):=by omega
     have g2:¬ (0:Int)<(EL:Int):=by omega
     have HE:Hid (ex4 c=ex3 c):=by show _=_;unfold ex4;rw[if_neg (by rw[HPL.out,HEL.out];omega)]
     clear hp;go_upto_region 13 with fail;have HSt2:Hid (ZiP w N1 w.heap.size ga gl cs (ex4 c) 4 wc):=by rw[HE.out];exact ZhE HSt.out
     clear HSt B0 l0 e22 e23 HE;have HSt:=HSt2;clear HSt2;obtain ⟨-,R0,bel,hN,er,Ts,ka,kc,Ba,Bl,hr,hTm,hx⟩:=HSt.out;clear HSt;obtain ⟨K,hK⟩:∃ z,Ts.length=z:=⟨_,rfl⟩;rw[hK] at Bl hr;have HD:Hid (Dep (fun b=>N1≤b) wc (Zak Ts) [.int .i64 0,.int .i64 16,.bool true,.slice none 0 0,.slice ka K kc]):=hr.dep 0 16 true;have Bl2:Blk wc gl [.int .i64 0,.int .i64 16,.bool true,.slice none 0 0,.slice ka K kc]:=Bl;clear hK hr Bl;have e0:=Ba.cell 0 _ rfl;have la:=Ba.lt;rcases hx with ⟨hx,rfl⟩|⟨hx,c9,rfl⟩
     ·have H:Hid (Zco c=some (Zak Ts)):=by show _=_;unfold Zco;rw[if_neg (by rw[Hod.out];decide),hx];rfl
      have q:=ZaS;have hld:(loadVar 57 ⟨gl,0,none⟩).run Tryz.prog wc=.ok (.agg #[.int .i64 0,.int .i64 16,.bool true,.slice none 0 0,.slice ka K kc]) wc:=Bl2.load Tryz.underlying57 rfl Zab rfl;have l9:=Bl2.lt;clear hx;obtain ⟨tR,hR⟩:=R0;have HR1:Hid _:=hR;clear hR;go_wp2_with (first|((with_reducible show wpList _ _ _ ({ dst:=_,op:=.load _ _,type:=_,pos:=_,after:=_,guard:=_ } :: _) _ _);refine Zae (by rfl) (by rfl) (by rfl) hld ?_)|((with_reducible show wpList _ _ _ ({ dst:=_,op:=.store _ _ _,type:=_,pos:=_,after:=_,guard:=_ } :: _) _ _);refine wpList_store_row rfl 57 _ _ rfl (w.heap.size+1) #[.int .i64 0,.int .i64 16,.bool true,.slice none 0 0,.slice ka K kc] rfl rfl tR _ HR1.out (by rw[Zab];rfl) rfl (by simp[Value.oneCell']) ?_)|fail);refine bodyPost_ret (Zag rfl _ _ (w.heap.size+1) tR #[.int .i64 0,.int .i64 16,.bool true,.slice none 0 0,.slice ka K kc] (0,0) _ rfl (setRow_heap _ _ _ _ _ _ HR1.out) Tryz.underlying57 rfl (by rw[Zab];rfl)) rfl ?_;exact ElR.ok (cs:=[.int .i64 0,.int .i64 16,.bool true,.slice none 0 0,.slice ka K kc]) H.out (ZaB HD.out (by omega) (by omega)) (below_setRow bel (by omega) _)
     ·have H:Hid (Zco c=none):=by show _=_;unfold Zco;rw[if_neg (by rw[Hod.out];decide),hx];rfl
      have q:=ZaE c9;clear hx HD Bl2;go_upto_region 14 with fail;clear q e0 la;obtain ⟨S1,hS1,KB1,KI1⟩:∃ S:World→Prop,Hd S wc∧Hid (∀ wx,Hd S wx→Blk wx ga [.iface 53 (.int .i64 c9)])∧Hid (∀ wx,Blk wx ga [.iface 53 (.int .i64 c9)]→Hd S wx):=⟨fun wx=>Blk wx ga [.iface 53 (.int .i64 c9)],Ba,fun _ h=>h,fun _ h=>h⟩;have ra:∀ wx,Hd S1 wx→wx.cell? ⟨ga,0,none⟩=some (.iface 53 (.int .i64 c9)):=fun wx h=>(KB1.out wx h).cell 0 _ rfl;have rl:∀ wx,Hd S1 wx→ga<wx.heap.size:=fun wx h=>(KB1.out wx h).lt;refine wp_region_noPanic ?_;have hdr:Below wc.heap.size wc wc.drew:=Below.drew (Below.refl _ _);replace R0:=R0.later hdr;replace bel:=Zaa bel hdr;replace Ba:=Ba.later hdr;clear hdr;have hz:=Zad.out;refine wp_region_held_drew (S:=Hd S1) (by kernel_rfl) (KI1.out _ Ba) (fun hHeld=>?_);clear hS1;generalize World.drew _=wd1 at *;refine wpAnyH_take (i:=0) (v:=?_) rfl (by kernel_rfl) (by kernel_rfl) (by kernel_rfl) (fun _ _ _ h=>h) (Or.inl ⟨by rfl,?_⟩) (by assumption) ?_;rotate_left
      ·intro w hSw
       go_simp
       with_reducible rfl
      refine wpAnyH_take (i:=1) (v:=?_) rfl (by kernel_rfl) (by kernel_rfl) (by kernel_rfl) (fun _ _ _ h=>h) (Or.inl ⟨by rfl,?_⟩) (by assumption) ?_;rotate_left
      ·intro w hSw
       go_simp
       with_reducible rfl
      refine wpAnyH_ready (rs:=[2]) (by kernel_rfl) (by simp) ?_;refine AllReadyH.cons rfl (fun K hK=>?_) ?_
      ·obtain ⟨tR,hR⟩:=R0
       have HR1:Hid _:=hR;clear hR;rw[if_pos (by rfl)];refine wp_store_row 57 _ _ rfl (w.heap.size+1) #[.int .i64 0,.int .i64 0,.bool false,.slice none 0 0,.slice none 0 0] rfl rfl tR _ HR1.out (by rw[Zab];rfl) rfl (by simp[Value.oneCell']) ?_;refine hK.out _ _ ?_ (fun hHeld2=>?_)
       ·exact KI1.out _ ((KB1.out _ hHeld).row (by omega))
       ·clear hK K
        try clear hHeld
        have hHeld:=hHeld2;clear hHeld2;refine wpAnyH_ready (rs:=[3]) (by kernel_rfl) (by simp) ?_;refine AllReadyH.cons rfl (fun K hK=>?_) ?_
        ·go_simp
         refine hK.out _ _ ?_ (fun hHeld2=>?_)
         ·exact hHeld
         ·clear hK K
          try clear hHeld
          have hHeld:=hHeld2;clear hHeld2;refine wpAnyH_done (by kernel_rfl) ?_ _;refine NoPanic.normal ?_;clear hHeld ra rl;go_wp2_with fail;refine bodyPost_ret (Zag rfl _ _ (w.heap.size+1) tR #[.int .i64 0,.int .i64 0,.bool false,.slice none 0 0,.slice none 0 0] (0,0) _ rfl (setRow_heap _ _ _ _ _ _ HR1.out) Tryz.underlying57 rfl (by rw[Zab];rfl)) rfl ?_;exact ElR.bad H.out (below_setRow bel (by omega) _)
        exact AllReadyH.nil
      exact AllReadyH.nil
end Go.Proofs.YtdfmoghjimghhaaGreatDoor
