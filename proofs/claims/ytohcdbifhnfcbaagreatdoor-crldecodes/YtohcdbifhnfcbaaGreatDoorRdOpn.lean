import Derived.Test.YtohcdbifhnfcbaaGreatDoorKrRg
import Derived.Test.YtohcdbifhnfcbaaGreatDoorCtSize
import Derived.Test.YtohcdbifhnfcbaaGreatDoorKdBody0
import Derived.Test.YtohcdbifhnfcbaaGreatDoorRdSgn
import Derived.Test.YtohcdbifhnfcbaaGreatDoorRdRef
import Derived.Test.YtohcdbifhnfcbaaGreatDoorKrSame
import Derived.Test.YtohcdbifhnfcbaaGreatDoorDrTG
import Derived.Test.YtohcdbifhnfcbaaGreatDoorDrDG
import Derived.Test.YtohcdbifhnfcbaaGreatDoorNlSG
import Derived.Test.YtohcdbifhnfcbaaGreatDoorKrEl
import Derived.Test.YtohcdbifhnfcbaaGreatDoorRows
import Derived.Deep.WholeRow
import Derived.Deep.RegionHeld3
import Derived.Deep.DeepCutAuto
import Derived.Deep.DeepFit
import Derived.Deep.OwnRows
import Derived.Deep.AppendLies
import Derived.Great.BuildSlice
import Derived.Laws.Rows
import Derived.BigQuiet
namespace Go.Proofs.YtohcdbifhnfcbaaGreatDoor
open Go.RowKit
noncomputable def opnK:Bool→List Tl→Option (Tl × Int × Int)
 | false,[x,a,s]=>open Classical in if a=ZbR then ((ZdZ s).bind ZcX).bind fun q=>some (x,q.1,q.2) else none
 | true,[x,s]=>((ZdZ s).bind ZcX).bind fun q=>some (x,q.1,q.2)
 | _,_=>none
noncomputable def Zg1 (pl:Bool):Tl→Option (Tl × Int × Int)
 | .mk c t m _ ks=>if c=0∧t=16∧m=true then opnK pl ks else none
theorem ZiC {pl:Bool} {c t:Int} {m:Bool} {b:List Int} {ks:List Tl}:Zg1 pl (.mk c t m b ks)=if c=0∧t=16∧m=true then opnK pl ks else none:=rfl
theorem ZmA {pl:Bool} {c t:Int} {m:Bool} {b:List Int} {ks:List Tl} (h:¬ (c=0∧t=16∧m=true)):Zg1 pl (.mk c t m b ks)=none:=by
 rw[ZiC,if_neg h]
theorem ZqX {c t:Int} {m:Bool} {b:List Int} {ks:List Tl} (h:¬ ks.length=3):Zg1 false (.mk c t m b ks)=none:=by
 rw[ZiC]
 split
 ·match ks,h with
  | [],_=>rfl
  | [_],_=>rfl
  | [_,_],_=>rfl
  | [_,_,_],h=>exact absurd rfl h
  | _::_::_::_::_,_=>rfl
 ·rfl
theorem ZkK {b:List Int} {x a s:Tl}:Zg1 false (.mk 0 16 true b [x,a,s])=(open Classical in if a=ZbR then ((ZdZ s).bind ZcX).bind fun q=>some (x,q.1,q.2) else none):=by
 rw[ZiC,if_pos ⟨rfl,rfl,rfl⟩]
 rfl
theorem Zbj:(Tryz.prog.info? 31).map (·.size)=some 12:=by kernel_rfl
theorem Zew:Hid (∀ w:World,(zeroValue 31).run Tryz.prog w=.ok (.agg #[.int .u64 0,.int .u64 0,.int .u64 0,.int .u64 0,.int .u64 0,.int .u64 0,.int .u64 0,.int .u64 0,.int .u64 0,.int .u64 0,.int .u64 0,.int .u64 0]) w):=fun w=>by kernel_rfl
theorem Zfg {c t:Int} {m:Bool} {b:List Int} {ks:List Tl}:Zek (.mk c t m b ks)=decide (c=0∧t=16∧m=true):=rfl
theorem ZbW {P:Program} {fn:Func} {p u q v:Tmp} {ty tz:TypeId} (h:fn.results=#[.cell p ty,.tmp u,.cell q tz,.tmp v]) (tmps:Array Value) (w:World) (g k:Nat) (t s:TypeId) (cs ds:Array Value) (fr fs:Nat × Nat) (d e:TypeDesc)
  (hp:tmps.getD p undef=.pointer (some ⟨g,0,none⟩)) (hg:w.heap[g]?=some (.cells cs t fr))
  (hu:P.underlying ty=some d) (hd:(match d with|.struct _|.array _ _=>true|_=>false)=true) (hi:(P.info? ty).map (·.size)=some cs.size)
  (hq:tmps.getD q undef=.pointer (some ⟨k,0,none⟩)) (hk:w.heap[k]?=some (.cells ds s fs))
  (hv:P.underlying tz=some e) (he:(match e with|.struct _|.array _ _=>true|_=>false)=true) (hj:(P.info? tz).map (·.size)=some ds.size) :
  (results fn tmps).run P w=.ok (.tuple #[.agg cs,tmps.getD u undef,.agg ds,tmps.getD v undef]) w:=by
 have hp':tmps[p]?.getD undef=.pointer (some ⟨g,0,none⟩):=by simpa using hp
 have hq':tmps[q]?.getD undef=.pointer (some ⟨k,0,none⟩):=by simpa using hq
 simp[results,h,hp',hq',asAddr,run_loadVar_row w g t ty cs fr d hg hu hd hi,run_loadVar_row w k s tz ds fs e hk hv he hj]
theorem Zi3.u {w w':World} {r:Option (List Int)} {e:Ending} (h:Zi3 w r e w'):Below w.heap.size w w'∧∃ (ao:Option Addr) (n k:Nat) (nb:List Int) (bb:Bool),e=.returned (.tuple #[.slice ao n k,.bool bb])∧Hid (Bs w' (.slice ao n k) nb)∧Hid (byt nb)∧Hid (bb=true→r=some nb)∧Hid (bb=false→r=none):=by
 obtain⟨hb,h1,h2⟩:=h
 cases hr:r with
 | none =>
  obtain⟨ao,n,k,nb,e1,e2,e3,-⟩:=h1 hr;exact ⟨hb,ao,n,k,nb,false,e1,e2,e3,fun q=>(by cases q),fun _=>rfl⟩
 | some nb =>
  obtain⟨ao,n,k,e1,e2,e3,-⟩:=h2 nb hr;exact ⟨hb,ao,n,k,nb,true,e1,e2,e3,fun _=>rfl,fun q=>(by cases q)⟩
def Zle (w:World) (pl:Bool) (T:Tl) (e:Ending) (w':World):Prop:=Below w.heap.size w w'∧∃ (U:Tl) (cs:List Value) (ao:Option Addr) (n k:Nat) (nb:List Int) (rs ss:List Value) (x y:Int) (bb:Bool),e=.returned (.tuple #[.agg cs.toArray,.slice ao n k,.agg (rs++ss).toArray,.bool bb])∧Hid (Zav w' U cs)∧Hid (Bs w' (.slice ao n k) nb)∧Hid (nb.length=n)∧Hid (U6 rs x)∧Hid (U6 ss y)∧Hid (Zbg w (.slice ao n k))∧Hid (U=.mk 0 0 false [] []∨∃ i:Nat,(ZgU T)[i]?=some U)∧Hid (bb=true→Zg1 pl T=some (U,x,y)∧nb=Zak U)∧Hid (bb=false→Zg1 pl T=none)
theorem Zle.no {w w':World} {pl:Bool} {T:Tl} (h:Zg1 pl T=none) (hb:Below w.heap.size w w'):Zle w pl T (.returned (.tuple #[.agg #[.int .i64 0,.int .i64 0,.bool false,.slice none 0 0,.slice none 0 0],.slice none 0 0,.agg #[.int .u64 0,.int .u64 0,.int .u64 0,.int .u64 0,.int .u64 0,.int .u64 0,.int .u64 0,.int .u64 0,.int .u64 0,.int .u64 0,.int .u64 0,.int .u64 0],.bool false])) w':=⟨hb,.mk 0 0 false [] [],[.int .i64 0,.int .i64 0,.bool false,.slice none 0 0,.slice none 0 0],none,0,0,[],[.int .u64 0,.int .u64 0,.int .u64 0,.int .u64 0,.int .u64 0,.int .u64 0],[.int .u64 0,.int .u64 0,.int .u64 0,.int .u64 0,.int .u64 0,.int .u64 0],0,0,false,rfl,by (show Zav _ _ _;rw[Zav];exact ⟨_,_,_,rfl,ZgG _,Nat.le_refl _,by decide,fun h=>absurd h (by decide)⟩),ZgG _,rfl,U6.zero,U6.zero,ZhW _,.inl rfl,fun q=>(by cases q),fun _=>h⟩
theorem Zle.is {w w':World} {pl:Bool} {T U:Tl} {cs:List Value} {ao:Option Addr} {n k:Nat} {nb:List Int} {rs ss ts:List Value} {x y:Int} {bb:Bool} (ht:rs++ss=ts) (h1:Zav w' U cs) (h2:Bs w' (.slice ao n k) nb) (h3:nb.length=n) (h4:U6 rs x) (h5:U6 ss y) (h6:Zbg w (.slice ao n k)) (h9:∃ i:Nat,(ZgU T)[i]?=some U) (h7:bb=true→Zg1 pl T=some (U,x,y)∧nb=Zak U) (h8:bb=false→Zg1 pl T=none) (hb:Below w.heap.size w w'):Zle w pl T (.returned (.tuple #[.agg cs.toArray,.slice ao n k,.agg ts.toArray,.bool bb])) w':=⟨hb,U,cs,ao,n,k,nb,rs,ss,x,y,bb,by rw[ht],h1,h2,h3,h4,h5,h6,.inr h9,h7,h8⟩
theorem ZnH:WfT ZbR:=by
 show WfT (.mk 0 16 true [] [.mk 0 6 false [42,134,72,206,61,4,3,3] []]);simp only[WfT,WfL];exact ⟨by omega,by omega,fun j=>by simp,⟨by omega,by omega,ZpT (by decide),trivial⟩,trivial⟩
open Classical in
theorem u_Bits {T:Tl} {cs:List Value} {w:World} (h:Zav w T cs) (gd:GdT T):Calls Tryz.prog 81 #[.agg cs.toArray] w (Zi3 w (ZdZ T)):=by
 obtain⟨c,t,m,b,ks⟩:=T;exact Zo9 h gd.wf (by have:=gd.body;omega)
set_option linter.unusedSimpArgs false in
set_option maxRecDepth 100000 in
set_option maxHeartbeats 8000000 in
theorem ZmP {T:Tl} {cs:List Value} {w:World} (h:Zav w T cs) (gd:GdT T):Calls Tryz.prog 42 #[.agg cs.toArray,.bool false] w (Zle w false T):=by
 obtain⟨c,t,m,b,ks⟩:=T;have HGd:Hid (GdT (.mk c t m b ks)):=gd;clear gd;have HT9:Hid (Zav w (.mk c t m b ks) cs):=h;rw[Zav] at h;obtain ⟨bv,ao,kc,hcs,hbv,-,hkm,hkk⟩:=h;obtain ⟨ba,bc,rfl,-,-,-⟩:=hbv;have HK:Hid (0<ks.length→∃ g o,ao=some ⟨g,o,none⟩∧Zap w ks g o):=hkk;obtain ⟨BL,hBL⟩:∃ z,b.length=z:=⟨_,rfl⟩;obtain ⟨KL,hKL⟩:∃ z,ks.length=z:=⟨_,rfl⟩;have HKL:Hid (ks.length=KL):=hKL;rw[hBL,hKL] at hcs;rw[hKL] at HK;clear hBL hKL hkk hkm;subst hcs;have B0:=((Blk.new w [.int .i64 c,.int .i64 t,.bool m,.slice ba BL bc,.slice ao KL kc] 53 w.heap.size rfl).alloc (.cells #[.int .i64 0,.int .i64 0,.bool false,.slice none 0 0,.slice none 0 0] 53)).alloc (.cells #[.int .u64 0,.int .u64 0,.int .u64 0,.int .u64 0,.int .u64 0,.int .u64 0,.int .u64 0,.int .u64 0,.int .u64 0,.int .u64 0,.int .u64 0,.int .u64 0] 31);have R1:=(Blk.new (w.alloc (.cells #[.int .i64 c,.int .i64 t,.bool m,.slice ba BL bc,.slice ao KL kc] 53)) [.int .i64 0,.int .i64 0,.bool false,.slice none 0 0,.slice none 0 0] 53 (w.heap.size+1) (by simp)).alloc (.cells #[.int .u64 0,.int .u64 0,.int .u64 0,.int .u64 0,.int .u64 0,.int .u64 0,.int .u64 0,.int .u64 0,.int .u64 0,.int .u64 0,.int .u64 0,.int .u64 0] 31);have R2:=Blk.new ((w.alloc (.cells #[.int .i64 c,.int .i64 t,.bool m,.slice ba BL bc,.slice ao KL kc] 53)).alloc (.cells #[.int .i64 0,.int .i64 0,.bool false,.slice none 0 0,.slice none 0 0] 53)) [.int .u64 0,.int .u64 0,.int .u64 0,.int .u64 0,.int .u64 0,.int .u64 0,.int .u64 0,.int .u64 0,.int .u64 0,.int .u64 0,.int .u64 0,.int .u64 0] 31 (w.heap.size+2) (by simp);have bel:Below w.heap.size w (((w.alloc (.cells #[.int .i64 c,.int .i64 t,.bool m,.slice ba BL bc,.slice ao KL kc] 53)).alloc (.cells #[.int .i64 0,.int .i64 0,.bool false,.slice none 0 0,.slice none 0 0] 53)).alloc (.cells #[.int .u64 0,.int .u64 0,.int .u64 0,.int .u64 0,.int .u64 0,.int .u64 0,.int .u64 0,.int .u64 0,.int .u64 0,.int .u64 0,.int .u64 0,.int .u64 0] 31)):=(((Below.refl _ _).alloc (Nat.le_refl _) _).alloc (by simp) _).alloc (by simp;omega) _;have hz:=Zaj.out;have hy:=Zew.out;go_enter Tryz.func42,Tryz.ntmps42;go_upto_region 1 with fail;generalize (((w.alloc (.cells #[.int .i64 c,.int .i64 t,.bool m,.slice ba BL bc,.slice ao KL kc] 53)).alloc (.cells #[.int .i64 0,.int .i64 0,.bool false,.slice none 0 0,.slice none 0 0] 53)).alloc (.cells #[.int .u64 0,.int .u64 0,.int .u64 0,.int .u64 0,.int .u64 0,.int .u64 0,.int .u64 0,.int .u64 0,.int .u64 0,.int .u64 0,.int .u64 0,.int .u64 0] 31))=W at *;clear hz hy;have hld:(loadVar 53 ⟨w.heap.size,0,none⟩).run Tryz.prog W=.ok (.agg #[.int .i64 c,.int .i64 t,.bool m,.slice ba BL bc,.slice ao KL kc]) W:=B0.load Tryz.underlying53 rfl Zae rfl;have l0:=B0.lt;go_wp2_with (first|((with_reducible show wpList _ _ _ (⟨_,.load _ _,_,_,_,_⟩::_) _ _);refine Zab (by rfl) (by rfl) (by rfl) hld ?_)|fail);refine (ZdM (HT9.out.later bel)).mono ?_;rintro e w1 ⟨rfl,hb⟩;replace B0:=B0.later hb;replace R1:=R1.later hb;replace R2:=R2.later hb;replace bel:=Zaa bel hb;clear hb hld l0;have e4:=B0.cell 4 _ rfl;have l0:=B0.lt;rw[Zfg]
 by_cases hp:c=0∧t=16∧m=true
 rotate_left
 ·have H:Hid (Zg1 false (.mk c t m b ks)=none):=ZmA hp
  rw[decide_eq_false hp];clear hp;have hz:=Zaj.out;have hy:=Zew.out;obtain ⟨t1,h1⟩:=R1;obtain ⟨t2,h2⟩:=R2;have HR1:Hid _:=h1;have HR2:Hid _:=h2;have HR2s:Hid _:=(setRow_other _ (w.heap.size+1) (w.heap.size+2) #[.int .i64 0,.int .i64 0,.bool false,.slice none 0 0,.slice none 0 0] (by omega)).trans h2;clear h1 h2;go_wp2_with (first|((with_reducible show wpList _ _ _ (⟨_,.store _ _ _,_,_,_,_⟩::_) _ _);refine wpList_store_row rfl 53 _ _ rfl (w.heap.size+1) #[.int .i64 0,.int .i64 0,.bool false,.slice none 0 0,.slice none 0 0] rfl rfl t1 _ HR1.out (by rw[Zae];rfl) rfl (by simp[Value.oneCell']) ?_)|((with_reducible show wpList _ _ _ (⟨_,.store _ _ _,_,_,_,_⟩::_) _ _);refine wpList_store_row rfl 31 _ _ rfl (w.heap.size+2) #[.int .u64 0,.int .u64 0,.int .u64 0,.int .u64 0,.int .u64 0,.int .u64 0,.int .u64 0,.int .u64 0,.int .u64 0,.int .u64 0,.int .u64 0,.int .u64 0] rfl rfl t2 _ HR2s.out (by rw[Zbj];rfl) rfl (by simp[Value.oneCell']) ?_)|fail);refine bodyPost_ret (ZbW rfl _ _ (w.heap.size+1) (w.heap.size+2) t1 t2 #[.int .i64 0,.int .i64 0,.bool false,.slice none 0 0,.slice none 0 0] #[.int .u64 0,.int .u64 0,.int .u64 0,.int .u64 0,.int .u64 0,.int .u64 0,.int .u64 0,.int .u64 0,.int .u64 0,.int .u64 0,.int .u64 0,.int .u64 0] (0,0) (0,0) _ _ rfl ((setRow_other _ (w.heap.size+2) (w.heap.size+1) #[.int .u64 0,.int .u64 0,.int .u64 0,.int .u64 0,.int .u64 0,.int .u64 0,.int .u64 0,.int .u64 0,.int .u64 0,.int .u64 0,.int .u64 0,.int .u64 0] (by omega)).trans (setRow_heap _ _ _ _ _ _ HR1.out)) Tryz.underlying53 rfl (by rw[Zae];rfl) rfl (setRow_heap _ _ _ _ _ _ HR2s.out) Tryz.underlying31 rfl (by rw[Zbj];rfl)) rfl ?_;exact Zle.no H.out (below_setRow (below_setRow bel (by omega) _) (by omega) _)
 rw[decide_eq_true hp];obtain ⟨rfl,rfl,rfl⟩:=hp
 by_cases hq:KL=3
 rotate_left
 ·have HQ:Hid (¬ KL=3):=hq
  have H:Hid (Zg1 false (.mk 0 16 true b ks)=none):=ZqX (fun h=>HQ.out (by rw[← HKL.out];exact h));have d1:((KL:Int) == 3)=false:=by rw[beq_eq_false_iff_ne];omega
  have d2:((KL:Int) != 3)=true:=by rw[bne,d1];rfl
  clear hq;have hz:=Zaj.out;have hy:=Zew.out;obtain ⟨t1,h1⟩:=R1;obtain ⟨t2,h2⟩:=R2;have HR1:Hid _:=h1;have HR2:Hid _:=h2;have HR2s:Hid _:=(setRow_other _ (w.heap.size+1) (w.heap.size+2) #[.int .i64 0,.int .i64 0,.bool false,.slice none 0 0,.slice none 0 0] (by omega)).trans h2;clear h1 h2;go_wp2_with (first|((with_reducible show wpList _ _ _ (⟨_,.store _ _ _,_,_,_,_⟩::_) _ _);refine wpList_store_row rfl 53 _ _ rfl (w.heap.size+1) #[.int .i64 0,.int .i64 0,.bool false,.slice none 0 0,.slice none 0 0] rfl rfl t1 _ HR1.out (by rw[Zae];rfl) rfl (by simp[Value.oneCell']) ?_)|((with_reducible show wpList _ _ _ (⟨_,.store _ _ _,_,_,_,_⟩::_) _ _);refine wpList_store_row rfl 31 _ _ rfl (w.heap.size+2) #[.int .u64 0,.int .u64 0,.int .u64 0,.int .u64 0,.int .u64 0,.int .u64 0,.int .u64 0,.int .u64 0,.int .u64 0,.int .u64 0,.int .u64 0,.int .u64 0] rfl rfl t2 _ HR2s.out (by rw[Zbj];rfl) rfl (by simp[Value.oneCell']) ?_)|fail);refine bodyPost_ret (ZbW rfl _ _ (w.heap.size+1) (w.heap.size+2) t1 t2 #[.int .i64 0,.int .i64 0,.bool false,.slice none 0 0,.slice none 0 0] #[.int .u64 0,.int .u64 0,.int .u64 0,.int .u64 0,.int .u64 0,.int .u64 0,.int .u64 0,.int .u64 0,.int .u64 0,.int .u64 0,.int .u64 0,.int .u64 0] (0,0) (0,0) _ _ rfl ((setRow_other _ (w.heap.size+2) (w.heap.size+1) #[.int .u64 0,.int .u64 0,.int .u64 0,.int .u64 0,.int .u64 0,.int .u64 0,.int .u64 0,.int .u64 0,.int .u64 0,.int .u64 0,.int .u64 0,.int .u64 0] (by omega)).trans (setRow_heap _ _ _ _ _ _ HR1.out)) Tryz.underlying53 rfl (by rw[Zae];rfl) rfl (setRow_heap _ _ _ _ _ _ HR2s.out) Tryz.underlying31 rfl (by rw[Zbj];rfl)) rfl ?_;exact Zle.no H.out (below_setRow (below_setRow bel (by omega) _) (by omega) _)
 subst hq;obtain ⟨k0,k1,k2,hks9⟩:∃ k0 k1 k2,ks=[k0,k1,k2]:=by
  have h:=HKL.out
  match ks,h with
  | [k0,k1,k2],_=>exact ⟨k0,k1,k2,rfl⟩
 subst hks9;obtain ⟨g,o,hao,hks⟩:=HK.out (by omega);subst hao;obtain ⟨cs0,hc0,ht0⟩:=hks.get (i:=0) (k:=k0) rfl;have HGd0:Hid (GdT k0):=HGd.out.kid (i:=0) rfl;have HT0:Hid (Zav w k0 cs0):=ht0;have H50:Hid (cs0.length=5):=ht0.five;have HC0:Hid (ZdX w g (o) cs0):=hc0;obtain ⟨cs1,hc1,ht1⟩:=hks.get (i:=1) (k:=k1) rfl;have HGd1:Hid (GdT k1):=HGd.out.kid (i:=1) rfl;have HT1:Hid (Zav w k1 cs1):=ht1;have H51:Hid (cs1.length=5):=ht1.five;have HC1:Hid (ZdX w g (o+5) cs1):=hc1;obtain ⟨cs2,hc2,ht2⟩:=hks.get (i:=2) (k:=k2) rfl;have HGd2:Hid (GdT k2):=HGd.out.kid (i:=2) rfl;have HT2:Hid (Zav w k2 cs2):=ht2;have H52:Hid (cs2.length=5):=ht2.five;have HC2:Hid (ZdX w g (o+10) cs2):=hc2;clear hks HK hc0 ht0 hc1 ht1 hc2 ht2;go_upto_region 7 with fail;clear e4 l0;have HB9:Hid (Blk w1 w.heap.size [.int .i64 0,.int .i64 16,.bool true,.slice ba BL bc,.slice (some ⟨g,o,none⟩) 3 kc]):=B0;have HBel:Hid (Below w.heap.size w w1):=bel;have HR19:Hid (Blk w1 (w.heap.size+1) [.int .i64 0,.int .i64 0,.bool false,.slice none 0 0,.slice none 0 0] ):=R1;have HR29:Hid (Blk w1 (w.heap.size+2) [.int .u64 0,.int .u64 0,.int .u64 0,.int .u64 0,.int .u64 0,.int .u64 0,.int .u64 0,.int .u64 0,.int .u64 0,.int .u64 0,.int .u64 0,.int .u64 0] ):=R2;obtain ⟨S1,hS1,KB1,KD1,KL1⟩:∃ S:World→Prop,Hd S w1∧Hid (∀ wx,Hd S wx→Below w1.heap.size w1 wx)∧Hid (∀ wx,Hd S wx→Hd S wx.drew)∧Hid (∀ wa wb,Hd S wa→Below wa.heap.size wa wb→Hd S wb):=⟨fun wx=>Below w1.heap.size w1 wx,Below.refl _ _,fun _ h=>h,fun wx h=>Below.drew h,fun wa wb h hb=>Zaa h hb⟩;have ra:∀ wx,Hd S1 wx→wx.cell? ⟨w.heap.size,4,none⟩=some (.slice (some ⟨g,o,none⟩) 3 kc):=fun wx h=>(HB9.out.later (KB1.out wx h)).cell 4 _ rfl;have rl:∀ wx,Hd S1 wx→w.heap.size<wx.heap.size:=fun wx h=>(HB9.out.later (KB1.out wx h)).lt;have Rk:Hid (∀ wx,Hd S1 wx→(loadVar 53 ⟨g,o+5,none⟩).run Tryz.prog wx=.ok (.agg cs1.toArray) wx):=fun wx h=>Zat (HC1.out.later (Zaa HBel.out (KB1.out wx h))) H51.out;clear B0 R1 R2 bel;refine wp_region_noPanic ?_;refine wp_region_held_drew (S:=Hd S1) (by kernel_rfl) (KD1.out _ hS1) (fun hHeld=>?_);clear hS1;generalize World.drew _=wd1 at *;refine tkA 0 ?_;refine tkA 1 ?_;refine tkA 2 ?_;refine tkA 3 ?_;refine tkA 4 ?_;refine trA 5 (.agg cs1.toArray) Rk.out ?_;refine wpAnyH_ready (rs:=[6]) (by kernel_rfl) (by simp) ?_;refine AllReadyH.cons rfl (fun K hK=>?_) ?_
 ·have HH2:Hid (Hd S1 wd1):=hHeld
  go_simp;refine Zde.mono ?_;rintro e z0 ⟨da,rfl,hd,hb⟩;refine hK.out _ _ ?_ (fun hHeld2=>?_)
  ·exact KL1.out _ _ hHeld hb
  ·clear hK K
   try clear hHeld
   have hHeld:=hHeld2;clear hHeld2;have HDa:Hid (Dep (fun b=>wd1.heap.size≤b) z0 ZbR da):=hd;clear hd hb HH2;refine wpAnyH_ready (rs:=[7]) (by kernel_rfl) (by simp) ?_;refine AllReadyH.cons rfl (fun K hK=>?_) ?_
   ·go_simp
    refine(Zfl _ k1 ZbR _ _ _ (Nat.le_refl _) HGd1.out.wf ZnH (HT1.out.later (Zaa HBel.out (KB1.out _ hHeld))) HDa.out.now).mono ?_;rintro e z1 ⟨rfl,hb⟩;refine hK.out _ _ ?_ (fun hHeld2=>?_)
    ·exact KL1.out _ _ hHeld hb
    ·clear hK K
     try clear hHeld
     have hHeld:=hHeld2;clear hHeld2;clear hb HDa;obtain ⟨sb,hsb⟩:∃ z,ZcW k1 ZbR=z:=⟨_,rfl⟩;have HSb:Hid (ZcW k1 ZbR=sb):=hsb;rw[hsb];clear hsb;refine tkA 8 ?_;refine tkA 9 ?_;refine wpAnyH_done (by kernel_rfl) ?_ _;refine NoPanic.normal ?_;have hb:=KB1.out _ hHeld;have B0:=HB9.out.later hb;have R1:=HR19.out.later hb;have R2:=HR29.out.later hb;have bel:=Zaa HBel.out hb;clear hb hHeld ra rl Rk;have e4:=B0.cell 4 _ rfl;have l0:=B0.lt;have hld:(loadVar 53 ⟨g,o+10,none⟩).run Tryz.prog z1=.ok (.agg cs2.toArray) z1:=Zat (HC2.out.later bel) H52.out;have lg:g<z1.heap.size:=(HC2.out.later bel).1;go_wp2_with (first|((with_reducible show wpList _ _ _ (⟨_,.load _ _,_,_,_,_⟩::_) _ _);refine Zab (by rfl) (by rfl) (by rfl) hld ?_)|fail);refine (u_Bits (HT2.out.later bel) HGd2.out).mono ?_;rintro e w3 h9;obtain ⟨hb,ax,nx,kx,nb,is9,rfl,HNb,HYb,HI1,HI0⟩:=h9.u;replace B0:=B0.later hb;replace R1:=R1.later hb;replace R2:=R2.later hb;replace bel:=Zaa bel hb;clear hb h9 e4 l0 hld lg;go_wp2_with fail;refine (ZkP HNb.out HYb.out).mono ?_;rintro e w4 ⟨hb,rs,ss,x,y,fi,rfl,u1,u2,HF1,HF0⟩;have HU1:Hid (U6 rs x):=u1;have HU2:Hid (U6 ss y):=u2;replace B0:=B0.later hb;replace R1:=R1.later hb;replace R2:=R2.later hb;replace bel:=Zaa bel hb;clear hb u1 u2;obtain ⟨ts,hts⟩:∃ us,rs++ss=us:=⟨_,rfl⟩;have HT:Hid (rs++ss=ts):=hts;have HLt:Hid (ts.length=12):=by show _=_;rw[← hts,List.length_append,HU1.out.len,HU2.out.len]
     have HSt:Hid (ts.toArray.size=12):=by show _=_;rw[List.size_toArray];exact HLt.out
     have HOt:Hid (Zho ts):=by rw[← hts];exact HU1.out.ones.app HU2.out.ones
     rw[hts];clear hts;have hy:=Zew.out;have lR:=R2.lt;have Bt:=Blk.new w4 ts 31 w4.heap.size rfl;have hb:=bal w4 (.cells ts.toArray 31);replace B0:=B0.later hb;replace R1:=R1.later hb;replace R2:=R2.later hb;replace bel:=Zaa bel hb;clear hb;go_upto_region 10 with (first|((with_reducible show wpList _ _ _ (⟨_,.store _ _ _,_,_,_,_⟩::_) _ _);refine wpList_store_row rfl 31 _ _ rfl w4.heap.size ts.toArray rfl rfl 31 _ (heap_alloc_last _ _) (by rw[Zbj,HSt.out]) (by rw[HSt.out];rfl) HOt.out ?_;rw[World.setRow_alloc_new])|fail);clear hy;obtain ⟨gs,hgs⟩:∃ z,z=w4.heap.size:=⟨_,rfl⟩;have HGs:Hid (w.heap.size+2<gs):=by show _<_;omega
     rw[← hgs] at Bt ⊢;generalize w4.alloc (.cells ts.toArray 31)=V4 at *;clear hgs lR;have e4:=B0.cell 4 _ rfl;have l0:=B0.lt;have hld:(loadVar 53 ⟨g,o,none⟩).run Tryz.prog V4=.ok (.agg cs0.toArray) V4:=Zat (HC0.out.later bel) H50.out;have lg:g<V4.heap.size:=(HC0.out.later bel).1;go_wp2_with (first|((with_reducible show wpList _ _ _ (⟨_,.load _ _,_,_,_,_⟩::_) _ _);refine Zab (by rfl) (by rfl) (by rfl) hld ?_)|fail);refine (ZfQ (by have:=HGd0.out.sz;omega) (fun _=>by have:=HGd0.out.2.2.1;omega) (HT0.out.later bel)).mono ?_;rintro e w5 ⟨bv,rfl,hw,-,hb⟩;have own9:=hw HGd0.out.wr;rw[HGd0.out.wr];have HBv:Hid (Bs w5 bv (Zak k0)):=Bs.of_own own9;have HNv:Hid (Zbg w bv):=(Zbg.of_own own9).upN bel.size;have HGv:Hid (∀ a m c,bv=.slice (some a) m c→0<m→gs<a.block):=fun a m c e h0=>by
      have h1:=Zbg.of_own own9 a m c e h0;have h2:=Bt.lt;omega
     replace Bt:=Bt.later hb;replace B0:=B0.later hb;replace R1:=R1.later hb;replace R2:=R2.later hb;replace bel:=Zaa bel hb;clear hb hw own9 e4 l0 hld lg;obtain ⟨va,vc,hve,-,-,-⟩:=id HBv.out;obtain ⟨VL,hVL⟩:∃ z,(Zak k0).length=z:=⟨_,rfl⟩;have HVL:Hid ((Zak k0).length=VL):=hVL;rw[hVL] at hve;subst hve;clear hVL;go_upto_region 11 with fail;have HB9:Hid (Blk w5 w.heap.size [.int .i64 0,.int .i64 16,.bool true,.slice ba BL bc,.slice (some ⟨g,o,none⟩) 3 kc]):=B0;have HBt:Hid (Blk w5 gs ts):=Bt;have HBel:Hid (Below w.heap.size w w5):=bel;have stp:∀ wa wb:World,(Agr (fun b=>b≠w.heap.size+1∧b≠w.heap.size+2) w5 wa∧Below w.heap.size w wa∧(∃ X:List Value,Blk wa (w.heap.size+1) X∧X.length=5)∧∃ Y:List Value,Blk wa (w.heap.size+2) Y∧Y.length=12)→Below wa.heap.size wa wb→(Agr (fun b=>b≠w.heap.size+1∧b≠w.heap.size+2) w5 wb∧Below w.heap.size w wb∧(∃ X:List Value,Blk wb (w.heap.size+1) X∧X.length=5)∧∃ Y:List Value,Blk wb (w.heap.size+2) Y∧Y.length=12):=fun wa wb h hb=>⟨h.1.trans (Agr.below hb),Zaa h.2.1 hb,⟨h.2.2.1.choose,h.2.2.1.choose_spec.1.later hb,h.2.2.1.choose_spec.2⟩,h.2.2.2.choose,h.2.2.2.choose_spec.1.later hb,h.2.2.2.choose_spec.2⟩;obtain ⟨S1,hS1,KB1,KI1,KD1⟩:∃ S:World→Prop,Hd S w5∧Hid (∀ wx,Hd S wx→Agr (fun b=>b≠w.heap.size+1∧b≠w.heap.size+2) w5 wx∧Below w.heap.size w wx∧(∃ X:List Value,Blk wx (w.heap.size+1) X∧X.length=5)∧∃ Y:List Value,Blk wx (w.heap.size+2) Y∧Y.length=12)∧Hid (∀ wx,(Agr (fun b=>b≠w.heap.size+1∧b≠w.heap.size+2) w5 wx∧Below w.heap.size w wx∧(∃ X:List Value,Blk wx (w.heap.size+1) X∧X.length=5)∧∃ Y:List Value,Blk wx (w.heap.size+2) Y∧Y.length=12)→Hd S wx)∧Hid (∀ wx,Hd S wx→Hd S wx.drew):=⟨fun wx=>Agr (fun b=>b≠w.heap.size+1∧b≠w.heap.size+2) w5 wx∧Below w.heap.size w wx∧(∃ X:List Value,Blk wx (w.heap.size+1) X∧X.length=5)∧∃ Y:List Value,Blk wx (w.heap.size+2) Y∧Y.length=12,⟨Agr.refl _ _,bel,⟨_,R1,rfl⟩,_,R2,rfl⟩,fun _ h=>h,fun _ h=>h,fun wx h=>stp _ _ h (Below.drew (Below.refl _ _))⟩;clear stp;have ra:∀ wx,Hd S1 wx→wx.cell? ⟨w.heap.size,4,none⟩=some (.slice (some ⟨g,o,none⟩) 3 kc):=fun wx h=>(HB9.out.agr (KB1.out wx h).1 (by omega)).cell 4 _ rfl;have rl:∀ wx,Hd S1 wx→w.heap.size<wx.heap.size:=fun wx h=>(HB9.out.agr (KB1.out wx h).1 (by omega)).lt;have Rk:Hid (∀ wx,Hd S1 wx→(loadVar 53 ⟨g,o,none⟩).run Tryz.prog wx=.ok (.agg cs0.toArray) wx):=fun wx h=>Zat (HC0.out.later (KB1.out wx h).2.1) H50.out;have Rs:Hid (∀ wx,Hd S1 wx→(loadVar 31 ⟨gs,0,none⟩).run Tryz.prog wx=.ok (.agg ts.toArray) wx):=fun wx h=>(HBt.out.agr (KB1.out wx h).1 (by have:=HGs.out;omega)).load Tryz.underlying31 rfl Zbj HLt.out;have HS0:Hid (cs0.toArray.size=5):=by show _=_;rw[List.size_toArray];exact H50.out
     have HO0:Hid (Zca cs0):=HT0.out.ones;clear B0 Bt R1 R2 bel
     cases sb with
     | false =>
      have HNo:Hid (Zg1 false (.mk 0 16 true b [k0,k1,k2])=none):=by
       show _=_;rw[ZkK,if_neg (fun h=>by have h9:=HSb.out;rw[ZbB h] at h9;cases h9)]
      refine wp_region_noPanic ?_;refine wp_region_held_drew (S:=Hd S1) (by kernel_rfl) (KD1.out _ hS1) (fun hHeld=>?_);clear hS1;generalize World.drew _=wd1 at *;refine tkA 0 ?_;refine tkA 1 ?_;refine tkA 2 ?_;refine trA 3 (.agg cs0.toArray) Rk.out ?_;refine tkA 4 ?_;refine trA 5 (.agg ts.toArray) Rs.out ?_;refine tkA 6 ?_;refine tkA 7 ?_;refine skA 8 ?_;refine tkA 9 ?_;refine tkA 10 ?_;refine skA 11 ?_;refine tkA 12 ?_;refine tkA 13 ?_;refine skA 14 ?_;refine skA 15 ?_;refine tkA 16 ?_;refine wpAnyH_ready (rs:=[17]) (by kernel_rfl) (by simp) ?_;refine AllReadyH.cons rfl (fun K hK=>?_) ?_
      ·obtain ⟨hag,bel9,⟨X8,R1,hX8⟩,X9,R2,hX9⟩:=KB1.out _ hHeld
       obtain⟨tA,hA⟩:=R1;have HRA:Hid _:=hA;clear hA;rw[if_pos (by rfl)];refine wp_store_row 53 _ _ rfl (w.heap.size+1) cs0.toArray rfl rfl tA _ HRA.out (by rw[Zae,HS0.out]) (by rw[HS0.out,List.size_toArray,hX8]) HO0.out ?_;refine hK.out _ _ ?_ (fun hHeld2=>?_)
       ·exact KI1.out _ ⟨hag.row (fun h=>h.1 rfl),below_setRow bel9 (by omega) _,⟨cs0,⟨tA,setRow_heap _ _ _ _ _ _ HRA.out⟩,H50.out⟩,X9,by obtain ⟨t9,h9⟩:=R2;exact ⟨t9,(setRow_other _ (w.heap.size+1) (w.heap.size+2) cs0.toArray (by omega)).trans h9⟩,hX9⟩
       ·clear hK K
        try clear hHeld
        have hHeld:=hHeld2;clear hHeld2;clear hag bel9

        refine wpAnyH_take (i:=18) (v:=.slice va VL vc) rfl (by kernel_rfl) (by kernel_rfl) (by kernel_rfl) (fun _ _ _ h=>h) (Or.inl ⟨by rfl,fun wx h=>rfl⟩) (by assumption) ?_;refine wpAnyH_ready (rs:=[19]) (by kernel_rfl) (by simp) ?_;refine AllReadyH.cons rfl (fun K hK=>?_) ?_
        ·obtain ⟨hag,bel9,⟨X8,R1,hX8⟩,X9,R2,hX9⟩:=KB1.out _ hHeld
         obtain⟨tB,hB⟩:=R2;have HRB:Hid _:=hB;clear hB;rw[if_pos (by rfl)];refine wp_store_row 31 _ _ rfl (w.heap.size+2) ts.toArray rfl rfl tB _ HRB.out (by rw[Zbj,HSt.out]) (by rw[HSt.out,List.size_toArray,hX9]) HOt.out ?_;refine hK.out _ _ ?_ (fun hHeld2=>?_)
         ·exact KI1.out _ ⟨hag.row (fun h=>h.2 rfl),below_setRow bel9 (by omega) _,⟨X8,by obtain ⟨t9,h9⟩:=R1;exact ⟨t9,(setRow_other _ (w.heap.size+2) (w.heap.size+1) ts.toArray (by omega)).trans h9⟩,hX8⟩,ts,⟨tB,setRow_heap _ _ _ _ _ _ HRB.out⟩,HLt.out⟩
         ·clear hK K
          try clear hHeld
          have hHeld:=hHeld2;clear hHeld2;clear hag bel9

          refine wpAnyH_take (i:=20) (v:=.bool false) rfl (by kernel_rfl) (by kernel_rfl) (by kernel_rfl) (fun _ _ _ h=>h) (Or.inl ⟨by rfl,fun wx h=>rfl⟩) (by assumption) ?_;refine wpAnyH_done (by kernel_rfl) ?_ _;refine NoPanic.normal ?_;obtain ⟨hag,bel9,-,-⟩:=KB1.out _ hHeld;clear hHeld ra rl Rk Rs;go_wp2_with fail;refine bodyPost_ret (ZbW rfl _ _ (w.heap.size+1) (w.heap.size+2) tA tB cs0.toArray ts.toArray (0,0) (0,0) _ _ rfl ((setRow_other _ (w.heap.size+2) (w.heap.size+1) ts.toArray (by omega)).trans (setRow_heap _ _ _ _ _ _ HRA.out)) Tryz.underlying53 rfl (by rw[Zae,HS0.out]) rfl (setRow_heap _ _ _ _ _ _ HRB.out) Tryz.underlying31 rfl (by rw[Zbj,HSt.out])) rfl ?_;exact Zle.is (bb:=false) HT.out (HT0.out.later bel9) (Zcn HBv.out (fun a m c e h0=>by have:=HGv.out a m c e h0;have:=HGs.out;show _∧_;omega) hag) HVL.out HU1.out HU2.out HNv.out ⟨0,rfl⟩ (fun q=>by cases q) (fun _=>HNo.out) bel9
        exact AllReadyH.nil
      exact AllReadyH.nil

     | true =>
      have HAl:Hid (k1=ZbR):=by
       show _=_;exact Classical.byContradiction (fun hc=>by have h9:=HSb.out;rw[ZaY hc] at h9;cases h9)
      cases is9 with
      | false =>
       have HBt0:Hid (ZdZ k2=none):=HI0.out rfl;have HNo:Hid (Zg1 false (.mk 0 16 true b [k0,k1,k2])=none):=by
        show _=_;rw[ZkK,if_pos HAl.out,HBt0.out];rfl
       refine wp_region_noPanic ?_;refine wp_region_held_drew (S:=Hd S1) (by kernel_rfl) (KD1.out _ hS1) (fun hHeld=>?_);clear hS1;generalize World.drew _=wd1 at *;refine tkA 0 ?_;refine tkA 1 ?_;refine tkA 2 ?_;refine trA 3 (.agg cs0.toArray) Rk.out ?_;refine tkA 4 ?_;refine trA 5 (.agg ts.toArray) Rs.out ?_;refine tkA 6 ?_;refine tkA 7 ?_;refine tkA 8 ?_;refine tkA 9 ?_;refine tkA 10 ?_;refine skA 11 ?_;refine tkA 12 ?_;refine tkA 13 ?_;refine skA 14 ?_;refine skA 15 ?_;refine tkA 16 ?_;refine wpAnyH_ready (rs:=[17]) (by kernel_rfl) (by simp) ?_;refine AllReadyH.cons rfl (fun K hK=>?_) ?_
       ·obtain ⟨hag,bel9,⟨X8,R1,hX8⟩,X9,R2,hX9⟩:=KB1.out _ hHeld
        obtain⟨tA,hA⟩:=R1;have HRA:Hid _:=hA;clear hA;rw[if_pos (by rfl)];refine wp_store_row 53 _ _ rfl (w.heap.size+1) cs0.toArray rfl rfl tA _ HRA.out (by rw[Zae,HS0.out]) (by rw[HS0.out,List.size_toArray,hX8]) HO0.out ?_;refine hK.out _ _ ?_ (fun hHeld2=>?_)
        ·exact KI1.out _ ⟨hag.row (fun h=>h.1 rfl),below_setRow bel9 (by omega) _,⟨cs0,⟨tA,setRow_heap _ _ _ _ _ _ HRA.out⟩,H50.out⟩,X9,by obtain ⟨t9,h9⟩:=R2;exact ⟨t9,(setRow_other _ (w.heap.size+1) (w.heap.size+2) cs0.toArray (by omega)).trans h9⟩,hX9⟩
        ·clear hK K
         try clear hHeld
         have hHeld:=hHeld2;clear hHeld2;clear hag bel9

         refine wpAnyH_take (i:=18) (v:=.slice va VL vc) rfl (by kernel_rfl) (by kernel_rfl) (by kernel_rfl) (fun _ _ _ h=>h) (Or.inl ⟨by rfl,fun wx h=>rfl⟩) (by assumption) ?_;refine wpAnyH_ready (rs:=[19]) (by kernel_rfl) (by simp) ?_;refine AllReadyH.cons rfl (fun K hK=>?_) ?_
         ·obtain ⟨hag,bel9,⟨X8,R1,hX8⟩,X9,R2,hX9⟩:=KB1.out _ hHeld
          obtain⟨tB,hB⟩:=R2;have HRB:Hid _:=hB;clear hB;rw[if_pos (by rfl)];refine wp_store_row 31 _ _ rfl (w.heap.size+2) ts.toArray rfl rfl tB _ HRB.out (by rw[Zbj,HSt.out]) (by rw[HSt.out,List.size_toArray,hX9]) HOt.out ?_;refine hK.out _ _ ?_ (fun hHeld2=>?_)
          ·exact KI1.out _ ⟨hag.row (fun h=>h.2 rfl),below_setRow bel9 (by omega) _,⟨X8,by obtain ⟨t9,h9⟩:=R1;exact ⟨t9,(setRow_other _ (w.heap.size+2) (w.heap.size+1) ts.toArray (by omega)).trans h9⟩,hX8⟩,ts,⟨tB,setRow_heap _ _ _ _ _ _ HRB.out⟩,HLt.out⟩
          ·clear hK K
           try clear hHeld
           have hHeld:=hHeld2;clear hHeld2;clear hag bel9

           refine wpAnyH_take (i:=20) (v:=.bool false) rfl (by kernel_rfl) (by kernel_rfl) (by kernel_rfl) (fun _ _ _ h=>h) (Or.inl ⟨by rfl,fun wx h=>rfl⟩) (by assumption) ?_;refine wpAnyH_done (by kernel_rfl) ?_ _;refine NoPanic.normal ?_;obtain ⟨hag,bel9,-,-⟩:=KB1.out _ hHeld;clear hHeld ra rl Rk Rs;go_wp2_with fail;refine bodyPost_ret (ZbW rfl _ _ (w.heap.size+1) (w.heap.size+2) tA tB cs0.toArray ts.toArray (0,0) (0,0) _ _ rfl ((setRow_other _ (w.heap.size+2) (w.heap.size+1) ts.toArray (by omega)).trans (setRow_heap _ _ _ _ _ _ HRA.out)) Tryz.underlying53 rfl (by rw[Zae,HS0.out]) rfl (setRow_heap _ _ _ _ _ _ HRB.out) Tryz.underlying31 rfl (by rw[Zbj,HSt.out])) rfl ?_;exact Zle.is (bb:=false) HT.out (HT0.out.later bel9) (Zcn HBv.out (fun a m c e h0=>by have:=HGv.out a m c e h0;have:=HGs.out;show _∧_;omega) hag) HVL.out HU1.out HU2.out HNv.out ⟨0,rfl⟩ (fun q=>by cases q) (fun _=>HNo.out) bel9
         exact AllReadyH.nil
       exact AllReadyH.nil

      | true =>
       have HBt1:Hid (ZdZ k2=some nb):=HI1.out rfl
       cases fi with
       | false =>
        have HSg0:Hid (ZcX nb=none):=HF0.out rfl;have HNo:Hid (Zg1 false (.mk 0 16 true b [k0,k1,k2])=none):=by
         show _=_;rw[ZkK,if_pos HAl.out,HBt1.out,Option.bind_some,HSg0.out];rfl
        refine wp_region_noPanic ?_;refine wp_region_held_drew (S:=Hd S1) (by kernel_rfl) (KD1.out _ hS1) (fun hHeld=>?_);clear hS1;generalize World.drew _=wd1 at *;refine tkA 0 ?_;refine tkA 1 ?_;refine tkA 2 ?_;refine trA 3 (.agg cs0.toArray) Rk.out ?_;refine tkA 4 ?_;refine trA 5 (.agg ts.toArray) Rs.out ?_;refine tkA 6 ?_;refine tkA 7 ?_;refine tkA 8 ?_;refine tkA 9 ?_;refine tkA 10 ?_;refine tkA 11 ?_;refine tkA 12 ?_;refine tkA 13 ?_;refine skA 14 ?_;refine skA 15 ?_;refine tkA 16 ?_;refine wpAnyH_ready (rs:=[17]) (by kernel_rfl) (by simp) ?_;refine AllReadyH.cons rfl (fun K hK=>?_) ?_
        ·obtain ⟨hag,bel9,⟨X8,R1,hX8⟩,X9,R2,hX9⟩:=KB1.out _ hHeld
         obtain⟨tA,hA⟩:=R1;have HRA:Hid _:=hA;clear hA;rw[if_pos (by rfl)];refine wp_store_row 53 _ _ rfl (w.heap.size+1) cs0.toArray rfl rfl tA _ HRA.out (by rw[Zae,HS0.out]) (by rw[HS0.out,List.size_toArray,hX8]) HO0.out ?_;refine hK.out _ _ ?_ (fun hHeld2=>?_)
         ·exact KI1.out _ ⟨hag.row (fun h=>h.1 rfl),below_setRow bel9 (by omega) _,⟨cs0,⟨tA,setRow_heap _ _ _ _ _ _ HRA.out⟩,H50.out⟩,X9,by obtain ⟨t9,h9⟩:=R2;exact ⟨t9,(setRow_other _ (w.heap.size+1) (w.heap.size+2) cs0.toArray (by omega)).trans h9⟩,hX9⟩
         ·clear hK K
          try clear hHeld
          have hHeld:=hHeld2;clear hHeld2;clear hag bel9

          refine wpAnyH_take (i:=18) (v:=.slice va VL vc) rfl (by kernel_rfl) (by kernel_rfl) (by kernel_rfl) (fun _ _ _ h=>h) (Or.inl ⟨by rfl,fun wx h=>rfl⟩) (by assumption) ?_;refine wpAnyH_ready (rs:=[19]) (by kernel_rfl) (by simp) ?_;refine AllReadyH.cons rfl (fun K hK=>?_) ?_
          ·obtain ⟨hag,bel9,⟨X8,R1,hX8⟩,X9,R2,hX9⟩:=KB1.out _ hHeld
           obtain⟨tB,hB⟩:=R2;have HRB:Hid _:=hB;clear hB;rw[if_pos (by rfl)];refine wp_store_row 31 _ _ rfl (w.heap.size+2) ts.toArray rfl rfl tB _ HRB.out (by rw[Zbj,HSt.out]) (by rw[HSt.out,List.size_toArray,hX9]) HOt.out ?_;refine hK.out _ _ ?_ (fun hHeld2=>?_)
           ·exact KI1.out _ ⟨hag.row (fun h=>h.2 rfl),below_setRow bel9 (by omega) _,⟨X8,by obtain ⟨t9,h9⟩:=R1;exact ⟨t9,(setRow_other _ (w.heap.size+2) (w.heap.size+1) ts.toArray (by omega)).trans h9⟩,hX8⟩,ts,⟨tB,setRow_heap _ _ _ _ _ _ HRB.out⟩,HLt.out⟩
           ·clear hK K
            try clear hHeld
            have hHeld:=hHeld2;clear hHeld2;clear hag bel9

            refine wpAnyH_take (i:=20) (v:=.bool false) rfl (by kernel_rfl) (by kernel_rfl) (by kernel_rfl) (fun _ _ _ h=>h) (Or.inl ⟨by rfl,fun wx h=>rfl⟩) (by assumption) ?_;refine wpAnyH_done (by kernel_rfl) ?_ _;refine NoPanic.normal ?_;obtain ⟨hag,bel9,-,-⟩:=KB1.out _ hHeld;clear hHeld ra rl Rk Rs;go_wp2_with fail;refine bodyPost_ret (ZbW rfl _ _ (w.heap.size+1) (w.heap.size+2) tA tB cs0.toArray ts.toArray (0,0) (0,0) _ _ rfl ((setRow_other _ (w.heap.size+2) (w.heap.size+1) ts.toArray (by omega)).trans (setRow_heap _ _ _ _ _ _ HRA.out)) Tryz.underlying53 rfl (by rw[Zae,HS0.out]) rfl (setRow_heap _ _ _ _ _ _ HRB.out) Tryz.underlying31 rfl (by rw[Zbj,HSt.out])) rfl ?_;exact Zle.is (bb:=false) HT.out (HT0.out.later bel9) (Zcn HBv.out (fun a m c e h0=>by have:=HGv.out a m c e h0;have:=HGs.out;show _∧_;omega) hag) HVL.out HU1.out HU2.out HNv.out ⟨0,rfl⟩ (fun q=>by cases q) (fun _=>HNo.out) bel9
          exact AllReadyH.nil
        exact AllReadyH.nil

       | true =>
        have HSg1:Hid (ZcX nb=some (x,y)):=HF1.out rfl;have HYes:Hid (Zg1 false (.mk 0 16 true b [k0,k1,k2])=some (k0,x,y)):=by
         show _=_;rw[ZkK,if_pos HAl.out,HBt1.out,Option.bind_some,HSg1.out];rfl
        refine wp_region_noPanic ?_;refine wp_region_held_drew (S:=Hd S1) (by kernel_rfl) (KD1.out _ hS1) (fun hHeld=>?_);clear hS1;generalize World.drew _=wd1 at *;refine tkA 0 ?_;refine tkA 1 ?_;refine tkA 2 ?_;refine trA 3 (.agg cs0.toArray) Rk.out ?_;refine tkA 4 ?_;refine trA 5 (.agg ts.toArray) Rs.out ?_;refine tkA 6 ?_;refine tkA 7 ?_;refine tkA 8 ?_;refine tkA 9 ?_;refine tkA 10 ?_;refine tkA 11 ?_;refine tkA 12 ?_;refine tkA 13 ?_;refine tkA 14 ?_;refine tkA 15 ?_;refine tkA 16 ?_;refine wpAnyH_ready (rs:=[17]) (by kernel_rfl) (by simp) ?_;refine AllReadyH.cons rfl (fun K hK=>?_) ?_
        ·obtain ⟨hag,bel9,⟨X8,R1,hX8⟩,X9,R2,hX9⟩:=KB1.out _ hHeld
         obtain⟨tA,hA⟩:=R1;have HRA:Hid _:=hA;clear hA;rw[if_pos (by rfl)];refine wp_store_row 53 _ _ rfl (w.heap.size+1) cs0.toArray rfl rfl tA _ HRA.out (by rw[Zae,HS0.out]) (by rw[HS0.out,List.size_toArray,hX8]) HO0.out ?_;refine hK.out _ _ ?_ (fun hHeld2=>?_)
         ·exact KI1.out _ ⟨hag.row (fun h=>h.1 rfl),below_setRow bel9 (by omega) _,⟨cs0,⟨tA,setRow_heap _ _ _ _ _ _ HRA.out⟩,H50.out⟩,X9,by obtain ⟨t9,h9⟩:=R2;exact ⟨t9,(setRow_other _ (w.heap.size+1) (w.heap.size+2) cs0.toArray (by omega)).trans h9⟩,hX9⟩
         ·clear hK K
          try clear hHeld
          have hHeld:=hHeld2;clear hHeld2;clear hag bel9

          refine wpAnyH_take (i:=18) (v:=.slice va VL vc) rfl (by kernel_rfl) (by kernel_rfl) (by kernel_rfl) (fun _ _ _ h=>h) (Or.inl ⟨by rfl,fun wx h=>rfl⟩) (by assumption) ?_;refine wpAnyH_ready (rs:=[19]) (by kernel_rfl) (by simp) ?_;refine AllReadyH.cons rfl (fun K hK=>?_) ?_
          ·obtain ⟨hag,bel9,⟨X8,R1,hX8⟩,X9,R2,hX9⟩:=KB1.out _ hHeld
           obtain⟨tB,hB⟩:=R2;have HRB:Hid _:=hB;clear hB;rw[if_pos (by rfl)];refine wp_store_row 31 _ _ rfl (w.heap.size+2) ts.toArray rfl rfl tB _ HRB.out (by rw[Zbj,HSt.out]) (by rw[HSt.out,List.size_toArray,hX9]) HOt.out ?_;refine hK.out _ _ ?_ (fun hHeld2=>?_)
           ·exact KI1.out _ ⟨hag.row (fun h=>h.2 rfl),below_setRow bel9 (by omega) _,⟨X8,by obtain ⟨t9,h9⟩:=R1;exact ⟨t9,(setRow_other _ (w.heap.size+2) (w.heap.size+1) ts.toArray (by omega)).trans h9⟩,hX8⟩,ts,⟨tB,setRow_heap _ _ _ _ _ _ HRB.out⟩,HLt.out⟩
           ·clear hK K
            try clear hHeld
            have hHeld:=hHeld2;clear hHeld2;clear hag bel9

            refine wpAnyH_take (i:=20) (v:=.bool true) rfl (by kernel_rfl) (by kernel_rfl) (by kernel_rfl) (fun _ _ _ h=>h) (Or.inl ⟨by rfl,fun wx h=>rfl⟩) (by assumption) ?_;refine wpAnyH_done (by kernel_rfl) ?_ _;refine NoPanic.normal ?_;obtain ⟨hag,bel9,-,-⟩:=KB1.out _ hHeld;clear hHeld ra rl Rk Rs;go_wp2_with fail;refine bodyPost_ret (ZbW rfl _ _ (w.heap.size+1) (w.heap.size+2) tA tB cs0.toArray ts.toArray (0,0) (0,0) _ _ rfl ((setRow_other _ (w.heap.size+2) (w.heap.size+1) ts.toArray (by omega)).trans (setRow_heap _ _ _ _ _ _ HRA.out)) Tryz.underlying53 rfl (by rw[Zae,HS0.out]) rfl (setRow_heap _ _ _ _ _ _ HRB.out) Tryz.underlying31 rfl (by rw[Zbj,HSt.out])) rfl ?_;exact Zle.is (bb:=true) HT.out (HT0.out.later bel9) (Zcn HBv.out (fun a m c e h0=>by have:=HGv.out a m c e h0;have:=HGs.out;show _∧_;omega) hag) HVL.out HU1.out HU2.out HNv.out ⟨0,rfl⟩ (fun _=>⟨HYes.out,rfl⟩) (fun q=>by cases q) bel9
          exact AllReadyH.nil
        exact AllReadyH.nil

   exact AllReadyH.nil
 exact AllReadyH.nil
end Go.Proofs.YtohcdbifhnfcbaaGreatDoor
