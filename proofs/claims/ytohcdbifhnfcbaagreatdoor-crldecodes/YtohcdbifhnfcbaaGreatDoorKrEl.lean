import Derived.Test.YtohcdbifhnfcbaaGreatDoorCtSize
import Derived.Test.YtohcdbifhnfcbaaGreatDoorNlSG
import Derived.Test.YtohcdbifhnfcbaaGreatDoorDrTG
import Derived.Test.YtohcdbifhnfcbaaGreatDoorDrDG
import Derived.Test.YtohcdbifhnfcbaaGreatDoorDcG2
import Derived.Test.YtohcdbifhnfcbaaGreatDoorPmNG
import Derived.Test.YtohcdbifhnfcbaaGreatDoorRows
import Derived.Deep.OwnRows
import Derived.Deep.AppendLies
import Derived.Great.BuildSlice
import Derived.Laws.Rows
import Derived.BigQuiet
import Derived.Deep.WholeRow
import Derived.Deep.RegionHeld3
import Derived.Deep.DeepCutAuto
import Derived.Deep.DeepFit
import Derived.Lib.SlBytesConst
namespace Go.Proofs.YtohcdbifhnfcbaaGreatDoor
open Go.RowKit
set_option linter.unusedSimpArgs false
set_option maxRecDepth 100000
set_option maxHeartbeats 1000000
def Fd (d:Nat) (T:Tl):Prop:=ZaK T=true∧Zct T≤d
def FdL (d:Nat) (ks:List Tl):Prop:=ZaE ks=true∧Zb7 ks≤d
theorem Fd.le {d e:Nat} {T:Tl} (h:Fd d T) (k:d≤e):Fd e T:=⟨h.1,Nat.le_trans h.2 k⟩
theorem FdL.nil {d:Nat}:FdL d []:=⟨by rw[ZaE],by rw[Zb7];omega⟩
theorem FdL.cons {d:Nat} {k:Tl} {ks:List Tl} (h:Fd d k) (hs:FdL d ks):FdL d (k::ks) :=
 ⟨by rw[ZaE,h.1,hs.1];rfl,by rw[Zb7];exact Nat.max_le.2 ⟨h.2,hs.2⟩⟩
theorem FdL.one {d:Nat} {k:Tl} (h:Fd d k):FdL d [k]:=FdL.cons h FdL.nil
theorem FdL.app {d:Nat}:∀ {ks ls:List Tl},FdL d ks→FdL d ls→FdL d (ks++ls)
 | [],_,_,h=>h
 | k::ks,ls,h1,h2=>by
  have a:ZaK k=true∧ZaE ks=true:=by have:=h1.1;rw[ZaE,Bool.and_eq_true] at this;exact this
  have b:Zct k≤d∧Zb7 ks≤d:=by have:=h1.2;rw[Zb7] at this;exact Nat.max_le.1 this
  exact FdL.cons ⟨a.1,b.1⟩ (FdL.app ⟨a.2,b.2⟩ h2)
theorem FdL.map {α:Type} {d:Nat} {f:α→Tl}:∀ {L:List α},(∀ x∈L,Fd d (f x))→FdL d (L.map f)
 | [],_=>FdL.nil
 | _::_,h=>FdL.cons (h _ List.mem_cons_self) (FdL.map (fun y hy=>h y (List.mem_cons_of_mem _ hy)))
theorem Zqz {d:Nat} {c t:Int} {ks:List Tl} (hc:0≤c∧c≤3) (ht:0≤t∧t≤30) (h:FdL d ks):Fd (d+1) (.mk c t true [] ks):=by
 refine⟨?_,?_⟩
 ·rw[ZaK,h.1]
  unfold Zby;simp[hc.1,hc.2,ht.1,ht.2]
 ·rw[Zct]
  have:=h.2;omega
theorem ZgN {c t:Int} {b:List Int} (hc:0≤c∧c≤3) (ht:0≤t∧t≤30):Fd 1 (.mk c t false b []):=by
 refine⟨?_,?_⟩
 ·rw[ZaK,ZaE]
  unfold Zby;simp[hc.1,hc.2,ht.1,ht.2]
 ·rw[Zct,Zb7];omega
theorem ZgO {d:Nat} {ks:List Tl} (h:FdL d ks):Fd (d+1) (ZdR ks):=Zqz (by decide) (by decide) h
theorem Zqx (n:List Pn):Fd 4 (ZbC n):=⟨by unfold ZbC;rw[ZaK,ZhK];rfl,by unfold ZbC;rw[Zct];have:=Zjg n;omega⟩
theorem fd_oid (l:List Int):Fd 1 (Zmx l):=ZgN (by decide) (by decide)
theorem fd_ser {n:List Int} {T:Tl} (h:ZjG n=some T):Fd 1 T:=by
 unfold ZjG at h
 split at h
 ·cases h
 ·cases h
  exact ZgN (by decide) (by decide)
theorem Zl4 {t:Int} {T:Tl} (h:Zcv t=some T):Fd 1 T:=by
 unfold Zcv at h
 cases ht:Za2 t with
 | error c=>rw[ht] at h;cases h
 | ok q =>
  obtain⟨a,b⟩:=q;rw[ht] at h
  cases h
  have ha:a=23∨a=24:=by
   unfold Za2 at ht
   split at ht
   ·cases ht
   ·simp only[Except.ok.injEq,Prod.mk.injEq] at ht
    rw[← ht.1];unfold ZnU
    split
    ·exact .inr rfl
    ·exact .inl rfl
  exact ZgN (by decide) (by omega)
abbrev Gn:=List Int × Int
def Zfc (w:World) (v:Value) (L:List Gn):Prop:=∃ ao cap,v=.slice ao L.length cap∧L.length≤cap∧cap≤maxLen∧(0<L.length→∃ b o,ao=some ⟨b,o,none⟩∧b<w.heap.size∧∀ i g,L[i]?=some g→∃ u,w.cell? ⟨b,o+i*2,none⟩=some u∧Bs w u g.1∧w.cell? ⟨b,o+i*2+1,none⟩=some (.int .i64 g.2))
theorem Zfc.later {w w':World} {v:Value} {L:List Gn} (h:Zfc w v L) (hb:Below w.heap.size w w'):Zfc w' v L:=by
 obtain⟨ao,cap,e,h1,h2,h3⟩:=h;refine ⟨ao,cap,e,h1,h2,fun h0=>?_⟩;obtain ⟨b,o,e2,hl,hc⟩:=h3 h0;refine ⟨b,o,e2,Nat.lt_of_lt_of_le hl hb.size,fun i g hg=>?_⟩;obtain ⟨u,k1,k2,k3⟩:=hc i g hg;exact ⟨u,(hb.cell (p:=⟨b,o+i*2,none⟩) hl).trans k1,k2.later hb,(hb.cell (p:=⟨b,o+i*2+1,none⟩) hl).trans k3⟩
theorem Zfc.nil0 (w:World):Zfc w (.slice none 0 0) []:=⟨_,_,rfl,Nat.le_refl _,by decide,fun h=>absurd h (by decide)⟩
structure Cr where
 issuer:List Pn
 frm:Int
 til:Int
 gone:List Gn
 body:List Int
 sr:Int
 ss:Int
def ZlS (iv:Value) (frm til:Int) (gv bv:Value) (rs zs:List Value):List Value:=[iv,.int .i64 frm,.int .i64 til,gv,bv]++(rs++zs)
def ZcH (w:World) (c:Cr) (cs:List Value):Prop:=∃ iv gv bv rs zs,cs=ZlS iv c.frm c.til gv bv rs zs∧Zcq w iv c.issuer∧Zfc w gv c.gone∧Bs w bv c.body∧U6 rs c.sr∧U6 zs c.ss
theorem ZcH.later {w w':World} {c:Cr} {cs:List Value} (h:ZcH w c cs) (hb:Below w.heap.size w w'):ZcH w' c cs:=by
 obtain⟨iv,gv,bv,rs,zs,e,h1,h2,h3,h4,h5⟩:=h;exact ⟨iv,gv,bv,rs,zs,e,h1.later hb,h2.later hb,h3.later hb,h4,h5⟩
theorem ZcH.len {w:World} {c:Cr} {cs:List Value} (h:ZcH w c cs):cs.length=17:=by
 obtain⟨iv,gv,bv,rs,zs,rfl,-,-,-,h4,h5⟩:=h;simp[ZlS,h4.len,h5.len]
def WfG (L:List Gn):Prop:=∀ g∈L,byt g.1∧(-9223372036854775808≤g.2∧g.2<9223372036854775808)
def WfCr (c:Cr):Prop:=WfN c.issuer∧(-9223372036854775808≤c.frm∧c.frm<9223372036854775808)∧(-9223372036854775808≤c.til∧c.til<9223372036854775808)∧WfG c.gone∧byt c.body
theorem ZcH.open {w:World} {c:Cr} {cs:List Value} (h:ZcH w c cs):∃ iv gv bv rs zs,cs.length=17∧cs[0]?=some iv∧cs[1]?=some (.int .i64 c.frm)∧cs[2]?=some (.int .i64 c.til)∧cs[3]?=some gv∧cs[4]?=some bv∧(∀ j v,(rs++zs)[j]?=some v→cs[5+j]?=some v)∧Zcq w iv c.issuer∧Zfc w gv c.gone∧Bs w bv c.body∧U6 rs c.sr∧U6 zs c.ss:=by
 obtain⟨iv,gv,bv,rs,zs,rfl,h1,h2,h3,h4,h5⟩:=h;refine ⟨iv,gv,bv,rs,zs,by simp[ZlS,h4.len,h5.len],rfl,rfl,rfl,rfl,rfl,fun j v hj=>?_,h1,h2,h3,h4,h5⟩;show ([iv,Value.int .i64 c.frm,.int .i64 c.til,gv,bv]++(rs++zs))[5+j]?=some v;rw[List.getElem?_append_right (by simp)]
 simpa using hj
theorem ZcH.ones {w:World} {c:Cr} {cs:List Value} (h:ZcH w c cs):Zca cs:=by
 obtain⟨iv,gv,bv,rs,zs,rfl,h1,h2,h3,h4,h5⟩:=h;obtain ⟨x0,x1,x2,x3,x4,x5,rfl,-,-⟩:=h4;obtain ⟨y0,y1,y2,y3,y4,y5,rfl,-,-⟩:=h5;obtain ⟨_,_,rfl,-⟩:=h1;obtain ⟨_,_,rfl,-⟩:=h2;obtain ⟨_,_,rfl,-⟩:=h3;simp[ZlS,Zca,Value.oneCell']
def Zcp (n:Int):Tl:=.mk 0 2 false [n] []
def Ze5 (g:Gn):Option Tl:=match ZjG g.1,Zcv g.2 with|some a,some b=>some (ZdR [a,b])|_,_=>none
theorem Zgo {g:Gn} {T:Tl} (h:Ze5 g=some T):∃ a b,ZjG g.1=some a∧Zcv g.2=some b∧T=ZdR [a,b]:=by
 unfold Ze5 at h
 cases h1:ZjG g.1 with
 | none=>rw[h1] at h;cases h
 | some a =>
  cases h2:Zcv g.2 with
  | none=>rw[h1,h2] at h;cases h
  | some b=>rw[h1,h2] at h;cases h;exact ⟨a,b,rfl,rfl,rfl⟩
def ZcB (c:Cr):Prop:=Zc3 c.issuer=true∧(∃ T,Zcv c.frm=some T)∧(∃ T,Zcv c.til=some T)∧c.gone.length≤64∧∀ g∈c.gone,∃ T,Ze5 g=some T
noncomputable def Zit (c:Cr):List Tl:=if 0<c.gone.length then [ZdR (c.gone.map fun g=>orT (Ze5 g))] else []
noncomputable def Zbe (c:Cr):Tl:=ZdR ([Zcp 1,ZbR,ZbC c.issuer,orT (Zcv c.frm),orT (Zcv c.til)]++Zit c)
theorem Zrh {g:Gn}:Sm 60 (orT (Ze5 g)):=by
 cases h:Ze5 g with
 | none=>exact (ZfX (n:=0) (by simp)).le (by omega)
 | some T =>
  obtain⟨a,b,h1,h2,rfl⟩:=Zgo h;exact (Zhh (Zc1.cons (sm_ser h1) (Zc1.one (Znl h2)))).le (by omega)
theorem ZfW {c:Cr} (h:ZcB c):Sm 6000 (Zbe c):=by
 obtain⟨h1,⟨F,hF⟩,⟨T,hT⟩,h4,-⟩:=h;unfold Zbe;rw[hF,hT];have k0:Sm 6 (Zcp 1):=ZfX (n:=1) (by decide);have k1:Sm 160 ZbR:=Zhh (Zc1.one (sm_oid _));have k5:Zc1 3845 (Zit c):=by
  unfold Zit
  split
  ·have:Zc1 (60*c.gone.length) (c.gone.map fun g=>orT (Ze5 g)):=Zc1.map (fun g _=>Zrh)
   exact Zc1.one ((Zhh this).le (by omega))
  ·exact Zc1.nil.le (by omega)
 exact(Zhh (Zc1.app (Zc1.cons k0 (Zc1.cons k1 (Zc1.cons (Zrg h1) (Zc1.cons (Znl hF) (Zc1.one (Znl hT)))))) k5)).le (by omega)
theorem Zqy {g:Gn} {T:Tl} (h:Ze5 g=some T):Fd 2 T:=by
 obtain⟨a,b,h1,h2,rfl⟩:=Zgo h;exact ZgO (FdL.cons (fd_ser h1) (FdL.one (Zl4 h2)))
theorem Zl3 {c:Cr} (h:ZcB c):Fd 16 (Zbe c):=by
 obtain⟨-,⟨F,hF⟩,⟨T,hT⟩,-,h5⟩:=h;unfold Zbe;rw[hF,hT];have k0:Fd 4 (Zcp 1):=(ZgN (by decide) (by decide)).le (by omega);have k1:Fd 4 ZbR:=(ZgO (FdL.one (fd_oid _))).le (by omega);have k5:FdL 4 (Zit c):=by
  unfold Zit
  split
  ·refine FdL.one ((ZgO (d:=2) (FdL.map (fun g hg=>?_))).le (by omega))
   obtain⟨U,hU⟩:=h5 g hg;rw[hU];exact Zqy hU
  ·exact FdL.nil
 exact(ZgO (FdL.app (FdL.cons k0 (FdL.cons k1 (FdL.cons (Zqx _) (FdL.cons ((Zl4 hF).le (by omega)) (FdL.one ((Zl4 hT).le (by omega))))))) k5)).le (by omega)
theorem Zig {c:Cr} (h:ZcB c):wrN (Zbe c)=0:=by
 have h1:=Zl3 h;have h2:=(ZfW h).1;unfold wrN;rw[if_pos h1.1,if_neg (by have:=h1.2;omega),if_neg (by omega)]
theorem ZpT {L:List Int} (h:∀ x∈L,0≤x∧x<256):byt L:=fun j=>by
 by_cases hj:j<L.length
 ·rw[List.getD_eq_getElem?_getD,List.getElem?_eq_getElem hj]
  exact h _ (List.getElem_mem hj)
 ·rw[List.getD_eq_getElem?_getD,List.getElem?_eq_none (by omega)]
  decide
theorem kc_n {P:Tl→List Value→Prop}:∀ (i:Nat) (k:Tl),([]:List Tl)[i]?=some k→P k ((([]:List Value).drop (5*i)).take 5):=fun i k h=>by simp at h
theorem Ze6 {P:Tl→List Value→Prop} {T:Tl} {cs xs:List Value} {Ts:List Tl} (h:P T cs) (l:cs.length=5) (hr:∀ (i:Nat) (k:Tl),Ts[i]?=some k→P k ((xs.drop (5*i)).take 5)):∀ (i:Nat) (k:Tl),(T::Ts)[i]?=some k→P k (((cs++xs).drop (5*i)).take 5):=fun i k hk=>by
 match i,hk with
 | 0,hk =>
  simp only[List.getElem?_cons_zero,Option.some.injEq] at hk;subst hk;rw[Nat.mul_zero,List.drop_zero,List.take_append_of_le_length (by omega),List.take_of_length_le (by omega)];exact h
 | i+1,hk =>
  rw[List.getElem?_cons_succ] at hk;have:=hr i k hk;rw[show 5*(i+1)=cs.length+5*i by omega,← List.drop_drop,List.drop_left];exact this
def erN (n:Nat):Value:=if n=0 then .nilIface else .iface 46 (.int .i64 (n:Int))
theorem Zos:erN 0=.nilIface:=rfl
theorem Zqv {n:Nat} (h:¬ n=0):erN n=.iface 46 (.int .i64 (n:Int)):=if_neg h
theorem Zhw {T:Tl} {cs:List Value} {w:World} (h:Zav w T cs) (hl:(Zak T).length≤1099511627776) :
  Calls Tryz.prog 22 #[.agg cs.toArray] w fun e w'=>∃ v':Value,e=.returned (.tuple #[v',erN (wrN T)])∧Bs w' v' (wrB T)∧Zbg w v'∧Below w.heap.size w w':=by
 refine(Zlx (Zgx hl) h).mono ?_;rintro e w' ⟨v,er,rfl,hw,hb⟩
 by_cases k:wrN T=0
 ·obtain ⟨hf,rfl⟩:=hw.1 k
  refine⟨v,by rw[k,Zos],?_,?_,hb⟩
  ·unfold wrB
   rw[if_pos k];exact hf.bs
  ·obtain ⟨g,o,cap,cur,rfl,-,-,h3,-,-⟩:=hf
   exact fun a m c e h0=>by simp only[Value.slice.injEq,Option.some.injEq] at e;rw[← e.1];exact h3
 ·obtain ⟨hf,rfl⟩:=hw.2 k
  refine⟨v,by rw[Zqv k],?_,?_,hb⟩
  ·unfold wrB
   rw[if_neg k];exact hf
  ·obtain ⟨ao,cap,rfl,-,-,-⟩:=hf
   exact fun a m c e h0=>by simp only[Value.slice.injEq] at e;simp at e;omega
theorem ZdC {ka:Option Addr} {n kc:Nat} {w:World}:Calls Tryz.prog 24 #[.slice ka n kc] w fun e w'=>e=.returned (.agg #[.int .i64 0,.int .i64 16,.bool true,.slice none 0 0,.slice ka n kc])∧Below w.heap.size w w':=by
 have R0:=Blk.new w [.int .i64 0,.int .i64 0,.bool false,.slice none 0 0,.slice none 0 0] 53 w.heap.size rfl;have bel:=bal w (.cells #[.int .i64 0,.int .i64 0,.bool false,.slice none 0 0,.slice none 0 0] 53);have hz:=Zaj.out;go_enter Tryz.func24,Tryz.ntmps24;go_upto_region 1 with fail;have lW:=bel.size;generalize w.alloc (.cells #[.int .i64 0,.int .i64 0,.bool false,.slice none 0 0,.slice none 0 0] 53)=W at *;obtain ⟨tR,hR⟩:=R0;have HR1:Hid _:=hR;clear hR;go_wp2_with (first|((with_reducible show wpList _ _ _ (⟨_,.store _ _ _,_,_,_,_⟩::_) _ _);refine wpList_store_row rfl 53 _ _ rfl w.heap.size #[.int .i64 0,.int .i64 16,.bool true,.slice none 0 0,.slice ka n kc] rfl rfl tR _ HR1.out (by rw[Zae];rfl) rfl (by simp[Value.oneCell']) ?_)|fail);refine bodyPost_ret (results_cell_row rfl _ _ w.heap.size tR #[.int .i64 0,.int .i64 16,.bool true,.slice none 0 0,.slice ka n kc] (0,0) _ rfl (setRow_heap _ _ _ _ _ _ HR1.out) Tryz.underlying53 rfl (by rw[Zae];rfl)) rfl ?_;exact ⟨rfl,below_setRow bel (by omega) _⟩
theorem Zee {t:Int} {ka:Option Addr} {n kc:Nat} {w:World}:Calls Tryz.prog 59 #[.int .i64 t,.slice ka n kc] w fun e w'=>e=.returned (.agg #[.int .i64 0,.int .i64 t,.bool false,.slice ka n kc,.slice none 0 0])∧Below w.heap.size w w':=by
 have R0:=Blk.new w [.int .i64 0,.int .i64 0,.bool false,.slice none 0 0,.slice none 0 0] 53 w.heap.size rfl;have bel:=bal w (.cells #[.int .i64 0,.int .i64 0,.bool false,.slice none 0 0,.slice none 0 0] 53);have hz:=Zaj.out;go_enter Tryz.func59,Tryz.ntmps59;go_upto_region 1 with fail;have lW:=bel.size;generalize w.alloc (.cells #[.int .i64 0,.int .i64 0,.bool false,.slice none 0 0,.slice none 0 0] 53)=W at *;obtain ⟨tR,hR⟩:=R0;have HR1:Hid _:=hR;clear hR;go_wp2_with (first|((with_reducible show wpList _ _ _ (⟨_,.store _ _ _,_,_,_,_⟩::_) _ _);refine wpList_store_row rfl 53 _ _ rfl w.heap.size #[.int .i64 0,.int .i64 t,.bool false,.slice ka n kc,.slice none 0 0] rfl rfl tR _ HR1.out (by rw[Zae];rfl) rfl (by simp[Value.oneCell']) ?_)|fail);refine bodyPost_ret (results_cell_row rfl _ _ w.heap.size tR #[.int .i64 0,.int .i64 t,.bool false,.slice ka n kc,.slice none 0 0] (0,0) _ rfl (setRow_heap _ _ _ _ _ _ HR1.out) Tryz.underlying53 rfl (by rw[Zae];rfl)) rfl ?_;exact ⟨rfl,below_setRow bel (by omega) _⟩
theorem Zki {t:Int} {v:Value} {b:List Int} {N:Nat} {w:World} (h:Bs w v b) (hn:∀ a m c,v=.slice (some a) m c→0<m→N≤a.block):Calls Tryz.prog 59 #[.int .i64 t,v] w fun e w'=>∃ cs:List Value,e=.returned (.agg cs.toArray)∧Dep (fun g=>N≤g) w' (.mk 0 t false b []) cs∧Below w.heap.size w w':=by
 have h9:=h;obtain ⟨ao,cap,rfl,-,-,-⟩:=h;exact Zee.mono (fun _ _ ⟨e,hb⟩=>⟨_,e,(Zmg h9 hn 0 t false).next (Agr.below hb) (fun _ h _=>h),hb⟩)
theorem Zlr (w:World) (X:List Int) (n:Nat) (hn:X.length=n) (hm:n≤maxLen) (fr:Nat × Nat):Bs (w.alloc (.cells (u8s X).toArray 5 fr)) (.slice (some ⟨w.heap.size,0,none⟩) n n) X:=by
 refine⟨_,n,by rw[hn],hm,by omega,fun _=>⟨w.heap.size,0,rfl,by simp,fun j hj=>?_⟩⟩;have h:(w.alloc (.cells (u8s X).toArray 5 fr)).heap[w.heap.size]?=some (.cells (u8s X).toArray 5 fr):=by
  show (w.heap.push _)[w.heap.size]?=_;simp
 have e:=Zd9 X j hj;rw[Nat.zero_add];simp only[World.cell?,h,Option.isSome_none,Bool.false_eq_true,if_false]
 simpa using e
theorem ZbZ {w:World}:Calls Tryz.prog 25 #[] w fun e w'=>∃ cs:List Value,e=.returned (.agg cs.toArray)∧Dep (fun g=>w.heap.size≤g) w' ZbR cs∧Below w.heap.size w w':=by
 have R0:=Blk.new w [.int .i64 0,.int .i64 0,.bool false,.slice none 0 0,.slice none 0 0] 53 w.heap.size rfl;have bel:=bal w (.cells #[.int .i64 0,.int .i64 0,.bool false,.slice none 0 0,.slice none 0 0] 53);have hz:=Zaj.out;go_enter Tryz.func25,Tryz.ntmps25;go_upto_region 1 with fail;have lW:=bel.size;generalize w.alloc (.cells #[.int .i64 0,.int .i64 0,.bool false,.slice none 0 0,.slice none 0 0] 53)=W at *;have lR:=R0.lt;obtain ⟨N0,hN0⟩:∃ n,n=W.heap.size:=⟨_,rfl⟩;rw[← hN0] at lR lW;have hs:N0≤W.heap.size:=by omega
 clear hz;obtain ⟨jt,hjt,ht0,ht1,ht2⟩:=ZaO Zcb;have q8:=Lib.run_convert_bytes_const (P:=Tryz.prog) W 22 5 #[.int .u8 42,.int .u8 134,.int .u8 72,.int .u8 206,.int .u8 61,.int .u8 4,.int .u8 3,.int .u8 3] 8 8 Tryz.underlying22 Tryz.underlying5;have HB3:Hid (Bs (W.alloc (.cells #[.int .u8 42,.int .u8 134,.int .u8 72,.int .u8 206,.int .u8 61,.int .u8 4,.int .u8 3,.int .u8 3] 5 (8,9))) (.slice (some ⟨W.heap.size,0,none⟩) 8 8) [42,134,72,206,61,4,3,3]):=Zlr W [42,134,72,206,61,4,3,3] 8 rfl (by decide) (8,9);have hg3l:N0≤W.heap.size:=by omega
 go_wp2_with fail;clear q8;have hb:=bal W (.cells #[.int .u8 42,.int .u8 134,.int .u8 72,.int .u8 206,.int .u8 61,.int .u8 4,.int .u8 3,.int .u8 3] 5 (8,9));replace R0:=R0.alloc (.cells #[.int .u8 42,.int .u8 134,.int .u8 72,.int .u8 206,.int .u8 61,.int .u8 4,.int .u8 3,.int .u8 3] 5 (8,9));replace bel:=Zaa bel hb;replace hs:=hsl hs hb;obtain ⟨g3,hg3⟩:∃ g,g=W.heap.size:=⟨_,rfl⟩;rw[← hg3] at HB3 hg3l ⊢;generalize W.alloc (.cells #[.int .u8 42,.int .u8 134,.int .u8 72,.int .u8 206,.int .u8 61,.int .u8 4,.int .u8 3,.int .u8 3] 5 (8,9))=W3 at *;clear hg3 hb;refine (Zki (N:=N0) HB3.out (fun a m c e _=>by simp only[Value.slice.injEq,Option.some.injEq] at e;rw[← e.1];exact hg3l)).mono ?_;rintro e w1 ⟨cs,rfl,hd1,hb⟩;have HD1:Hid (Dep (fun g=>N0≤g) w1 (Zmx [1,2,840,10045,4,3,3]) cs):=hd1;have HL1:Hid (cs.length=5):=hd1.now.five;replace R0:=R0.later hb;replace bel:=Zaa bel hb;replace hs:=hsl hs hb;clear hb hd1 HB3;have HT:Hid (Dep (fun g=>N0≤g) (w1.alloc (.cells (cs).toArray 53)) (ZbR) [.int .i64 0,.int .i64 16,.bool true,.slice none 0 0,.slice (some ⟨w1.heap.size,0,none⟩) 1 1]):=Zfi (ks:=[Zmx [1,2,840,10045,4,3,3]]) (w:=w1) (N:=N0) (xs:=cs) HL1.out hs (show 1≤maxLen by decide) (ZiB (P:=Dep (fun g=>N0≤g) w1) HD1.out HL1.out) 0 16 true;have HF:Hid _:=ZeX HL1.out;replace R0:=R0.alloc (.cells (cs).toArray 53);replace bel:=Zah (o:=.cells (cs).toArray 53) bel;replace hs:N0≤(w1.alloc (.cells (cs).toArray 53)).heap.size:=Nat.le_trans hs ((Below.refl _ _).alloc (Nat.le_refl _) _).size;have hz:=Zaj.out;go_wp2_with (first|((with_reducible show wpList _ _ _ (⟨_,.buildSlice _ _ _,_,_,_,_⟩::_) _ _);refine Go.wpList_buildSlice rfl 51 53 1 _ rfl (cs).toArray jt _ Tryz.underlying51 hjt ht0 (by rw[ht1];decide) (by rw[ht1];decide) (by rw[ht1];refine (congrArg _ (?_:_=[(0,Value.agg cs.toArray)])).trans HF.out;kernel_rfl) ?_)|fail);clear hz HF;obtain ⟨g9,hg9⟩:∃ g,g=w1.heap.size:=⟨_,rfl⟩;rw[← hg9] at HT ⊢;generalize w1.alloc (.cells (cs).toArray 53)=V9 at *;clear hg9;refine ZdC.mono ?_;rintro e w8 ⟨rfl,hb⟩;replace HT:=dpl HT hb;replace R0:=R0.later hb;replace bel:=Zaa bel hb;clear hb;obtain ⟨tR,hR⟩:=R0;have HR1:Hid _:=hR;clear hR;go_wp2_with (first|((with_reducible show wpList _ _ _ (⟨_,.store _ _ _,_,_,_,_⟩::_) _ _);refine wpList_store_row rfl 53 _ _ rfl w.heap.size #[.int .i64 0,.int .i64 16,.bool true,.slice none 0 0,.slice (some ⟨g9,0,none⟩) 1 1] rfl rfl tR _ HR1.out (by rw[Zae];rfl) rfl (by simp[Value.oneCell']) ?_)|fail);refine bodyPost_ret (results_cell_row rfl _ _ w.heap.size tR #[.int .i64 0,.int .i64 16,.bool true,.slice none 0 0,.slice (some ⟨g9,0,none⟩) 1 1] (0,0) _ rfl (setRow_heap _ _ _ _ _ _ HR1.out) Tryz.underlying53 rfl (by rw[Zae];rfl)) rfl ?_;exact ⟨_,rfl,Zc7 HT.out lR lW,below_setRow bel (by omega) _⟩
theorem Zd2 {w:World}:Calls Tryz.prog 52 #[] w fun e w'=>∃ cs:List Value,e=.returned (.agg cs.toArray)∧Dep (fun g=>w.heap.size≤g) w' (Zcp 1) cs∧Below w.heap.size w w':=by
 have R0:=Blk.new w [.int .i64 0,.int .i64 0,.bool false,.slice none 0 0,.slice none 0 0] 53 w.heap.size rfl;have bel:=bal w (.cells #[.int .i64 0,.int .i64 0,.bool false,.slice none 0 0,.slice none 0 0] 53);have hz:=Zaj.out;go_enter Tryz.func52,Tryz.ntmps52;go_upto_region 1 with fail;have lW:=bel.size;generalize w.alloc (.cells #[.int .i64 0,.int .i64 0,.bool false,.slice none 0 0,.slice none 0 0] 53)=W at *;have lR:=R0.lt;obtain ⟨N0,hN0⟩:∃ n,n=W.heap.size:=⟨_,rfl⟩;rw[← hN0] at lR lW;have hs:N0≤W.heap.size:=by omega
 clear hz;have B1:=Blk.new W [.int .u8 1] 5 W.heap.size rfl;replace R0:=R0.alloc (.cells #[.int .u8 1] 5);replace bel:=Zah (o:=.cells #[.int .u8 1] 5) bel;have HD3:Hid (Dep (fun g=>N0≤g) (W.alloc (.cells #[.int .u8 1] 5)) (Zcp 1) [.int .i64 0,.int .i64 2,.bool false,.slice (some ⟨W.heap.size,0,none⟩) 1 1,.slice none 0 0]):=Zmg (Blk.bs (P:=[1]) B1 rfl (by decide)) (fun a m c e _=>by simp only[Value.slice.injEq,Option.some.injEq] at e;rw[← e.1];exact hs) 0 2 false;clear B1;go_wp2_with fail;obtain ⟨g3,hg3⟩:∃ g,g=W.heap.size:=⟨_,rfl⟩;rw[← hg3] at HD3 ⊢;generalize W.alloc (.cells #[.int .u8 1] 5)=W1 at *;clear hg3;refine Zee.mono ?_;rintro e w4 ⟨rfl,hb⟩;replace HD3:=dpl HD3 hb;replace R0:=R0.later hb;replace bel:=Zaa bel hb;clear hb;obtain ⟨tR,hR⟩:=R0;have HR1:Hid _:=hR;clear hR;go_wp2_with (first|((with_reducible show wpList _ _ _ (⟨_,.store _ _ _,_,_,_,_⟩::_) _ _);refine wpList_store_row rfl 53 _ _ rfl w.heap.size #[.int .i64 0,.int .i64 2,.bool false,.slice (some ⟨g3,0,none⟩) 1 1,.slice none 0 0] rfl rfl tR _ HR1.out (by rw[Zae];rfl) rfl (by simp[Value.oneCell']) ?_)|fail);refine bodyPost_ret (results_cell_row rfl _ _ w.heap.size tR #[.int .i64 0,.int .i64 2,.bool false,.slice (some ⟨g3,0,none⟩) 1 1,.slice none 0 0] (0,0) _ rfl (setRow_heap _ _ _ _ _ _ HR1.out) Tryz.underlying53 rfl (by rw[Zae];rfl)) rfl ?_;exact ⟨_,rfl,Zc7 HD3.out lR lW,below_setRow bel (by omega) _⟩
end Go.Proofs.YtohcdbifhnfcbaaGreatDoor
