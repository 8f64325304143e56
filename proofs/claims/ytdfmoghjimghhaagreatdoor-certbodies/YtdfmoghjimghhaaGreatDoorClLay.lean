import Derived.Test.YtdfmoghjimghhaaGreatDoorBase
import Derived.Test.YtdfmoghjimghhaaGreatDoorCtSize
import Derived.Test.YtdfmoghjimghhaaGreatDoorClExE
import Derived.Test.YtdfmoghjimghhaaGreatDoorClEl
import Derived.Test.YtdfmoghjimghhaaGreatDoorRows
import Derived.Deep.MidRow
import Derived.Deep.OwnRows
import Derived.Deep.AppendLies
import Derived.Great.BuildSlice
import Derived.Laws.Rows
import Derived.BigQuiet
import Derived.Laws.OwnMore
import Derived.Deep.WholeRow
import Derived.Deep.RegionHeld3
import Derived.Deep.DeepCutAuto
import Derived.Deep.DeepFit
namespace Go.Proofs.YtdfmoghjimghhaaGreatDoor
open Go.RowKit
theorem Blk.cellsO {c g:Nat} {X:List Value} (hne:c≠g):∀ (vs:List Value) (o:Nat) (w:World),Blk w c X→Blk (w.setCells g o vs) c X
 | [],_,_,h=>h
 | v::vs,o,w,h=>Blk.cellsO hne vs (o+1) (w.setCell ⟨g,o,none⟩ v) (h.other _ _ hne)
theorem Zcb {B g:Nat} {a:World} (hg:B≤g):∀ (vs:List Value) (o:Nat) (w:World),Below B a w→Below B a (w.setCells g o vs)
 | [],_,_,h=>h
 | v::vs,o,w,h=>Zcb hg vs (o+1) (w.setCell ⟨g,o,none⟩ v) (h.setCell hg v)
theorem ZeL {S:Nat→Prop} {g:Nat} {a:World} (hg:¬ S g):∀ (vs:List Value) (o:Nat) (w:World),Agr S a w→Agr S a (w.setCells g o vs)
 | [],_,_,h=>h
 | v::vs,o,w,h=>ZeL hg vs (o+1) (w.setCell ⟨g,o,none⟩ v) (h.cell hg)
theorem Blk.there {w:World} {g:Nat} {X:List Value} (h:Blk w g X) {o n:Nat} (hl:o+n≤X.length):w.there g o n:=fun j hj =>
 ⟨by rw[h.cell (o+j) _ (List.getElem?_eq_getElem (by omega))];rfl,h.frozen _⟩
def setL:List Value→Nat→List Value→List Value
 | xs,_,[]=>xs
 | xs,o,v::vs=>setL (xs.set o v) (o+1) vs
theorem ZiC:∀ (vs ys zs:List Value),zs.length=vs.length→setL (ys++zs) ys.length vs=ys++vs
 | [],ys,zs,h=>by
  obtain rfl:zs=[]:=List.eq_nil_of_length_eq_zero (by simpa using h)
  rfl
 | v::vs,ys,[],h=>by simp at h
 | v::vs,ys,z::zs,h=>by
  have e:(ys++z::zs).set ys.length v=(ys++[v])++zs:=by
   rw[List.set_append_right _ _ (Nat.le_refl _),Nat.sub_self,List.set_cons_zero,List.append_assoc]
   rfl
  have k:=ZiC vs (ys++[v]) zs (by simpa using h);rw[List.length_append,List.length_singleton] at k;rw[setL,e,k,List.append_assoc]
  rfl
theorem ZgW {base size n cap g:Nat} {e:TypeId}:∀ (vs:List Value) (o:Nat) (w:World) (xs:List Value),w.ownsRow base e size (.slice (some ⟨g,0,none⟩) n cap) n xs→(w.setCells g o vs).ownsRow base e size (.slice (some ⟨g,0,none⟩) n cap) n (setL xs o vs)
 | [],_,_,_,h=>h
 | v::vs,o,w,xs,h=>ZgW vs (o+1) (w.setCell ⟨g,o,none⟩ v) (xs.set o v) (h.stored o v).1
theorem RwT.form {w:World} {N:Nat} {kv:Value} {Ts:List Tl} {T:Tl} (h:RwT w N kv (Ts++[T])):∃ g cap,kv=.slice (some ⟨g,0,none⟩) (Ts.length+1) cap∧N≤g∧g<w.heap.size∧w.there g (Ts.length*5) 5:=by
 obtain⟨xs,h1,-⟩:=h;rcases h1.2 with ⟨_,h2⟩|⟨g,cap,cur,e,h2,h3,h4,h5,h6,h7⟩
 ·simp at h2
 ·refine ⟨g,cap,by rw[e,List.length_append];rfl,h2,(Array.getElem?_eq_some_iff.1 h3).1,?_⟩
  have B:Blk w g cur.toList:=⟨57,by simpa using h3⟩;refine B.there ?_;rw[List.length_append,List.length_singleton] at h4;have hc:cur.toList.length=cap*5:=by simpa using h6
  rw[hc];have:=Nat.mul_le_mul_right 5 h4;omega
theorem RwT.put {w:World} {N g cap:Nat} {Ts:List Tl} {T0 T:Tl} {cs:List Value} (h:RwT w N (.slice (some ⟨g,0,none⟩) (Ts.length+1) cap) (Ts++[T0])) (l:cs.length=5) (hd:Dep (fun b=>N≤b∧b≠g) w T cs):RwT (w.setCells g (Ts.length*5) cs) N (.slice (some ⟨g,0,none⟩) (Ts.length+1) cap) (Ts++[T]):=by
 obtain⟨xs,h1,h2⟩:=h;have hl:xs.length=(Ts.length+1)*5:=by have:=h1.1;rw[List.length_append] at this;exact this
 have hx:xs=xs.take (Ts.length*5)++xs.drop (Ts.length*5):=(List.take_append_drop _ _).symm;have hL:(xs.take (Ts.length*5)).length=Ts.length*5:=by rw[List.length_take];omega
 rw[List.length_append,List.length_singleton] at h1;have h3:=ZgW cs (Ts.length*5) w xs h1;have he:setL xs (Ts.length*5) cs=xs.take (Ts.length*5)++cs:=by
  have k:=ZiC cs (xs.take (Ts.length*5)) (xs.drop (Ts.length*5)) (by rw[List.length_drop];omega);rw[hL,← hx] at k;exact k
 rw[he] at h3;have ha:Agr (fun b=>N≤b∧(Value.slice (some ⟨g,0,none⟩) (Ts.length+1) cap).ownBlock≠some b) w (w.setCells g (Ts.length*5) cs):=ZeL (fun h=>h.2 rfl) cs _ w (Agr.refl _ _);refine ⟨_,by rw[List.length_append,List.length_singleton];exact h3,fun i t ht=>?_⟩
 by_cases hi:i<Ts.length
 ·rw[List.getElem?_append_left hi] at ht
  have k:=h2 i t (by rw[List.getElem?_append_left hi];exact ht);rw[List.drop_append_of_le_length (by omega),List.take_append_of_le_length (by rw[List.length_drop];omega)];have e2:((xs.take (Ts.length*5)).drop (5*i)).take 5=(xs.drop (5*i)).take 5:=by
   rw[List.drop_take,List.take_take,Nat.min_eq_left (by omega)]
  rw[e2];exact k.next ha (fun _ h _=>h)
 ·have hi2:=(List.getElem?_eq_some_iff.1 ht).1
  rw[List.length_append] at hi2;obtain rfl:i=Ts.length:=by simp at hi2;omega
  rw[List.getElem?_append_right (Nat.le_refl _),Nat.sub_self] at ht;simp only[List.getElem?_cons_zero,Option.some.injEq] at ht;subst ht;rw[List.drop_append_of_le_length (by omega),List.drop_of_length_le (by omega),List.nil_append,List.take_of_length_le (by omega)];refine hd.next (ZeL (S:=fun b=>N≤b∧b≠g) (fun h=>h.2 rfl) cs _ w (Agr.refl _ _)) (fun b hb _=>⟨hb.1,fun e=>?_⟩);simp only[Value.ownBlock,Option.some.injEq] at e;exact hb.2 e.symm
theorem RwT.ownOf {w:World} {N:Nat} {kv:Value} {Ts:List Tl} (h:RwT w N kv Ts):∀ b,kv.ownBlock=some b→N≤b∧b<w.heap.size:=fun b hb=>by
 obtain⟨xs,h1,-⟩:=h;exact Zat h1 hb
noncomputable def Zik (s:List Int) (must:Bool) (o:Option Tl):Option Tl:=o.bind fun T=>if wrN T=0 then some (exT s must (wrB T)) else none
theorem layO_a (s:List Int) (must:Bool):Zik s must none=none:=rfl
theorem layO_b {s:List Int} {must:Bool} {T:Tl} (h:¬ wrN T=0):Zik s must (some T)=none:=by show (if _ then _ else _)=_;rw[if_neg h]
theorem ZfA {s:List Int} {must:Bool} {T:Tl} (h:wrN T=0):Zik s must (some T)=some (exT s must (wrB T)):=by show (if _ then _ else _)=_;rw[if_pos h]
def allC (kv:Value):List Value:=[.int .i64 0,.int .i64 16,.bool true,.slice none 0 0,kv]
def LayR (w:World) (N1 B ga gl:Nat) (x:Option Tl) (Ts:List Tl) (er:Value) (e:Ending) (w':World):Prop:=e=.returned (.tuple #[])∧Below B w w'∧N1≤w'.heap.size∧(∀ b F,b<N1→b≠ga→b≠gl→Blk w b F→Blk w' b F)∧((x=none∧∃ (c:Int) (ka:Option Addr) (kc:Nat),Blk w' ga [.iface 53 (.int .i64 c)]∧Blk w' gl (allC (.slice ka Ts.length kc))∧RwT w' N1 (.slice ka Ts.length kc) Ts)∨(∃ (T:Tl) (ka:Option Addr) (kc:Nat),x=some T∧Blk w' ga [er]∧Blk w' gl (allC (.slice ka (Ts.length+1) kc))∧RwT w' N1 (.slice ka (Ts.length+1) kc) (Ts++[T])))
theorem ZeG:(Tryz.prog.info? 35).map (·.size)=some 38:=by kernel_rfl
theorem RwT.thereOf {w:World} {N g cap:Nat} {Ts:List Tl} {T:Tl} (h:RwT w N (.slice (some ⟨g,0,none⟩) (Ts.length+1) cap) (Ts++[T])):w.there g (Ts.length*5) 5:=by
 obtain⟨g2,c2,e,-,-,ht⟩:=RwT.form h;simp only[Value.slice.injEq,Option.some.injEq,Addr.mk.injEq] at e;obtain ⟨⟨rfl,-⟩,-⟩:=e;exact ht
set_option linter.unusedSimpArgs false in
set_option maxRecDepth 100000 in
set_option maxHeartbeats 4000000 in
theorem Zof {s:List Int} {z:ByteArray} {must:Bool} {K gc ga gl N1 B:Nat} {cs:List Value} {o:Option Tl} {Ts:List Tl} {er:Value} {ka:Option Addr} {kc:Nat} {w:World} (hs9:byt s) (hl9:s.length≤maxLen) (hz9:strOfNums s=z) (hF:∀ (xs:Array Value) (w:World),(callFunc K xs).run Tryz.prog w=.ok (.enter K xs) w) (hK:Calls Tryz.prog K #[.agg cs.toArray] w (ElR w o)) (hsm:∀ T,o=some T→(Zao T).length≤1099511627776) (Bc:Blk w gc cs) (lc:cs.length=38) (Ba:Blk w ga [er]) (Bl:Blk w gl (allC (.slice ka Ts.length kc))) (hr:RwT w N1 (.slice ka Ts.length kc) Ts) (hT:Ts.length≤1000) (l2:ga<N1) (l3:gl<N1) (lne:ga≠gl) (hN:N1≤w.heap.size) (hB:B≤ga∧B≤gl) :
  Calls Tryz.prog 110 #[.string z,.bool must,.func (.func K) #[] #[],.pointer (some ⟨gc,0,none⟩),.pointer (some ⟨ga,0,none⟩),.pointer (some ⟨gl,0,none⟩)] w (LayR w N1 B ga gl (Zik s must o) Ts er):=by
 obtain⟨KN,hKN⟩:∃ z,Ts.length=z:=⟨_,rfl⟩;have HKN:Hid (Ts.length=KN):=hKN;rw[hKN] at Bl hr hT;have HK:Hid (Calls Tryz.prog K #[.agg cs.toArray] w (ElR w o)):=hK;have HSm:Hid (∀ T,o=some T→(Zao T).length≤1099511627776):=hsm;have HL38:Hid (cs.length=38):=lc;have HR:Hid (RwT w N1 (.slice ka KN kc) Ts):=hr;have HY:Hid (byt s):=hs9;have HLs:Hid (s.length≤maxLen):=hl9;have HZ:Hid (strOfNums s=z):=hz9;have HFr:Hid (∀ b F,b<N1→b≠ga→b≠gl→Blk w b F→Blk w b F):=fun _ _ _ _ _ h=>h;have bel:Below B w w:=Below.refl _ _;have Bl2:Blk w gl [.int .i64 0,.int .i64 16,.bool true,.slice none 0 0,.slice ka KN kc]:=Bl;clear hKN hK hsm lc hr hs9 hl9 hz9 Bl;have l0:=Bc.lt;have hld:(loadVar 35 ⟨gc,0,none⟩).run Tryz.prog w=.ok (.agg cs.toArray) w:=Bc.load Tryz.underlying35 rfl ZeG HL38.out;go_enter Tryz.func110,Tryz.ntmps110;go_wp2_with (first|((with_reducible show wpList _ _ _ ({ dst:=_,op:=.load _ _,type:=_,pos:=_,after:=_,guard:=_ } :: _) _ _);refine Zae (by rfl) (by rfl) (by rfl) hld ?_)|fail);refine HK.out.mono ?_;rintro e w1 ⟨hb,hbad,hok⟩;clear hld l0 Bc hF
 cases ho:o with
 | none =>
  obtain⟨c9,rfl⟩:=hbad ho;have HO:Hid (o=none):=ho;replace Ba:=Ba.later hb;replace Bl2:=Bl2.later hb;replace HR:=Zbx HR hb;replace HFr:Hid (∀ b F,b<N1→b≠ga→b≠gl→Blk w b F→Blk w1 b F):=fun b F h1 h2 h3 h4=>(HFr.out b F h1 h2 h3 h4).later hb;replace bel:Below B w w1:=bel.trans (hb.mono (by have:=bel.size;omega));replace hN:=hsl hN hb;clear hb hbad hok;have hz:=Zad.out;have hb:=bal w1 (.cells #[.int .i64 0,.int .i64 0,.bool false,.slice none 0 0,.slice none 0 0] 57);replace Ba:=Ba.later hb;replace Bl2:=Bl2.later hb;replace HR:=Zbx HR hb;replace HFr:Hid (∀ b F,b<N1→b≠ga→b≠gl→Blk w b F→Blk (w1.alloc (.cells #[.int .i64 0,.int .i64 0,.bool false,.slice none 0 0,.slice none 0 0] 57)) b F):=fun b F h1 h2 h3 h4=>(HFr.out b F h1 h2 h3 h4).later hb;replace bel:Below B w (w1.alloc (.cells #[.int .i64 0,.int .i64 0,.bool false,.slice none 0 0,.slice none 0 0] 57)):=bel.trans (hb.mono (by have:=bel.size;omega));replace hN:=hsl hN hb;clear hb;go_upto_region 1 with (first|((with_reducible show wpList _ _ _ ({ dst:=_,op:=.store _ _ _,type:=_,pos:=_,after:=_,guard:=_ } :: _) _ _);refine wpList_store_row rfl 57 _ _ rfl w1.heap.size #[.int .i64 0,.int .i64 0,.bool false,.slice none 0 0,.slice none 0 0] rfl rfl 57 _ (heap_alloc_last _ _) (by rw[Zab];rfl) rfl (by simp[Value.oneCell']) ?_;rw[World.setRow_alloc_new])|fail);generalize w1.alloc (.cells #[.int .i64 0,.int .i64 0,.bool false,.slice none 0 0,.slice none 0 0] 57)=V1 at *;clear hz;have q:=ZaE c9;have e0:=Ba.cell 0 _ rfl;have l0:=Ba.lt;have f0:=Ba.frozen 0;go_wp2_with fail
  first|refine bodyPost_ret (results_none rfl _ _ _) rfl ?_|refine bodyPost_end (results_none rfl _ _ _) rfl ?_
  have hR9:=(RwT.cell (c:=ga) (k:=0) (v:=.iface 53 (.int .i64 c9)) HR.out (by omega));rw[← HKN.out] at Bl2 hR9;exact ⟨rfl,bel.setCell (by show _≤ga;omega) _,Nat.le_trans hN ((Below.refl 0 V1).setCell (Nat.zero_le _) _).size,fun b F h1 h2 h3 h4=>(HFr.out b F h1 h2 h3 h4).other _ _ (by show b≠ga;omega),.inl ⟨(by rw[HO.out];exact layO_a _ _),c9,ka,kc,Ba.set 0 _,Bl2.other _ _ (by show gl≠ga;omega),hR9⟩⟩
 | some T =>
  obtain⟨cs1,rfl,hd1⟩:=hok T ho;have HO:Hid (o=some T):=ho;have HT1:Hid (Zbg w1 T cs1):=hd1.now;have HLe:Hid (cs1.length=5):=hd1.now.five;have HOe:Hid (Zbp cs1):=hd1.now.ones;have HSz:Hid ((Zao T).length≤1099511627776):=HSm.out T ho;replace Ba:=Ba.later hb;replace Bl2:=Bl2.later hb;replace HR:=Zbx HR hb;replace HFr:Hid (∀ b F,b<N1→b≠ga→b≠gl→Blk w b F→Blk w1 b F):=fun b F h1 h2 h3 h4=>(HFr.out b F h1 h2 h3 h4).later hb;replace bel:Below B w w1:=bel.trans (hb.mono (by have:=bel.size;omega));replace hN:=hsl hN hb;clear hb hbad hok hd1 ho;have hb:=bal w1 (.cells cs1.toArray 57);replace Ba:=Ba.later hb;replace Bl2:=Bl2.later hb;replace HR:=Zbx HR hb;replace HFr:Hid (∀ b F,b<N1→b≠ga→b≠gl→Blk w b F→Blk (w1.alloc (.cells cs1.toArray 57)) b F):=fun b F h1 h2 h3 h4=>(HFr.out b F h1 h2 h3 h4).later hb;replace bel:Below B w (w1.alloc (.cells cs1.toArray 57)):=bel.trans (hb.mono (by have:=bel.size;omega));replace hN:=hsl hN hb;replace HT1:=Zhi HT1 hb;clear hb;have HS5e:Hid (cs1.toArray.size=5):=by show _=_;rw[List.size_toArray];exact HLe.out
  have hz:=Zad.out;have BE:=Blk.new w1 cs1 57 w1.heap.size rfl;go_upto_region 1 with (first|((with_reducible show wpList _ _ _ ({ dst:=_,op:=.store _ _ _,type:=_,pos:=_,after:=_,guard:=_ } :: _) _ _);refine wpList_store_row rfl 57 _ _ rfl w1.heap.size cs1.toArray rfl rfl 57 _ (heap_alloc_last _ _) (by rw[Zab,HS5e.out]) (by rw[HS5e.out];rfl) HOe.out ?_;rw[World.setRow_alloc_new])|fail);clear hz HS5e;obtain ⟨gt,hgt⟩:∃ g,g=w1.heap.size:=⟨_,rfl⟩;rw[← hgt] at BE ⊢;generalize w1.alloc (.cells cs1.toArray 57)=V1 at *;clear hgt;have q:=ZaS;have l1:=BE.lt;have hldt:(loadVar 57 ⟨gt,0,none⟩).run Tryz.prog V1=.ok (.agg cs1.toArray) V1:=BE.load Tryz.underlying57 rfl Zab HLe.out;go_wp2_with (first|((with_reducible show wpList _ _ _ ({ dst:=_,op:=.load _ _,type:=_,pos:=_,after:=_,guard:=_ } :: _) _ _);refine Zae (by rfl) (by rfl) (by rfl) hldt ?_)|fail);refine (Zgz HT1.out HSz.out).mono ?_;rintro e w2 ⟨v2,rfl,hv2,hn2,hb⟩;obtain ⟨M,hM⟩:∃ n,n=V1.heap.size:=⟨_,rfl⟩;have HNv:Hid (∀ a m c,v2=.slice (some a) m c→0<m→M≤a.block):=by rw[hM];exact hn2
  have HM:Hid (∀ b,(Value.slice ka KN kc).ownBlock=some b→b<M):=fun b h9=>by rw[hM];exact (HR.out.ownOf b h9).2
  have hNM:N1≤M:=by rw[hM];exact hN
  have hs:M≤w2.heap.size:=by rw[hM];exact hb.size
  have HB2:Hid (Bs w2 v2 (wrB T)):=hv2;replace Ba:=Ba.later hb;replace Bl2:=Bl2.later hb;replace HR:=Zbx HR hb;replace HFr:Hid (∀ b F,b<N1→b≠ga→b≠gl→Blk w b F→Blk w2 b F):=fun b F h1 h2 h3 h4=>(HFr.out b F h1 h2 h3 h4).later hb;replace bel:Below B w w2:=bel.trans (hb.mono (by have:=bel.size;omega));replace hN:=hsl hN hb;obtain ⟨va,vc,hv3,-,-,-⟩:=id hv2;obtain ⟨L2,hL2⟩:∃ z,(wrB T).length=z:=⟨_,rfl⟩;rw[hL2] at hv3;subst hv3;clear hb hv2 hn2 hM hL2 hldt l1 BE q HT1
  by_cases hw:wrN T=0
  rotate_left
  ·have HWx:Hid (¬ wrN T=0):=hw
   rw[erN_s hw];clear hw;have q:=ZaE ((wrN T:Nat):Int);obtain ⟨CC9,hCC⟩:∃ z:Int,((wrN T:Nat):Int)=z:=⟨_,rfl⟩;rw[hCC] at q ⊢;clear hCC;have e0:=Ba.cell 0 _ rfl;have l0:=Ba.lt;have f0:=Ba.frozen 0;go_wp2_with fail
   first|refine bodyPost_ret (results_none rfl _ _ _) rfl ?_|refine bodyPost_end (results_none rfl _ _ _) rfl ?_
   have hR9:=(RwT.cell (c:=ga) (k:=0) (v:=.iface 53 (.int .i64 CC9)) HR.out (by omega));rw[← HKN.out] at Bl2 hR9;exact ⟨rfl,bel.setCell (by show _≤ga;omega) _,Nat.le_trans hN ((Below.refl 0 w2).setCell (Nat.zero_le _) _).size,fun b F h1 h2 h3 h4=>(HFr.out b F h1 h2 h3 h4).other _ _ (by show b≠ga;omega),.inl ⟨(by rw[HO.out];exact layO_b HWx.out),CC9,ka,kc,Ba.set 0 _,Bl2.other _ _ (by show gl≠ga;omega),hR9⟩⟩
  have HWz:Hid (wrN T=0):=hw;rw[hw,Zon];clear hw;have q:=ZaS;go_upto_region 6 with fail;clear q;obtain ⟨jt,hjt,ht0,ht1,ht2⟩:=Zap ZaI

  obtain⟨S1,hS1,KT1⟩:∃ S:World→Prop,Hd S w2∧Hid (∀ wx,Hd S wx):=⟨fun _=>True,trivial,fun _=>trivial⟩;refine wp_region_noPanic ?_;have hb:Below w2.heap.size w2 w2.drew:=Below.drew (Below.refl _ _);replace Ba:=Ba.later hb;replace Bl2:=Bl2.later hb;replace HR:=Zbx HR hb;replace HFr:Hid (∀ b F,b<N1→b≠ga→b≠gl→Blk w b F→Blk w2.drew b F):=fun b F h1 h2 h3 h4=>(HFr.out b F h1 h2 h3 h4).later hb;replace bel:Below B w w2.drew:=bel.trans (hb.mono (by have:=bel.size;omega));replace hN:=hsl hN hb;replace HB2:=BsL HB2 hb;replace hs:=hsl hs hb;clear hb;refine wp_region_held_drew (S:=Hd S1) (by kernel_rfl) (KT1.out _) (fun hHeld=>?_);clear hS1;generalize World.drew _=wd1 at *;refine wpAnyH_take (i:=0) (v:=?_) rfl (by kernel_rfl) (by kernel_rfl) (by kernel_rfl) (fun _ _ _ h=>h) (Or.inl ⟨by rfl,?_⟩) (by assumption) ?_;rotate_left
  ·intro w hSw
   go_simp
   with_reducible rfl
  refine wpAnyH_take (i:=2) (v:=?_) rfl (by kernel_rfl) (by kernel_rfl) (by kernel_rfl) (fun _ _ _ h=>h) (Or.inl ⟨by rfl,?_⟩) (by assumption) ?_;rotate_left
  ·intro w hSw
   go_simp
   with_reducible rfl
  refine wpAnyH_take (i:=3) (v:=?_) rfl (by kernel_rfl) (by kernel_rfl) (by kernel_rfl) (fun _ _ _ h=>h) (Or.inl ⟨by rfl,?_⟩) (by assumption) ?_;rotate_left
  ·intro w hSw
   go_simp
   with_reducible rfl
  refine wpAnyH_take (i:=4) (v:=?_) rfl (by kernel_rfl) (by kernel_rfl) (by kernel_rfl) (fun _ _ _ h=>h) (Or.inl ⟨by rfl,?_⟩) (by assumption) ?_;rotate_left
  ·intro w hSw
   go_simp
   with_reducible rfl
  apply Zdh (T:=∀ (wz:World) (g7:Nat) (cs5:List Value),Hd S1 wz→Blk wz ga [er]→Blk wz gl [.int .i64 0,.int .i64 16,.bool true,.slice none 0 0,.slice ka KN kc]→Hid (RwT wz N1 (Value.slice ka KN kc) Ts)→Hid (∀ b F,b<N1→b≠ga→b≠gl→Blk w b F→Blk wz b F)→Below B w wz→N1≤wz.heap.size→M≤wz.heap.size→Hid (Dep (fun g=>M≤g) wz (exT s must (wrB T)) cs5)→Hid (cs5.length=5)→Hid (Zbp cs5)→Blk wz g7 [.int .i64 0,.int .i64 0,.bool false,.slice none 0 0,.slice none 0 0]→wpAnyH _ _ _ _ _ _ _ _ wz)
  case main =>
   intro k5;refine wpAnyH_ready (rs:=[1,5,7]) (by kernel_rfl) (by simp) ?_;refine AllReadyH.cons rfl (fun K hK=>?_) ?_
   ·have e4:=Bl2.cell 4 _ rfl
    have l4:=Bl2.lt;go_simp;refine hK.out _ _ ?_ (fun hHeld2=>?_)
    ·exact hHeld
    ·clear hK K
     try clear hHeld
     have hHeld:=hHeld2;clear hHeld2;clear e4 l4;refine wpAnyH_take (i:=6) (v:=?_) rfl (by kernel_rfl) (by kernel_rfl) (by kernel_rfl) (fun _ _ _ h=>h) (Or.inl ⟨by rfl,?_⟩) (by assumption) ?_;rotate_left
     ·intro w hSw
      go_simp
      with_reducible rfl
     refine wpAnyH_ready (rs:=[5,7]) (by kernel_rfl) (by simp) ?_;refine AllReadyH.cons rfl (fun K hK=>?_) ?_
     ·go_simp
      refine(ZdP HY.out HLs.out HZ.out HB2.out HNv.out hs).mono ?_;rintro e z5 ⟨cs5,rfl,hd5,hb⟩;refine hK.out _ _ ?_ (fun hHeld2=>?_)
      ·exact KT1.out _
      ·clear hK K
       try clear hHeld
       have hHeld:=hHeld2;clear hHeld2;replace Ba:=Ba.later hb;replace Bl2:=Bl2.later hb;replace HR:=Zbx HR hb;replace HFr:Hid (∀ b F,b<N1→b≠ga→b≠gl→Blk w b F→Blk z5 b F):=fun b F h1 h2 h3 h4=>(HFr.out b F h1 h2 h3 h4).later hb;replace bel:Below B w z5:=bel.trans (hb.mono (by have:=bel.size;omega));replace hN:=hsl hN hb;replace hs:=hsl hs hb;have HD5:Hid (Dep (fun g=>M≤g) z5 (exT s must (wrB T)) cs5):=hd5;have HL5:Hid (cs5.length=5):=hd5.now.five;have HO5:Hid (Zbp cs5):=hd5.now.ones;clear hb hd5;refine wpAnyH_ready (rs:=[7]) (by kernel_rfl) (by simp) ?_;refine AllReadyH.cons rfl (fun K hK=>?_) ?_
       ·rw[if_pos (by rfl)]
        refine wp_buildSlice 55 57 1 _ rfl #[.int .i64 0,.int .i64 0,.bool false,.slice none 0 0,.slice none 0 0] jt _ Tryz.underlying55 hjt ht0 (by rw[ht1];decide) (by rw[ht1];decide) (by rw[ht1];refine (congrArg _ (?_:_=[(0,Value.agg #[.int .i64 0,.int .i64 0,.bool false,.slice none 0 0,.slice none 0 0])])).trans (Zay (cs:=[.int .i64 0,.int .i64 0,.bool false,.slice none 0 0,.slice none 0 0]) rfl);kernel_rfl) ?_;refine hK.out _ _ ?_ (fun hHeld2=>?_)
        ·exact KT1.out _
        ·clear hK K
         try clear hHeld
         have hHeld:=hHeld2;clear hHeld2;have hb:=bal z5 (.cells #[.int .i64 0,.int .i64 0,.bool false,.slice none 0 0,.slice none 0 0] 57);replace Ba:=Ba.later hb;replace Bl2:=Bl2.later hb;replace HR:=Zbx HR hb;replace HFr:Hid (∀ b F,b<N1→b≠ga→b≠gl→Blk w b F→Blk (z5.alloc (.cells #[.int .i64 0,.int .i64 0,.bool false,.slice none 0 0,.slice none 0 0] 57)) b F):=fun b F h1 h2 h3 h4=>(HFr.out b F h1 h2 h3 h4).later hb;replace bel:Below B w (z5.alloc (.cells #[.int .i64 0,.int .i64 0,.bool false,.slice none 0 0,.slice none 0 0] 57)):=bel.trans (hb.mono (by have:=bel.size;omega));replace hN:=hsl hN hb;replace hs:=hsl hs hb;replace HD5:=dpl HD5 hb;have B7:=Blk.new z5 [.int .i64 0,.int .i64 0,.bool false,.slice none 0 0,.slice none 0 0] 57 z5.heap.size rfl;obtain ⟨g7,hg9⟩:∃ g,g=z5.heap.size:=⟨_,rfl⟩;rw[← hg9] at B7 ⊢;clear hg9 hb;generalize (z5.alloc (.cells #[.int .i64 0,.int .i64 0,.bool false,.slice none 0 0,.slice none 0 0] 57))=z7 at *;exact k5 z7 g7 cs5 hHeld Ba Bl2 HR HFr bel hN hs HD5 HL5 HO5 B7
       exact AllReadyH.nil
     refine AllReadyH.cons rfl (fun K hK=>?_) ?_
     ·rw[if_pos (by rfl)]
      refine wp_buildSlice 55 57 1 _ rfl #[.int .i64 0,.int .i64 0,.bool false,.slice none 0 0,.slice none 0 0] jt _ Tryz.underlying55 hjt ht0 (by rw[ht1];decide) (by rw[ht1];decide) (by rw[ht1];refine (congrArg _ (?_:_=[(0,Value.agg #[.int .i64 0,.int .i64 0,.bool false,.slice none 0 0,.slice none 0 0])])).trans (Zay (cs:=[.int .i64 0,.int .i64 0,.bool false,.slice none 0 0,.slice none 0 0]) rfl);kernel_rfl) ?_;refine hK.out _ _ ?_ (fun hHeld2=>?_)
      ·exact KT1.out _
      ·clear hK K
       try clear hHeld
       have hHeld:=hHeld2;clear hHeld2;have hb:=bal wd1 (.cells #[.int .i64 0,.int .i64 0,.bool false,.slice none 0 0,.slice none 0 0] 57);replace Ba:=Ba.later hb;replace Bl2:=Bl2.later hb;replace HR:=Zbx HR hb;replace HFr:Hid (∀ b F,b<N1→b≠ga→b≠gl→Blk w b F→Blk (wd1.alloc (.cells #[.int .i64 0,.int .i64 0,.bool false,.slice none 0 0,.slice none 0 0] 57)) b F):=fun b F h1 h2 h3 h4=>(HFr.out b F h1 h2 h3 h4).later hb;replace bel:Below B w (wd1.alloc (.cells #[.int .i64 0,.int .i64 0,.bool false,.slice none 0 0,.slice none 0 0] 57)):=bel.trans (hb.mono (by have:=bel.size;omega));replace hN:=hsl hN hb;replace hs:=hsl hs hb;replace HB2:=BsL HB2 hb;have B7:=Blk.new wd1 [.int .i64 0,.int .i64 0,.bool false,.slice none 0 0,.slice none 0 0] 57 wd1.heap.size rfl;obtain ⟨g7,hg9⟩:∃ g,g=wd1.heap.size:=⟨_,rfl⟩;rw[← hg9] at B7 ⊢;clear hg9 hb;generalize (wd1.alloc (.cells #[.int .i64 0,.int .i64 0,.bool false,.slice none 0 0,.slice none 0 0] 57))=z7 at *;refine wpAnyH_ready (rs:=[5]) (by kernel_rfl) (by simp) ?_;refine AllReadyH.cons rfl (fun K hK=>?_) ?_
       ·go_simp
        refine(ZdP HY.out HLs.out HZ.out HB2.out HNv.out hs).mono ?_;rintro e z5 ⟨cs5,rfl,hd5,hb⟩;refine hK.out _ _ ?_ (fun hHeld2=>?_)
        ·exact KT1.out _
        ·clear hK K
         try clear hHeld
         have hHeld:=hHeld2;clear hHeld2;replace Ba:=Ba.later hb;replace Bl2:=Bl2.later hb;replace HR:=Zbx HR hb;replace HFr:Hid (∀ b F,b<N1→b≠ga→b≠gl→Blk w b F→Blk z5 b F):=fun b F h1 h2 h3 h4=>(HFr.out b F h1 h2 h3 h4).later hb;replace bel:Below B w z5:=bel.trans (hb.mono (by have:=bel.size;omega));replace hN:=hsl hN hb;replace hs:=hsl hs hb;replace B7:=B7.later hb;have HD5:Hid (Dep (fun g=>M≤g) z5 (exT s must (wrB T)) cs5):=hd5;have HL5:Hid (cs5.length=5):=hd5.now.five;have HO5:Hid (Zbp cs5):=hd5.now.ones;clear hb hd5;exact k5 z5 g7 cs5 hHeld Ba Bl2 HR HFr bel hN hs HD5 HL5 HO5 B7
       exact AllReadyH.nil
     exact AllReadyH.nil
   refine AllReadyH.cons rfl (fun K hK=>?_) ?_
   ·go_simp
    refine(ZdP HY.out HLs.out HZ.out HB2.out HNv.out hs).mono ?_;rintro e z5 ⟨cs5,rfl,hd5,hb⟩;refine hK.out _ _ ?_ (fun hHeld2=>?_)
    ·exact KT1.out _
    ·clear hK K
     try clear hHeld
     have hHeld:=hHeld2;clear hHeld2;replace Ba:=Ba.later hb;replace Bl2:=Bl2.later hb;replace HR:=Zbx HR hb;replace HFr:Hid (∀ b F,b<N1→b≠ga→b≠gl→Blk w b F→Blk z5 b F):=fun b F h1 h2 h3 h4=>(HFr.out b F h1 h2 h3 h4).later hb;replace bel:Below B w z5:=bel.trans (hb.mono (by have:=bel.size;omega));replace hN:=hsl hN hb;replace hs:=hsl hs hb;have HD5:Hid (Dep (fun g=>M≤g) z5 (exT s must (wrB T)) cs5):=hd5;have HL5:Hid (cs5.length=5):=hd5.now.five;have HO5:Hid (Zbp cs5):=hd5.now.ones;clear hb hd5;refine wpAnyH_ready (rs:=[1,7]) (by kernel_rfl) (by simp) ?_;refine AllReadyH.cons rfl (fun K hK=>?_) ?_
     ·have e4:=Bl2.cell 4 _ rfl
      have l4:=Bl2.lt;go_simp;refine hK.out _ _ ?_ (fun hHeld2=>?_)
      ·exact hHeld
      ·clear hK K
       try clear hHeld
       have hHeld:=hHeld2;clear hHeld2;clear e4 l4;refine wpAnyH_take (i:=6) (v:=?_) rfl (by kernel_rfl) (by kernel_rfl) (by kernel_rfl) (fun _ _ _ h=>h) (Or.inl ⟨by rfl,?_⟩) (by assumption) ?_;rotate_left
       ·intro w hSw
        go_simp
        with_reducible rfl
       refine wpAnyH_ready (rs:=[7]) (by kernel_rfl) (by simp) ?_;refine AllReadyH.cons rfl (fun K hK=>?_) ?_
       ·rw[if_pos (by rfl)]
        refine wp_buildSlice 55 57 1 _ rfl #[.int .i64 0,.int .i64 0,.bool false,.slice none 0 0,.slice none 0 0] jt _ Tryz.underlying55 hjt ht0 (by rw[ht1];decide) (by rw[ht1];decide) (by rw[ht1];refine (congrArg _ (?_:_=[(0,Value.agg #[.int .i64 0,.int .i64 0,.bool false,.slice none 0 0,.slice none 0 0])])).trans (Zay (cs:=[.int .i64 0,.int .i64 0,.bool false,.slice none 0 0,.slice none 0 0]) rfl);kernel_rfl) ?_;refine hK.out _ _ ?_ (fun hHeld2=>?_)
        ·exact KT1.out _
        ·clear hK K
         try clear hHeld
         have hHeld:=hHeld2;clear hHeld2;have hb:=bal z5 (.cells #[.int .i64 0,.int .i64 0,.bool false,.slice none 0 0,.slice none 0 0] 57);replace Ba:=Ba.later hb;replace Bl2:=Bl2.later hb;replace HR:=Zbx HR hb;replace HFr:Hid (∀ b F,b<N1→b≠ga→b≠gl→Blk w b F→Blk (z5.alloc (.cells #[.int .i64 0,.int .i64 0,.bool false,.slice none 0 0,.slice none 0 0] 57)) b F):=fun b F h1 h2 h3 h4=>(HFr.out b F h1 h2 h3 h4).later hb;replace bel:Below B w (z5.alloc (.cells #[.int .i64 0,.int .i64 0,.bool false,.slice none 0 0,.slice none 0 0] 57)):=bel.trans (hb.mono (by have:=bel.size;omega));replace hN:=hsl hN hb;replace hs:=hsl hs hb;replace HD5:=dpl HD5 hb;have B7:=Blk.new z5 [.int .i64 0,.int .i64 0,.bool false,.slice none 0 0,.slice none 0 0] 57 z5.heap.size rfl;obtain ⟨g7,hg9⟩:∃ g,g=z5.heap.size:=⟨_,rfl⟩;rw[← hg9] at B7 ⊢;clear hg9 hb;generalize (z5.alloc (.cells #[.int .i64 0,.int .i64 0,.bool false,.slice none 0 0,.slice none 0 0] 57))=z7 at *;exact k5 z7 g7 cs5 hHeld Ba Bl2 HR HFr bel hN hs HD5 HL5 HO5 B7
       exact AllReadyH.nil
     refine AllReadyH.cons rfl (fun K hK=>?_) ?_
     ·rw[if_pos (by rfl)]
      refine wp_buildSlice 55 57 1 _ rfl #[.int .i64 0,.int .i64 0,.bool false,.slice none 0 0,.slice none 0 0] jt _ Tryz.underlying55 hjt ht0 (by rw[ht1];decide) (by rw[ht1];decide) (by rw[ht1];refine (congrArg _ (?_:_=[(0,Value.agg #[.int .i64 0,.int .i64 0,.bool false,.slice none 0 0,.slice none 0 0])])).trans (Zay (cs:=[.int .i64 0,.int .i64 0,.bool false,.slice none 0 0,.slice none 0 0]) rfl);kernel_rfl) ?_;refine hK.out _ _ ?_ (fun hHeld2=>?_)
      ·exact KT1.out _
      ·clear hK K
       try clear hHeld
       have hHeld:=hHeld2;clear hHeld2;have hb:=bal z5 (.cells #[.int .i64 0,.int .i64 0,.bool false,.slice none 0 0,.slice none 0 0] 57);replace Ba:=Ba.later hb;replace Bl2:=Bl2.later hb;replace HR:=Zbx HR hb;replace HFr:Hid (∀ b F,b<N1→b≠ga→b≠gl→Blk w b F→Blk (z5.alloc (.cells #[.int .i64 0,.int .i64 0,.bool false,.slice none 0 0,.slice none 0 0] 57)) b F):=fun b F h1 h2 h3 h4=>(HFr.out b F h1 h2 h3 h4).later hb;replace bel:Below B w (z5.alloc (.cells #[.int .i64 0,.int .i64 0,.bool false,.slice none 0 0,.slice none 0 0] 57)):=bel.trans (hb.mono (by have:=bel.size;omega));replace hN:=hsl hN hb;replace hs:=hsl hs hb;replace HD5:=dpl HD5 hb;have B7:=Blk.new z5 [.int .i64 0,.int .i64 0,.bool false,.slice none 0 0,.slice none 0 0] 57 z5.heap.size rfl;obtain ⟨g7,hg9⟩:∃ g,g=z5.heap.size:=⟨_,rfl⟩;rw[← hg9] at B7 ⊢;clear hg9 hb;generalize (z5.alloc (.cells #[.int .i64 0,.int .i64 0,.bool false,.slice none 0 0,.slice none 0 0] 57))=z7 at *;refine wpAnyH_ready (rs:=[1]) (by kernel_rfl) (by simp) ?_;refine AllReadyH.cons rfl (fun K hK=>?_) ?_
       ·have e4:=Bl2.cell 4 _ rfl
        have l4:=Bl2.lt;go_simp;refine hK.out _ _ ?_ (fun hHeld2=>?_)
        ·exact hHeld
        ·clear hK K
         try clear hHeld
         have hHeld:=hHeld2;clear hHeld2;clear e4 l4;refine wpAnyH_take (i:=6) (v:=?_) rfl (by kernel_rfl) (by kernel_rfl) (by kernel_rfl) (fun _ _ _ h=>h) (Or.inl ⟨by rfl,?_⟩) (by assumption) ?_;rotate_left
         ·intro w hSw
          go_simp
          with_reducible rfl
         exact k5 z7 g7 cs5 hHeld Ba Bl2 HR HFr bel hN hs HD5 HL5 HO5 B7
       exact AllReadyH.nil
     exact AllReadyH.nil
   refine AllReadyH.cons rfl (fun K hK=>?_) ?_
   ·rw[if_pos (by rfl)]
    refine wp_buildSlice 55 57 1 _ rfl #[.int .i64 0,.int .i64 0,.bool false,.slice none 0 0,.slice none 0 0] jt _ Tryz.underlying55 hjt ht0 (by rw[ht1];decide) (by rw[ht1];decide) (by rw[ht1];refine (congrArg _ (?_:_=[(0,Value.agg #[.int .i64 0,.int .i64 0,.bool false,.slice none 0 0,.slice none 0 0])])).trans (Zay (cs:=[.int .i64 0,.int .i64 0,.bool false,.slice none 0 0,.slice none 0 0]) rfl);kernel_rfl) ?_;refine hK.out _ _ ?_ (fun hHeld2=>?_)
    ·exact KT1.out _
    ·clear hK K
     try clear hHeld
     have hHeld:=hHeld2;clear hHeld2;have hb:=bal wd1 (.cells #[.int .i64 0,.int .i64 0,.bool false,.slice none 0 0,.slice none 0 0] 57);replace Ba:=Ba.later hb;replace Bl2:=Bl2.later hb;replace HR:=Zbx HR hb;replace HFr:Hid (∀ b F,b<N1→b≠ga→b≠gl→Blk w b F→Blk (wd1.alloc (.cells #[.int .i64 0,.int .i64 0,.bool false,.slice none 0 0,.slice none 0 0] 57)) b F):=fun b F h1 h2 h3 h4=>(HFr.out b F h1 h2 h3 h4).later hb;replace bel:Below B w (wd1.alloc (.cells #[.int .i64 0,.int .i64 0,.bool false,.slice none 0 0,.slice none 0 0] 57)):=bel.trans (hb.mono (by have:=bel.size;omega));replace hN:=hsl hN hb;replace hs:=hsl hs hb;replace HB2:=BsL HB2 hb;have B7:=Blk.new wd1 [.int .i64 0,.int .i64 0,.bool false,.slice none 0 0,.slice none 0 0] 57 wd1.heap.size rfl;obtain ⟨g7,hg9⟩:∃ g,g=wd1.heap.size:=⟨_,rfl⟩;rw[← hg9] at B7 ⊢;clear hg9 hb;generalize (wd1.alloc (.cells #[.int .i64 0,.int .i64 0,.bool false,.slice none 0 0,.slice none 0 0] 57))=z7 at *;refine wpAnyH_ready (rs:=[1,5]) (by kernel_rfl) (by simp) ?_;refine AllReadyH.cons rfl (fun K hK=>?_) ?_
     ·have e4:=Bl2.cell 4 _ rfl
      have l4:=Bl2.lt;go_simp;refine hK.out _ _ ?_ (fun hHeld2=>?_)
      ·exact hHeld
      ·clear hK K
       try clear hHeld
       have hHeld:=hHeld2;clear hHeld2;clear e4 l4;refine wpAnyH_take (i:=6) (v:=?_) rfl (by kernel_rfl) (by kernel_rfl) (by kernel_rfl) (fun _ _ _ h=>h) (Or.inl ⟨by rfl,?_⟩) (by assumption) ?_;rotate_left
       ·intro w hSw
        go_simp
        with_reducible rfl
       refine wpAnyH_ready (rs:=[5]) (by kernel_rfl) (by simp) ?_;refine AllReadyH.cons rfl (fun K hK=>?_) ?_
       ·go_simp
        refine(ZdP HY.out HLs.out HZ.out HB2.out HNv.out hs).mono ?_;rintro e z5 ⟨cs5,rfl,hd5,hb⟩;refine hK.out _ _ ?_ (fun hHeld2=>?_)
        ·exact KT1.out _
        ·clear hK K
         try clear hHeld
         have hHeld:=hHeld2;clear hHeld2;replace Ba:=Ba.later hb;replace Bl2:=Bl2.later hb;replace HR:=Zbx HR hb;replace HFr:Hid (∀ b F,b<N1→b≠ga→b≠gl→Blk w b F→Blk z5 b F):=fun b F h1 h2 h3 h4=>(HFr.out b F h1 h2 h3 h4).later hb;replace bel:Below B w z5:=bel.trans (hb.mono (by have:=bel.size;omega));replace hN:=hsl hN hb;replace hs:=hsl hs hb;replace B7:=B7.later hb;have HD5:Hid (Dep (fun g=>M≤g) z5 (exT s must (wrB T)) cs5):=hd5;have HL5:Hid (cs5.length=5):=hd5.now.five;have HO5:Hid (Zbp cs5):=hd5.now.ones;clear hb hd5;exact k5 z5 g7 cs5 hHeld Ba Bl2 HR HFr bel hN hs HD5 HL5 HO5 B7
       exact AllReadyH.nil
     refine AllReadyH.cons rfl (fun K hK=>?_) ?_
     ·go_simp
      refine(ZdP HY.out HLs.out HZ.out HB2.out HNv.out hs).mono ?_;rintro e z5 ⟨cs5,rfl,hd5,hb⟩;refine hK.out _ _ ?_ (fun hHeld2=>?_)
      ·exact KT1.out _
      ·clear hK K
       try clear hHeld
       have hHeld:=hHeld2;clear hHeld2;replace Ba:=Ba.later hb;replace Bl2:=Bl2.later hb;replace HR:=Zbx HR hb;replace HFr:Hid (∀ b F,b<N1→b≠ga→b≠gl→Blk w b F→Blk z5 b F):=fun b F h1 h2 h3 h4=>(HFr.out b F h1 h2 h3 h4).later hb;replace bel:Below B w z5:=bel.trans (hb.mono (by have:=bel.size;omega));replace hN:=hsl hN hb;replace hs:=hsl hs hb;replace B7:=B7.later hb;have HD5:Hid (Dep (fun g=>M≤g) z5 (exT s must (wrB T)) cs5):=hd5;have HL5:Hid (cs5.length=5):=hd5.now.five;have HO5:Hid (Zbp cs5):=hd5.now.ones;clear hb hd5;refine wpAnyH_ready (rs:=[1]) (by kernel_rfl) (by simp) ?_;refine AllReadyH.cons rfl (fun K hK=>?_) ?_
       ·have e4:=Bl2.cell 4 _ rfl
        have l4:=Bl2.lt;go_simp;refine hK.out _ _ ?_ (fun hHeld2=>?_)
        ·exact hHeld
        ·clear hK K
         try clear hHeld
         have hHeld:=hHeld2;clear hHeld2;clear e4 l4;refine wpAnyH_take (i:=6) (v:=?_) rfl (by kernel_rfl) (by kernel_rfl) (by kernel_rfl) (fun _ _ _ h=>h) (Or.inl ⟨by rfl,?_⟩) (by assumption) ?_;rotate_left
         ·intro w hSw
          go_simp
          with_reducible rfl
         exact k5 z5 g7 cs5 hHeld Ba Bl2 HR HFr bel hN hs HD5 HL5 HO5 B7
       exact AllReadyH.nil
     exact AllReadyH.nil
   exact AllReadyH.nil
  case kp =>
   intro wz g7 cs5 hHeld Ba Bl2 HR HFr bel hN hs HD5 HL5 HO5 B7;refine wpAnyH_ready (rs:=[8]) (by kernel_rfl) (by simp) ?_;refine AllReadyH.cons rfl (fun K hK=>?_) ?_
   ·rw[if_pos (show Region.wanted _ _=true from rfl)]
    refine Zb9 (ops:=#[]) rfl ?_;refine Zal (by rfl) _ _ (by rfl) N1 (Value.slice ka KN kc) Ts (by rfl) HR.out g7 (by rfl) [.int .i64 0,.int .i64 0,.bool false,.slice none 0 0,.slice none 0 0] B7 rfl (by simp[Zbp,Value.oneCell']) (Tl.mk 0 0 false [] []) (ZcD (b:=[]) ⟨none,0,rfl,Nat.zero_le _,Nat.zero_le _,fun h=>absurd h (Nat.lt_irrefl 0)⟩ (fun a m c e=>by cases e) 0 0 false) (by rw[HKN.out];omega) (by omega) ?_;intro kv9 w9 hr9 hgrow9 hge9 hat9;obtain ⟨g9,cap9,hkv9,hNg,hlt9,hth⟩:=RwT.form hr9;subst hkv9;have hg9x:g9≠ga∧g9≠gl:=⟨by omega,by omega⟩;have HOw:Hid (∀ b,(Value.slice ka KN kc).ownBlock=some b→N1≤b):=fun b h=>(HR.out.ownOf b h).1;have hzb:=bel.size;have hsz9:=hgrow9.size;replace Ba:=Ba.grown hgrow9 (fun k hk e=>by have:=HOw.out k hk;omega);replace Bl2:=Bl2.grown hgrow9 (fun k hk e=>by have:=HOw.out k hk;omega);replace HFr:Hid (∀ b F,b<N1→b≠ga→b≠gl→Blk w b F→Blk w9 b F):=fun b F h1 h2 h3 h4=>(HFr.out b F h1 h2 h3 h4).grown hgrow9 (fun k hk e=>by have:=HOw.out k hk;omega);replace bel:Below B w w9:=Below.grown bel hgrow9 (by omega) (fun k hk=>by have:=HOw.out k hk;omega);replace HD5:Hid (Dep (fun g=>N1≤g∧g≠g9) w9 (exT s must (wrB T)) cs5):=HD5.out.next (Agr.grown hgrow9 (fun b hb9 e9=>by have:=HM.out b e9;omega)) (fun b hb9 hlb=>⟨by omega,fun e9=>by rcases hat9 with h9|h9;(have h10:(some g9:Option Nat)=(Value.slice ka KN kc).ownBlock:=h9;have:=HM.out b (by rw[← h10,e9]);omega);(simp only[Value.ownBlock,Option.some.injEq] at h9;omega)⟩);have HR9:Hid (RwT w9 N1 (.slice (some ⟨g9,0,none⟩) (Ts.length+1) cap9) (Ts++[Tl.mk 0 0 false [] []])):=hr9;have HTh:Hid (w9.there g9 (Ts.length*5) 5):=hth;replace hN:N1≤w9.heap.size:=by omega
    rw[HKN.out] at HR9 HTh ⊢;obtain ⟨K9,hK9⟩:∃ z,KN+1=z:=⟨_,rfl⟩;have HK9:Hid (KN+1=K9):=hK9;rw[hK9] at HR9 ⊢;have gK:(KN:Int)<(K9:Int):=by omega
    have gK0:(0:Int)≤(KN:Int):=by omega
    clear hgrow9 hge9 hat9 hr9 hzb hth hK9 HR HOw;refine ⟨rfl,?_⟩;refine hK.out _ _ ?_ (fun hHeld2=>?_)
    ·exact KT1.out _
    ·clear hK K
     try clear hHeld
     have hHeld:=hHeld2;clear hHeld2;clear B7;refine wpAnyH_take (i:=9) (v:=?_) rfl (by kernel_rfl) (by kernel_rfl) (by kernel_rfl) (fun _ _ _ h=>h) (Or.inl ⟨by rfl,?_⟩) (by assumption) ?_;rotate_left
     ·intro w hSw
      go_simp
      with_reducible rfl
     refine wpAnyH_take (i:=11) (v:=?_) rfl (by kernel_rfl) (by kernel_rfl) (by kernel_rfl) (fun _ _ _ h=>h) (Or.inl ⟨by rfl,?_⟩) (by assumption) ?_;rotate_left
     ·intro w hSw
      go_simp
      with_reducible rfl
     refine wpAnyH_ready (rs:=[10,12]) (by kernel_rfl) (by simp) ?_;refine AllReadyH.cons rfl (fun K hK=>?_) ?_
     ·have HSc:Hid (cs5.toArray.size=5):=by show _=_;rw[List.size_toArray];exact HL5.out
      rw[if_pos (by rfl)];refine wp_store_mid 57 _ _ rfl g9 (KN*5) cs5.toArray rfl rfl (by rw[HSc.out];exact HTh.out) (by rw[Zab,HSc.out]) HO5.out ?_;refine hK.out _ _ ?_ (fun hHeld2=>?_)
      ·exact KT1.out _
      ·clear hK K
       try clear hHeld
       have hHeld:=hHeld2;clear hHeld2;clear HSc;replace HR9:Hid (RwT (w9.setCells g9 (KN*5) cs5.toArray.toList) N1 (Value.slice (some ⟨g9,0,none⟩) K9 cap9) (Ts++[exT s must (wrB T)])):=by have h:=HR9.out;have e1:=HK9.out;have e2:=HKN.out;subst e1;subst e2;exact RwT.put h HL5.out HD5.out
       replace Ba:Blk (w9.setCells g9 (KN*5) cs5.toArray.toList) ga [er]:=Blk.cellsO (by omega) _ _ _ Ba;replace Bl2:=Blk.cellsO (c:=gl) (g:=g9) (by omega) cs5.toArray.toList (KN*5) _ Bl2;replace HFr:Hid (∀ b F,b<N1→b≠ga→b≠gl→Blk w b F→Blk (w9.setCells g9 (KN*5) cs5.toArray.toList) b F):=fun b F h1 h2 h3 h4=>Blk.cellsO (by omega) _ _ _ (HFr.out b F h1 h2 h3 h4);replace bel:Below B w (w9.setCells g9 (KN*5) cs5.toArray.toList):=Zcb (by omega) _ _ _ bel;replace hN:N1≤(w9.setCells g9 (KN*5) cs5.toArray.toList).heap.size:=Nat.le_trans hN (Zcb (B:=0) (Nat.zero_le _) cs5.toArray.toList (KN*5) w9 (Below.refl 0 w9)).size;clear HD5 HTh;generalize (w9.setCells g9 (KN*5) cs5.toArray.toList)=z10 at *;refine wpAnyH_ready (rs:=[12]) (by kernel_rfl) (by simp) ?_;refine AllReadyH.cons rfl (fun K hK=>?_) ?_
       ·have e4:=Bl2.cell 4 _ rfl
        have l4:=Bl2.lt;have f4:=Bl2.frozen 4;go_simp;refine hK.out _ _ ?_ (fun hHeld2=>?_)
        ·exact KT1.out _
        ·clear hK K
         try clear hHeld
         have hHeld:=hHeld2;clear hHeld2;clear e4 l4 f4;replace Bl2:Blk (z10.setCell ⟨gl,4,none⟩ (Value.slice (some ⟨g9,0,none⟩) K9 cap9)) gl [.int .i64 0,.int .i64 16,.bool true,.slice none 0 0,Value.slice (some ⟨g9,0,none⟩) K9 cap9]:=Bl2.set 4 _;replace HR9:Hid (RwT (z10.setCell ⟨gl,4,none⟩ (Value.slice (some ⟨g9,0,none⟩) K9 cap9)) N1 (Value.slice (some ⟨g9,0,none⟩) K9 cap9) (Ts++[exT s must (wrB T)])):=HR9.out.cell (by omega);replace Ba:=Ba.other ⟨gl,4,none⟩ (Value.slice (some ⟨g9,0,none⟩) K9 cap9) (by show _≠gl;omega);replace HFr:Hid (∀ b F,b<N1→b≠ga→b≠gl→Blk w b F→Blk (z10.setCell ⟨gl,4,none⟩ (Value.slice (some ⟨g9,0,none⟩) K9 cap9)) b F):=fun b F h1 h2 h3 h4=>(HFr.out b F h1 h2 h3 h4).other _ _ (by show b≠gl;omega);replace bel:Below B w (z10.setCell ⟨gl,4,none⟩ (Value.slice (some ⟨g9,0,none⟩) K9 cap9)):=bel.setCell (by show _≤gl;omega) _;replace hN:N1≤(z10.setCell ⟨gl,4,none⟩ (Value.slice (some ⟨g9,0,none⟩) K9 cap9)).heap.size:=Nat.le_trans hN ((Below.refl 0 z10).setCell (Nat.zero_le _) (Value.slice (some ⟨g9,0,none⟩) K9 cap9)).size;refine wpAnyH_done (by kernel_rfl) ?_ _;refine NoPanic.normal ?_
         try clear hHeld
         go_wp2_with fail
         first|refine bodyPost_ret (results_none rfl _ _ _) rfl ?_|refine bodyPost_end (results_none rfl _ _ _) rfl ?_
         have e1:=HK9.out;have e2:=HKN.out;subst e1;subst e2;exact ⟨rfl,bel,hN,HFr.out,.inr ⟨_,_,_,(by rw[HO.out];exact ZfA HWz.out),Ba,Bl2,HR9.out⟩⟩
       exact AllReadyH.nil
     refine AllReadyH.cons rfl (fun K hK=>?_) ?_
     ·have e4:=Bl2.cell 4 _ rfl
      have l4:=Bl2.lt;have f4:=Bl2.frozen 4;go_simp;refine hK.out _ _ ?_ (fun hHeld2=>?_)
      ·exact KT1.out _
      ·clear hK K
       try clear hHeld
       have hHeld:=hHeld2;clear hHeld2;clear e4 l4 f4;replace Bl2:Blk (w9.setCell ⟨gl,4,none⟩ (Value.slice (some ⟨g9,0,none⟩) K9 cap9)) gl [.int .i64 0,.int .i64 16,.bool true,.slice none 0 0,Value.slice (some ⟨g9,0,none⟩) K9 cap9]:=Bl2.set 4 _;replace HR9:Hid (RwT (w9.setCell ⟨gl,4,none⟩ (Value.slice (some ⟨g9,0,none⟩) K9 cap9)) N1 (Value.slice (some ⟨g9,0,none⟩) K9 cap9) (Ts++[Tl.mk 0 0 false [] []])):=HR9.out.cell (by omega);replace Ba:=Ba.other ⟨gl,4,none⟩ (Value.slice (some ⟨g9,0,none⟩) K9 cap9) (by show _≠gl;omega);replace HFr:Hid (∀ b F,b<N1→b≠ga→b≠gl→Blk w b F→Blk (w9.setCell ⟨gl,4,none⟩ (Value.slice (some ⟨g9,0,none⟩) K9 cap9)) b F):=fun b F h1 h2 h3 h4=>(HFr.out b F h1 h2 h3 h4).other _ _ (by show b≠gl;omega);replace bel:Below B w (w9.setCell ⟨gl,4,none⟩ (Value.slice (some ⟨g9,0,none⟩) K9 cap9)):=bel.setCell (by show _≤gl;omega) _;replace hN:N1≤(w9.setCell ⟨gl,4,none⟩ (Value.slice (some ⟨g9,0,none⟩) K9 cap9)).heap.size:=Nat.le_trans hN ((Below.refl 0 w9).setCell (Nat.zero_le _) (Value.slice (some ⟨g9,0,none⟩) K9 cap9)).size;replace HD5:Hid (Dep (fun g=>N1≤g∧g≠g9) (w9.setCell ⟨gl,4,none⟩ (Value.slice (some ⟨g9,0,none⟩) K9 cap9)) (exT s must (wrB T)) cs5):=HD5.out.next ((Agr.refl _ _).cell (fun h=>by have:=h.1;omega)) (fun _ h _=>h);replace HTh:Hid ((w9.setCell ⟨gl,4,none⟩ (Value.slice (some ⟨g9,0,none⟩) K9 cap9)).there g9 (KN*5) 5):=by have h:=HR9.out;have e1:=HK9.out;have e2:=HKN.out;subst e1;subst e2;exact RwT.thereOf h
       generalize (w9.setCell ⟨gl,4,none⟩ (Value.slice (some ⟨g9,0,none⟩) K9 cap9))=z12 at *;refine wpAnyH_ready (rs:=[10]) (by kernel_rfl) (by simp) ?_;refine AllReadyH.cons rfl (fun K hK=>?_) ?_
       ·have HSc:Hid (cs5.toArray.size=5):=by show _=_;rw[List.size_toArray];exact HL5.out
        rw[if_pos (by rfl)];refine wp_store_mid 57 _ _ rfl g9 (KN*5) cs5.toArray rfl rfl (by rw[HSc.out];exact HTh.out) (by rw[Zab,HSc.out]) HO5.out ?_;refine hK.out _ _ ?_ (fun hHeld2=>?_)
        ·exact KT1.out _
        ·clear hK K
         try clear hHeld
         have hHeld:=hHeld2;clear hHeld2;clear HSc;replace HR9:Hid (RwT (z12.setCells g9 (KN*5) cs5.toArray.toList) N1 (Value.slice (some ⟨g9,0,none⟩) K9 cap9) (Ts++[exT s must (wrB T)])):=by have h:=HR9.out;have e1:=HK9.out;have e2:=HKN.out;subst e1;subst e2;exact RwT.put h HL5.out HD5.out
         replace Ba:Blk (z12.setCells g9 (KN*5) cs5.toArray.toList) ga [er]:=Blk.cellsO (by omega) _ _ _ Ba;replace Bl2:=Blk.cellsO (c:=gl) (g:=g9) (by omega) cs5.toArray.toList (KN*5) _ Bl2;replace HFr:Hid (∀ b F,b<N1→b≠ga→b≠gl→Blk w b F→Blk (z12.setCells g9 (KN*5) cs5.toArray.toList) b F):=fun b F h1 h2 h3 h4=>Blk.cellsO (by omega) _ _ _ (HFr.out b F h1 h2 h3 h4);replace bel:Below B w (z12.setCells g9 (KN*5) cs5.toArray.toList):=Zcb (by omega) _ _ _ bel;replace hN:N1≤(z12.setCells g9 (KN*5) cs5.toArray.toList).heap.size:=Nat.le_trans hN (Zcb (B:=0) (Nat.zero_le _) cs5.toArray.toList (KN*5) z12 (Below.refl 0 z12)).size;clear HD5 HTh;refine wpAnyH_done (by kernel_rfl) ?_ _;refine NoPanic.normal ?_
         try clear hHeld
         go_wp2_with fail
         first|refine bodyPost_ret (results_none rfl _ _ _) rfl ?_|refine bodyPost_end (results_none rfl _ _ _) rfl ?_
         have e1:=HK9.out;have e2:=HKN.out;subst e1;subst e2;exact ⟨rfl,bel,hN,HFr.out,.inr ⟨_,_,_,(by rw[HO.out];exact ZfA HWz.out),Ba,Bl2,HR9.out⟩⟩
       exact AllReadyH.nil
     exact AllReadyH.nil
   exact AllReadyH.nil
end Go.Proofs.YtdfmoghjimghhaaGreatDoor
