/- The laws of layer 13: what errors there are. The law's encoded. -/
import Derived.Test.YtnkipgbnnhahbaaPmSmall
import Derived.Test.YtnkipgbnnhahbaaMfElt
import Derived.Test.YtnkipgbnnhahbaaRwS
import Derived.Test.YtnkipgbnnhahbaaRdSpec
import Derived.Test.YtnkipgbnnhahbaaDrWrite
import Derived.Test.YtnkipgbnnhahbaaMfFits
import Derived.Test.YtnkipgbnnhahbaaClOpt
import Derived.Test.YtnkipgbnnhahbaaRwT
import Derived.Test.YtnkipgbnnhahbaaDrDep
import Derived.Test.YtnkipgbnnhahbaaRows
import Derived.Deep.WholeRow
import Derived.Deep.RegionHeld3
import Derived.Deep.DeepCutAuto
import Derived.Deep.DeepFit
import Derived.Deep.OwnRows
import Derived.Deep.AppendLies
import Derived.Great.BuildSlice
import Derived.Laws.Rows
import Derived.BigQuiet
namespace Go.Proofs.Ytnkipgbnnhahbaa
open Go.RowKit
theorem numOf_good {B n:List Int} (b:byt B) (h:numOf B=.ok n):byt n∧n.length≤65∧byt (lessZ B):=by
 have hl:byt (lessZ B):=by rw [lessZ_drop];exact byt_dropM b _
 unfold numOf at h
 by_cases c:64 < (lessZ B).length
 ·rw [if_pos c] at h;cases h
 ·rw [if_neg c] at h
  by_cases d:(lessZ B).length=0∨127 < (lessZ B).getD 0 0
  ·rw [if_pos d] at h
   cases h
   refine ⟨fun j=>?_,by rw [List.length_cons];omega,hl⟩
   cases j with
   | zero=>rw [List.getD_cons_zero];omega
   | succ j=>rw [List.getD_cons_succ];exact hl j
  ·rw [if_neg d] at h
   cases h
   exact ⟨hl,by omega,hl⟩
theorem smallOf_good {x:Int} {n:List Int} (h:smallOf x=.ok n):byt n∧n.length≤65:=by
 unfold smallOf at h
 split at h
 ·cases h
 ·have:=numOf_good (digF_byt 4 _ _ (fun j=>by simp)) h
  exact ⟨this.1,this.2.1⟩
theorem wf_leaf20 {t:Int} {b:List Int} (ht:0≤t∧t≤1000) (h:byt b):WfT (.mk 0 t false b []):=by
 rw [WfT]
 exact ⟨by omega,by omega,h,by rw [WfL];trivial⟩
theorem small_err20 {x:Int} {c:Nat} (h:smallOf x=.error c):¬ (c:Int)=0:=by
 unfold smallOf at h
 split at h
 ·cases h;decide
 ·unfold numOf at h
  split at h
  ·cases h;decide
  ·split at h<;>cases h
theorem wf_sml20 {n:Int} (h:∃ T,smlT n=some T):WfT (orT (smlT n)):=by
 obtain ⟨T,hT⟩:=h
 obtain ⟨b,e,rfl⟩:=smlT_some hT
 rw [hT]
 exact wf_leaf20 (by omega) (smallOf_good e).1
theorem mf_byt {m:Mf} (wf:WfM m) (h:MayM m):byt (bytesT (mfT m)):=by
 refine bytesT_byt (fd_mf h).1 ?_
 obtain ⟨h0,h1,h2,h3,-⟩:=h
 unfold mfT listT
 rw [WfT]
 refine ⟨by omega,by omega,fun j=>by simp,?_⟩
 simp only [WfL]
 exact ⟨wf_sml20 h0,wf_sml20 h1,wf_sml20 h2,wf_sml20 h3,wf_leaf20 (by omega) wf.2.1,wf_leaf20 (by omega) wf.2.2.1,wf_leaf20 (by omega) wf.2.2.2,trivial⟩
/-- a literal of three elements, one more each -/
theorem wpList_append_rws3 {ops:Array Oper} {rest:List Oper} {o:Oper} {a:Act} {w:World} {Q:Exit→Act→World→Prop} (hgd:o.guard=none) (s x:Operand)
  (ho:o.op=.call { callee:=.builtin .append,args:=#[s,x],argTypes:=#[40,40] })
  (S:Nat→Prop) (kv:Value) (Ts:List Tl) (hs:a.eval s=kv) (hr:RwS S w kv Ts) (g:Nat) (hx:a.eval x=.slice (some ⟨g,0,none⟩) 3 3) (cs:List Value) (B:Blk w g cs) (l5:cs.length=15) (ones:OneC cs)
  (Us:List Tl) (hU:Us.length=3) (hd:∀ i t,Us[i]?=some t→Dep (fun b=>S b∧kv.ownBlock≠some b) w t ((cs.drop (5 * i)).take 5)) (hn:Ts.length≤1000000)
  (h:∀ kv' w',RwS S w' kv' (Ts++Us)→w.grownBy w' kv.ownBlock→(kv'.ownBlock=kv.ownBlock∨kv'.ownBlock=some w.heap.size)→wpList Try.prog ops Q rest (a.put o.dst kv') w') :
  wpList Try.prog ops Q (o :: rest) a w:=by
 obtain ⟨xs,h1,h2⟩:=hr
 obtain ⟨jt,hjt,ht0,ht1,ht2⟩:=info_partsD info_tlv
 refine wpList_append_lies _ hgd s x _ ho 0 42 jt _ 5 72 Try.underlying40 hjt ht0 ht1 ht2 rfl (by omega) kv Ts.length xs hs h1 ⟨g,0,none⟩ 3 3 cs hx l5 ?_ (fun u hu=>(Array.all_eq_true_iff_forall_mem.1 ones) u (by simpa using hu)) (by omega) (by unfold maxLen;omega) (by omega) (Nat.zero_le _) w.heap.size rfl ?_
 ·intro j u hu
  rw [Addr.add_mid,Nat.zero_add]
  exact B.cell j u hu
 ·intro g' cap1 w' hown hgrow hat hlt
  have hl:xs.length=Ts.length * 5:=h1.1
  refine h _ w' ⟨xs++cs,by rw [List.length_append,hU];exact hown,fun i t ht=>?_⟩ hgrow (by rcases hat with e|e;exact .inl (by rw [e];rfl);exact .inr (by rw [← e];rfl))
  have hag:Agr (fun b=>S b∧kv.ownBlock≠some b) w w':=Agr.grown hgrow (fun b hb=>hb.2)
  have hS:∀ b,(S b∧kv.ownBlock≠some b)→b < w.heap.size→(S b∧(Value.slice (some ⟨g',0,none⟩) (Ts.length + 3) cap1).ownBlock≠some b):=fun b hb hlb=>⟨hb.1,fun e=>by
   simp only [Value.ownBlock,Option.some.injEq] at e
   rcases hat with e2|e2
   ·exact hb.2 (by rw [e2,e])
   ·omega⟩
  by_cases hi:i < Ts.length
  ·rw [List.getElem?_append_left hi] at ht
   rw [List.drop_append_of_le_length (by omega),List.take_append_of_le_length (by rw [List.length_drop];omega)]
   exact (h2 i t ht).next hag hS
  ·rw [List.getElem?_append_right (by omega)] at ht
   have e:(xs++cs).drop (5 * i)=cs.drop (5 * (i - Ts.length)):=by
    rw [List.drop_append]
    rw [List.drop_of_length_le (by omega),List.nil_append,hl]
    congr 1
    omega
   rw [e]
   exact (hd _ t ht).next hag hS
/-- what encoded tells -/
def EcdR (w:World) (m:Mf) (e:Ending) (w':World):Prop:=Below w.heap.size w w'∧(¬ MayM m→e=.returned (.tuple #[.slice none 0 0,.int .i64 1]))∧(MayM m→∃ v:Value,e=.returned (.tuple #[v,.int .i64 0])∧Bs w' v (bytesT (mfT m)))
theorem EcdR.no {w w':World} {m:Mf} (h:¬ MayM m) (hb:Below w.heap.size w w'):EcdR w m (.returned (.tuple #[.slice none 0 0,.int .i64 1])) w':=⟨hb,fun _=>rfl,fun k=>absurd k h⟩
theorem EcdR.yes {w w':World} {m:Mf} {v:Value} (h:MayM m) (hv:Bs w' v (bytesT (mfT m))) (hb:Below w.heap.size w w'):EcdR w m (.returned (.tuple #[v,.int .i64 0])) w':=⟨hb,fun k=>absurd h k,fun _=>⟨v,rfl,hv⟩⟩
set_option linter.unusedSimpArgs false in
set_option maxRecDepth 100000 in
set_option maxHeartbeats 4000000 in
theorem con_encoded20 {m:Mf} {cs:List Value} {w:World} (h:MfAt w m cs) (wf:WfM m):Calls Try.prog 7 #[.agg cs.toArray] w (EcdR w m):=by
 have HWf:Hid (i64B m.ver∧i64B m.cls∧i64B m.ld∧i64B m.ln):=wf.1
 obtain ⟨na,nc,wa,wc,da,dc,⟨q0,q1,q2,q3⟩,⟨q4,q5,q6⟩,hN,hW,hD⟩:=h.open
 obtain ⟨NL,hNL⟩:∃ z,m.nonce.length=z:=⟨_,rfl⟩
 obtain ⟨WL,hWL⟩:∃ z,m.wrapped.length=z:=⟨_,rfl⟩
 obtain ⟨DL,hDL⟩:∃ z,m.digest.length=z:=⟨_,rfl⟩
 have HLn:Hid (m.nonce.length=NL∧m.wrapped.length=WL∧m.digest.length=DL):=⟨hNL,hWL,hDL⟩
 rw [hNL] at q4 hN
 rw [hWL] at q5 hW
 rw [hDL] at q6 hD
 have HBs:Hid (Bs w (.slice na NL nc) m.nonce∧Bs w (.slice wa WL wc) m.wrapped∧Bs w (.slice da DL dc) m.digest):=⟨hN,hW,hD⟩
 obtain ⟨ver,hver⟩:∃ z,m.ver=z:=⟨_,rfl⟩
 obtain ⟨cls,hcls⟩:∃ z,m.cls=z:=⟨_,rfl⟩
 obtain ⟨ldn,hldn⟩:∃ z,m.ld=z:=⟨_,rfl⟩
 obtain ⟨lnn,hlnn⟩:∃ z,m.ln=z:=⟨_,rfl⟩
 have HNs:Hid (numsM m=[ver,cls,ldn,lnn]):=by show _=_;unfold numsM;rw [hver,hcls,hldn,hlnn]
 have HWn:Hid (∀ i x,(numsM m)[i]?=some x→i64B x):=fun i x hx=>nums_wf HWf.out hx
 rw [hver] at q0
 rw [hcls] at q1
 rw [hldn] at q2
 rw [hlnn] at q3
 have HQ:Hid ((cs[0]?=some (.int .i64 ver)∧cs[1]?=some (.int .i64 cls)∧cs[2]?=some (.int .i64 ldn)∧cs[3]?=some (.int .i64 lnn))∧cs[4]?=some (.slice na NL nc)∧cs[5]?=some (.slice wa WL wc)∧cs[6]?=some (.slice da DL dc)):=⟨⟨q0,q1,q2,q3⟩,q4,q5,q6⟩
 clear hN hW hD hNL hWL hDL q0 q1 q2 q3 q4 q5 q6 hver hcls hldn hlnn wf h
 have B0:=Blk.new w cs 24 w.heap.size rfl
 have bel:Below w.heap.size w (w.alloc (.cells cs.toArray 24)):=(Below.refl _ _).alloc (Nat.le_refl _) _
 go_enter Try.func7,Try.ntmps7
 go_upto_region 1 with fail
 generalize w.alloc (.cells cs.toArray 24)=W at *
 obtain ⟨jt,hjt,ht0,ht1,ht2⟩:=info_partsD info_tlv

 have e0:=B0.cell 0 _ HQ.out.1.1
 have e1:=B0.cell 1 _ HQ.out.1.2.1
 have e2:=B0.cell 2 _ HQ.out.1.2.2.1
 have e3:=B0.cell 3 _ HQ.out.1.2.2.2
 have l0:=B0.lt
 have Bl:=Blk.new W [.int .i64 ver,.int .i64 cls,.int .i64 ldn,.int .i64 lnn] 3 W.heap.size rfl
 replace B0:=B0.alloc (.cells #[.int .i64 ver,.int .i64 cls,.int .i64 ldn,.int .i64 lnn] 3)
 replace bel:=below_alloc (o:=.cells #[.int .i64 ver,.int .i64 cls,.int .i64 ldn,.int .i64 lnn] 3) bel
 go_upto_region 2 with fail
 clear e0 e1 e2 e3
 obtain ⟨gl,hgl⟩:∃ g,g=W.heap.size:=⟨_,rfl⟩
 rw [← hgl] at Bl l0 ⊢
 have lt3:gl < (W.alloc (.cells #[.int .i64 ver,.int .i64 cls,.int .i64 ldn,.int .i64 lnn] 3)).heap.size:=Bl.lt
 generalize W.alloc (.cells #[.int .i64 ver,.int .i64 cls,.int .i64 ldn,.int .i64 lnn] 3)=V2 at *
 clear hgl
 obtain ⟨N1,hN1⟩:∃ n,n=V2.heap.size:=⟨_,rfl⟩
 rw [← hN1] at lt3
 have hs1:N1≤V2.heap.size:=by omega
 clear hN1
 have HLt:Hid (w.heap.size < gl∧gl < N1):=⟨l0,lt3⟩
 clear l0 lt3
 go_wp2_with fail
 go_loopw [5,6] (fun lv iv wx=>∃ (i:Nat) (ka:Option Addr) (kc:Nat),i≤4∧lv=.slice ka i kc∧iv=.int .i64 (i:Int)∧Hid (RwS (fun _=>True) wx (.slice ka i kc) ((kidsM m).take i))∧Hid (∀ g,(Value.slice ka i kc).ownBlock=some g→N1≤g)∧Hid (∀ j x,j < i→(numsM m)[j]?=some x→∃ T,smlT x=some T)∧Blk wx gl [.int .i64 ver,.int .i64 cls,.int .i64 ldn,.int .i64 lnn]∧Blk wx w.heap.size cs∧Below w.heap.size w wx∧N1≤wx.heap.size) (fun _ iv _=>4 - (intOf iv).toNat)
 case atStart=>exact ⟨0,none,0,by omega,rfl,rfl,by rw [List.take_zero];exact RwS.nil0 _,fun g hg=>by simp [Value.ownBlock] at hg,fun j x hj=>absurd hj (by omega),Bl,B0,bel,hs1⟩
 case round =>
  clear Bl B0 bel hs1
  obtain ⟨i,ka,kc,hi,rfl,rfl,HR,HOw,HA,Bl,B0,bel,hs1⟩:=hrel
  have HLi:Hid (((kidsM m).take i).length=i):=by show _=_;rw [List.length_take];unfold kidsM;simp;omega
  by_cases hil:i < 4
  rotate_left
  ·obtain rfl:i=4:=by omega
   clear hil hi HLi Bl
   have g1:¬ ((4:Nat):Int) < 4:=by omega
   have e4:=B0.cell 4 _ HQ.out.2.1
   have e5:=B0.cell 5 _ HQ.out.2.2.1
   have e6:=B0.cell 6 _ HQ.out.2.2.2
   have l0:=B0.lt
   by_cases k0:NL=12
   rotate_left
   ·have H:Hid (¬ MayM m):=fun h=>k0 (by rw [← HLn.out.1];exact h.2.2.2.2.1)
    have d1:((NL:Int) == 12)=false:=by rw [beq_eq_false_iff_ne];omega
    have d2:((NL:Int) != 12)=true:=by rw [bne,d1];rfl
    clear k0 HR HOw HA
    go_wp2_with fail
    refine bodyPost_ret (results_tmp2 rfl _ _ _) rfl ?_
    exact EcdR.no H.out bel
   have d3:((NL:Int) != 12)=false:=by rw [k0];rfl
   by_cases k1:WL=145
   rotate_left
   ·have H:Hid (¬ MayM m):=fun h=>k1 (by rw [← HLn.out.2.1];exact h.2.2.2.2.2.1)
    have d1:((WL:Int) == 145)=false:=by rw [beq_eq_false_iff_ne];omega
    have d2:((WL:Int) != 145)=true:=by rw [bne,d1];rfl
    clear k1 HR HOw HA
    go_wp2_with fail
    refine bodyPost_ret (results_tmp2 rfl _ _ _) rfl ?_
    exact EcdR.no H.out bel
   have d4:((WL:Int) != 145)=false:=by rw [k1];rfl
   by_cases k2:DL=48
   rotate_left
   ·have H:Hid (¬ MayM m):=fun h=>k2 (by rw [← HLn.out.2.2];exact h.2.2.2.2.2.2)
    have d1:((DL:Int) == 48)=false:=by rw [beq_eq_false_iff_ne];omega
    have d2:((DL:Int) != 48)=true:=by rw [bne,d1];rfl
    clear k2 HR HOw HA
    go_wp2_with fail
    refine bodyPost_ret (results_tmp2 rfl _ _ _) rfl ?_
    exact EcdR.no H.out bel
   have d5:((DL:Int) != 48)=false:=by rw [k2];rfl
   have HLs:Hid (lensM m):=⟨by rw [HLn.out.1];exact k0,by rw [HLn.out.2.1];exact k1,by rw [HLn.out.2.2];exact k2⟩
   clear k0 k1 k2
   have H:Hid (MayM m):=may_all HA.out HLs.out
   clear HA
   have HF9:Hid _:=fill_15 (c0:=[.int .i64 0,.int .i64 4,.bool false,.slice na NL nc,.slice none 0 0]) (c1:=[.int .i64 0,.int .i64 4,.bool false,.slice wa WL wc,.slice none 0 0]) (c2:=[.int .i64 0,.int .i64 4,.bool false,.slice da DL dc,.slice none 0 0]) rfl rfl rfl
   have B9:=Blk.new wr (([.int .i64 0,.int .i64 4,.bool false,.slice na NL nc,.slice none 0 0]:List Value)++(([.int .i64 0,.int .i64 4,.bool false,.slice wa WL wc,.slice none 0 0]:List Value)++(([.int .i64 0,.int .i64 4,.bool false,.slice da DL dc,.slice none 0 0]:List Value)++[]))) 42 wr.heap.size rfl
   have st9:Below wr.heap.size wr (wr.alloc (.cells ((([.int .i64 0,.int .i64 4,.bool false,.slice na NL nc,.slice none 0 0]:List Value)++(([.int .i64 0,.int .i64 4,.bool false,.slice wa WL wc,.slice none 0 0]:List Value)++(([.int .i64 0,.int .i64 4,.bool false,.slice da DL dc,.slice none 0 0]:List Value)++[])))).toArray 42)):=(Below.refl _ _).alloc (Nat.le_refl _) _
   have hK:∀ (i:Nat) (t:Tl),[bytT m.nonce,bytT m.wrapped,bytT m.digest][i]?=some t→Dep (fun b=>True∧(Value.slice ka 4 kc).ownBlock≠some b) wr t ((((([.int .i64 0,.int .i64 4,.bool false,.slice na NL nc,.slice none 0 0]:List Value)++(([.int .i64 0,.int .i64 4,.bool false,.slice wa WL wc,.slice none 0 0]:List Value)++(([.int .i64 0,.int .i64 4,.bool false,.slice da DL dc,.slice none 0 0]:List Value)++[])))).drop (5 * i)).take 5):=kc_c (P:=fun t cs=>Dep (fun b=>True∧(Value.slice ka 4 kc).ownBlock≠some b) wr t cs) (leaf_S (S:=fun b=>True∧(Value.slice ka 4 kc).ownBlock≠some b) (HBs.out.1.later bel) (fun a m c e hm=>⟨trivial,fun e2=>by have h1:=bs_ltM HBs.out.1 a m c e hm;have h2:=HOw.out _ e2;have h3:=HLt.out;omega⟩) 0 4 false) rfl (kc_c (P:=fun t cs=>Dep (fun b=>True∧(Value.slice ka 4 kc).ownBlock≠some b) wr t cs) (leaf_S (S:=fun b=>True∧(Value.slice ka 4 kc).ownBlock≠some b) (HBs.out.2.1.later bel) (fun a m c e hm=>⟨trivial,fun e2=>by have h1:=bs_ltM HBs.out.2.1 a m c e hm;have h2:=HOw.out _ e2;have h3:=HLt.out;omega⟩) 0 4 false) rfl (kc_c (P:=fun t cs=>Dep (fun b=>True∧(Value.slice ka 4 kc).ownBlock≠some b) wr t cs) (leaf_S (S:=fun b=>True∧(Value.slice ka 4 kc).ownBlock≠some b) (HBs.out.2.2.later bel) (fun a m c e hm=>⟨trivial,fun e2=>by have h1:=bs_ltM HBs.out.2.2 a m c e hm;have h2:=HOw.out _ e2;have h3:=HLt.out;omega⟩) 0 4 false) rfl kc_n))
   have HD9:Hid (∀ (i:Nat) (t:Tl),[bytT m.nonce,bytT m.wrapped,bytT m.digest][i]?=some t→Dep (fun b=>True∧(Value.slice ka 4 kc).ownBlock≠some b) (wr.alloc (.cells ((([.int .i64 0,.int .i64 4,.bool false,.slice na NL nc,.slice none 0 0]:List Value)++(([.int .i64 0,.int .i64 4,.bool false,.slice wa WL wc,.slice none 0 0]:List Value)++(([.int .i64 0,.int .i64 4,.bool false,.slice da DL dc,.slice none 0 0]:List Value)++[])))).toArray 42)) t ((((([.int .i64 0,.int .i64 4,.bool false,.slice na NL nc,.slice none 0 0]:List Value)++(([.int .i64 0,.int .i64 4,.bool false,.slice wa WL wc,.slice none 0 0]:List Value)++(([.int .i64 0,.int .i64 4,.bool false,.slice da DL dc,.slice none 0 0]:List Value)++[])))).drop (5 * i)).take 5)):=fun i t h=>(hK i t h).next (Agr.below st9) (fun _ h _=>h)
   clear hK
   have HR9:Hid (RwS (fun _=>True) (wr.alloc (.cells ((([.int .i64 0,.int .i64 4,.bool false,.slice na NL nc,.slice none 0 0]:List Value)++(([.int .i64 0,.int .i64 4,.bool false,.slice wa WL wc,.slice none 0 0]:List Value)++(([.int .i64 0,.int .i64 4,.bool false,.slice da DL dc,.slice none 0 0]:List Value)++[])))).toArray 42)) (.slice ka 4 kc) ((kidsM m).take 4)):=HR.out.later st9
   replace bel:=below_step bel st9
   have hsz9:N1≤((wr.alloc (.cells ((([.int .i64 0,.int .i64 4,.bool false,.slice na NL nc,.slice none 0 0]:List Value)++(([.int .i64 0,.int .i64 4,.bool false,.slice wa WL wc,.slice none 0 0]:List Value)++(([.int .i64 0,.int .i64 4,.bool false,.slice da DL dc,.slice none 0 0]:List Value)++[])))).toArray 42))).heap.size:=Nat.le_trans hs1 st9.size
   have hz:=zero_tlv.out
   have HX15:Hid (((([.int .i64 0,.int .i64 4,.bool false,.slice na NL nc,.slice none 0 0]:List Value)++(([.int .i64 0,.int .i64 4,.bool false,.slice wa WL wc,.slice none 0 0]:List Value)++(([.int .i64 0,.int .i64 4,.bool false,.slice da DL dc,.slice none 0 0]:List Value)++[])))).length=15):=rfl

   go_wp2_with (first|((with_reducible show wpList _ _ _ ({ dst:=_,op:=.buildSlice _ _ _,type:=_,pos:=_,after:=_,guard:=_ } :: _) _ _);refine Go.wpList_buildSlice rfl 40 42 3 _ rfl ((([.int .i64 0,.int .i64 4,.bool false,.slice na NL nc,.slice none 0 0]:List Value)++(([.int .i64 0,.int .i64 4,.bool false,.slice wa WL wc,.slice none 0 0]:List Value)++(([.int .i64 0,.int .i64 4,.bool false,.slice da DL dc,.slice none 0 0]:List Value)++[])))).toArray jt _ Try.underlying40 hjt ht0 (by rw [ht1];decide) (by rw [ht1];decide) (by rw [ht1];refine (congrArg _ (?_:_=[(0,Value.agg #[.int .i64 0,.int .i64 4,.bool false,.slice na NL nc,.slice none 0 0]),(1,.agg #[.int .i64 0,.int .i64 4,.bool false,.slice wa WL wc,.slice none 0 0]),(2,.agg #[.int .i64 0,.int .i64 4,.bool false,.slice da DL dc,.slice none 0 0])])).trans HF9.out;kernel_rfl) ?_)|(at_builtin;refine wpList_append_rws3 (by rfl) _ _ (by rfl) (fun _=>True) (Value.slice ka 4 kc) ((kidsM m).take 4) (by rfl) HR9.out wr.heap.size (by rfl) (([.int .i64 0,.int .i64 4,.bool false,.slice na NL nc,.slice none 0 0]:List Value)++(([.int .i64 0,.int .i64 4,.bool false,.slice wa WL wc,.slice none 0 0]:List Value)++(([.int .i64 0,.int .i64 4,.bool false,.slice da DL dc,.slice none 0 0]:List Value)++[]))) B9 rfl (by simp [OneC,Value.oneCell']) [bytT m.nonce,bytT m.wrapped,bytT m.digest] rfl HD9.out (by rw [List.length_take];unfold kidsM;simp) ?_;intro kv9 w9 hr9 hgrow9 hat9;obtain ⟨ka9,kc9,hkv9⟩:=hr9.sl;replace hkv9:kv9=Value.slice ka9 7 kc9:=hkv9;subst hkv9)|fail)
   clear hz HF9 g1 d3 d4 d5 e4 e5 e6 l0
   have hzb:=bel.size
   replace bel:=Below.grown bel hgrow9 hzb (fun k hk=>by have:=HOw.out k hk;have:=HLt.out;omega)
   have HD:Hid (Dep (fun _=>True) w9 (mfT m) [.int .i64 0,.int .i64 16,.bool true,.slice none 0 0,.slice ka9 7 kc9]):=by
    have h:=hr9.dep (S':=fun _=>True) 0 16 true (fun b h=>trivial) (fun g hg=>trivial)
    exact h
   clear hgrow9 hat9 hr9 HR9 HD9 B9 hsz9 hzb HR HOw B0
   refine r16_List.mono ?_
   rintro e w10 ⟨rfl,hb⟩
   replace HD:Hid (Dep (fun _=>True) w10 (mfT m) [.int .i64 0,.int .i64 16,.bool true,.slice none 0 0,.slice ka9 7 kc9]):=HD.out.next (Agr.below hb) (fun _ h _=>h)
   replace bel:=below_step bel hb
   clear hb
   have HZ:Hid (Sm 300 (mfT m)):=sm_mf H.out.2.2.2.2
   have HW0:Hid (wrN (mfT m)=0):=mf_wr H.out
   go_wp2_with fail
   refine (r12_Write (by have:=HZ.out.2;omega) (fun _=>by have:=HZ.out.1;omega) HD.out.now).mono ?_
   rintro e w11 ⟨bv,rfl,hw,-,hb⟩
   have HB:Hid (Bs w11 bv (bytesT (mfT m))):=Bs.of_own (hw HW0.out)
   rw [HW0.out]
   replace bel:=below_step bel hb
   clear hw hb HD
   go_wp2_with fail
   refine bodyPost_ret (results_tmp2 rfl _ _ _) rfl ?_
   exact EcdR.yes H.out HB.out bel
  obtain ⟨x,hx⟩:∃ x,(numsM m)[i]?=some x:=⟨_,List.getElem?_eq_getElem (by unfold numsM;simp;omega)⟩
  have HX:Hid ((numsM m)[i]?=some x):=hx
  have hxb:=HWn.out i x hx
  have ei:=Bl.cell i (.int .i64 x) (by rw [HNs.out] at hx;match i,hil,hx with|0,_,hx=>(cases hx;rfl)|1,_,hx=>(cases hx;rfl)|2,_,hx=>(cases hx;rfl)|3,_,hx=>(cases hx;rfl))
  have li:=Bl.lt
  clear hx
  have g1:(i:Int) < 4:=by omega
  have g2:(0:Int)≤(i:Int):=by omega
  have gi:IntKind.i64.wrap ((i:Int) + 1)=(i:Int) + 1:=by rw [IntKind.wrap_i64];omega
  go_wp2_with fail
  refine (r13_SmallOfN hxb).mono ?_
  rintro e w2 ⟨hok,hbad⟩
  clear ei li hxb
  cases ht:smallOf x with
  | error c =>
   obtain ⟨rfl,hb⟩:=hbad c ht
   have H:Hid (¬ MayM m):=fun h=>by obtain ⟨T,hT⟩:=may_num h HX.out;rw [smlT_no ht] at hT;cases hT
   replace bel:=below_step bel hb
   have hc:=small_err20 ht
   have d1:((c:Int) == 0)=false:=by rw [beq_eq_false_iff_ne];exact hc
   have d2:((c:Int) != 0)=true:=by rw [bne,d1];rfl
   clear hok hbad hb ht HR Bl B0 HOw HA hc
   go_wp2_with fail
   refine bodyPost_ret (results_tmp2 rfl _ _ _) rfl ?_
   exact EcdR.no H.out bel
  | ok X =>
   obtain ⟨v2,rfl,hv2,hn2,hb⟩:=hok X ht
   have HTm:Hid (smlT x=some (.mk 0 2 false X [])):=smlT_ok ht
   have HB2:Hid (Bs w2 v2 X):=hv2
   obtain ⟨M,hM⟩:∃ n,n=wr.heap.size:=⟨_,rfl⟩
   have HN2:Hid (∀ a m c,v2=.slice (some a) m c→0 < m→M≤a.block):=by rw [hM];exact hn2
   have HM:Hid (∀ b,(Value.slice ka i kc).ownBlock=some b→N1≤b∧b < M):=fun b h9=>⟨HOw.out b h9,by rw [hM];exact HR.out.lt h9⟩
   have hs:M≤w2.heap.size:=by rw [hM];exact hb.size
   have hNM:N1≤M:=by omega
   clear hM hok hbad ht hn2 HOw
   obtain ⟨va,vc,hv3,-,-,-⟩:=id hv2
   obtain ⟨L2,hL2⟩:∃ z,X.length=z:=⟨_,rfl⟩
   rw [hL2] at hv3
   subst hv3
   replace Bl:=Bl.later hb
   replace B0:=B0.later hb
   replace HR:Hid (RwS (fun _=>True) w2 (.slice ka i kc) ((kidsM m).take i)):=HR.out.later hb
   replace bel:=below_step bel hb
   clear hb hv2 hL2
   have HF9:Hid _:=fill_5 (cs:=[.int .i64 0,.int .i64 2,.bool false,.slice va L2 vc,.slice none 0 0]) rfl
   have B9:=Blk.new w2 [.int .i64 0,.int .i64 2,.bool false,.slice va L2 vc,.slice none 0 0] 42 w2.heap.size rfl
   have st9:Below w2.heap.size w2 (w2.alloc (.cells #[.int .i64 0,.int .i64 2,.bool false,.slice va L2 vc,.slice none 0 0] 42)):=(Below.refl _ _).alloc (Nat.le_refl _) _
   have HD9:Hid (Dep (fun b=>True∧(Value.slice ka i kc).ownBlock≠some b) (w2.alloc (.cells #[.int .i64 0,.int .i64 2,.bool false,.slice va L2 vc,.slice none 0 0] 42)) (Tl.mk 0 2 false X []) [.int .i64 0,.int .i64 2,.bool false,.slice va L2 vc,.slice none 0 0]):=(leaf_S (S:=fun b=>True∧(Value.slice ka i kc).ownBlock≠some b) HB2.out (fun a m c e hm=>⟨trivial,fun e2=>by have h1:=HN2.out a m c e hm;have h2:=(HM.out _ e2).2;omega⟩) 0 2 false).next (Agr.below st9) (fun _ h _=>h)
   have HR9:Hid (RwS (fun _=>True) (w2.alloc (.cells #[.int .i64 0,.int .i64 2,.bool false,.slice va L2 vc,.slice none 0 0] 42)) (.slice ka i kc) ((kidsM m).take i)):=HR.out.later st9
   replace Bl:=Bl.later st9
   replace B0:=B0.later st9
   replace bel:=below_step bel st9
   have hsz9:M≤((w2.alloc (.cells #[.int .i64 0,.int .i64 2,.bool false,.slice va L2 vc,.slice none 0 0] 42))).heap.size:=Nat.le_trans hs st9.size
   have hz:=zero_tlv.out
   have d1:((0:Int) != 0)=false:=rfl
   go_wp2_with (first|((with_reducible show wpList _ _ _ ({ dst:=_,op:=.buildSlice _ _ _,type:=_,pos:=_,after:=_,guard:=_ } :: _) _ _);refine Go.wpList_buildSlice rfl 40 42 1 _ rfl #[.int .i64 0,.int .i64 2,.bool false,.slice va L2 vc,.slice none 0 0] jt _ Try.underlying40 hjt ht0 (by rw [ht1];decide) (by rw [ht1];decide) (by rw [ht1];refine (congrArg _ (?_:_=[(0,Value.agg #[.int .i64 0,.int .i64 2,.bool false,.slice va L2 vc,.slice none 0 0])])).trans HF9.out;kernel_rfl) ?_)|(at_builtin;refine wpList_append_rws (by rfl) _ _ (by rfl) (fun _=>True) (Value.slice ka i kc) ((kidsM m).take i) (by rfl) HR9.out w2.heap.size (by rfl) [.int .i64 0,.int .i64 2,.bool false,.slice va L2 vc,.slice none 0 0] B9 rfl (by simp [OneC,Value.oneCell']) (Tl.mk 0 2 false X []) HD9.out (by rw [HLi.out];omega) ?_;intro kv9 w9 hr9 hgrow9 hat9;obtain ⟨ka9,kc9,hkv9⟩:=hr9.sl;replace hkv9:kv9=Value.slice ka9 (i + 1) kc9:=(by rw [hkv9,List.length_append,HLi.out];rfl);subst hkv9)|fail)
   clear hz HF9
   have hzb:=bel.size
   have hge9:∀ k,(Value.slice ka i kc).ownBlock=some k→N1≤k:=fun k hk=>(HM.out k hk).1
   have hlt9:=HLt.out
   replace Bl:=Bl.grown hgrow9 (fun k hk e=>by have:=hge9 k hk;omega)
   replace B0:=B0.grown hgrow9 (fun k hk e=>by have:=hge9 k hk;omega)
   replace bel:=Below.grown bel hgrow9 hzb (fun k hk=>by have:=hge9 k hk;omega)
   have HOw:Hid (∀ g,(Value.slice ka9 (i + 1) kc9).ownBlock=some g→N1≤g):=fun g hg=>by
    rcases hat9 with h|h
    ·rw [h] at hg
     exact hge9 g hg
    ·rw [h] at hg
     simp only [Option.some.injEq] at hg
     omega
   have hs9:N1≤w9.heap.size:=Nat.le_trans (by omega) hgrow9.size
   have HNx:Hid (RwS (fun _=>True) w9 (Value.slice ka9 (i + 1) kc9) ((kidsM m).take (i + 1))):=by
    have h:=hr9
    rw [take_nextM (by rw [kidsM_num HX.out,HTm.out];rfl)] at h
    exact h
   have HAn:Hid (∀ j x,j < i + 1→(numsM m)[j]?=some x→∃ T,smlT x=some T):=fun j y hj hy=>by
    by_cases e:j < i
    ·exact HA.out j y e hy
    ·obtain rfl:j=i:=by omega
     rw [HX.out] at hy
     cases hy
     exact ⟨_,HTm.out⟩
   clear hgrow9 hge9 hat9 hr9 HR9 HD9 B9 hsz9 hzb
   go_roundw
   case rel=>exact ⟨i + 1,ka9,kc9,by omega,by go_num,by go_num,HNx,HOw,HAn,Bl,B0,bel,hs9⟩
   case measure=>simp [intOf];omega
end Go.Proofs.Ytnkipgbnnhahbaa
