/- A row of elements that lean on what S says. A body's element: what the program answers. -/
import Derived.Test.YtohcdbifhnfcbaaGreatDoorDcG1
import Derived.Test.YtohcdbifhnfcbaaGreatDoorDrTG
import Derived.Test.YtohcdbifhnfcbaaGreatDoorDrDG
import Derived.Test.YtohcdbifhnfcbaaGreatDoorKrGone
import Derived.Test.YtohcdbifhnfcbaaGreatDoorClWr
import Derived.Test.YtohcdbifhnfcbaaGreatDoorNlSG
import Derived.Test.YtohcdbifhnfcbaaGreatDoorRows
import Derived.Deep.OwnRows
import Derived.Deep.AppendLies
import Derived.Great.BuildSlice
import Derived.Laws.Rows
import Derived.BigQuiet
import Derived.Deep.WholeRow
import Derived.Deep.RegionHeld3
import Derived.Deep.DeepCutAuto
import Derived.Deep.DeepFit
namespace Go.Proofs.YtohcdbifhnfcbaaGreatDoor
open Go.RowKit
/-- a row of elements; they lean on what S says, and not on the row itself -/
def RwS (S:Nat→Prop) (w:World) (kv:Value) (Ts:List Tl):Prop:=∃ xs:List Value,w.ownsRow 0 53 5 kv Ts.length xs∧∀ i t,Ts[i]?=some t→Dep (fun b=>S b∧kv.ownBlock≠some b) w t ((xs.drop (5 * i)).take 5)
theorem RwS.later {S:Nat→Prop} {w w':World} {kv:Value} {Ts:List Tl} (h:RwS S w kv Ts) (hb:Below w.heap.size w w'):RwS S w' kv Ts:=by
 obtain ⟨xs,h1,h2⟩:=h
 exact ⟨xs,own_agr (S:=fun _=>True) h1 (Agr.below hb) (fun _ _=>trivial),fun i t ht=>(h2 i t ht).next (Agr.below hb) (fun _ h _=>h)⟩
theorem RwS.mono {S S':Nat→Prop} {w:World} {kv:Value} {Ts:List Tl} (h:RwS S w kv Ts) (hS:∀ b,S b→b < w.heap.size→S' b):RwS S' w kv Ts:=by
 obtain ⟨xs,h1,h2⟩:=h
 exact ⟨xs,h1,fun i t ht=>(h2 i t ht).next (Agr.refl _ _) (fun b h hl=>⟨hS b h.1 hl,h.2⟩)⟩
theorem RwS.grown {S:Nat→Prop} {w w':World} {kv:Value} {Ts:List Tl} {row:Option Nat} (h:RwS S w kv Ts) (hg:w.grownBy w' row) (hr:∀ k,row=some k→¬ S k∧kv.ownBlock≠some k):RwS S w' kv Ts:=by
 obtain ⟨xs,h1,h2⟩:=h
 exact ⟨xs,own_agr (S:=fun b=>row≠some b) h1 (Agr.grown hg (fun b hb=>hb)) (fun g hg2 e=>(hr g e).2 hg2),fun i t ht=>(h2 i t ht).next (Agr.grown hg (fun b hb e=>(hr b e).1 hb.1)) (fun _ h _=>h)⟩
theorem RwS.row {S:Nat→Prop} {w:World} {c:Nat} {kv:Value} {Ts:List Tl} {X:Array Value} (h:RwS S w kv Ts) (hc:¬ S c) (ho:kv.ownBlock≠some c):RwS S (w.setRow c X) kv Ts:=by
 obtain ⟨xs,h1,h2⟩:=h
 exact ⟨xs,own_agr (S:=fun b=>b≠c) h1 ((Agr.refl _ _).row (by simp)) (fun g hg e=>ho (e ▸ hg)),fun i t ht=>(h2 i t ht).next ((Agr.refl _ _).row (fun h=>hc h.1)) (fun _ h _=>h)⟩
theorem RwS.cell {S:Nat→Prop} {w:World} {c k:Nat} {kv v:Value} {Ts:List Tl} (h:RwS S w kv Ts) (hc:¬ S c) (ho:kv.ownBlock≠some c):RwS S (w.setCell ⟨c,k,none⟩ v) kv Ts:=by
 obtain ⟨xs,h1,h2⟩:=h
 exact ⟨xs,own_agr (S:=fun b=>b≠c) h1 ((Agr.refl _ _).cell (by simp)) (fun g hg e=>ho (e ▸ hg)),fun i t ht=>(h2 i t ht).next ((Agr.refl _ _).cell (fun h=>hc h.1)) (fun _ h _=>h)⟩
theorem RwS.dep {S S':Nat→Prop} {w:World} {kv:Value} {Ts:List Tl} (h:RwS S w kv Ts) (c t:Int) (m:Bool) (hS:∀ b,S b→S' b) (hv:∀ g,kv.ownBlock=some g→S' g):Dep S' w (.mk c t m [] Ts) [.int .i64 c,.int .i64 t,.bool m,.slice none 0 0,kv]:=by
 obtain ⟨xs,h1,h2⟩:=h
 exact kids_own h1 h2 c t m (fun _ h=>hS _ h.1) hv
theorem RwS.sl {S:Nat→Prop} {w:World} {kv:Value} {Ts:List Tl} (h:RwS S w kv Ts):∃ ao cap,kv=.slice ao Ts.length cap:=by
 obtain ⟨xs,h1,_⟩:=h
 rcases h1.2 with ⟨e1,e2⟩|⟨g,cap,cur,e1,_⟩
 ·exact ⟨none,0,by rw [e1,e2]⟩
 ·exact ⟨_,cap,e1⟩
theorem RwS.lt {S:Nat→Prop} {w:World} {kv:Value} {Ts:List Tl} (h:RwS S w kv Ts) {b:Nat} (hb:kv.ownBlock=some b):b < w.heap.size:=by
 obtain ⟨xs,h1,_⟩:=h
 exact (own_geK h1 hb).2
/-- a literal -/
theorem RwS.lits {S:Nat→Prop} {w:World} {ks:List Tl} {xs:List Value} (hl:xs.length=ks.length * 5) (hm:ks.length≤maxLen) (hk:∀ i k,ks[i]?=some k→Dep S w k ((xs.drop (5 * i)).take 5)) :
  RwS S (w.alloc (.cells xs.toArray 53)) (.slice (some ⟨w.heap.size,0,none⟩) ks.length ks.length) ks:=by
 refine ⟨xs,⟨hl,.inr ⟨w.heap.size,ks.length,xs.toArray,rfl,Nat.zero_le _,by show (w.heap.push _)[w.heap.size]?=_;simp,Nat.le_refl _,hm,by simpa using hl,by rw [List.take_of_length_le (by simp;omega)]⟩⟩,fun i k hi=>?_⟩
 refine (hk i k hi).next (Agr.below ((Below.refl _ _).alloc (Nat.le_refl _) _)) (fun b hb hl=>⟨hb,fun e=>?_⟩)
 simp only [Value.ownBlock,Option.some.injEq] at e
 omega
/-- one element more -/
theorem wpList_append_rws {ops:Array Oper} {rest:List Oper} {o:Oper} {a:Act} {w:World} {Q:Exit→Act→World→Prop} (hgd:o.guard=none) (s x:Operand)
  (ho:o.op=.call { callee:=.builtin .append,args:=#[s,x],argTypes:=#[51,51] })
  (S:Nat→Prop) (kv:Value) (Ts:List Tl) (hs:a.eval s=kv) (hr:RwS S w kv Ts) (g:Nat) (hx:a.eval x=.slice (some ⟨g,0,none⟩) 1 1) (cs:List Value) (B:Blk w g cs) (l5:cs.length=5) (ones:OneC cs)
  (T:Tl) (hd:Dep (fun b=>S b∧kv.ownBlock≠some b) w T cs) (hn:Ts.length≤1000000)
  (h:∀ kv' w',RwS S w' kv' (Ts++[T])→w.grownBy w' kv.ownBlock→(kv'.ownBlock=kv.ownBlock∨kv'.ownBlock=some w.heap.size)→wpList Tryz.prog ops Q rest (a.put o.dst kv') w') :
  wpList Tryz.prog ops Q (o :: rest) a w:=by
 obtain ⟨xs,h1,h2⟩:=hr
 obtain ⟨jt,hjt,ht0,ht1,ht2⟩:=info_partsD info_tlv
 refine wpList_append_lies _ hgd s x _ ho 0 53 jt _ 5 72 Tryz.underlying51 hjt ht0 ht1 ht2 rfl (by omega) kv Ts.length xs hs h1 ⟨g,0,none⟩ 1 1 cs hx l5 ?_ (fun u hu=>(Array.all_eq_true_iff_forall_mem.1 ones) u (by simpa using hu)) (by omega) (by unfold maxLen;omega) (by omega) (Nat.zero_le _) w.heap.size rfl ?_
 ·intro j u hu
  rw [Addr.add_mid,Nat.zero_add]
  exact B.cell j u hu
 ·intro g' cap1 w' hown hgrow hat hlt
  have hl:xs.length=Ts.length * 5:=h1.1
  refine h _ w' ⟨xs++cs,by rw [List.length_append];exact hown,fun i t ht=>?_⟩ hgrow (by rcases hat with e|e;exact .inl (by rw [e];rfl);exact .inr (by rw [← e];rfl))
  have hag:Agr (fun b=>S b∧kv.ownBlock≠some b) w w':=Agr.grown hgrow (fun b hb=>hb.2)
  have hS:∀ b,(S b∧kv.ownBlock≠some b)→b < w.heap.size→(S b∧(Value.slice (some ⟨g',0,none⟩) (Ts.length + 1) cap1).ownBlock≠some b):=fun b hb hlb=>⟨hb.1,fun e=>by
   simp only [Value.ownBlock,Option.some.injEq] at e
   rcases hat with e2|e2
   ·exact hb.2 (by rw [e2,e])
   ·omega⟩
  by_cases hi:i < Ts.length
  ·rw [List.getElem?_append_left hi] at ht
   rw [List.drop_append_of_le_length (by omega),List.take_append_of_le_length (by rw [List.length_drop];omega)]
   exact (h2 i t ht).next hag hS
  ·have hi2:=(List.getElem?_eq_some_iff.1 ht).1
   rw [List.length_append] at hi2
   obtain rfl:i=Ts.length:=by simp at hi2;omega
   rw [List.getElem?_append_right (Nat.le_refl _),Nat.sub_self] at ht
   simp only [List.getElem?_cons_zero,Option.some.injEq] at ht
   subst ht
   rw [List.drop_append_of_le_length (by omega),List.drop_of_length_le (by omega),List.nil_append,List.take_of_length_le (by omega)]
   exact hd.next hag hS
/-- a body's element, or none -/
noncomputable def bodyP (c:Cr):Option Tl:=(nameO c.issuer).bind fun T1=>(timT c.frm).bind fun T2=>(timT c.til).bind fun T3=>if c.gone.length=0 then some (listT [intT 1,algT,T1,T2,T3]) else (gnO c.gone).bind fun TG=>some (listT ([intT 1,algT,T1,T2,T3]++[TG]))
theorem bodyP_may {c:Cr} (h:MayR8 c):bodyP c=some (crBody c):=by
 obtain ⟨h1,⟨F,hF⟩,⟨T,hT⟩,h4,h5⟩:=h
 unfold bodyP crBody goneL nameO
 rw [if_pos h1,hF,hT]
 simp only [Option.bind_some]
 by_cases k:c.gone.length=0
 ·rw [if_pos k,if_neg (by omega)]
  rfl
 ·rw [if_neg k,if_pos (by omega),gnO_yes ⟨h4,h5⟩]
  rfl
theorem may_bodyP {c:Cr} {T:Tl} (h:bodyP c=some T):MayR8 c:=by
 unfold bodyP nameO at h
 by_cases h1:mayN c.issuer=true
 ·rw [if_pos h1] at h
  simp only [Option.bind_some] at h
  cases hF:timT c.frm with
  | none=>rw [hF] at h;cases h
  | some F =>
   cases hT:timT c.til with
   | none=>rw [hF,hT] at h;cases h
   | some U =>
    rw [hF,hT] at h
    simp only [Option.bind_some] at h
    by_cases k:c.gone.length=0
    ·exact ⟨h1,⟨F,hF⟩,⟨U,hT⟩,by omega,fun g hg=>by rw [List.eq_nil_of_length_eq_zero k] at hg;cases hg⟩
    ·rw [if_neg k] at h
     by_cases k2:okG c.gone
     ·exact ⟨h1,⟨F,hF⟩,⟨U,hT⟩,k2.1,k2.2⟩
     ·rw [gnO_no k2] at h
      cases h
 ·rw [if_neg h1] at h
  cases h
theorem size_cr:(Tryz.prog.info? 33).map (·.size)=some 17:=by kernel_rfl
theorem c18_timeT {f f2:Int} {w:World} (e1:f=f2) (hf:-9223372036854775808≤f∧f < 9223372036854775808):Calls Tryz.prog 51 #[.int .i64 f2] w (ElR w (timT f)):=by
 subst e1
 exact c18_timeElement (by omega)
theorem fill_25 {c0 c1 c2 c3 c4:List Value} (h0:c0.length=5) (h1:c1.length=5) (h2:c2.length=5) (h3:c3.length=5) (h4:c4.length=5):Instr.fill (fun i=>some (i * 5,5)) ((Array.range (5 * 5)).map ((Value.agg #[.int .i64 0,.int .i64 0,.bool false,.slice none 0 0,.slice none 0 0]).cells[· % (Value.agg #[.int .i64 0,.int .i64 0,.bool false,.slice none 0 0,.slice none 0 0]).cells.size]!)) [(0,.agg c0.toArray),(1,.agg c1.toArray),(2,.agg c2.toArray),(3,.agg c3.toArray),(4,.agg c4.toArray)]=some (c0++(c1++(c2++(c3++(c4++[]))))).toArray:=by
 obtain ⟨_,_,_,_,_,rfl⟩:=five h0
 obtain ⟨_,_,_,_,_,rfl⟩:=five h1
 obtain ⟨_,_,_,_,_,rfl⟩:=five h2
 obtain ⟨_,_,_,_,_,rfl⟩:=five h3
 obtain ⟨_,_,_,_,_,rfl⟩:=five h4
 kernel_rfl
set_option linter.unusedSimpArgs false in
set_option maxRecDepth 100000 in
set_option maxHeartbeats 8000000 in
theorem c18_bodyElement {c:Cr} {cs:List Value} {w:World} (h:CrAt w c cs) (wf:WfCr c) (hsg:SmG c.gone):Calls Tryz.prog 21 #[.agg cs.toArray] w (ElR w (bodyP c)):=by
 obtain ⟨wI,wF,wT,wG,-⟩:=wf
 have HWI:Hid (WfN c.issuer):=wI
 have HWG:Hid (WfG c.gone):=wG
 have HSg:Hid (SmG c.gone):=hsg
 clear hsg
 have HC:Hid (CrAt w c cs):=h
 obtain ⟨iv,gv,bv,rs,zs,hl,q0,q1,q2,q3,q4,qk,hI,hG,-,-,-⟩:=h.open
 have HL17:Hid (cs.length=17):=hl
 clear h hl
 have B0:=(Blk.new w cs 33 w.heap.size rfl).alloc (.cells #[.int .i64 0,.int .i64 0,.bool false,.slice none 0 0,.slice none 0 0] 53)
 have R0:=Blk.new (w.alloc (.cells cs.toArray 33)) [.int .i64 0,.int .i64 0,.bool false,.slice none 0 0,.slice none 0 0] 53 (w.heap.size + 1) (by simp)
 have bel:Below w.heap.size w ((w.alloc (.cells cs.toArray 33)).alloc (.cells #[.int .i64 0,.int .i64 0,.bool false,.slice none 0 0,.slice none 0 0] 53)):=((Below.refl _ _).alloc (Nat.le_refl _) _).alloc (by simp) _
 have hz:=zero_tlv.out
 go_enter Tryz.func21,Tryz.ntmps21
 go_upto_region 1 with fail
 have lW:=bel.size
 generalize (w.alloc (.cells cs.toArray 33)).alloc (.cells #[.int .i64 0,.int .i64 0,.bool false,.slice none 0 0,.slice none 0 0] 53)=W at *
 have lR:=R0.lt
 obtain ⟨N0,hN0⟩:∃ n,n=W.heap.size:=⟨_,rfl⟩
 rw [← hN0] at lR lW
 have hs:N0≤W.heap.size:=by omega
 clear hz
 obtain ⟨jt,hjt,ht0,ht1,ht2⟩:=info_partsD info_tlv

 have HI:Hid (NmAt w iv c.issuer):=hI
 have HG:Hid (GnAt w gv c.gone):=hG
 obtain ⟨ia,ic,hie,-,-,-⟩:=hI
 obtain ⟨ga,gc,hge,-,hgm,-⟩:=hG
 obtain ⟨IL,hIL⟩:∃ z,c.issuer.length=z:=⟨_,rfl⟩
 obtain ⟨GL,hGL⟩:∃ z,c.gone.length=z:=⟨_,rfl⟩
 have HGL:Hid (c.gone.length=GL):=hGL
 rw [hIL] at hie
 rw [hGL] at hge
 subst hie hge
 obtain ⟨fr,hfr⟩:∃ z,c.frm=z:=⟨_,rfl⟩
 obtain ⟨ti,hti⟩:∃ z,c.til=z:=⟨_,rfl⟩
 have Hfr:Hid (c.frm=fr):=hfr
 have Hti:Hid (c.til=ti):=hti
 rw [hfr] at q1
 rw [hti] at q2
 have HQ0:Hid _:=q0
 have HQ1:Hid _:=q1
 have HQ2:Hid _:=q2
 have HQ3:Hid _:=q3
 clear hIL hGL hfr hti q0 q1 q2 q3 q4 qk hgm wI wG
 have l0:=B0.lt
 have e0:=B0.cell 0 _ HQ0.out
 go_wp2_with fail
 refine (con_NElemO (HI.out.later bel) HWI.out).mono ?_
 rintro e w1a ⟨hb,hbad,hok⟩
 clear e0 l0
 cases hx:nameO c.issuer with
 | none =>
  obtain ⟨c9,rfl⟩:=hbad hx
  have H:Hid (bodyP c=none):=by show _=_;unfold bodyP;simp only [hx,Option.bind_some,Option.bind_none]
  replace R0:=R0.later hb
  replace bel:=below_step bel hb
  clear hok hbad hb hx  B0
  have q:=ne_codeL c9
  have hz:=zero_tlv.out
  replace R0:=R0.alloc (.cells #[.int .i64 0,.int .i64 0,.bool false,.slice none 0 0,.slice none 0 0] 53)
  replace bel:=below_alloc (o:=.cells #[.int .i64 0,.int .i64 0,.bool false,.slice none 0 0,.slice none 0 0] 53) bel
  go_upto_region 2 with (first|((with_reducible show wpList _ _ _ ({ dst:=_,op:=.store _ _ _,type:=_,pos:=_,after:=_,guard:=_ } :: _) _ _);refine wpList_store_row rfl 53 _ _ rfl w1a.heap.size #[.int .i64 0,.int .i64 0,.bool false,.slice none 0 0,.slice none 0 0] rfl rfl 53 _ (heap_alloc_last _ _) (by rw [size_tlv];rfl) rfl (by simp [Value.oneCell']) ?_;rw [World.setRow_alloc_new])|fail)
  generalize w1a.alloc (.cells #[.int .i64 0,.int .i64 0,.bool false,.slice none 0 0,.slice none 0 0] 53)=V9 at *
  clear hz
  have hz:=zero_tlv.out
  obtain ⟨tR,hR⟩:=R0
  have HR1:Hid _:=hR
  clear hR
  go_wp2_with (first|((with_reducible show wpList _ _ _ ({ dst:=_,op:=.store _ _ _,type:=_,pos:=_,after:=_,guard:=_ } :: _) _ _);refine wpList_store_row rfl 53 _ _ rfl (w.heap.size + 1) #[.int .i64 0,.int .i64 0,.bool false,.slice none 0 0,.slice none 0 0] rfl rfl tR _ HR1.out (by rw [size_tlv];rfl) rfl (by simp [Value.oneCell']) ?_)|fail)
  refine bodyPost_ret (results_row_tmp rfl _ _ (w.heap.size + 1) tR #[.int .i64 0,.int .i64 0,.bool false,.slice none 0 0,.slice none 0 0] (0,0) _ rfl (setRow_heap _ _ _ _ _ _ HR1.out) Tryz.underlying53 rfl (by rw [size_tlv];rfl)) rfl ?_
  exact ElR.bad H.out (below_setRow bel (by omega) _)
 | some T1 =>
  obtain ⟨es1,rfl,hd⟩:=hok T1 hx
  have HX1:Hid (nameO c.issuer=some T1):=hx
  have HD1:Hid (Dep (fun g=>N0≤g) w1a T1 es1):=hd.next (Agr.refl _ _) (fun _ h _=>Nat.le_trans hs h)
  have HL1:Hid (es1.length=5):=hd.now.five
  have HO1:Hid (OneC es1):=hd.now.ones
  replace B0:=B0.later hb
  replace R0:=R0.later hb
  replace bel:=below_step bel hb
  replace hs:=hsl hs hb
  clear hok hbad hb hx hd
  have HS5e:Hid (es1.toArray.size=5):=by show _=_;rw [List.size_toArray];exact HL1.out
  have hz:=zero_tlv.out
  have hb:=bal w1a (.cells es1.toArray 53)
  replace B0:=B0.later hb
  replace R0:=R0.later hb
  replace HD1:=dpl HD1 hb
  have HG0:N0≤w1a.heap.size:=hs
  replace bel:=below_step bel hb
  replace hs:=hsl hs hb
  have Q1:=Blk.new w1a es1 53 w1a.heap.size rfl
  go_upto_region 2 with (first|((with_reducible show wpList _ _ _ ({ dst:=_,op:=.store _ _ _,type:=_,pos:=_,after:=_,guard:=_ } :: _) _ _);refine wpList_store_row rfl 53 _ _ rfl w1a.heap.size es1.toArray rfl rfl 53 _ (heap_alloc_last _ _) (by rw [size_tlv,HS5e.out]) (by rw [HS5e.out];rfl) HO1.out ?_;rw [World.setRow_alloc_new])|fail)
  clear hz HS5e hb HG0
  obtain ⟨g1,hg1⟩:∃ g,g=w1a.heap.size:=⟨_,rfl⟩
  rw [← hg1] at Q1 ⊢
  generalize (w1a.alloc (.cells es1.toArray 53))=V1 at *
  clear hg1
  have q:=ne_nilL
  have l0:=B0.lt
  have e1:=B0.cell 1 _ HQ1.out
  go_wp2_with fail
  refine (c18_timeT Hfr.out wF).mono ?_
  rintro e w2a ⟨hb,hbad,hok⟩
  clear e1 l0
  clear q
  cases hx:timT c.frm with
  | none =>
   obtain ⟨c9,rfl⟩:=hbad hx
   have H:Hid (bodyP c=none):=by show _=_;unfold bodyP;simp only [HX1.out,hx,Option.bind_some,Option.bind_none]
   replace R0:=R0.later hb
   replace bel:=below_step bel hb
   clear hok hbad hb hx Q1 B0
   have q:=ne_codeL c9
   have hz:=zero_tlv.out
   replace R0:=R0.alloc (.cells #[.int .i64 0,.int .i64 0,.bool false,.slice none 0 0,.slice none 0 0] 53)
   replace bel:=below_alloc (o:=.cells #[.int .i64 0,.int .i64 0,.bool false,.slice none 0 0,.slice none 0 0] 53) bel
   go_upto_region 5 with (first|((with_reducible show wpList _ _ _ ({ dst:=_,op:=.store _ _ _,type:=_,pos:=_,after:=_,guard:=_ } :: _) _ _);refine wpList_store_row rfl 53 _ _ rfl w2a.heap.size #[.int .i64 0,.int .i64 0,.bool false,.slice none 0 0,.slice none 0 0] rfl rfl 53 _ (heap_alloc_last _ _) (by rw [size_tlv];rfl) rfl (by simp [Value.oneCell']) ?_;rw [World.setRow_alloc_new])|fail)
   generalize w2a.alloc (.cells #[.int .i64 0,.int .i64 0,.bool false,.slice none 0 0,.slice none 0 0] 53)=V9 at *
   clear hz
   have hz:=zero_tlv.out
   obtain ⟨tR,hR⟩:=R0
   have HR1:Hid _:=hR
   clear hR
   go_wp2_with (first|((with_reducible show wpList _ _ _ ({ dst:=_,op:=.store _ _ _,type:=_,pos:=_,after:=_,guard:=_ } :: _) _ _);refine wpList_store_row rfl 53 _ _ rfl (w.heap.size + 1) #[.int .i64 0,.int .i64 0,.bool false,.slice none 0 0,.slice none 0 0] rfl rfl tR _ HR1.out (by rw [size_tlv];rfl) rfl (by simp [Value.oneCell']) ?_)|fail)
   refine bodyPost_ret (results_row_tmp rfl _ _ (w.heap.size + 1) tR #[.int .i64 0,.int .i64 0,.bool false,.slice none 0 0,.slice none 0 0] (0,0) _ rfl (setRow_heap _ _ _ _ _ _ HR1.out) Tryz.underlying53 rfl (by rw [size_tlv];rfl)) rfl ?_
   exact ElR.bad H.out (below_setRow bel (by omega) _)
  | some T2 =>
   obtain ⟨es2,rfl,hd⟩:=hok T2 hx
   have HX2:Hid (timT c.frm=some T2):=hx
   have HD2:Hid (Dep (fun g=>N0≤g) w2a T2 es2):=hd.next (Agr.refl _ _) (fun _ h _=>Nat.le_trans hs h)
   have HL2:Hid (es2.length=5):=hd.now.five
   have HO2:Hid (OneC es2):=hd.now.ones
   replace B0:=B0.later hb
   replace R0:=R0.later hb
   replace Q1:=Q1.later hb
   replace HD1:=dpl HD1 hb
   replace bel:=below_step bel hb
   replace hs:=hsl hs hb
   clear hok hbad hb hx hd
   have HS5e:Hid (es2.toArray.size=5):=by show _=_;rw [List.size_toArray];exact HL2.out
   have hz:=zero_tlv.out
   have hb:=bal w2a (.cells es2.toArray 53)
   replace B0:=B0.later hb
   replace R0:=R0.later hb
   replace Q1:=Q1.later hb
   replace HD1:=dpl HD1 hb
   replace HD2:=dpl HD2 hb
   have HG0:N0≤w2a.heap.size:=hs
   replace bel:=below_step bel hb
   replace hs:=hsl hs hb
   have Q2:=Blk.new w2a es2 53 w2a.heap.size rfl
   go_upto_region 5 with (first|((with_reducible show wpList _ _ _ ({ dst:=_,op:=.store _ _ _,type:=_,pos:=_,after:=_,guard:=_ } :: _) _ _);refine wpList_store_row rfl 53 _ _ rfl w2a.heap.size es2.toArray rfl rfl 53 _ (heap_alloc_last _ _) (by rw [size_tlv,HS5e.out]) (by rw [HS5e.out];rfl) HO2.out ?_;rw [World.setRow_alloc_new])|fail)
   clear hz HS5e hb HG0
   obtain ⟨g2,hg2⟩:∃ g,g=w2a.heap.size:=⟨_,rfl⟩
   rw [← hg2] at Q2 ⊢
   generalize (w2a.alloc (.cells es2.toArray 53))=V2 at *
   clear hg2
   have q:=ne_nilL
   have l0:=B0.lt
   have e2:=B0.cell 2 _ HQ2.out
   go_wp2_with fail
   refine (c18_timeT Hti.out wT).mono ?_
   rintro e w3a ⟨hb,hbad,hok⟩
   clear e2 l0
   clear q
   cases hx:timT c.til with
   | none =>
    obtain ⟨c9,rfl⟩:=hbad hx
    have H:Hid (bodyP c=none):=by show _=_;unfold bodyP;simp only [HX1.out,HX2.out,hx,Option.bind_some,Option.bind_none]
    replace R0:=R0.later hb
    replace bel:=below_step bel hb
    clear hok hbad hb hx Q1 Q2 B0
    have q:=ne_codeL c9
    have hz:=zero_tlv.out
    replace R0:=R0.alloc (.cells #[.int .i64 0,.int .i64 0,.bool false,.slice none 0 0,.slice none 0 0] 53)
    replace bel:=below_alloc (o:=.cells #[.int .i64 0,.int .i64 0,.bool false,.slice none 0 0,.slice none 0 0] 53) bel
    go_upto_region 8 with (first|((with_reducible show wpList _ _ _ ({ dst:=_,op:=.store _ _ _,type:=_,pos:=_,after:=_,guard:=_ } :: _) _ _);refine wpList_store_row rfl 53 _ _ rfl w3a.heap.size #[.int .i64 0,.int .i64 0,.bool false,.slice none 0 0,.slice none 0 0] rfl rfl 53 _ (heap_alloc_last _ _) (by rw [size_tlv];rfl) rfl (by simp [Value.oneCell']) ?_;rw [World.setRow_alloc_new])|fail)
    generalize w3a.alloc (.cells #[.int .i64 0,.int .i64 0,.bool false,.slice none 0 0,.slice none 0 0] 53)=V9 at *
    clear hz
    have hz:=zero_tlv.out
    obtain ⟨tR,hR⟩:=R0
    have HR1:Hid _:=hR
    clear hR
    go_wp2_with (first|((with_reducible show wpList _ _ _ ({ dst:=_,op:=.store _ _ _,type:=_,pos:=_,after:=_,guard:=_ } :: _) _ _);refine wpList_store_row rfl 53 _ _ rfl (w.heap.size + 1) #[.int .i64 0,.int .i64 0,.bool false,.slice none 0 0,.slice none 0 0] rfl rfl tR _ HR1.out (by rw [size_tlv];rfl) rfl (by simp [Value.oneCell']) ?_)|fail)
    refine bodyPost_ret (results_row_tmp rfl _ _ (w.heap.size + 1) tR #[.int .i64 0,.int .i64 0,.bool false,.slice none 0 0,.slice none 0 0] (0,0) _ rfl (setRow_heap _ _ _ _ _ _ HR1.out) Tryz.underlying53 rfl (by rw [size_tlv];rfl)) rfl ?_
    exact ElR.bad H.out (below_setRow bel (by omega) _)
   | some T3 =>
    obtain ⟨es3,rfl,hd⟩:=hok T3 hx
    have HX3:Hid (timT c.til=some T3):=hx
    have HD3:Hid (Dep (fun g=>N0≤g) w3a T3 es3):=hd.next (Agr.refl _ _) (fun _ h _=>Nat.le_trans hs h)
    have HL3:Hid (es3.length=5):=hd.now.five
    have HO3:Hid (OneC es3):=hd.now.ones
    replace B0:=B0.later hb
    replace R0:=R0.later hb
    replace Q1:=Q1.later hb
    replace Q2:=Q2.later hb
    replace HD1:=dpl HD1 hb
    replace HD2:=dpl HD2 hb
    replace bel:=below_step bel hb
    replace hs:=hsl hs hb
    clear hok hbad hb hx hd
    have HS5e:Hid (es3.toArray.size=5):=by show _=_;rw [List.size_toArray];exact HL3.out
    have hz:=zero_tlv.out
    have hb:=bal w3a (.cells es3.toArray 53)
    replace B0:=B0.later hb
    replace R0:=R0.later hb
    replace Q1:=Q1.later hb
    replace Q2:=Q2.later hb
    replace HD1:=dpl HD1 hb
    replace HD2:=dpl HD2 hb
    replace HD3:=dpl HD3 hb
    have HG0:N0≤w3a.heap.size:=hs
    replace bel:=below_step bel hb
    replace hs:=hsl hs hb
    have Q3:=Blk.new w3a es3 53 w3a.heap.size rfl
    go_upto_region 8 with (first|((with_reducible show wpList _ _ _ ({ dst:=_,op:=.store _ _ _,type:=_,pos:=_,after:=_,guard:=_ } :: _) _ _);refine wpList_store_row rfl 53 _ _ rfl w3a.heap.size es3.toArray rfl rfl 53 _ (heap_alloc_last _ _) (by rw [size_tlv,HS5e.out]) (by rw [HS5e.out];rfl) HO3.out ?_;rw [World.setRow_alloc_new])|fail)
    clear hz HS5e hb HG0
    obtain ⟨g3,hg3⟩:∃ g,g=w3a.heap.size:=⟨_,rfl⟩
    rw [← hg3] at Q3 ⊢
    generalize (w3a.alloc (.cells es3.toArray 53))=V3 at *
    clear hg3
    have q:=ne_nilL
    go_upto_region 10 with fail
    clear q
    have HBB:Hid (Blk V3 w.heap.size cs):=B0
    have HRR:Hid (Blk V3 (w.heap.size + 1) [.int .i64 0,.int .i64 0,.bool false,.slice none 0 0,.slice none 0 0]):=R0
    have HBel:Hid (Below w.heap.size w V3):=bel
    obtain ⟨S1,hS1,KB1,KI1,KD1,KL1,KA1⟩:∃ S:World→Prop,Hd S V3∧Hid (∀ wx,Hd S wx→Below V3.heap.size V3 wx)∧Hid (∀ wx,Below V3.heap.size V3 wx→Hd S wx)∧Hid (∀ wx,Hd S wx→Hd S wx.drew)∧Hid (∀ w1 w2,Hd S w1→Below w1.heap.size w1 w2→Hd S w2)∧Hid (∀ w1 o,Hd S w1→Hd S (w1.alloc o)):=⟨fun wx=>Below V3.heap.size V3 wx,Below.refl _ _,fun _ h=>h,fun _ h=>h,fun wx h=>Below.drew h,fun w1 w2 h hb=>below_step h hb,fun w1 o h=>Below.alloc h h.size o⟩
    have R1:Hid (∀ wx,Hd S1 wx→(loadVar 53 ⟨g1,0,none⟩).run Tryz.prog wx=.ok (.agg es1.toArray) wx):=fun wx h=>(Q1.later (KB1.out wx h)).load Tryz.underlying53 rfl size_tlv HL1.out
    have R2:Hid (∀ wx,Hd S1 wx→(loadVar 53 ⟨g2,0,none⟩).run Tryz.prog wx=.ok (.agg es2.toArray) wx):=fun wx h=>(Q2.later (KB1.out wx h)).load Tryz.underlying53 rfl size_tlv HL2.out
    have R3:Hid (∀ wx,Hd S1 wx→(loadVar 53 ⟨g3,0,none⟩).run Tryz.prog wx=.ok (.agg es3.toArray) wx):=fun wx h=>(Q3.later (KB1.out wx h)).load Tryz.underlying53 rfl size_tlv HL3.out
    have hszj:N0≤V3.heap.size:=hs
    clear R0 bel hs B0 Q1 Q2 Q3
    refine wp_region_noPanic ?_
    refine wp_region_held_drew (S:=Hd S1) (by kernel_rfl) (KD1.out _ hS1) (fun hHeld=>?_)
    clear hS1
    generalize World.drew _=wd1 at *
    refine wpAnyH_take (i:=2) (v:=.agg es1.toArray) rfl (by kernel_rfl) (by kernel_rfl) (by kernel_rfl) (fun _ _ _ h=>h) (Or.inl ⟨by rfl,fun wx h=>exec_load rfl rfl (R1.out wx h)⟩) (by assumption) ?_
    refine wpAnyH_take (i:=3) (v:=.agg es2.toArray) rfl (by kernel_rfl) (by kernel_rfl) (by kernel_rfl) (fun _ _ _ h=>h) (Or.inl ⟨by rfl,fun wx h=>exec_load rfl rfl (R2.out wx h)⟩) (by assumption) ?_
    refine wpAnyH_take (i:=4) (v:=.agg es3.toArray) rfl (by kernel_rfl) (by kernel_rfl) (by kernel_rfl) (fun _ _ _ h=>h) (Or.inl ⟨by rfl,fun wx h=>exec_load rfl rfl (R3.out wx h)⟩) (by assumption) ?_
    apply with_keyK (T:=∀ (wz:World) (g8 g9:Nat) (dv da:List Value),Hd S1 wz→RwS (fun b=>N0≤b∧b≠g8) wz (Value.slice (some ⟨g9,0,none⟩) 5 5) [intT 1,algT,T1,T2,T3]→Blk wz g8 [.int .i64 0,.int .i64 0,.bool false,.slice none 0 0,.slice none 0 0]→V3.heap.size≤g8→N0≤g9→g9≠g8→wpAnyH _ _ _ _ _ _ _ _ wz)
    case main =>
     intro k5
     refine wpAnyH_ready (rs:=[0,7]) (by kernel_rfl) (by simp) ?_
     refine AllReadyH.cons rfl (fun K hK=>?_) ?_
     ·have HB0:Hid (Below V3.heap.size V3 wd1):=KB1.out _ hHeld
      go_simp
      refine c18_version.mono ?_
      rintro e z0 ⟨dv,rfl,hd,hb⟩
      refine hK.out _ _ ?_ (fun hHeld2=>?_)
      ·exact KL1.out _ _ hHeld hb
      ·clear hK K
       try clear hHeld
       have hHeld:=hHeld2
       clear hHeld2
       have hDv:Dep (fun b=>N0≤b) z0 (intT 1) dv:=hd.next (Agr.refl _ _) (fun b h _=>by have:=HB0.out.size;omega)
       clear hb hd HB0
       refine wpAnyH_ready (rs:=[1,7]) (by kernel_rfl) (by simp) ?_
       refine AllReadyH.cons rfl (fun K hK=>?_) ?_
       ·have HB0:Hid (Below V3.heap.size V3 z0):=KB1.out _ hHeld
        go_simp
        refine c18_algorithm.mono ?_
        rintro e z1 ⟨da,rfl,hd,hb⟩
        refine hK.out _ _ ?_ (fun hHeld2=>?_)
        ·exact KL1.out _ _ hHeld hb
        ·clear hK K
         try clear hHeld
         have hHeld:=hHeld2
         clear hHeld2
         have hDa:Dep (fun b=>N0≤b) z1 (algT) da:=hd.next (Agr.refl _ _) (fun b h _=>by have:=HB0.out.size;omega)
         replace hDv:=dpm hDv hb
         clear hb hd HB0
         refine wpAnyH_ready (rs:=[5,7]) (by kernel_rfl) (by simp) ?_
         refine AllReadyH.cons rfl (fun K hK=>?_) ?_
         ·have HB0:Hid (Below V3.heap.size V3 z1):=KB1.out _ hHeld
          have hdv5:dv.length=5:=hDv.now.five
          have hda5:da.length=5:=hDa.now.five
          rw [if_pos (by rfl)]
          refine wp_buildSlice 51 53 5 _ rfl (dv++(da++(es1++(es2++(es3++[]))))).toArray jt _ Tryz.underlying51 hjt ht0 (by rw [ht1];decide) (by rw [ht1];decide) (by rw [ht1];refine (congrArg _ (?_:_=[(0,Value.agg dv.toArray),(1,.agg da.toArray),(2,.agg es1.toArray),(3,.agg es2.toArray),(4,.agg es3.toArray)])).trans (fill_25 hdv5 hda5 HL1.out HL2.out HL3.out);kernel_rfl) ?_
          refine hK.out _ _ ?_ (fun hHeld2=>?_)
          ·exact KA1.out _ _ hHeld
          ·clear hK K
           try clear hHeld
           have hHeld:=hHeld2
           clear hHeld2
           have hb:=bal z1 (.cells (dv++(da++(es1++(es2++(es3++[]))))).toArray 53)
           have hD9:RwS (fun b=>N0≤b) (z1.alloc (.cells (dv++(da++(es1++(es2++(es3++[]))))).toArray 53)) (Value.slice (some ⟨z1.heap.size,0,none⟩) 5 5) [intT 1,algT,T1,T2,T3]:=RwS.lits (ks:=[intT 1,algT,T1,T2,T3]) (by simp [hdv5,hda5,HL1.out,HL2.out,HL3.out]) (by show 5≤maxLen;decide) (kc_c hDv hdv5 (kc_c hDa hda5 (kc_c (HD1.out.next (Agr.below HB0.out) (fun b h hl=>h)) HL1.out (kc_c (HD2.out.next (Agr.below HB0.out) (fun b h hl=>h)) HL2.out (kc_c (HD3.out.next (Agr.below HB0.out) (fun b h hl=>h)) HL3.out kc_n)))))
           have lg9:N0≤z1.heap.size:=Nat.le_trans hszj HB0.out.size
           obtain ⟨g9,hg9⟩:∃ g,g=z1.heap.size:=⟨_,rfl⟩
           rw [← hg9] at hD9 lg9 ⊢
           clear hg9 HB0 hDv hDa hb
           generalize (z1.alloc (.cells (dv++(da++(es1++(es2++(es3++[]))))).toArray 53))=z5 at *
           refine wpAnyH_ready (rs:=[6,7]) (by kernel_rfl) (by simp) ?_
           refine AllReadyH.cons rfl (fun K hK=>?_) ?_
           ·go_simp
            refine c18_list.mono ?_
            rintro e z6 ⟨rfl,hb⟩
            refine hK.out _ _ ?_ (fun hHeld2=>?_)
            ·exact KL1.out _ _ hHeld hb
            ·clear hK K
             try clear hHeld
             have hHeld:=hHeld2
             clear hHeld2
             replace hD9:RwS (fun b=>N0≤b) z6 (Value.slice (some ⟨g9,0,none⟩) 5 5) [intT 1,algT,T1,T2,T3]:=hD9.later hb
             clear hb
             refine wpAnyH_ready (rs:=[7]) (by kernel_rfl) (by simp) ?_
             refine AllReadyH.cons rfl (fun K hK=>?_) ?_
             ·have HH0:Hid (Hd S1 z6):=hHeld
              have hz:=zero_tlv.out
              go_simp
              refine hK.out _ _ ?_ (fun hHeld2=>?_)
              ·exact KA1.out _ _ hHeld
              ·clear hK K
               try clear hHeld
               have hHeld:=hHeld2
               clear hHeld2
               clear hz
               have hb:=bal z6 (.cells #[.int .i64 0,.int .i64 0,.bool false,.slice none 0 0,.slice none 0 0] 53)
               have Z0:=Blk.new z6 [.int .i64 0,.int .i64 0,.bool false,.slice none 0 0,.slice none 0 0] 53 z6.heap.size rfl
               obtain ⟨g8,hg8⟩:∃ g,g=z6.heap.size:=⟨_,rfl⟩
               have lg8:V3.heap.size≤g8:=by rw [hg8];exact (KB1.out _ HH0.out).size
               have l9:=hD9.lt (b:=g9) rfl
               have hne:g9≠g8:=by omega
               replace hD9:RwS (fun b=>N0≤b∧b≠g8) (z6.alloc (.cells #[.int .i64 0,.int .i64 0,.bool false,.slice none 0 0,.slice none 0 0] 53)) (Value.slice (some ⟨g9,0,none⟩) 5 5) [intT 1,algT,T1,T2,T3]:=(hD9.mono (fun b h hl=>⟨h,by omega⟩)).later hb
               clear l9
               rw [← hg8] at Z0 ⊢
               clear hg8 HH0 hb
               generalize (z6.alloc (.cells #[.int .i64 0,.int .i64 0,.bool false,.slice none 0 0,.slice none 0 0] 53))=z7 at *
               exact k5 z7 g8 g9 dv da hHeld hD9 Z0 lg8 lg9 hne
             exact AllReadyH.nil
           refine AllReadyH.cons rfl (fun K hK=>?_) ?_
           ·have HH0:Hid (Hd S1 z5):=hHeld
            have hz:=zero_tlv.out
            go_simp
            refine hK.out _ _ ?_ (fun hHeld2=>?_)
            ·exact KA1.out _ _ hHeld
            ·clear hK K
             try clear hHeld
             have hHeld:=hHeld2
             clear hHeld2
             clear hz
             have hb:=bal z5 (.cells #[.int .i64 0,.int .i64 0,.bool false,.slice none 0 0,.slice none 0 0] 53)
             have Z0:=Blk.new z5 [.int .i64 0,.int .i64 0,.bool false,.slice none 0 0,.slice none 0 0] 53 z5.heap.size rfl
             obtain ⟨g8,hg8⟩:∃ g,g=z5.heap.size:=⟨_,rfl⟩
             have lg8:V3.heap.size≤g8:=by rw [hg8];exact (KB1.out _ HH0.out).size
             have l9:=hD9.lt (b:=g9) rfl
             have hne:g9≠g8:=by omega
             replace hD9:RwS (fun b=>N0≤b∧b≠g8) (z5.alloc (.cells #[.int .i64 0,.int .i64 0,.bool false,.slice none 0 0,.slice none 0 0] 53)) (Value.slice (some ⟨g9,0,none⟩) 5 5) [intT 1,algT,T1,T2,T3]:=(hD9.mono (fun b h hl=>⟨h,by omega⟩)).later hb
             clear l9
             rw [← hg8] at Z0 ⊢
             clear hg8 HH0 hb
             generalize (z5.alloc (.cells #[.int .i64 0,.int .i64 0,.bool false,.slice none 0 0,.slice none 0 0] 53))=z7 at *
             refine wpAnyH_ready (rs:=[6]) (by kernel_rfl) (by simp) ?_
             refine AllReadyH.cons rfl (fun K hK=>?_) ?_
             ·go_simp
              refine c18_list.mono ?_
              rintro e z6 ⟨rfl,hb⟩
              refine hK.out _ _ ?_ (fun hHeld2=>?_)
              ·exact KL1.out _ _ hHeld hb
              ·clear hK K
               try clear hHeld
               have hHeld:=hHeld2
               clear hHeld2
               replace hD9:RwS (fun b=>N0≤b∧b≠g8) z6 (Value.slice (some ⟨g9,0,none⟩) 5 5) [intT 1,algT,T1,T2,T3]:=hD9.later hb
               replace Z0:=Z0.later hb
               clear hb
               exact k5 z6 g8 g9 dv da hHeld hD9 Z0 lg8 lg9 hne
             exact AllReadyH.nil
           exact AllReadyH.nil
         refine AllReadyH.cons rfl (fun K hK=>?_) ?_
         ·have HH0:Hid (Hd S1 z1):=hHeld
          have hz:=zero_tlv.out
          go_simp
          refine hK.out _ _ ?_ (fun hHeld2=>?_)
          ·exact KA1.out _ _ hHeld
          ·clear hK K
           try clear hHeld
           have hHeld:=hHeld2
           clear hHeld2
           clear hz
           have hb:=bal z1 (.cells #[.int .i64 0,.int .i64 0,.bool false,.slice none 0 0,.slice none 0 0] 53)
           have Z0:=Blk.new z1 [.int .i64 0,.int .i64 0,.bool false,.slice none 0 0,.slice none 0 0] 53 z1.heap.size rfl
           obtain ⟨g8,hg8⟩:∃ g,g=z1.heap.size:=⟨_,rfl⟩
           have lg8:V3.heap.size≤g8:=by rw [hg8];exact (KB1.out _ HH0.out).size
           replace hDv:Dep (fun b=>N0≤b∧b≠g8) (z1.alloc (.cells #[.int .i64 0,.int .i64 0,.bool false,.slice none 0 0,.slice none 0 0] 53)) (intT 1) dv:=hDv.next (Agr.below hb) (fun b h hl=>⟨h,by omega⟩)
           replace hDa:Dep (fun b=>N0≤b∧b≠g8) (z1.alloc (.cells #[.int .i64 0,.int .i64 0,.bool false,.slice none 0 0,.slice none 0 0] 53)) (algT) da:=hDa.next (Agr.below hb) (fun b h hl=>⟨h,by omega⟩)
           rw [← hg8] at Z0 ⊢
           clear hg8 HH0 hb
           generalize (z1.alloc (.cells #[.int .i64 0,.int .i64 0,.bool false,.slice none 0 0,.slice none 0 0] 53))=z7 at *
           refine wpAnyH_ready (rs:=[5]) (by kernel_rfl) (by simp) ?_
           refine AllReadyH.cons rfl (fun K hK=>?_) ?_
           ·have HB0:Hid (Below V3.heap.size V3 z7):=KB1.out _ hHeld
            have hdv5:dv.length=5:=hDv.now.five
            have hda5:da.length=5:=hDa.now.five
            rw [if_pos (by rfl)]
            refine wp_buildSlice 51 53 5 _ rfl (dv++(da++(es1++(es2++(es3++[]))))).toArray jt _ Tryz.underlying51 hjt ht0 (by rw [ht1];decide) (by rw [ht1];decide) (by rw [ht1];refine (congrArg _ (?_:_=[(0,Value.agg dv.toArray),(1,.agg da.toArray),(2,.agg es1.toArray),(3,.agg es2.toArray),(4,.agg es3.toArray)])).trans (fill_25 hdv5 hda5 HL1.out HL2.out HL3.out);kernel_rfl) ?_
            refine hK.out _ _ ?_ (fun hHeld2=>?_)
            ·exact KA1.out _ _ hHeld
            ·clear hK K
             try clear hHeld
             have hHeld:=hHeld2
             clear hHeld2
             have hb:=bal z7 (.cells (dv++(da++(es1++(es2++(es3++[]))))).toArray 53)
             have hD9:RwS (fun b=>N0≤b∧b≠g8) (z7.alloc (.cells (dv++(da++(es1++(es2++(es3++[]))))).toArray 53)) (Value.slice (some ⟨z7.heap.size,0,none⟩) 5 5) [intT 1,algT,T1,T2,T3]:=RwS.lits (ks:=[intT 1,algT,T1,T2,T3]) (by simp [hdv5,hda5,HL1.out,HL2.out,HL3.out]) (by show 5≤maxLen;decide) (kc_c hDv hdv5 (kc_c hDa hda5 (kc_c (HD1.out.next (Agr.below HB0.out) (fun b h hl=>⟨h,by omega⟩)) HL1.out (kc_c (HD2.out.next (Agr.below HB0.out) (fun b h hl=>⟨h,by omega⟩)) HL2.out (kc_c (HD3.out.next (Agr.below HB0.out) (fun b h hl=>⟨h,by omega⟩)) HL3.out kc_n)))))
             have lz:=Z0.lt
             replace Z0:=Z0.later hb
             have lg9:N0≤z7.heap.size:=Nat.le_trans hszj HB0.out.size
             obtain ⟨g9,hg9⟩:∃ g,g=z7.heap.size:=⟨_,rfl⟩
             rw [← hg9] at hD9 lg9 ⊢
             have hne:g9≠g8:=by omega
             clear lz
             clear hg9 HB0 hDv hDa hb
             generalize (z7.alloc (.cells (dv++(da++(es1++(es2++(es3++[]))))).toArray 53))=z5 at *
             refine wpAnyH_ready (rs:=[6]) (by kernel_rfl) (by simp) ?_
             refine AllReadyH.cons rfl (fun K hK=>?_) ?_
             ·go_simp
              refine c18_list.mono ?_
              rintro e z6 ⟨rfl,hb⟩
              refine hK.out _ _ ?_ (fun hHeld2=>?_)
              ·exact KL1.out _ _ hHeld hb
              ·clear hK K
               try clear hHeld
               have hHeld:=hHeld2
               clear hHeld2
               replace hD9:RwS (fun b=>N0≤b∧b≠g8) z6 (Value.slice (some ⟨g9,0,none⟩) 5 5) [intT 1,algT,T1,T2,T3]:=hD9.later hb
               replace Z0:=Z0.later hb
               clear hb
               exact k5 z6 g8 g9 dv da hHeld hD9 Z0 lg8 lg9 hne
             exact AllReadyH.nil
           exact AllReadyH.nil
         exact AllReadyH.nil
       refine AllReadyH.cons rfl (fun K hK=>?_) ?_
       ·have HH0:Hid (Hd S1 z0):=hHeld
        have hz:=zero_tlv.out
        go_simp
        refine hK.out _ _ ?_ (fun hHeld2=>?_)
        ·exact KA1.out _ _ hHeld
        ·clear hK K
         try clear hHeld
         have hHeld:=hHeld2
         clear hHeld2
         clear hz
         have hb:=bal z0 (.cells #[.int .i64 0,.int .i64 0,.bool false,.slice none 0 0,.slice none 0 0] 53)
         have Z0:=Blk.new z0 [.int .i64 0,.int .i64 0,.bool false,.slice none 0 0,.slice none 0 0] 53 z0.heap.size rfl
         obtain ⟨g8,hg8⟩:∃ g,g=z0.heap.size:=⟨_,rfl⟩
         have lg8:V3.heap.size≤g8:=by rw [hg8];exact (KB1.out _ HH0.out).size
         replace hDv:Dep (fun b=>N0≤b∧b≠g8) (z0.alloc (.cells #[.int .i64 0,.int .i64 0,.bool false,.slice none 0 0,.slice none 0 0] 53)) (intT 1) dv:=hDv.next (Agr.below hb) (fun b h hl=>⟨h,by omega⟩)
         rw [← hg8] at Z0 ⊢
         clear hg8 HH0 hb
         generalize (z0.alloc (.cells #[.int .i64 0,.int .i64 0,.bool false,.slice none 0 0,.slice none 0 0] 53))=z7 at *
         refine wpAnyH_ready (rs:=[1]) (by kernel_rfl) (by simp) ?_
         refine AllReadyH.cons rfl (fun K hK=>?_) ?_
         ·have HB0:Hid (Below V3.heap.size V3 z7):=KB1.out _ hHeld
          go_simp
          refine c18_algorithm.mono ?_
          rintro e z1 ⟨da,rfl,hd,hb⟩
          refine hK.out _ _ ?_ (fun hHeld2=>?_)
          ·exact KL1.out _ _ hHeld hb
          ·clear hK K
           try clear hHeld
           have hHeld:=hHeld2
           clear hHeld2
           have lz:=Z0.lt
           have hDa:Dep (fun b=>N0≤b∧b≠g8) z1 (algT) da:=hd.next (Agr.refl _ _) (fun b h _=>⟨by have:=HB0.out.size;omega,by omega⟩)
           replace hDv:=dpm hDv hb
           replace Z0:=Z0.later hb
           clear hb hd HB0 lz
           refine wpAnyH_ready (rs:=[5]) (by kernel_rfl) (by simp) ?_
           refine AllReadyH.cons rfl (fun K hK=>?_) ?_
           ·have HB0:Hid (Below V3.heap.size V3 z1):=KB1.out _ hHeld
            have hdv5:dv.length=5:=hDv.now.five
            have hda5:da.length=5:=hDa.now.five
            rw [if_pos (by rfl)]
            refine wp_buildSlice 51 53 5 _ rfl (dv++(da++(es1++(es2++(es3++[]))))).toArray jt _ Tryz.underlying51 hjt ht0 (by rw [ht1];decide) (by rw [ht1];decide) (by rw [ht1];refine (congrArg _ (?_:_=[(0,Value.agg dv.toArray),(1,.agg da.toArray),(2,.agg es1.toArray),(3,.agg es2.toArray),(4,.agg es3.toArray)])).trans (fill_25 hdv5 hda5 HL1.out HL2.out HL3.out);kernel_rfl) ?_
            refine hK.out _ _ ?_ (fun hHeld2=>?_)
            ·exact KA1.out _ _ hHeld
            ·clear hK K
             try clear hHeld
             have hHeld:=hHeld2
             clear hHeld2
             have hb:=bal z1 (.cells (dv++(da++(es1++(es2++(es3++[]))))).toArray 53)
             have hD9:RwS (fun b=>N0≤b∧b≠g8) (z1.alloc (.cells (dv++(da++(es1++(es2++(es3++[]))))).toArray 53)) (Value.slice (some ⟨z1.heap.size,0,none⟩) 5 5) [intT 1,algT,T1,T2,T3]:=RwS.lits (ks:=[intT 1,algT,T1,T2,T3]) (by simp [hdv5,hda5,HL1.out,HL2.out,HL3.out]) (by show 5≤maxLen;decide) (kc_c hDv hdv5 (kc_c hDa hda5 (kc_c (HD1.out.next (Agr.below HB0.out) (fun b h hl=>⟨h,by omega⟩)) HL1.out (kc_c (HD2.out.next (Agr.below HB0.out) (fun b h hl=>⟨h,by omega⟩)) HL2.out (kc_c (HD3.out.next (Agr.below HB0.out) (fun b h hl=>⟨h,by omega⟩)) HL3.out kc_n)))))
             have lz:=Z0.lt
             replace Z0:=Z0.later hb
             have lg9:N0≤z1.heap.size:=Nat.le_trans hszj HB0.out.size
             obtain ⟨g9,hg9⟩:∃ g,g=z1.heap.size:=⟨_,rfl⟩
             rw [← hg9] at hD9 lg9 ⊢
             have hne:g9≠g8:=by omega
             clear lz
             clear hg9 HB0 hDv hDa hb
             generalize (z1.alloc (.cells (dv++(da++(es1++(es2++(es3++[]))))).toArray 53))=z5 at *
             refine wpAnyH_ready (rs:=[6]) (by kernel_rfl) (by simp) ?_
             refine AllReadyH.cons rfl (fun K hK=>?_) ?_
             ·go_simp
              refine c18_list.mono ?_
              rintro e z6 ⟨rfl,hb⟩
              refine hK.out _ _ ?_ (fun hHeld2=>?_)
              ·exact KL1.out _ _ hHeld hb
              ·clear hK K
               try clear hHeld
               have hHeld:=hHeld2
               clear hHeld2
               replace hD9:RwS (fun b=>N0≤b∧b≠g8) z6 (Value.slice (some ⟨g9,0,none⟩) 5 5) [intT 1,algT,T1,T2,T3]:=hD9.later hb
               replace Z0:=Z0.later hb
               clear hb
               exact k5 z6 g8 g9 dv da hHeld hD9 Z0 lg8 lg9 hne
             exact AllReadyH.nil
           exact AllReadyH.nil
         exact AllReadyH.nil
       exact AllReadyH.nil
     refine AllReadyH.cons rfl (fun K hK=>?_) ?_
     ·have HH0:Hid (Hd S1 wd1):=hHeld
      have hz:=zero_tlv.out
      go_simp
      refine hK.out _ _ ?_ (fun hHeld2=>?_)
      ·exact KA1.out _ _ hHeld
      ·clear hK K
       try clear hHeld
       have hHeld:=hHeld2
       clear hHeld2
       clear hz
       have hb:=bal wd1 (.cells #[.int .i64 0,.int .i64 0,.bool false,.slice none 0 0,.slice none 0 0] 53)
       have Z0:=Blk.new wd1 [.int .i64 0,.int .i64 0,.bool false,.slice none 0 0,.slice none 0 0] 53 wd1.heap.size rfl
       obtain ⟨g8,hg8⟩:∃ g,g=wd1.heap.size:=⟨_,rfl⟩
       have lg8:V3.heap.size≤g8:=by rw [hg8];exact (KB1.out _ HH0.out).size
       rw [← hg8] at Z0 ⊢
       clear hg8 HH0 hb
       generalize (wd1.alloc (.cells #[.int .i64 0,.int .i64 0,.bool false,.slice none 0 0,.slice none 0 0] 53))=z7 at *
       refine wpAnyH_ready (rs:=[0]) (by kernel_rfl) (by simp) ?_
       refine AllReadyH.cons rfl (fun K hK=>?_) ?_
       ·have HB0:Hid (Below V3.heap.size V3 z7):=KB1.out _ hHeld
        go_simp
        refine c18_version.mono ?_
        rintro e z0 ⟨dv,rfl,hd,hb⟩
        refine hK.out _ _ ?_ (fun hHeld2=>?_)
        ·exact KL1.out _ _ hHeld hb
        ·clear hK K
         try clear hHeld
         have hHeld:=hHeld2
         clear hHeld2
         have lz:=Z0.lt
         have hDv:Dep (fun b=>N0≤b∧b≠g8) z0 (intT 1) dv:=hd.next (Agr.refl _ _) (fun b h _=>⟨by have:=HB0.out.size;omega,by omega⟩)
         replace Z0:=Z0.later hb
         clear hb hd HB0 lz
         refine wpAnyH_ready (rs:=[1]) (by kernel_rfl) (by simp) ?_
         refine AllReadyH.cons rfl (fun K hK=>?_) ?_
         ·have HB0:Hid (Below V3.heap.size V3 z0):=KB1.out _ hHeld
          go_simp
          refine c18_algorithm.mono ?_
          rintro e z1 ⟨da,rfl,hd,hb⟩
          refine hK.out _ _ ?_ (fun hHeld2=>?_)
          ·exact KL1.out _ _ hHeld hb
          ·clear hK K
           try clear hHeld
           have hHeld:=hHeld2
           clear hHeld2
           have lz:=Z0.lt
           have hDa:Dep (fun b=>N0≤b∧b≠g8) z1 (algT) da:=hd.next (Agr.refl _ _) (fun b h _=>⟨by have:=HB0.out.size;omega,by omega⟩)
           replace hDv:=dpm hDv hb
           replace Z0:=Z0.later hb
           clear hb hd HB0 lz
           refine wpAnyH_ready (rs:=[5]) (by kernel_rfl) (by simp) ?_
           refine AllReadyH.cons rfl (fun K hK=>?_) ?_
           ·have HB0:Hid (Below V3.heap.size V3 z1):=KB1.out _ hHeld
            have hdv5:dv.length=5:=hDv.now.five
            have hda5:da.length=5:=hDa.now.five
            rw [if_pos (by rfl)]
            refine wp_buildSlice 51 53 5 _ rfl (dv++(da++(es1++(es2++(es3++[]))))).toArray jt _ Tryz.underlying51 hjt ht0 (by rw [ht1];decide) (by rw [ht1];decide) (by rw [ht1];refine (congrArg _ (?_:_=[(0,Value.agg dv.toArray),(1,.agg da.toArray),(2,.agg es1.toArray),(3,.agg es2.toArray),(4,.agg es3.toArray)])).trans (fill_25 hdv5 hda5 HL1.out HL2.out HL3.out);kernel_rfl) ?_
            refine hK.out _ _ ?_ (fun hHeld2=>?_)
            ·exact KA1.out _ _ hHeld
            ·clear hK K
             try clear hHeld
             have hHeld:=hHeld2
             clear hHeld2
             have hb:=bal z1 (.cells (dv++(da++(es1++(es2++(es3++[]))))).toArray 53)
             have hD9:RwS (fun b=>N0≤b∧b≠g8) (z1.alloc (.cells (dv++(da++(es1++(es2++(es3++[]))))).toArray 53)) (Value.slice (some ⟨z1.heap.size,0,none⟩) 5 5) [intT 1,algT,T1,T2,T3]:=RwS.lits (ks:=[intT 1,algT,T1,T2,T3]) (by simp [hdv5,hda5,HL1.out,HL2.out,HL3.out]) (by show 5≤maxLen;decide) (kc_c hDv hdv5 (kc_c hDa hda5 (kc_c (HD1.out.next (Agr.below HB0.out) (fun b h hl=>⟨h,by omega⟩)) HL1.out (kc_c (HD2.out.next (Agr.below HB0.out) (fun b h hl=>⟨h,by omega⟩)) HL2.out (kc_c (HD3.out.next (Agr.below HB0.out) (fun b h hl=>⟨h,by omega⟩)) HL3.out kc_n)))))
             have lz:=Z0.lt
             replace Z0:=Z0.later hb
             have lg9:N0≤z1.heap.size:=Nat.le_trans hszj HB0.out.size
             obtain ⟨g9,hg9⟩:∃ g,g=z1.heap.size:=⟨_,rfl⟩
             rw [← hg9] at hD9 lg9 ⊢
             have hne:g9≠g8:=by omega
             clear lz
             clear hg9 HB0 hDv hDa hb
             generalize (z1.alloc (.cells (dv++(da++(es1++(es2++(es3++[]))))).toArray 53))=z5 at *
             refine wpAnyH_ready (rs:=[6]) (by kernel_rfl) (by simp) ?_
             refine AllReadyH.cons rfl (fun K hK=>?_) ?_
             ·go_simp
              refine c18_list.mono ?_
              rintro e z6 ⟨rfl,hb⟩
              refine hK.out _ _ ?_ (fun hHeld2=>?_)
              ·exact KL1.out _ _ hHeld hb
              ·clear hK K
               try clear hHeld
               have hHeld:=hHeld2
               clear hHeld2
               replace hD9:RwS (fun b=>N0≤b∧b≠g8) z6 (Value.slice (some ⟨g9,0,none⟩) 5 5) [intT 1,algT,T1,T2,T3]:=hD9.later hb
               replace Z0:=Z0.later hb
               clear hb
               exact k5 z6 g8 g9 dv da hHeld hD9 Z0 lg8 lg9 hne
             exact AllReadyH.nil
           exact AllReadyH.nil
         exact AllReadyH.nil
       exact AllReadyH.nil
     exact AllReadyH.nil
    case kp =>
     intro wz g8 g9 dv da hHeld hD9 Z0 lg8 lg9 hne
     refine wpAnyH_ready (rs:=[8]) (by kernel_rfl) (by simp) ?_
     refine AllReadyH.cons rfl (fun K hK=>?_) ?_
     ·obtain ⟨tZ,hZ⟩:=Z0
      have HZ:Hid _:=hZ
      clear hZ
      rw [if_pos (by rfl)]
      refine wp_store_row 53 _ _ rfl g8 #[.int .i64 0,.int .i64 16,.bool true,.slice none 0 0,.slice (some ⟨g9,0,none⟩) 5 5] rfl rfl tZ _ HZ.out (by rw [size_tlv];rfl) rfl (by simp [Value.oneCell']) ?_
      refine hK.out _ _ ?_ (fun hHeld2=>?_)
      ·exact KI1.out _ (below_setRow (KB1.out _ hHeld) lg8 _)
      ·clear hK K
       try clear hHeld
       have hHeld:=hHeld2
       clear hHeld2
       have Bv:Blk (wz.setRow g8 #[.int .i64 0,.int .i64 16,.bool true,.slice none 0 0,.slice (some ⟨g9,0,none⟩) 5 5]) g8 [.int .i64 0,.int .i64 16,.bool true,.slice none 0 0,.slice (some ⟨g9,0,none⟩) 5 5]:=⟨tZ,setRow_heap _ _ _ _ _ _ HZ.out⟩
       replace hD9:RwS (fun b=>N0≤b∧b≠g8) (wz.setRow g8 #[.int .i64 0,.int .i64 16,.bool true,.slice none 0 0,.slice (some ⟨g9,0,none⟩) 5 5]) (Value.slice (some ⟨g9,0,none⟩) 5 5) [intT 1,algT,T1,T2,T3]:=hD9.row (fun h=>h.2 rfl) (by simp only [Value.ownBlock,ne_eq,Option.some.injEq];omega)
       clear HZ
       refine wpAnyH_done (by kernel_rfl) ?_ _
       refine NoPanic.normal ?_
       have st:=KB1.out _ hHeld
       have B0:=HBB.out.later st
       have R0:=HRR.out.later st
       have bel:=below_step HBel.out st
       clear st hHeld
       generalize (wz.setRow g8 #[.int .i64 0,.int .i64 16,.bool true,.slice none 0 0,.slice (some ⟨g9,0,none⟩) 5 5])=U1 at *
       have e3:=B0.cell 3 _ HQ3.out
       have l0:=B0.lt
       by_cases k0:GL=0
       ·have H:Hid (bodyP c=some (listT [intT 1,algT,T1,T2,T3])):=by show _=_;unfold bodyP;simp only [HX1.out,HX2.out,HX3.out,Option.bind_some];rw [if_pos (by rw [HGL.out];exact k0)]
        have d1:((GL:Int) == 0)=true:=by rw [k0];rfl
        have HD:Hid (Dep (fun b=>N0≤b) U1 (listT [intT 1,algT,T1,T2,T3]) [.int .i64 0,.int .i64 16,.bool true,.slice none 0 0,.slice (some ⟨g9,0,none⟩) 5 5]):=hD9.dep 0 16 true (fun b h=>h.1) (fun g hg=>by simp only [Value.ownBlock,Option.some.injEq] at hg;omega)
        clear k0 hD9
        have hld:(loadVar 53 ⟨g8,0,none⟩).run Tryz.prog U1=.ok (.agg #[.int .i64 0,.int .i64 16,.bool true,.slice none 0 0,.slice (some ⟨g9,0,none⟩) 5 5]) U1:=Bv.load Tryz.underlying53 rfl size_tlv rfl
        have l8:=Bv.lt
        obtain ⟨tR,hR⟩:=R0
        have HR1:Hid _:=hR
        clear hR
        go_wp2_with (first|((with_reducible show wpList _ _ _ ({ dst:=_,op:=.load _ _,type:=_,pos:=_,after:=_,guard:=_ } :: _) _ _);refine wpList_load_run (by rfl) (by rfl) (by rfl) hld ?_)|((with_reducible show wpList _ _ _ ({ dst:=_,op:=.store _ _ _,type:=_,pos:=_,after:=_,guard:=_ } :: _) _ _);refine wpList_store_row rfl 53 _ _ rfl (w.heap.size + 1) #[.int .i64 0,.int .i64 16,.bool true,.slice none 0 0,.slice (some ⟨g9,0,none⟩) 5 5] rfl rfl tR _ HR1.out (by rw [size_tlv];rfl) rfl (by simp [Value.oneCell']) ?_)|fail)
        refine bodyPost_ret (results_row_tmp rfl _ _ (w.heap.size + 1) tR #[.int .i64 0,.int .i64 16,.bool true,.slice none 0 0,.slice (some ⟨g9,0,none⟩) 5 5] (0,0) _ rfl (setRow_heap _ _ _ _ _ _ HR1.out) Tryz.underlying53 rfl (by rw [size_tlv];rfl)) rfl ?_
        exact ElR.ok (cs:=[.int .i64 0,.int .i64 16,.bool true,.slice none 0 0,.slice (some ⟨g9,0,none⟩) 5 5]) H.out (dep_ret HD.out lR lW) (below_setRow bel (by omega) _)
       have d1:((GL:Int) == 0)=false:=by rw [beq_eq_false_iff_ne];omega
       have HK0:Hid (¬ GL=0):=k0
       clear k0
       go_wp2_with fail
       refine (c18_goneElement (HG.out.later bel) HWG.out HSg.out).mono ?_
       rintro e w9a ⟨hb,hbad,hok⟩
       clear e3 l0 d1
       cases hx:gnO c.gone with
       | none =>
        obtain ⟨c9,rfl⟩:=hbad hx
        have H:Hid (bodyP c=none):=by show _=_;unfold bodyP;simp only [HX1.out,HX2.out,HX3.out,hx,if_neg (show ¬ c.gone.length=0 by rw [HGL.out];exact HK0.out),Option.bind_some,Option.bind_none]
        replace R0:=R0.later hb
        replace bel:=below_step bel hb
        clear hok hbad hb hx Bv hD9 B0
        have q:=ne_codeL c9
        have hz:=zero_tlv.out
        replace R0:=R0.alloc (.cells #[.int .i64 0,.int .i64 0,.bool false,.slice none 0 0,.slice none 0 0] 53)
        replace bel:=below_alloc (o:=.cells #[.int .i64 0,.int .i64 0,.bool false,.slice none 0 0,.slice none 0 0] 53) bel
        go_upto_region 14 with (first|((with_reducible show wpList _ _ _ ({ dst:=_,op:=.store _ _ _,type:=_,pos:=_,after:=_,guard:=_ } :: _) _ _);refine wpList_store_row rfl 53 _ _ rfl w9a.heap.size #[.int .i64 0,.int .i64 0,.bool false,.slice none 0 0,.slice none 0 0] rfl rfl 53 _ (heap_alloc_last _ _) (by rw [size_tlv];rfl) rfl (by simp [Value.oneCell']) ?_;rw [World.setRow_alloc_new])|fail)
        generalize w9a.alloc (.cells #[.int .i64 0,.int .i64 0,.bool false,.slice none 0 0,.slice none 0 0] 53)=V9 at *
        clear hz
        have hz:=zero_tlv.out
        obtain ⟨tR,hR⟩:=R0
        have HR1:Hid _:=hR
        clear hR
        go_wp2_with (first|((with_reducible show wpList _ _ _ ({ dst:=_,op:=.store _ _ _,type:=_,pos:=_,after:=_,guard:=_ } :: _) _ _);refine wpList_store_row rfl 53 _ _ rfl (w.heap.size + 1) #[.int .i64 0,.int .i64 0,.bool false,.slice none 0 0,.slice none 0 0] rfl rfl tR _ HR1.out (by rw [size_tlv];rfl) rfl (by simp [Value.oneCell']) ?_)|fail)
        refine bodyPost_ret (results_row_tmp rfl _ _ (w.heap.size + 1) tR #[.int .i64 0,.int .i64 0,.bool false,.slice none 0 0,.slice none 0 0] (0,0) _ rfl (setRow_heap _ _ _ _ _ _ HR1.out) Tryz.underlying53 rfl (by rw [size_tlv];rfl)) rfl ?_
        exact ElR.bad H.out (below_setRow bel (by omega) _)
       | some TG =>
        obtain ⟨es9,rfl,hd⟩:=hok TG hx
        have HX9:Hid (gnO c.gone=some TG):=hx
        have l8:=Bv.lt
        have l9:=hD9.lt (b:=g9) rfl
        have hU:N0≤U1.heap.size:=by omega
        have HDg:Hid (Dep (fun b=>(N0≤b∧b≠g8)∧(Value.slice (some ⟨g9,0,none⟩) 5 5).ownBlock≠some b) w9a TG es9):=hd.next (Agr.refl _ _) (fun b h _=>⟨⟨by omega,by omega⟩,fun e=>by simp only [Value.ownBlock,Option.some.injEq] at e;omega⟩)
        have HL9:Hid (es9.length=5):=hd.now.five
        have HO9:Hid (OneC es9):=hd.now.ones
        replace R0:=R0.later hb
        replace Bv:=Bv.later hb
        replace hD9:=hD9.later hb
        replace bel:=below_step bel hb
        clear hok hbad hb hx hd B0 l8 l9 hU
        have HS5e:Hid (es9.toArray.size=5):=by show _=_;rw [List.size_toArray];exact HL9.out
        have hz:=zero_tlv.out
        have hb:=bal w9a (.cells es9.toArray 53)
        replace R0:=R0.later hb
        replace Bv:=Bv.later hb
        replace hD9:=hD9.later hb
        replace HDg:=dpl HDg hb
        replace bel:=below_step bel hb
        have Q9:=Blk.new w9a es9 53 w9a.heap.size rfl
        go_upto_region 14 with (first|((with_reducible show wpList _ _ _ ({ dst:=_,op:=.store _ _ _,type:=_,pos:=_,after:=_,guard:=_ } :: _) _ _);refine wpList_store_row rfl 53 _ _ rfl w9a.heap.size es9.toArray rfl rfl 53 _ (heap_alloc_last _ _) (by rw [size_tlv,HS5e.out]) (by rw [HS5e.out];rfl) HO9.out ?_;rw [World.setRow_alloc_new])|fail)
        clear hz HS5e hb
        obtain ⟨gm,hGG⟩:∃ g,g=w9a.heap.size:=⟨_,rfl⟩
        rw [← hGG] at Q9 ⊢
        generalize (w9a.alloc (.cells es9.toArray 53))=V9 at *
        clear hGG
        have q:=ne_nilL
        go_upto_region 16 with fail
        clear q
        have e4:=Bv.cell 4 _ rfl
        have l4:=Bv.lt
        have hldm:(loadVar 53 ⟨gm,0,none⟩).run Tryz.prog V9=.ok (.agg es9.toArray) V9:=Q9.load Tryz.underlying53 rfl size_tlv HL9.out
        have lm:=Q9.lt
        have HF5:Hid _:=fill_5 HL9.out
        have hz:=zero_tlv.out
        have hbx:=bal V9 (.cells es9.toArray 53)
        have BvX:=Bv.later hbx
        replace R0:=R0.later hbx
        replace hD9:=hD9.later hbx
        replace HDg:=dpl HDg hbx
        replace bel:=below_step bel hbx
        have B5:=Blk.new V9 es9 53 V9.heap.size rfl
        have HD9:Hid (RwS (fun b=>N0≤b∧b≠g8) (V9.alloc (.cells es9.toArray 53)) (Value.slice (some ⟨g9,0,none⟩) 5 5) [intT 1,algT,T1,T2,T3]):=hD9
        clear hbx hD9
        go_upto_region 17 with (first|((with_reducible show wpList _ _ _ ({ dst:=_,op:=.load _ _,type:=_,pos:=_,after:=_,guard:=_ } :: _) _ _);refine wpList_load_run (by rfl) (by rfl) (by rfl) hldm ?_)|((with_reducible show wpList _ _ _ ({ dst:=_,op:=.buildSlice _ _ _,type:=_,pos:=_,after:=_,guard:=_ } :: _) _ _);refine Go.wpList_buildSlice rfl 51 53 1 _ rfl es9.toArray jt _ Tryz.underlying51 hjt ht0 (by rw [ht1];decide) (by rw [ht1];decide) (by rw [ht1];refine (congrArg _ (?_:_=[(0,Value.agg es9.toArray)])).trans HF5.out;kernel_rfl) ?_)|(at_builtin;refine wpList_append_rws (by rfl) _ _ (by rfl) (fun b=>N0≤b∧b≠g8) (Value.slice (some ⟨g9,0,none⟩) 5 5) [intT 1,algT,T1,T2,T3] (by rfl) HD9.out V9.heap.size (by rfl) es9 B5 HL9.out HO9.out TG HDg.out (by show 5≤1000000;omega) ?_;intro kv9 w9 hr9 hgrow9 hat9;obtain ⟨ka9,kc9,hkv9⟩:=hr9.sl;replace hkv9:kv9=Value.slice ka9 6 kc9:=hkv9;subst hkv9;have Bw:=BvX.grown hgrow9 (fun k hk e=>by simp only [Value.ownBlock,Option.some.injEq] at hk;omega);have e4b:=Bw.cell 4 _ rfl;have l4b:=Bw.lt;have f4b:=Bw.frozen 4)|fail)
        have hzb:=bel.size
        have lx:=BvX.lt
        have hsz9:=hgrow9.size
        replace R0:=R0.grown hgrow9 (fun k hk e=>by simp only [Value.ownBlock,Option.some.injEq] at hk;omega)
        replace bel:=Below.grown bel hgrow9 hzb (fun k hk=>by simp only [Value.ownBlock,Option.some.injEq] at hk;omega)
        have HOw:Hid (∀ g,(Value.slice ka9 6 kc9).ownBlock=some g→N0≤g∧g≠g8):=fun g hg=>by
         rcases hat9 with h|h
         ·rw [h] at hg
          simp only [Value.ownBlock,Option.some.injEq] at hg
          omega
         ·rw [h] at hg
          simp only [Option.some.injEq] at hg
          omega
        clear hgrow9 hat9 e4 l4 hldm lm e4b l4b f4b hz HF5 Bv BvX B5 Q9 HDg HD9
        replace Bw:Blk (w9.setCell ⟨g8,4,none⟩ (Value.slice ka9 6 kc9)) g8 [.int .i64 0,.int .i64 16,.bool true,.slice none 0 0,.slice ka9 6 kc9]:=Bw.set 4 _
        have HRn:Hid (RwS (fun b=>N0≤b∧b≠g8) (w9.setCell ⟨g8,4,none⟩ (Value.slice ka9 6 kc9)) (Value.slice ka9 6 kc9) ([intT 1,algT,T1,T2,T3]++[TG])):=RwS.cell hr9 (fun h=>h.2 rfl) (fun e=>(HOw.out _ e).2 rfl)
        replace R0:=R0.other ⟨g8,4,none⟩ (Value.slice ka9 6 kc9) (by show _≠g8;omega)
        replace bel:Below w.heap.size w (w9.setCell ⟨g8,4,none⟩ (Value.slice ka9 6 kc9)):=bel.setCell (by show _≤g8;omega) _
        generalize (w9.setCell ⟨g8,4,none⟩ (Value.slice ka9 6 kc9))=U2 at *
        clear hr9 hzb lx hsz9
        have HD:Hid (Dep (fun b=>N0≤b) U2 (listT ([intT 1,algT,T1,T2,T3]++[TG])) [.int .i64 0,.int .i64 16,.bool true,.slice none 0 0,.slice ka9 6 kc9]):=HRn.out.dep 0 16 true (fun b h=>h.1) (fun g hg=>(HOw.out g hg).1)
        have H:Hid (bodyP c=some (listT ([intT 1,algT,T1,T2,T3]++[TG]))):=by show _=_;unfold bodyP;simp only [HX1.out,HX2.out,HX3.out,HX9.out,Option.bind_some];rw [if_neg (by rw [HGL.out];exact HK0.out)]
        clear HRn HOw
        have hld:(loadVar 53 ⟨g8,0,none⟩).run Tryz.prog U2=.ok (.agg #[.int .i64 0,.int .i64 16,.bool true,.slice none 0 0,.slice ka9 6 kc9]) U2:=Bw.load Tryz.underlying53 rfl size_tlv rfl
        have l8:=Bw.lt
        obtain ⟨tR,hR⟩:=R0
        have HR1:Hid _:=hR
        clear hR
        go_wp2_with (first|((with_reducible show wpList _ _ _ ({ dst:=_,op:=.load _ _,type:=_,pos:=_,after:=_,guard:=_ } :: _) _ _);refine wpList_load_run (by rfl) (by rfl) (by rfl) hld ?_)|((with_reducible show wpList _ _ _ ({ dst:=_,op:=.store _ _ _,type:=_,pos:=_,after:=_,guard:=_ } :: _) _ _);refine wpList_store_row rfl 53 _ _ rfl (w.heap.size + 1) #[.int .i64 0,.int .i64 16,.bool true,.slice none 0 0,.slice ka9 6 kc9] rfl rfl tR _ HR1.out (by rw [size_tlv];rfl) rfl (by simp [Value.oneCell']) ?_)|fail)
        refine bodyPost_ret (results_row_tmp rfl _ _ (w.heap.size + 1) tR #[.int .i64 0,.int .i64 16,.bool true,.slice none 0 0,.slice ka9 6 kc9] (0,0) _ rfl (setRow_heap _ _ _ _ _ _ HR1.out) Tryz.underlying53 rfl (by rw [size_tlv];rfl)) rfl ?_
        exact ElR.ok (cs:=[.int .i64 0,.int .i64 16,.bool true,.slice none 0 0,.slice ka9 6 kc9]) H.out (dep_ret HD.out lR lW) (below_setRow bel (by omega) _)
     exact AllReadyH.nil
end Go.Proofs.YtohcdbifhnfcbaaGreatDoor
