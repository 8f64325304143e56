import Derived.Test.YtohcdbifhnfcbaaGreatDoorRdSgn
import Derived.Test.YtohcdbifhnfcbaaGreatDoorCtSize
import Derived.Test.YtohcdbifhnfcbaaGreatDoorKdBody0
import Derived.Test.YtohcdbifhnfcbaaGreatDoorNlSG
import Derived.Test.YtohcdbifhnfcbaaGreatDoorNlPG
import Derived.Test.YtohcdbifhnfcbaaGreatDoorCtElm
import Derived.Test.YtohcdbifhnfcbaaGreatDoorKrSame
import Derived.Test.YtohcdbifhnfcbaaGreatDoorDrTG
import Derived.Test.YtohcdbifhnfcbaaGreatDoorDrDG
import Derived.Test.YtohcdbifhnfcbaaGreatDoorRows
import Derived.Deep.WholeRow
import Derived.Deep.RegionHeld3
import Derived.Deep.DeepCutAuto
import Derived.Deep.DeepFit
import Derived.Deep.OwnRows
import Derived.Deep.AppendLies
import Derived.Great.BuildSlice
import Derived.Laws.Rows
import Derived.BigQuiet
namespace Go.Proofs.YtohcdbifhnfcbaaGreatDoor
open Go.RowKit
def Zd6:Tl→Option Pn
 | .mk _ _ _ _ [.mk _ _ _ _ [.mk _ _ _ b0 _,.mk _ _ _ b1 _]]=>if b0.length=3 then some (b0.getD 2 0,b1) else none
 | _=>none
theorem rpt_k1 {c t:Int} {m:Bool} {b:List Int} {ks:List Tl} (h:¬ ks.length=1):Zd6 (.mk c t m b ks)=none:=by
 unfold Zd6
 split
 ·rename_i e
  simp only[Tl.mk.injEq] at e;exact absurd (by rw[e.2.2.2.2];rfl) h
 ·rfl
theorem rpt_k2 {c t c1 t1:Int} {m m1:Bool} {b b1:List Int} {ks:List Tl} (h:¬ ks.length=2):Zd6 (.mk c t m b [.mk c1 t1 m1 b1 ks])=none:=by
 unfold Zd6
 split
 ·rename_i e
  simp only[Tl.mk.injEq,List.cons.injEq] at e;exact absurd (by rw[e.2.2.2.2.1.2.2.2.2];rfl) h
 ·rfl
theorem rpt_n3 {c t c1 t1 c2 t2 c3 t3:Int} {m m1 m2 m3:Bool} {b b1 b2 b3:List Int} {k2 k3:List Tl} (h:¬ b2.length=3):Zd6 (.mk c t m b [.mk c1 t1 m1 b1 [.mk c2 t2 m2 b2 k2,.mk c3 t3 m3 b3 k3]])=none:=by
 rw[Zd6,if_neg h]
theorem rpt_ok {c t c1 t1 c2 t2 c3 t3:Int} {m m1 m2 m3:Bool} {b b1 b2 b3:List Int} {k2 k3:List Tl} (h:b2.length=3):Zd6 (.mk c t m b [.mk c1 t1 m1 b1 [.mk c2 t2 m2 b2 k2,.mk c3 t3 m3 b3 k3]])=some (b2.getD 2 0,b3):=by
 rw[Zd6,if_pos h]
theorem Zha:∀ {ks:List Tl} {i:Nat} {k:Tl},ks[i]?=some k→Zd6 k=none→ks.mapM Zd6=none
 | [],i,k,h,_=>by simp at h
 | x::xs,0,k,h,e=>by
  simp at h;subst h;rw[List.mapM_cons,e]
  rfl
 | x::xs,i+1,k,h,e=>by
  rw[List.getElem?_cons_succ] at h;rw[List.mapM_cons,Zha h e]
  cases Zd6 x<;>rfl
theorem Zpn {ks:List Tl} {i:Nat} {k:Tl} {n:List Pn} {p:Pn} (h:(ks.take i).mapM Zd6=some n) (hk:ks[i]?=some k) (e:Zd6 k=some p):(ks.take (i+1)).mapM Zd6=some (n++[p]):=by
 rw[List.take_add_one,hk,List.mapM_append,h];simp[e]
theorem Zpo (p:Pn):Zd6 (ZbX p)=some p:=rfl
theorem ZjD:∀ n:List Pn,(n.map ZbX).mapM Zd6=some n
 | []=>rfl
 | p::n=>by rw[List.map_cons,List.mapM_cons,Zpo,ZjD n];rfl
theorem Zq7 {k:Tl} {p:Pn} (w:WfT k) (h:Zd6 k=some p):(0≤p.1∧p.1<256)∧byt p.2:=by
 unfold Zd6 at h
 split at h
 ·split at h
  ·cases h
   rw[WfT,WfL] at w;have w1:=w.2.2.2.1;rw[WfT,WfL,WfL] at w1;obtain ⟨-,-,-,w2,w3,-⟩:=w1;rw[WfT] at w2 w3;exact ⟨w2.2.2.1 2,w3.2.2.1⟩
  ·cases h
 ·cases h
theorem Zp5:∀ {ks:List Tl} {n:List Pn},WfL ks→ks.mapM Zd6=some n→∀ p∈n,(0≤p.1∧p.1<256)∧byt p.2
 | [],n,_,h,p,hp=>by
  cases h
  cases hp
 | k::ks,n,w,h,p,hp=>by
  rw[WfL] at w;rw[List.mapM_cons] at h
  cases e1:Zd6 k with
  | none=>rw[e1] at h;cases h
  | some q =>
   cases e2:ks.mapM Zd6 with
   | none=>rw[e1,e2] at h;cases h
   | some m =>
    rw[e1,e2] at h
    cases h
    rcases List.mem_cons.1 hp with rfl|h9
    ·exact Zq7 w.1 e1
    ·exact Zp5 w.2 e2 p h9
noncomputable def ofT (T:Tl):Option (List Pn):=match (ZgU T).mapM Zd6 with|some n=>(open Classical in if Zc3 n=true∧T=ZbC n then some n else none)|none=>none
theorem Zmv {c t:Int} {m:Bool} {b:List Int} {ks:List Tl} (h:ks.mapM Zd6=none):ofT (.mk c t m b ks)=none:=by
 unfold ofT;rw[show ZgU (.mk c t m b ks)=ks from rfl,h]
theorem Zjz {T:Tl} {n:List Pn} (h:(ZgU T).mapM Zd6=some n):ofT T=(open Classical in if Zc3 n=true∧T=ZbC n then some n else none):=by
 unfold ofT;rw[h]
theorem ofT_is {T:Tl} (f:ZaK T=true):okO (Zcz T)=ofT T:=by
 cases h:Zcz T with
 | ok n =>
  obtain⟨e,hm⟩:=Zh5 h f;have h2:(ZgU T).mapM Zd6=some n:=by rw[e];exact ZjD n
  rw[Zjz h2,if_pos ⟨hm,e⟩]
  rfl
 | error c =>
  unfold ofT
  cases h2:(ZgU T).mapM Zd6 with
  | none=>rfl
  | some n =>
   simp only;rw[if_neg]
   ·rfl
   ·rintro ⟨h3,h4⟩
    rw[h4,ZmW h3] at h
    cases h
def OfB (w:World) (r:Option (List Pn)) (e:Ending) (w':World):Prop:=Below w.heap.size w w'∧(r=none→∃ (ao:Option Addr) (n k:Nat),e=.returned (.tuple #[.slice ao n k,.bool false]))∧(∀ m,r=some m→∃ (ao:Option Addr) (k:Nat),e=.returned (.tuple #[.slice ao m.length k,.bool true])∧Zey w w' (.slice ao m.length k) m)
theorem OfB.no {w w':World} {r:Option (List Pn)} {ao:Option Addr} {n k:Nat} (h:r=none) (hb:Below w.heap.size w w'):OfB w r (.returned (.tuple #[.slice ao n k,.bool false])) w':=⟨hb,fun _=>⟨ao,n,k,rfl⟩,fun m q=>(by rw[h] at q;cases q)⟩
theorem OfB.yes {w w':World} {r:Option (List Pn)} {m:List Pn} {ao:Option Addr} {n k:Nat} (h:r=some m) (hl:m.length=n) (hn:Zey w w' (.slice ao n k) m) (hb:Below w.heap.size w w'):OfB w r (.returned (.tuple #[.slice ao n k,.bool true])) w':=⟨hb,fun q=>(by rw[h] at q;cases q),fun m' q=>(by rw[h] at q;cases q;subst hl;exact ⟨ao,k,rfl,hn⟩)⟩
set_option linter.unusedSimpArgs false in
set_option maxRecDepth 100000 in
set_option maxHeartbeats 8000000 in
theorem r16_Of {T:Tl} {cs:List Value} {w:World} (h:Zav w T cs) (wf:WfT T) (f:ZaK T=true) (hz:szT T≤1000000) :
  Calls Tryz.prog 44 #[.agg cs.toArray] w (OfB w (okO (Zcz T))):=by
 rw[ofT_is f];obtain ⟨c,t,m,b,ks⟩:=T;have HT9:Hid (Zav w (.mk c t m b ks) cs):=h;have HFi:Hid (ZaK (.mk c t m b ks)=true):=f;have HWT:Hid (WfT (.mk c t m b ks)):=wf;have HSz:Hid (szT (.mk c t m b ks)≤1000000):=hz;have HZ:Hid (ks.length≤1000000):=by have h1:=Zix ks;rw[szT] at hz;show _≤_;omega
 rw[WfT] at wf;have HWf:Hid (WfL ks):=wf.2.2.2;rw[Zav] at h;obtain ⟨bv,ka,kc,rfl,hbv,x1,x2,hk⟩:=h;obtain ⟨ba,bc,rfl,-,-,-⟩:=hbv;have HK:Hid (0<ks.length→∃ g o,ka=some ⟨g,o,none⟩∧Zap w ks g o):=hk;obtain ⟨N,hN⟩:∃ N,b.length=N:=⟨_,rfl⟩;obtain ⟨K,hK⟩:∃ K,ks.length=K:=⟨_,rfl⟩;have HL:Hid (ks.length=K):=hK;rw[hK] at HK HZ HT9 ⊢;rw[hN] at HT9 ⊢;clear hN hK hk x1 x2 hz wf f;have B:=Blk.new w [.int .i64 c,.int .i64 t,.bool m,.slice ba N bc,.slice ka K kc] 53 w.heap.size rfl;have bel:Below w.heap.size w (w.alloc (.cells #[.int .i64 c,.int .i64 t,.bool m,.slice ba N bc,.slice ka K kc] 53)):=(Below.refl _ _).alloc (Nat.le_refl _) _;go_enter Tryz.func44,Tryz.ntmps44;go_upto_region 1 with fail;generalize w.alloc (.cells #[.int .i64 c,.int .i64 t,.bool m,.slice ba N bc,.slice ka K kc] 53)=W at *;obtain ⟨W0,hW0⟩:∃ z,z=W.heap.size:=⟨_,rfl⟩;have hg0:w.heap.size<W0:=by rw[hW0];exact B.lt
 have hs:W0≤W.heap.size:=by omega
 clear hW0;go_wp2_with fail;go_loopw [4,5] (fun ov iv wx=>∃ (i:Nat) (n:List Pn),i≤K∧iv=.int .i64 (i:Int)∧wx.ownsRow W0 106 2 ov i (ptC n)∧Hid ((ks.take i).mapM Zd6=some n)∧Hid (∀ p∈n,p.2.length≤maxLen)∧Blk wx w.heap.size [.int .i64 c,.int .i64 t,.bool m,.slice ba N bc,.slice ka K kc]∧Below w.heap.size w wx∧W0≤wx.heap.size) (fun _ iv _=>K-(intOf iv).toNat)
 case atStart=>exact ⟨0,[],by omega,rfl,⟨rfl,.inl ⟨rfl,rfl⟩⟩,by show List.mapM Zd6 (ks.take 0)=some [];simp,(fun p h9=>absurd h9 (List.not_mem_nil)),B,bel,hs⟩
 case round =>
  clear B bel hs;obtain ⟨i,n,hi,rfl,own,HM,HPl,B,bel,hs⟩:=hrel
  by_cases hil:i<K
  rotate_left
  ·have HI:Hid ((ZgU (.mk c t m b ks)).mapM Zd6=some n):=by have h:=HM.out;rw[List.take_of_length_le (by rw[HL.out];omega)] at h;exact h
   have HNl:Hid (n.length=i):=by have h:=own.1;rw[Zg5] at h;show _=_;omega
   have HWn:Hid (WfN n):=fun j p hp=>by
    have h:=Zp5 HWf.out HI.out p (List.mem_of_getElem? hp);exact ⟨by omega,h.2,HPl.out p (List.mem_of_getElem? hp)⟩
   have HNm:Hid (Zcq wr _ n):=Zcq.of_own own;have g1:¬ (i:Int)<(K:Int):=by omega
   obtain⟨oa,oc,hov⟩:=Zp0 own;subst hov;have HNew:Hid (Zey w wr (.slice oa i oc) n):=Zey.of_own own (by omega);clear own HM HK hil hi;have f4:=B.cell 4 _ rfl;have fl:=B.lt;go_wp2_with fail;refine (ZmO HNm.out HWn.out).mono ?_;rintro e w2 ⟨rfl,hb⟩;replace HNm:Hid (Zcq w2 (.slice oa i oc) n):=HNm.out.later hb;have st:Below wr.heap.size wr w2:=hb;replace B:=B.later hb;replace bel:=Zaa bel hb;clear hb f4 fl g1;obtain ⟨bm,hbm⟩:∃ z,Zc3 n=z:=⟨_,rfl⟩;have HMy:Hid (Zc3 n=bm):=hbm;rw[hbm];clear hbm;go_upto_region 11 with fail;have HB9:Hid (Blk w2 w.heap.size [.int .i64 c,.int .i64 t,.bool m,.slice ba N bc,.slice ka K kc]):=B;have HBel:Hid (Below w.heap.size w w2):=bel;obtain ⟨S1,hS1,KB1,KD1,KL1⟩:∃ S:World→Prop,Hd S w2∧Hid (∀ wx,Hd S wx→Below w2.heap.size w2 wx)∧Hid (∀ wx,Hd S wx→Hd S wx.drew)∧Hid (∀ w1 w3,Hd S w1→Below w1.heap.size w1 w3→Hd S w3):=⟨fun wx=>Below w2.heap.size w2 wx,Below.refl _ _,fun _ h=>h,fun wx h=>Below.drew h,fun w1 w3 h hb=>Zaa h hb⟩;have R1:Hid (∀ wx,Hd S1 wx→(loadVar 53 ⟨w.heap.size,0,none⟩).run Tryz.prog wx=.ok (.agg #[.int .i64 c,.int .i64 t,.bool m,.slice ba N bc,.slice ka K kc]) wx):=fun wx h=>(HB9.out.later (KB1.out wx h)).load Tryz.underlying53 rfl Zae rfl;clear B bel
   cases bm with
   | false =>
    have H:Hid (ofT (.mk c t m b ks)=none):=by show _=_;rw[Zjz HI.out,if_neg (fun h=>by rw[HMy.out] at h;cases h.1)]
    refine wp_region_noPanic ?_;refine wp_region_held_drew (S:=Hd S1) (by kernel_rfl) (KD1.out _ hS1) (fun hHeld=>?_);clear hS1;generalize World.drew _=wd1 at *;refine tkA 0 ?_;refine tkA 1 ?_;refine tkA 2 ?_;refine skA 3 ?_;refine skA 4 ?_;refine skA 5 ?_;refine skA 6 ?_;refine tkA 7 ?_;refine tkA 8 ?_;refine tkA 9 ?_;refine wpAnyH_done (by kernel_rfl) ?_ _;refine NoPanic.normal ?_;have bel:=Zaa HBel.out (KB1.out _ hHeld);have st9:=Zaa st (KB1.out _ hHeld);clear hHeld R1;go_wp2_with fail;refine bodyPost_ret (results_tmp2 rfl _ _ _) rfl ?_;exact OfB.no H.out bel
   | true =>
    refine wp_region_noPanic ?_;refine wp_region_held_drew (S:=Hd S1) (by kernel_rfl) (KD1.out _ hS1) (fun hHeld=>?_);clear hS1;generalize World.drew _=wd1 at *;refine tkA 0 ?_;refine tkA 1 ?_;refine tkA 2 ?_;refine trA 3 (.agg #[.int .i64 c,.int .i64 t,.bool m,.slice ba N bc,.slice ka K kc]) R1.out ?_;refine tkA 4 ?_;refine wpAnyH_ready (rs:=[5]) (by kernel_rfl) (by simp) ?_;refine AllReadyH.cons rfl (fun K hK=>?_) ?_
    ·have HH2:Hid (Hd S1 wd1):=hHeld
     go_simp;refine (ZfR (HNm.out.later (KB1.out _ hHeld)) HWn.out HMy.out).mono ?_;rintro e z2 ⟨kv2,xs2,rfl,own2,hk2,hb⟩;refine hK.out _ _ ?_ (fun hHeld2=>?_)
     ·exact KL1.out _ _ hHeld hb
     ·clear hK K
      try clear hHeld
      have hHeld:=hHeld2;clear hHeld2
      try simp only[Act.put,List.getElem_toArray,List.getElem_cons_zero,List.getElem_cons_succ,List.setIfInBounds_toArray,List.set_cons_zero,List.set_cons_succ]
      have HT2:Hid (Dep (fun b=>wd1.heap.size≤b) z2 (ZbC n) [.int .i64 0,.int .i64 16,.bool true,.slice none 0 0,kv2]):=Ze2.tl own2 hk2;clear own2 hk2 hb HH2;refine wpAnyH_ready (rs:=[6]) (by kernel_rfl) (by simp) ?_;refine AllReadyH.cons rfl (fun K hK=>?_) ?_
      ·go_simp
       refine(Zfl _ (.mk c t m b ks) (ZbC n) _ _ _ (Nat.le_refl _) HWT.out (Zry HMy.out HWn.out) (HT9.out.later (Zaa HBel.out (KB1.out _ hHeld))) HT2.out.now).mono ?_;rintro e z3 ⟨rfl,hb⟩;refine hK.out _ _ ?_ (fun hHeld2=>?_)
       ·exact KL1.out _ _ hHeld hb
       ·clear hK K
        try clear hHeld
        have hHeld:=hHeld2;clear hHeld2
        try simp only[Act.put,List.getElem_toArray,List.getElem_cons_zero,List.getElem_cons_succ,List.setIfInBounds_toArray,List.set_cons_zero,List.set_cons_succ]
        clear hb HT2;obtain ⟨sb,hsb⟩:∃ z,ZcW (.mk c t m b ks) (ZbC n)=z:=⟨_,rfl⟩;have HSb:Hid (ZcW (.mk c t m b ks) (ZbC n)=sb):=hsb;rw[hsb];clear hsb;refine tkA 7 ?_;refine tkA 8 ?_;refine tkA 9 ?_;refine wpAnyH_done (by kernel_rfl) ?_ _;refine NoPanic.normal ?_;have bel:=Zaa HBel.out (KB1.out _ hHeld);have st9:=Zaa st (KB1.out _ hHeld);clear hHeld R1;go_wp2_with fail;refine bodyPost_ret (results_tmp2 rfl _ _ _) rfl ?_
        cases sb with
        | false =>
         have H:Hid (ofT (.mk c t m b ks)=none):=by show _=_;rw[Zjz HI.out,if_neg (fun h=>by have h9:=HSb.out;rw[ZbB h.2] at h9;cases h9)]
         exact OfB.no H.out bel
        | true =>
         have HEq:Hid (Tl.mk c t m b ks=ZbC n):=by
          show _=_;exact Classical.byContradiction (fun hc=>by have h9:=HSb.out;rw[ZaY hc] at h9;cases h9)
         have H:Hid (ofT (.mk c t m b ks)=some n):=by show _=_;rw[Zjz HI.out,if_pos ⟨HMy.out,HEq.out⟩]
         exact OfB.yes H.out HNl.out (fun w'' ha=>HNew.out w'' ((Agr.below st9).trans ha)) bel
      exact AllReadyH.nil
    exact AllReadyH.nil

  have g1:(i:Int)<(K:Int):=by omega
  have g2:(0:Int)≤(i:Int):=by omega
  have hK6:=HZ.out;have gi:IntKind.i64.wrap ((i:Int)+1)=(i:Int)+1:=by rw[IntKind.wrap_i64];omega
  obtain⟨k,hkk⟩:=ZbI (show i<ks.length by rw[HL.out];exact hil);have hwk:=HWf.out.get hkk;obtain ⟨g,o,rfl,hks⟩:=HK.out (by omega);obtain ⟨cs1,hc1,ht1⟩:=hks.get hkk;have hld0:=hc1.later bel;obtain ⟨c1,t1,m1,b1,k1⟩:=k;rw[Zav] at ht1;obtain ⟨bv1,ka1,kc1,hcs1,hb1,x11,x21,hk1⟩:=ht1;subst hcs1;obtain ⟨ba1,bc1,rfl,y11,y21,y31⟩:=id hb1;have HB1:Hid (Bs w (.slice ba1 b1.length bc1) b1):=hb1;have HK1:Hid (0<k1.length→∃ g o,ka1=some ⟨g,o,none⟩∧Zap w k1 g o):=hk1;obtain ⟨N1,hN1⟩:∃ N,b1.length=N:=⟨_,rfl⟩;obtain ⟨K1,hK1⟩:∃ K,k1.length=K:=⟨_,rfl⟩;have HN1:Hid (b1.length=N1):=hN1;have HL1:Hid (k1.length=K1):=hK1;rw[hN1] at HB1 hc1;rw[hK1] at hc1 HK1;clear hN1 hK1 hk1 hb1 y11 y21 y31 x11 x21;have HKK:Hid (ks[i]?=some (.mk c1 t1 m1 b1 k1)):=hkk;rw[WfT] at hwk;have hld1:(loadVar 53 ⟨g,o+i*5,none⟩).run Tryz.prog wr=.ok (.agg #[.int .i64 c1,.int .i64 t1,.bool m1,.slice ba1 N1 bc1,.slice ka1 K1 kc1]) wr:=Zat (by rw[Nat.mul_comm];exact hc1.later bel) rfl;have lg1:g<wr.heap.size:=(hc1.later bel).1;have f4:=B.cell 4 _ rfl;have fl:=B.lt;clear hc1 hkk hks hld0;have hz:=Zaj.out;have B1:=Blk.new wr [.int .i64 c1,.int .i64 t1,.bool m1,.slice ba1 N1 bc1,.slice ka1 K1 kc1] 53 wr.heap.size rfl;replace B:=B.alloc (.cells #[.int .i64 c1,.int .i64 t1,.bool m1,.slice ba1 N1 bc1,.slice ka1 K1 kc1] 53);have own2:=own.alloc (.cells #[.int .i64 c1,.int .i64 t1,.bool m1,.slice ba1 N1 bc1,.slice ka1 K1 kc1] 53);have hs2:W0≤(wr.alloc (.cells #[.int .i64 c1,.int .i64 t1,.bool m1,.slice ba1 N1 bc1,.slice ka1 K1 kc1] 53)).heap.size:=Nat.le_trans hs ((Below.refl _ _).alloc (Nat.le_refl _) _).size;replace bel:=Zah (o:=.cells #[.int .i64 c1,.int .i64 t1,.bool m1,.slice ba1 N1 bc1,.slice ka1 K1 kc1] 53) bel;clear own hs;go_upto_region 6 with (first|((with_reducible show wpList _ _ _ (⟨_,.load _ _,_,_,_,_⟩::_) _ _);refine Zab (by rfl) (by rfl) (by rfl) hld1 ?_)|((with_reducible show wpList _ _ _ (⟨_,.store _ _ _,_,_,_,_⟩::_) _ _);refine wpList_store_row rfl 53 _ _ rfl wr.heap.size #[.int .i64 c1,.int .i64 t1,.bool m1,.slice ba1 N1 bc1,.slice ka1 K1 kc1] rfl rfl 53 _ (heap_alloc_last _ _) (by rw[Zae];rfl) rfl (by simp[Value.oneCell']) ?_;rw[World.setRow_alloc_new])|fail);clear hz hld1;obtain ⟨g1,hg9⟩:∃ g,g=wr.heap.size:=⟨_,rfl⟩;rw[← hg9] at B1;generalize wr.alloc (.cells #[.int .i64 c1,.int .i64 t1,.bool m1,.slice ba1 N1 bc1,.slice ka1 K1 kc1] 53)=V1 at *;rw[← hg9];clear hg9;have own:=own2;have hs:=hs2;clear own2 hs2;clear f4 fl lg1;have f4:=B1.cell 4 _ rfl;have fl:=B1.lt
  by_cases hq:K1=1
  rotate_left
  ·have HQ:Hid (¬ K1=1):=hq
   have H:Hid (ofT (.mk c t m b ks)=none):=Zmv (Zha HKK.out (rpt_k1 (fun h=>HQ.out (by rw[← HL1.out];exact h))));have d1:((K1:Int) == 1)=false:=by rw[beq_eq_false_iff_ne];omega
   have d2:((K1:Int) != 1)=true:=by rw[bne,d1];rfl
   clear hq own HK;go_wp2_with fail;refine bodyPost_ret (results_tmp2 rfl _ _ _) rfl ?_;exact OfB.no H.out bel
  subst hq;obtain ⟨k9,rfl⟩:∃ k,k1=[k]:=List.length_eq_one_iff.1 HL1.out;obtain ⟨g1b,o1b,rfl,hks⟩:=HK1.out (by omega);rw[Zap] at hks;obtain ⟨⟨cs2,hc2,ht2⟩,-⟩:=hks;have hwl:=hwk.2.2.2;rw[WfL] at hwl;replace hwl:=hwl.1;clear HK1;obtain ⟨c2,t2,m2,b2,k2⟩:=k9;rw[Zav] at ht2;obtain ⟨bv2,ka2,kc2,hcs2,hb2,x12,x22,hk2⟩:=ht2;subst hcs2;obtain ⟨ba2,bc2,rfl,y12,y22,y32⟩:=id hb2;have HB2:Hid (Bs w (.slice ba2 b2.length bc2) b2):=hb2;have HK2:Hid (0<k2.length→∃ g o,ka2=some ⟨g,o,none⟩∧Zap w k2 g o):=hk2;obtain ⟨N2,hN2⟩:∃ N,b2.length=N:=⟨_,rfl⟩;obtain ⟨K2,hK2⟩:∃ K,k2.length=K:=⟨_,rfl⟩;have HN2:Hid (b2.length=N2):=hN2;have HL2:Hid (k2.length=K2):=hK2;rw[hN2] at HB2 hc2;rw[hK2] at hc2 HK2;clear hN2 hK2 hk2 hb2 y12 y22 y32 x12 x22;rw[WfT] at hwl;have HC2:Hid (w.cell? ⟨g1b,o1b+4,none⟩=some (.slice ka2 K2 kc2)∧g1b<w.heap.size):=⟨hc2.2 4 _ rfl,hc2.1⟩;have u4:=Zan HC2.out.1 bel;have ul:g1b<V1.heap.size:=Nat.lt_of_lt_of_le HC2.out.2 bel.size;clear hc2
  by_cases hq:K2=2
  rotate_left
  ·have HQ:Hid (¬ K2=2):=hq
   have H:Hid (ofT (.mk c t m b ks)=none):=Zmv (Zha HKK.out (rpt_k2 (fun h=>HQ.out (by rw[← HL2.out];exact h))));have d1:((K2:Int) == 2)=false:=by rw[beq_eq_false_iff_ne];omega
   have d2:((K2:Int) != 2)=true:=by rw[bne,d1];rfl
   clear hq own HK;go_wp2_with fail;refine bodyPost_ret (results_tmp2 rfl _ _ _) rfl ?_;exact OfB.no H.out bel
  subst hq;obtain ⟨p9,q9,rfl⟩:∃ p q,k2=[p,q]:=ZnA HL2.out;obtain ⟨g2b,o2b,rfl,hks⟩:=HK2.out (by omega);rw[Zap,Zap] at hks;obtain ⟨⟨cs3,hc3,ht3⟩,⟨cs4,hc4,ht4⟩,-⟩:=hks;have hwo:=hwl.2.2.2;rw[WfL,WfL] at hwo;obtain ⟨hw3,hw4,-⟩:=hwo;clear HK2 hwl hwk;obtain ⟨c3,t3,m3,b3,k3⟩:=p9;rw[Zav] at ht3;obtain ⟨bv3,ka3,kc3,hcs3,hb3,x13,x23,hk3⟩:=ht3;subst hcs3;obtain ⟨ba3,bc3,rfl,y13,y23,y33⟩:=id hb3;have HB3:Hid (Bs w (.slice ba3 b3.length bc3) b3):=hb3;have HK3:Hid (0<k3.length→∃ g o,ka3=some ⟨g,o,none⟩∧Zap w k3 g o):=hk3;obtain ⟨N3,hN3⟩:∃ N,b3.length=N:=⟨_,rfl⟩;obtain ⟨K3,hK3⟩:∃ K,k3.length=K:=⟨_,rfl⟩;have HN3:Hid (b3.length=N3):=hN3;have HL3:Hid (k3.length=K3):=hK3;rw[hN3] at HB3 hc3;rw[hK3] at hc3 HK3;clear hN3 hK3 hk3 hb3 y13 y23 y33 x13 x23;obtain ⟨c4,t4,m4,b4,k4⟩:=q9;rw[Zav] at ht4;obtain ⟨bv4,ka4,kc4,hcs4,hb4,x14,x24,hk4⟩:=ht4;subst hcs4;obtain ⟨ba4,bc4,rfl,y14,y24,y34⟩:=id hb4;have HB4:Hid (Bs w (.slice ba4 b4.length bc4) b4):=hb4;have HK4:Hid (0<k4.length→∃ g o,ka4=some ⟨g,o,none⟩∧Zap w k4 g o):=hk4;obtain ⟨N4,hN4⟩:∃ N,b4.length=N:=⟨_,rfl⟩;obtain ⟨K4,hK4⟩:∃ K,k4.length=K:=⟨_,rfl⟩;have HN4:Hid (b4.length=N4):=hN4;have HL4:Hid (k4.length=K4):=hK4;rw[hN4] at HB4 hc4;rw[hK4] at hc4 HK4;clear hN4 hK4 hk4 hb4 y14 y24 y34 x14 x24;rw[WfT] at hw3 hw4;have HY3:Hid (byt b3):=hw3.2.2.1;have HC3:Hid (w.cell? ⟨g2b,o2b+3,none⟩=some (.slice ba3 N3 bc3)∧g2b<w.heap.size):=⟨hc3.2 3 _ rfl,hc3.1⟩;have HC4:Hid (w.cell? ⟨g2b,o2b+5+3,none⟩=some (.slice ba4 N4 bc4)):=hc4.2 3 _ rfl;clear hc3 hc4 hw3 hw4 HK3 HK4;have u3:=Zan HC3.out.1 bel;have vl:g2b<V1.heap.size:=Nat.lt_of_lt_of_le HC3.out.2 bel.size
  by_cases hq:N3=3
  rotate_left
  ·have HQ:Hid (¬ N3=3):=hq
   have H:Hid (ofT (.mk c t m b ks)=none):=Zmv (Zha HKK.out (rpt_n3 (fun h=>HQ.out (by rw[← HN3.out];exact h))));have d1:((N3:Int) == 3)=false:=by rw[beq_eq_false_iff_ne];omega
   have d2:((N3:Int) != 3)=true:=by rw[bne,d1];rfl
   clear hq own HK;go_wp2_with fail;refine bodyPost_ret (results_tmp2 rfl _ _ _) rfl ?_;exact OfB.no H.out bel
  subst hq;have HOf:Hid (Zd6 (.mk c1 t1 m1 b1 [.mk c2 t2 m2 b2 [.mk c3 t3 m3 b3 k3,.mk c4 t4 m4 b4 k4]])=some (b3.getD 2 0,b4)):=rpt_ok HN3.out;have HNx:Hid ((ks.take (i+1)).mapM Zd6=some (n++[(b3.getD 2 0,b4)])):=Zpn HM.out HKK.out HOf.out;have HPx:Hid (∀ p∈n++[(b3.getD 2 0,b4)],p.2.length≤maxLen):=fun p hp=>by
   rcases List.mem_append.1 hp with h9|h9
   ·exact HPl.out p h9
   ·obtain rfl:=List.mem_singleton.1 h9
    obtain⟨_,c9,_,h1,h2,_⟩:=HB4.out;show b4.length≤maxLen;omega
  obtain⟨z0,hz0⟩:∃ x,b3.getD 2 0=x:=⟨_,rfl⟩;have hzb:=HY3.out 2;rw[hz0] at hzb HNx HPx;have gz:IntKind.i64.wrap z0=z0:=by rw[IntKind.wrap_i64];omega
  obtain⟨a9,c9,e9,-,-,h9⟩:=HB3.out;obtain ⟨b9,o9,ea9,l9,hc9⟩:=h9 (by rw[HN3.out];omega);simp only[Value.slice.injEq] at e9;obtain ⟨rfl,-,-⟩:=e9;subst ea9;have hu2:=hc9 2 (by rw[HN3.out];omega);rw[hz0] at hu2;have HU2:Hid (w.cell? ⟨b9,o9+2,none⟩=some (.int .u8 z0)∧b9<w.heap.size):=⟨hu2,l9⟩;obtain ⟨s9,hs9⟩:∃ s,strOfNums b4=s:=⟨_,rfl⟩;have HS9:Hid (strOfNums b4=s9):=hs9;clear hs9 hz0 h9 hc9 hu2 l9 HM HOf;go_upto_region 9 with fail;clear u3 vl u4 ul f4 fl;obtain ⟨S1,hS1,KB1,KI1,KD1,KA1⟩:∃ S:World→Prop,Hd S V1∧Hid (∀ wx,Hd S wx→Below w.heap.size w wx)∧Hid (∀ wx,Below w.heap.size w wx→Hd S wx)∧Hid (∀ wx,Hd S wx→Hd S wx.drew)∧Hid (∀ w1 o,Hd S w1→Hd S (w1.alloc o)):=⟨fun wx=>Below w.heap.size w wx,bel,fun _ h=>h,fun _ h=>h,fun wx h=>Below.drew h,fun w1 o h=>Below.alloc h h.size o⟩;have r3:∀ wx,Hd S1 wx→wx.cell? ⟨g2b,o2b+3,none⟩=some (.slice (some ⟨b9,o9,none⟩) 3 bc3):=fun wx h=>Zan HC3.out.1 (KB1.out wx h);have l3:∀ wx,Hd S1 wx→g2b<wx.heap.size:=fun wx h=>Nat.lt_of_lt_of_le HC3.out.2 (KB1.out wx h).size;have r2:∀ wx,Hd S1 wx→wx.cell? ⟨b9,o9+2,none⟩=some (.int .u8 z0):=fun wx h=>Zan HU2.out.1 (KB1.out wx h);have l2:∀ wx,Hd S1 wx→b9<wx.heap.size:=fun wx h=>Nat.lt_of_lt_of_le HU2.out.2 (KB1.out wx h).size;have r4:∀ wx,Hd S1 wx→wx.cell? ⟨g2b,o2b+5+3,none⟩=some (.slice ba4 N4 bc4):=fun wx h=>Zan HC4.out (KB1.out wx h);have z4:=fun (wx:World) (h:Hd S1 wx)=>Zbq (HB4.out.later (KB1.out wx h));rw[HS9.out] at z4;obtain ⟨jp,hjp,hp0,hp1,hp2⟩:=ZaO Zma;have HF:Hid _:=Zl6 (a:=.int .i64 z0) (b:=.string s9);have HBB:Hid (Blk V1 w.heap.size [.int .i64 c,.int .i64 t,.bool m,.slice ba N bc,.slice (some ⟨g,o,none⟩) K kc]):=B;clear B B1;refine wp_region_noPanic ?_;refine wp_region_held_drew (S:=Hd S1) (by kernel_rfl) (KD1.out _ hS1) (fun hHeld=>?_);clear hS1;have own2:World.ownsRow (World.drew V1) W0 106 2 _ i (ptC n):=own;have B2:Blk (World.drew V1) w.heap.size [.int .i64 c,.int .i64 t,.bool m,.slice ba N bc,.slice (some ⟨g,o,none⟩) K kc]:=HBB.out;have hs2:W0≤(World.drew V1).heap.size:=hs;clear own hs HBB bel;generalize World.drew _=wd1 at *;refine tkA 0 ?_;refine tkA 1 ?_;refine tkA 2 ?_;refine tkA 3 ?_;refine tkA 4 ?_;refine tkA 5 ?_;refine tkA 6 ?_;refine tkA 7 ?_;refine tkA 8 ?_;refine tkA 9 ?_;refine tkA 10 ?_;refine tkA 11 ?_;refine tkA 12 ?_;refine tkA 13 ?_;refine wpAnyH_ready (rs:=[14]) (by kernel_rfl) (by simp) ?_;refine AllReadyH.cons rfl (fun K hK=>?_) ?_
  ·rw[if_pos (by rfl)]
   refine wp_buildSlice 25 106 1 _ rfl #[.int .i64 z0,.string s9] jp _ Tryz.underlying25 hjp hp0 (by rw[hp1];decide) (by rw[hp1];decide) (by rw[hp1];refine (congrArg _ (?_:_=[(0,Value.agg #[.int .i64 z0,.string s9])])).trans HF.out;kernel_rfl) ?_;refine hK.out _ _ ?_ (fun hHeld2=>?_)
   ·exact KA1.out _ _ hHeld
   ·clear hK K
    try clear hHeld
    have hHeld:=hHeld2;clear hHeld2
    try simp only[Act.put,List.getElem_toArray,List.getElem_cons_zero,List.getElem_cons_succ,List.setIfInBounds_toArray,List.set_cons_zero,List.set_cons_succ]
    clear r3 l3 r2 l2 r4 z4;refine wpAnyH_ready (rs:=[15]) (by kernel_rfl) (by simp) ?_;refine AllReadyH.cons rfl (fun K hK=>?_) ?_
    ·rw[if_pos (by kernel_rfl)]
     refine wp_append_lies _ _ _ _ (by rfl) W0 106 jp _ 2 24 Tryz.underlying25 hjp hp0 hp1 hp2 rfl (by omega) _ i (ptC n) (by rfl) (own2.alloc _) ⟨wd1.heap.size,0,none⟩ 1 1 [.int .i64 z0,.string s9] (by rfl) (by rfl) (World.news_of_block (cs:=#[.int .i64 z0,.string s9]) (t:=106) (fr:=(0,0)) (heap_alloc_new wd1 _)) (by simp[Value.oneCell']) (by omega) (by unfold maxLen;omega) (by omega) (by simp;omega) (wd1.heap.size+1) (by simp) ?_;intro gg cap1 wy hownz hgrow hat hltz;refine hK.out _ _ ?_ (fun hHeld2=>?_)
     ·exact KI1.out _ (Below.grown (KB1.out _ hHeld) hgrow (KB1.out _ hHeld).size (fun k hk=>by have:=(ZaB own2 hk).1;omega))
     ·clear hK K
      try clear hHeld
      have hHeld:=hHeld2;clear hHeld2
      try simp only[Act.put,List.getElem_toArray,List.getElem_cons_zero,List.getElem_cons_succ,List.setIfInBounds_toArray,List.set_cons_zero,List.set_cons_succ]
      have B10:=(B2.alloc (.cells #[.int .i64 z0,.string s9] 106)).grown hgrow (fun k hk e=>by have:=(ZaB own2 hk).1;omega);have HSz:Hid (W0≤wy.heap.size):=by have hgz:=hgrow.size;show _≤_;simp at hgz;omega
      have HPt:Hid (ptC n++[.int .i64 z0,.string s9]=ptC (n++[(z0,b4)])):=by show _=_;rw[ZiF,← HS9.out];rfl
      rw[HPt.out] at hownz;clear hgrow hat hltz own2 B2 hs2;refine tkA 16 ?_;refine wpAnyH_done (by kernel_rfl) ?_ _;refine NoPanic.normal ?_;have bel:=KB1.out _ hHeld;clear hHeld;go_wp2_with fail;go_roundw
      case rel=>exact ⟨i+1,n++[(z0,b4)],by omega,by go_num,hownz,HNx,HPx,B10,bel,HSz.out⟩
      case measure=>simp[intOf];omega
    exact AllReadyH.nil
  exact AllReadyH.nil
end Go.Proofs.YtohcdbifhnfcbaaGreatDoor
