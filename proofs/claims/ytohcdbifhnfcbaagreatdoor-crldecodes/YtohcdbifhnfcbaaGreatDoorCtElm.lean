import Derived.Test.YtohcdbifhnfcbaaGreatDoorNlSG
import Derived.Test.YtohcdbifhnfcbaaGreatDoorCtSize
import Derived.Test.YtohcdbifhnfcbaaGreatDoorDrTG
import Derived.Test.YtohcdbifhnfcbaaGreatDoorDrDG
import Derived.Test.YtohcdbifhnfcbaaGreatDoorPmNG
import Derived.Test.YtohcdbifhnfcbaaGreatDoorRows
import Derived.Deep.OwnRows
import Derived.Deep.AppendLies
import Derived.Great.BuildSlice
import Derived.Laws.Rows
import Derived.BigQuiet
import Derived.Deep.WholeRow
import Derived.Deep.RegionHeld3
import Derived.Deep.DeepCutAuto
import Derived.Deep.DeepFit
namespace Go.Proofs.YtohcdbifhnfcbaaGreatDoor
open Go.RowKit
theorem ZnL {T G:Prop} (main:T→G) (kp:T):G:=main kp
theorem Zlq {S:Nat→Prop} {w w':World} {v:Value} {n:List Int} (h:Bs w v n) (hv:∀ a m c,v=.slice (some a) m c→0<m→S a.block) (ha:Agr S w w'):Bs w' v n:=by
 obtain⟨ao,cp,e,h1,h2,h3⟩:=h;refine ⟨ao,cp,e,h1,h2,fun h0=>?_⟩;obtain ⟨b,o,e2,hb,hc⟩:=h3 h0;have hs:S b:=hv ⟨b,o,none⟩ _ _ (by rw[e,e2]) h0;refine ⟨b,o,e2,Nat.lt_of_lt_of_le hb ha.1,fun j hj=>?_⟩;rw[← hc j hj];have:=ha.2 b hs hb;unfold World.cell?;simp only[this]
theorem Zq9 {w:World} {base g1 g2:Nat} {v6 v13:Value} {k:Int} {s:List Int} (B1:Blk w g1 ([.int .i64 0,.int .i64 16,.bool true,.slice none 0 0,.slice (some ⟨g2,0,none⟩) 2 2])) (B2:Blk w g2 [.int .i64 0,.int .i64 6,.bool false,v6,.slice none 0 0,.int .i64 0,.int .i64 12,.bool false,v13,.slice none 0 0]) (h6:Bs w v6 [85,4,k]) (n6:∀ a m c,v6=.slice (some a) m c→0<m→base≤a.block) (h13:Bs w v13 s) (n13:∀ a m c,v13=.slice (some a) m c→0<m→base≤a.block) (l1:base≤g1) (l2:base≤g2) :
  Dep (fun b=>base≤b) w (ZbX (k,s)) [.int .i64 0,.int .i64 17,.bool true,.slice none 0 0,.slice (some ⟨g1,0,none⟩) 1 1]:=fun w' ha=>by
 have C1:=B1.agr ha l1;have C2:=B2.agr ha l2;have k6:=Zlq h6 n6 ha;have k13:=Zlq h13 n13 ha;have z0:Bs w' (.slice none 0 0) []:=⟨none,0,rfl,by decide,by decide,fun h=>by simp at h⟩;have five:∀ {g:Nat} {X:List Value} {o:Nat} {cs:List Value} (B:Blk w' g X),cs.length=5→(∀ j v,cs[j]?=some v→X[o+j]?=some v)→ZdX w' g o cs:=fun B _ h=>⟨B.lt,fun j v hj=>B.cell _ _ (h j v hj)⟩;unfold ZbX;rw[Zav];refine ⟨_,_,_,rfl,z0,Nat.le_refl _,by decide,fun _=>⟨g1,0,rfl,?_⟩⟩;rw[Zap];refine ⟨⟨_,five C1 rfl (fun j v h=>by rw[Nat.zero_add];exact h),?_⟩,by rw[Zap];trivial⟩;rw[Zav];refine ⟨_,_,_,rfl,z0,Nat.le_refl _,by decide,fun _=>⟨g2,0,rfl,?_⟩⟩;rw[Zap];refine ⟨⟨[.int .i64 0,.int .i64 6,.bool false,v6,.slice none 0 0],five C2 rfl (fun j v h=>?_),?_⟩,?_⟩
 ·rw[Nat.zero_add]
  match j,h with
  | 0,h=>exact h
  | 1,h=>exact h
  | 2,h=>exact h
  | 3,h=>exact h
  | 4,h=>exact h
  | j+5,h=>simp at h
 ·rw[Zav]
  exact⟨_,_,_,rfl,k6,by decide,by decide,fun h=>absurd h (by simp)⟩
 ·rw[Zap]
  refine⟨⟨[.int .i64 0,.int .i64 12,.bool false,v13,.slice none 0 0],five C2 rfl (fun j v h=>?_),?_⟩,by rw[Zap];trivial⟩
  ·match j,h with
   | 0,h=>exact h
   | 1,h=>exact h
   | 2,h=>exact h
   | 3,h=>exact h
   | 4,h=>exact h
   | j+5,h=>simp at h
  ·rw[Zav]
   exact⟨_,_,_,rfl,k13,by decide,by decide,fun h=>absurd h (by simp)⟩
theorem ZoI {n:List Pn} {i:Nat} {p:Pn} (h:Zc3 n=true) (hp:n[i]?=some p):0≤p.1∧p.1<256:=by
 unfold Zc3 at h;rw[Bool.and_eq_true,List.all_eq_true] at h;have h1:=h.2 p (List.mem_of_getElem? hp);unfold Zbn ZbT at h1;simp only[Bool.and_eq_true,Bool.or_eq_true,decide_eq_true_eq] at h1;omega
theorem ZoX {w:World} {base b2 size:Nat} {e:TypeId} {v:Value} {n:Nat} {xs:List Value} (h:w.ownsRow base e size v n xs) (hb:b2≤base):w.ownsRow b2 e size v n xs:=by
 obtain⟨hl,h⟩:=h;rcases h with h|⟨g,cap,cur,h1,h2,h3⟩
 ·exact ⟨hl,.inl h⟩
 ·exact ⟨hl,.inr ⟨g,cap,cur,h1,Nat.le_trans hb h2,h3⟩⟩
theorem ZkC {wr w1 w3 wz:World} {base gg cap1:Nat} {e:TypeId} {kv:Value} {acc:List Tl} {xs cs:List Value} {T:Tl} (own:wr.ownsRow base e 5 kv acc.length xs)
    (HD:∀ i t,acc[i]?=some t→Dep (fun b=>base≤b∧kv.ownBlock≠some b) wr t ((xs.drop (5*i)).take 5)) (hb:Below wr.heap.size wr w1) (hdep:Dep (fun b=>wr.heap.size≤b) w1 T cs) (l5:cs.length=5)
    (hb3:Below w1.heap.size w1 w3) (hgrow:w3.grownBy wz kv.ownBlock) (hat:kv.ownBlock=some gg∨gg=w3.heap.size) (hs:base≤wr.heap.size) :
      ∀ i t,(acc++[T])[i]?=some t→Dep (fun b=>base≤b∧(Value.slice (some ⟨gg,0,none⟩) (acc.length+1) cap1).ownBlock≠some b) wz t (((xs++cs).drop (5*i)).take 5):=by
  have s1:=hb.size;have s3:=hb3.size;have hxs:=own.1;intro i t hi
  by_cases hil:i<acc.length
  · rw[List.getElem?_append_left hil] at hi
    rw[List.drop_append_of_le_length (by omega),List.take_append_of_le_length (by rw[List.length_drop];omega)];refine (HD i t hi).next (((Agr.below hb).trans (Agr.below hb3)).trans (Agr.grown hgrow (fun b hb=>hb.2))) (fun b hb hl=>⟨hb.1,fun e=>?_⟩);simp only[Value.ownBlock,Option.some.injEq] at e;subst e;rcases hat with h|h
    · exact hb.2 h
    · omega
  · have hlt:=(List.getElem?_eq_some_iff.1 hi).1
    rw[List.length_append] at hlt;have ei:i=acc.length:=by simp at hlt;omega
    subst ei;rw[List.getElem?_append_right (Nat.le_refl _),Nat.sub_self] at hi;simp only[List.getElem?_cons_zero,Option.some.injEq] at hi;subst hi;rw[show 5*acc.length=xs.length by omega,List.drop_left,List.take_of_length_le (by omega)];refine hdep.next ((Agr.below hb3).trans (Agr.grown hgrow (fun b hb e=>?_))) (fun b hb hl=>⟨by omega,fun e=>?_⟩)
    · have:=ZaB own e
      omega
    · simp only[Value.ownBlock,Option.some.injEq] at e
      subst e;rcases hat with h|h
      · have:=ZaB own h
        omega
      · omega
set_option linter.unusedSimpArgs false in
set_option maxRecDepth 100000 in
set_option maxHeartbeats 4000000 in
theorem ZfR {v:Value} {n:List Pn} {w:World} (hn:Zcq w v n) (wn:WfN n) (hmay:Zc3 n=true) :
  Calls Tryz.prog 31 #[v] w fun e w'=>∃ (kv:Value) (xs:List Value),e=.returned (.agg #[.int .i64 0,.int .i64 16,.bool true,.slice none 0 0,kv])∧w'.ownsRow w.heap.size 53 5 kv n.length xs∧(∀ (i:Nat) (t:Tl),(n.map ZbX)[i]?=some t→Dep (fun b=>w.heap.size≤b∧kv.ownBlock≠some b) w' t ((xs.drop (5*i)).take 5))∧Below w.heap.size w w':=by
 have HN:Hid (Zcq w v n):=hn;obtain ⟨a1,c1,rfl,-,-,-⟩:=hn;obtain ⟨L,hL⟩:∃ L,n.length=L:=⟨_,rfl⟩;have HL:Hid (n.length=L):=hL;have HLm:Hid (L≤1000):=by show _≤_;rw[← hL];have h:=hmay;unfold Zc3 at h;rw[Bool.and_eq_true] at h;have:=of_decide_eq_true h.1;omega
 rw[hL] at HN ⊢;clear hL;have hz:=Zaj.out;have R0:=(Blk.new w [.int .i64 0,.int .i64 0,.bool false,.slice none 0 0,.slice none 0 0] 53 w.heap.size rfl).alloc (.cells #[.int .i64 0,.int .i64 16,.bool true,.slice none 0 0,.slice none 0 0] 53);have KB:=Blk.new (w.alloc (.cells #[.int .i64 0,.int .i64 0,.bool false,.slice none 0 0,.slice none 0 0] 53)) [.int .i64 0,.int .i64 16,.bool true,.slice none 0 0,.slice none 0 0] 53 (w.heap.size+1) (by simp);have bel:Below w.heap.size w ((w.alloc (.cells #[.int .i64 0,.int .i64 0,.bool false,.slice none 0 0,.slice none 0 0] 53)).alloc (.cells #[.int .i64 0,.int .i64 16,.bool true,.slice none 0 0,.slice none 0 0] 53)):=((Below.refl _ _).alloc (Nat.le_refl _) _).alloc (by simp) _;go_enter Tryz.func31,Tryz.ntmps31;go_upto_region 2 with (first|(refine wpList_store_row rfl 53 _ _ rfl (w.alloc (.cells #[.int .i64 0,.int .i64 0,.bool false,.slice none 0 0,.slice none 0 0] 53)).heap.size #[.int .i64 0,.int .i64 16,.bool true,.slice none 0 0,.slice none 0 0] rfl rfl 53 _ (heap_alloc_last _ _) (by rw[Zae];rfl) rfl (by simp[Value.oneCell']) ?_;rw[World.setRow_alloc_new])|fail);clear hz;generalize (w.alloc (.cells #[.int .i64 0,.int .i64 0,.bool false,.slice none 0 0,.slice none 0 0] 53)).alloc (.cells #[.int .i64 0,.int .i64 16,.bool true,.slice none 0 0,.slice none 0 0] 53)=V2 at *;have hgl2:w.heap.size+1<V2.heap.size:=KB.lt;obtain ⟨gl,hgl⟩:∃ g,g=w.heap.size+1:=⟨_,rfl⟩;rw[← hgl] at KB hgl2;rw[← hgl];have HGl:Hid (w.heap.size<gl):=by show _<_;omega
 clear hgl;obtain ⟨W0,hW0⟩:∃ z,z=V2.heap.size:=⟨_,rfl⟩;rw[← hW0] at hgl2;have hsV:W0≤V2.heap.size:=by omega
 clear hW0;obtain ⟨jt,hjt,ht0,ht1,ht2⟩:=ZaO Zcb;go_wp2_with fail;go_loopw [4] (fun iv wx=>∃ (i:Nat) (kv:Value) (xs:List Value),i≤L∧iv=.int .i64 (i:Int)∧Blk wx gl [.int .i64 0,.int .i64 16,.bool true,.slice none 0 0,kv]∧Blk wx w.heap.size [.int .i64 0,.int .i64 0,.bool false,.slice none 0 0,.slice none 0 0]∧wx.ownsRow W0 53 5 kv i xs∧Hid (∀ j t,((n.take i).map ZbX)[j]?=some t→Dep (fun b=>W0≤b∧kv.ownBlock≠some b) wx t ((xs.drop (5*j)).take 5))∧Below w.heap.size w wx∧W0≤wx.heap.size) (fun iv _=>L-(intOf iv).toNat)
 case atStart=>exact ⟨0,.slice none 0 0,[],by omega,rfl,KB,R0,⟨rfl,.inl ⟨rfl,rfl⟩⟩,fun i t h=>by simp at h,bel,hsV⟩
 case round =>
  clear KB R0 bel hsV;obtain ⟨i,kv,xs,hi,rfl,KB,R0,own,HD,bel,hsV⟩:=hrel;have HKV:Hid (∃ va vc,kv=.slice va i vc):=by rcases own.2 with ⟨h,h'⟩|⟨_,_,_,h,_⟩;exact ⟨none,0,by rw[h,h']⟩;exact ⟨_,_,h⟩
  by_cases hil:i<L
  ·have g1:(i:Int)<(L:Int):=by omega
   have g2:(0:Int)≤(i:Int):=by omega
   have gi:IntKind.i64.wrap ((i:Int)+1)=(i:Int)+1:=by have:=HLm.out;rw[IntKind.wrap_i64];omega
   obtain⟨p,b1,o1,hp,e1,-,l1,x0,x1⟩:=(HN.out.later bel).at (i:=i) (by rw[HL.out];exact hil);subst e1;have hw:=wn i p hp;have HP:Hid (n[i]?=some p):=hp;have hkd:=ZoI hmay hp;obtain ⟨k1,s1⟩:=p;simp only at x0 x1 hw hkd;have gk:IntKind.u8.wrap k1=k1:=by rw[IntKind.wrap_u8];omega
   have gk2:k1%256=k1:=by omega
   have hby:=hw.2.1;have hln:=hw.2.2;clear hp hw;go_upto_region 5 with fail;obtain ⟨S1,hS1,KB1,KI1,KD1,KL1,KA1⟩:∃ S:World→Prop,Hd S wr∧Hid (∀ wx,Hd S wx→Below wr.heap.size wr wx)∧Hid (∀ wx,Below wr.heap.size wr wx→Hd S wx)∧Hid (∀ wx,Hd S wx→Hd S wx.drew)∧Hid (∀ w1 w2,Hd S w1→Below w1.heap.size w1 w2→Hd S w2)∧Hid (∀ w1 o,Hd S w1→Hd S (w1.alloc o)):=⟨fun wx=>Below wr.heap.size wr wx,Below.refl _ _,fun _ h=>h,fun _ h=>h,fun wx h=>Below.drew h,fun w1 w2 h hb=>Zaa h hb,fun w1 o h=>Below.alloc h h.size o⟩;have r0:∀ wx,Hd S1 wx→wx.cell? ⟨b1,o1+i*2,none⟩=some (.int .i64 k1):=fun wx h=>((KB1.out wx h).cell (p:=⟨b1,o1+i*2,none⟩) l1).trans x0;have r1:∀ wx,Hd S1 wx→wx.cell? ⟨b1,o1+i*2+1,none⟩=some (.string (strOfNums s1)):=fun wx h=>((KB1.out wx h).cell (p:=⟨b1,o1+i*2+1,none⟩) l1).trans x1;have r2:∀ wx,Hd S1 wx→b1<wx.heap.size:=fun wx h=>Nat.lt_of_lt_of_le l1 (KB1.out wx h).size;clear x0 x1;have hz:=Zaj.out;refine wp_region_noPanic ?_;refine wp_region_held_drew (S:=Hd S1) (by kernel_rfl) (KD1.out _ hS1) (fun hHeld=>?_);clear hS1;generalize World.drew _=wd1 at *;refine tkA 0 ?_;refine tkA 1 ?_;refine tkA 2 ?_;refine tkA 3 ?_;refine tkA 4 ?_;refine tkA 5 ?_;refine tkA 8 ?_;refine tkA 9 ?_;refine tkA 10 ?_;refine tkA 11 ?_;refine tkA 12 ?_;apply ZnL (T:=∀ (wz:World) (g6 g13 cap13:Nat),Hd S1 wz→Bs wz (.slice (some ⟨g6,0,none⟩) 3 3) [85,4,k1]→Bs wz (.slice (some ⟨g13,0,none⟩) s1.length cap13) s1→wr.heap.size≤g6→wr.heap.size≤g13→wpAnyH _ _ _ _ _ _ _ _ wz)
   case main =>
    intro k5;refine wpAnyH_ready (rs:=[6,13]) (by kernel_rfl) (by simp) ?_;refine AllReadyH.cons rfl (fun K hK=>?_) ?_
    ·have HH6:Hid (Hd S1 wd1):=hHeld
     go_simp;refine hK.out _ _ ?_ (fun hHeld2=>?_)
     ·exact KA1.out _ _ hHeld
     ·clear hK K
      try clear hHeld
      have hHeld:=hHeld2;clear hHeld2
      try simp only[Act.put,List.getElem_toArray,List.getElem_cons_zero,List.getElem_cons_succ,List.setIfInBounds_toArray,List.set_cons_zero,List.set_cons_succ]
      have hb:Below wd1.heap.size wd1 (wd1.alloc (.cells #[.int .u8 85,.int .u8 4,.int .u8 k1] 5)):=(Below.refl _ _).alloc (Nat.le_refl _) _;have hB6:Bs (wd1.alloc (.cells #[.int .u8 85,.int .u8 4,.int .u8 k1] 5)) (.slice (some ⟨wd1.heap.size,0,none⟩) 3 3) [85,4,k1]:=ZcJ wd1 [85,4,k1] (by show 3≤maxLen;decide);obtain ⟨g6,hg6⟩:∃ g,g=wd1.heap.size:=⟨_,rfl⟩;have lg6:wr.heap.size≤g6:=by rw[hg6];exact (KB1.out _ HH6.out).size
      rw[← hg6] at hB6 ⊢;clear hg6 hb HH6;generalize wd1.alloc (.cells #[.int .u8 85,.int .u8 4,.int .u8 k1] 5)=w6 at *;refine tkA 7 ?_;refine wpAnyH_ready (rs:=[13]) (by kernel_rfl) (by simp) ?_;refine AllReadyH.cons rfl (fun K hK=>?_) ?_
      ·have HH13:Hid (Hd S1 w6):=hHeld
       obtain⟨cap13,w13,hcv,hbs,hb⟩:=Zef hby hln w6;go_simp;refine hK.out _ _ ?_ (fun hHeld2=>?_)
       ·exact KL1.out _ _ hHeld hb
       ·clear hK K
        try clear hHeld
        have hHeld:=hHeld2;clear hHeld2
        try simp only[Act.put,List.getElem_toArray,List.getElem_cons_zero,List.getElem_cons_succ,List.setIfInBounds_toArray,List.set_cons_zero,List.set_cons_succ]
        replace hB6:=hB6.later hb;have hB13:Bs w13 (.slice (some ⟨w6.heap.size,0,none⟩) s1.length cap13) s1:=hbs;obtain ⟨g13,hg13⟩:∃ g,g=w6.heap.size:=⟨_,rfl⟩;have lg13:wr.heap.size≤g13:=by rw[hg13];exact (KB1.out _ HH13.out).size
        rw[← hg13] at hB13 ⊢;clear hg13 hb HH13 hbs hcv;refine tkA 14 ?_;exact k5 w13 g6 g13 cap13 hHeld hB6 hB13 lg6 lg13
      exact AllReadyH.nil
    refine AllReadyH.cons rfl (fun K hK=>?_) ?_
    ·have HH13:Hid (Hd S1 wd1):=hHeld
     obtain⟨cap13,w13,hcv,hbs,hb⟩:=Zef hby hln wd1;go_simp;refine hK.out _ _ ?_ (fun hHeld2=>?_)
     ·exact KL1.out _ _ hHeld hb
     ·clear hK K
      try clear hHeld
      have hHeld:=hHeld2;clear hHeld2
      try simp only[Act.put,List.getElem_toArray,List.getElem_cons_zero,List.getElem_cons_succ,List.setIfInBounds_toArray,List.set_cons_zero,List.set_cons_succ]
      have hB13:Bs w13 (.slice (some ⟨wd1.heap.size,0,none⟩) s1.length cap13) s1:=hbs;obtain ⟨g13,hg13⟩:∃ g,g=wd1.heap.size:=⟨_,rfl⟩;have lg13:wr.heap.size≤g13:=by rw[hg13];exact (KB1.out _ HH13.out).size
      rw[← hg13] at hB13 ⊢;clear hg13 hb HH13 hbs hcv;refine tkA 14 ?_;refine wpAnyH_ready (rs:=[6]) (by kernel_rfl) (by simp) ?_;refine AllReadyH.cons rfl (fun K hK=>?_) ?_
      ·have HH6:Hid (Hd S1 w13):=hHeld
       go_simp;refine hK.out _ _ ?_ (fun hHeld2=>?_)
       ·exact KA1.out _ _ hHeld
       ·clear hK K
        try clear hHeld
        have hHeld:=hHeld2;clear hHeld2
        try simp only[Act.put,List.getElem_toArray,List.getElem_cons_zero,List.getElem_cons_succ,List.setIfInBounds_toArray,List.set_cons_zero,List.set_cons_succ]
        have hb:Below w13.heap.size w13 (w13.alloc (.cells #[.int .u8 85,.int .u8 4,.int .u8 k1] 5)):=(Below.refl _ _).alloc (Nat.le_refl _) _;replace hB13:=hB13.later hb;have hB6:Bs (w13.alloc (.cells #[.int .u8 85,.int .u8 4,.int .u8 k1] 5)) (.slice (some ⟨w13.heap.size,0,none⟩) 3 3) [85,4,k1]:=ZcJ w13 [85,4,k1] (by show 3≤maxLen;decide);obtain ⟨g6,hg6⟩:∃ g,g=w13.heap.size:=⟨_,rfl⟩;have lg6:wr.heap.size≤g6:=by rw[hg6];exact (KB1.out _ HH6.out).size
        rw[← hg6] at hB6 ⊢;clear hg6 hb HH6;generalize w13.alloc (.cells #[.int .u8 85,.int .u8 4,.int .u8 k1] 5)=w6 at *;refine tkA 7 ?_;exact k5 w6 g6 g13 cap13 hHeld hB6 hB13 lg6 lg13
      exact AllReadyH.nil
    exact AllReadyH.nil
   case kp =>
    intro wz g6 g13 cap13 hHeld hB6 hB13 lg6 lg13;refine wpAnyH_ready (rs:=[15]) (by kernel_rfl) (by simp) ?_;refine AllReadyH.cons rfl (fun K hK=>?_) ?_
    ·have HHz:Hid (wr.heap.size≤wz.heap.size):=(KB1.out _ hHeld).size
     go_simp;refine hK.out _ _ ?_ (fun hHeld2=>?_)
     ·exact KA1.out _ _ hHeld
     ·clear hK K hHeld
      have hHeld:=hHeld2;clear hHeld2
      try simp only[Act.put,List.getElem_toArray,List.getElem_cons_zero,List.getElem_cons_succ,List.setIfInBounds_toArray,List.set_cons_zero,List.set_cons_succ]
      refine tkA 16 ?_;refine wpAnyH_done (by kernel_rfl) ?_ _;refine NoPanic.normal ?_;have st:=KB1.out _ hHeld;have HS13:Hid (Below wr.heap.size wr (wz.alloc (.cells #[.int .i64 0,.int .i64 6,.bool false,.slice (some ⟨g6,0,none⟩) 3 3,.slice none 0 0,.int .i64 0,.int .i64 12,.bool false,.slice (some ⟨g13,0,none⟩) s1.length cap13,.slice none 0 0] 53))):=st;have B2:=Blk.new wz [.int .i64 0,.int .i64 6,.bool false,.slice (some ⟨g6,0,none⟩) 3 3,.slice none 0 0,.int .i64 0,.int .i64 12,.bool false,.slice (some ⟨g13,0,none⟩) s1.length cap13,.slice none 0 0] 53 wz.heap.size rfl;have hb10:Below wz.heap.size wz (wz.alloc (.cells #[.int .i64 0,.int .i64 6,.bool false,.slice (some ⟨g6,0,none⟩) 3 3,.slice none 0 0,.int .i64 0,.int .i64 12,.bool false,.slice (some ⟨g13,0,none⟩) s1.length cap13,.slice none 0 0] 53)):=(Below.refl _ _).alloc (Nat.le_refl _) _;replace hB6:=hB6.later hb10;replace hB13:=hB13.later hb10;obtain ⟨g2,hg2⟩:∃ g,g=wz.heap.size:=⟨_,rfl⟩;have lg2:wr.heap.size≤g2:=by rw[hg2];exact HHz.out
      rw[← hg2] at B2 ⊢;clear hg2 hb10 HHz hHeld HS13 r0 r1 r2;have HX0:Hid (wr.heap.size≤(wz.alloc (.cells #[.int .i64 0,.int .i64 6,.bool false,.slice (some ⟨g6,0,none⟩) 3 3,.slice none 0 0,.int .i64 0,.int .i64 12,.bool false,.slice (some ⟨g13,0,none⟩) s1.length cap13,.slice none 0 0] 53)).heap.size):=st.size;generalize wz.alloc (.cells #[.int .i64 0,.int .i64 6,.bool false,.slice (some ⟨g6,0,none⟩) 3 3,.slice none 0 0,.int .i64 0,.int .i64 12,.bool false,.slice (some ⟨g13,0,none⟩) s1.length cap13,.slice none 0 0] 53)=X at *;have B1:=Blk.new X [.int .i64 0,.int .i64 16,.bool true,.slice none 0 0,.slice (some ⟨g2,0,none⟩) 2 2] 53 X.heap.size rfl;have hb1:Below X.heap.size X (X.alloc (.cells #[.int .i64 0,.int .i64 16,.bool true,.slice none 0 0,.slice (some ⟨g2,0,none⟩) 2 2] 53)):=(Below.refl _ _).alloc (Nat.le_refl _) _;replace B2:=B2.later hb1;replace hB6:=hB6.later hb1;replace hB13:=hB13.later hb1;replace st:=Zaa st hb1;have lX:wr.heap.size≤X.heap.size:=HX0.out;go_upto_region 7 with (first|(refine Go.wpList_buildSlice rfl 51 53 1 _ rfl #[.int .i64 0,.int .i64 16,.bool true,.slice none 0 0,.slice (some ⟨g2,0,none⟩) 2 2] jt _ Tryz.underlying51 hjt ht0 (by rw[ht1];decide) (by rw[ht1];decide) (by rw[ht1];refine (congrArg _ (?_:_=[(0,Value.agg #[.int .i64 0,.int .i64 16,.bool true,.slice none 0 0,.slice (some ⟨g2,0,none⟩) 2 2])])).trans (ZeX rfl);kernel_rfl) ?_)|fail);obtain ⟨gg1,hgg1⟩:∃ g,g=X.heap.size:=⟨_,rfl⟩;rw[← hgg1] at B1 lX;generalize X.alloc (.cells #[.int .i64 0,.int .i64 16,.bool true,.slice none 0 0,.slice (some ⟨g2,0,none⟩) 2 2] 53)=w7 at *;rw[← hgg1];clear hgg1 hb1 HX0;have HDp:Hid (Dep (fun b=>wr.heap.size≤b) w7 (ZbX (k1,s1)) [.int .i64 0,.int .i64 17,.bool true,.slice none 0 0,.slice (some ⟨gg1,0,none⟩) 1 1]):=Zq9 B1 B2 hB6 (fun a m c e _=>by simp only[Value.slice.injEq,Option.some.injEq] at e;rw[← e.1];exact lg6) hB13 (fun a m c e _=>by simp only[Value.slice.injEq,Option.some.injEq] at e;rw[← e.1];exact lg13) lX lg2;clear hB6 hB13 B1 B2;have hb7:Below wr.heap.size wr w7:=st;clear st;have KB7:=KB.later hb7;have R7:=R0.later hb7;have own7:=Za7 (S:=fun _=>True) own (Agr.below hb7) (fun _ _=>trivial);have bel7:=bel.trans (hb7.mono bel.size);obtain ⟨cs5,hcs5⟩:∃ cs5:List Value,[.int .i64 0,.int .i64 17,.bool true,.slice none 0 0,.slice (some ⟨gg1,0,none⟩) 1 1]=cs5:=⟨_,rfl⟩;have HL5:Hid (cs5.length=5):=by show _=_;rw[← hcs5];rfl
      have HF5:Hid _:=ZeX HL5.out;have NB:=Blk.new w7 cs5 53 w7.heap.size rfl;have HNews:Hid (∀ j u,cs5[j]?=some u→(w7.alloc (.cells cs5.toArray 53)).cell? ((⟨w7.heap.size,0,none⟩:Addr).add j)=some u):=fun j u hu=>by
       have e:(⟨w7.heap.size,0,none⟩:Addr).add j=⟨w7.heap.size,j,none⟩:=by unfold Addr.add;split<;>simp_all
       rw[e];exact NB.cell j u hu
      have HO1:Hid (∀ u∈cs5,u.oneCell'=true):=fun u hu=>by rw[← hcs5] at hu;simp only[List.mem_cons,List.not_mem_nil,or_false] at hu;rcases hu with rfl|rfl|rfl|rfl|rfl<;>rfl
      have hca:#[.int .i64 0,.int .i64 17,.bool true,.slice none 0 0,.slice (some ⟨gg1,0,none⟩) 1 1]=cs5.toArray:=by rw[← hcs5]
      clear NB;have HDq:Hid (Dep (fun b=>wr.heap.size≤b) w7 (ZbX (k1,s1)) cs5):=by rw[← hcs5];exact HDp.out
      clear hcs5 HDp;have hs7:=hb7.size;have e4:=KB7.cell 4 _ rfl;have f4:=KB7.frozen 4;have lk:=KB7.lt;have HS3:Hid (Below w7.heap.size w7 (w7.alloc (.cells cs5.toArray 53))):=(Below.refl _ _).alloc (Nat.le_refl _) _;obtain ⟨kva,kvc,hkv⟩:=HKV.out;subst hkv;have hL9:=HLm.out;go_wp2_with (first|(refine Go.wpList_buildSlice rfl 51 53 1 _ rfl cs5.toArray jt _ Tryz.underlying51 hjt ht0 (by rw[ht1];decide) (by rw[ht1];decide) (by rw[ht1];refine (congrArg _ (?_:_=[(0,Value.agg cs5.toArray)])).trans HF5.out;kernel_rfl) ?_)|(at_builtin;refine wpList_append_lies _ (by rfl) _ _ _ (by rfl) W0 53 jt _ 5 72 Tryz.underlying51 hjt ht0 ht1 ht2 rfl (by omega) _ i xs (by rfl) (own7.alloc _) ⟨w7.heap.size,0,none⟩ 1 1 cs5 (by rfl) HL5.out HNews.out HO1.out (by omega) (by unfold maxLen;omega) (by omega) (by simp;omega) (w7.heap.size+1) (by simp) ?_;intro gg cap1 wy hownz hgrow hat hltz;have KBz:=(KB7.alloc (.cells cs5.toArray 53)).grown hgrow (fun k hk e=>by have:=(ZaB own7 hk).1;omega);have e4z:=KBz.cell 4 _ rfl;have f4z:=KBz.frozen 4;have lkz:=KBz.lt)|fail);have bel10:=Below.grown (Zah (o:=.cells cs5.toArray 53) bel7) hgrow (by have:=bel7.size;simp;omega) (fun k hk=>by have:=(ZaB own7 hk).1;have:=HGl.out;omega);have R10:=(R7.alloc (.cells cs5.toArray 53)).grown hgrow (fun k hk e=>by have:=(ZaB own7 hk).1;have:=HGl.out;omega);have HLi:Hid (((n.take i).map ZbX).length=i):=by show _=_;rw[List.length_map,List.length_take,HL.out];omega
      have HST:Hid (∀ j t,((n.take i).map ZbX++[ZbX (k1,s1)])[j]?=some t→Dep (fun b=>W0≤b∧(Value.slice (some ⟨gg,0,none⟩) (((n.take i).map ZbX).length+1) cap1).ownBlock≠some b) wy t (((xs++cs5).drop (5*j)).take 5)):=ZkC (by rw[HLi.out];exact own) HD.out hb7 HDq.out HL5.out HS3.out hgrow (by rcases hat with h|h;exact .inl h;exact .inr (by rw[h];simp)) hsV;have HTk:Hid ((n.take (i+1)).map ZbX=(n.take i).map ZbX++[ZbX (k1,s1)]):=by show _=_;rw[List.take_add_one,HP.out,List.map_append];rfl
      have rd:=RdB.cell (k:=4) KBz (.slice (some ⟨gg,0,none⟩) (i+1) cap1);have hgz:=hgrow.size;have HSz:Hid (W0≤wy.heap.size):=by show _≤_;simp at hgz;omega
      clear hgrow hat hltz e4 f4 lk own7 KB7 bel7 R7;go_roundw
      case rel =>
       refine⟨i+1,.slice (some ⟨gg,0,none⟩) (i+1) cap1,xs++cs5,by omega,by go_num,rd.1,rd.2.1 _ _ (by have:=HGl.out;omega) R10,?_,?_,rd.2.2.1 _ _ (by have:=HGl.out;omega) bel10,Nat.le_trans HSz.out rd.2.2.2⟩
       ·exact Za7 (S:=fun b=>b≠gl) hownz ((Agr.refl _ _).cell (by simp)) (fun g hg e=>by have:=(ZaB hownz hg).1;omega)
       ·exact fun j t ht=>by rw[HTk.out] at ht;have h9:=HST.out j t ht;rw[HLi.out] at h9;exact h9.next ((Agr.refl _ _).cell (by simp only[not_and];intro h;omega)) (fun b hb _=>hb)
      case measure=>simp[intOf];omega
    exact AllReadyH.nil
  ·have g1:¬ (i:Int)<(L:Int):=by omega
   obtain rfl:i=L:=by omega
   obtain⟨kva,kvc,hkv⟩:=HKV.out;subst hkv;have lk:=KB.lt;have hLL:(loadVar 53 ⟨gl,0,none⟩).run Tryz.prog wr=.ok (.agg #[.int .i64 0,.int .i64 16,.bool true,.slice none 0 0,.slice kva i kvc]) wr:=KB.load Tryz.underlying53 rfl Zae rfl;obtain ⟨tR,hR⟩:=R0;have HR1:Hid _:=hR;have HOwn:Hid _:=own;clear hR own;go_wp2_with (first|(refine Zab (by rfl) (by rfl) (by rfl) hLL ?_)|(refine wpList_store_row rfl 53 _ _ rfl w.heap.size #[.int .i64 0,.int .i64 16,.bool true,.slice none 0 0,.slice kva i kvc] rfl rfl tR _ HR1.out (by rw[Zae];rfl) rfl (by simp[Value.oneCell']) ?_)|fail);refine bodyPost_ret (results_cell_row rfl _ _ w.heap.size tR #[.int .i64 0,.int .i64 16,.bool true,.slice none 0 0,.slice kva i kvc] (0,0) _ rfl (setRow_heap _ _ _ _ _ _ HR1.out) Tryz.underlying53 rfl (by rw[Zae];rfl)) rfl ?_;refine ⟨_,rfl,xs,?_,?_,below_setRow bel (Nat.le_refl _) _⟩
   ·exact ZoX (Za7 (S:=fun b=>W0≤b) HOwn.out ((Agr.refl _ _).row (by have:=HGl.out;omega)) (fun g hg=>(ZaB HOwn.out hg).1)) (by have:=HGl.out;omega)
   ·intro j t k9 s9 hp et
    have ht:((n.take i).map ZbX)[j]?=some t:=by rw[List.take_of_length_le (show n.length≤i by rw[HL.out];exact Nat.le_refl _),List.getElem?_map,hp];exact congrArg some et
    exact(HD.out j t ht).next ((Agr.refl _ _).row (by intro h;have:=HGl.out;omega)) (fun b hb _=>⟨by have:=HGl.out;omega,hb.2⟩)
end Go.Proofs.YtohcdbifhnfcbaaGreatDoor
