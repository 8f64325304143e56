import Derived.Test.YtohcdbifhnfcbaaGreatDoorBase
import Derived.Test.YtohcdbifhnfcbaaGreatDoorRefA
import Derived.Test.YtohcdbifhnfcbaaGreatDoorDrTG
import Derived.Test.YtohcdbifhnfcbaaGreatDoorPmNG
import Derived.Test.YtohcdbifhnfcbaaGreatDoorRows
import Derived.Deep.OwnRows
import Derived.Deep.AppendLies
import Derived.Great.BuildSlice
import Derived.Laws.CopyOwn
import Derived.Deep.WholeRow
import Derived.Deep.RegionHeld3
import Derived.Deep.DeepCutAuto
import Derived.Deep.DeepFit
namespace Go.Proofs.YtohcdbifhnfcbaaGreatDoor
open Go.RowKit
theorem ZpL (A:List Int) (l:A.length=6) (h:Zdg A):0≤v64 A∧v64 A<18446744073709551616 ^ 6:=by
 have:=Zev A h;rw[l] at this;exact this
def hv:Nat→Nat→Nat
 | 0,e=>e
 | f+1,e=>hv f (e/2)
def PP:Int:=39402006196394479212279040100143613805079739270465446667948293404245721771496870329047266088258938001861606973112319
def pinv (d:Int):Int:=d ^ 39402006196394479212279040100143613805079739270465446667948293404245721771496870329047266088258938001861606973112317%PP
def slope (x1 y1 x2 y2:Int):Int :=
 if x1=x2 then ((3*(x1*x1)-3)%PP*pinv ((y1+y1)%PP))%PP else ((y2-y1)%PP*pinv ((x2-x1)%PP))%PP
abbrev Tri:=Int × Int × Int
def ev (r:Int) (a:Tri):Int:=a.1+a.2.1*r+a.2.2*(r*r)
def stp (p q:Int × Int) (l:Int):Option (Int × Int) :=
 if (p.2-q.2-l*(p.1-q.1))%PP=0∧(l*(p.2+q.2)-(p.1*p.1+p.1*q.1+q.1*q.1-3))%PP=0∧¬ (p.1=q.1∧(p.2+q.2)%PP=0) then
  some ((l*l-p.1-q.1)%PP,(l*(p.1-(l*l-p.1-q.1)%PP)-p.2)%PP)
 else none
theorem ZiT {P:Program} (w:World) (d:Nat) {t e:TypeId} {n:Nat} {i:TypeInfo} (hp:P.underlying t=some (.array n e)) (hi:P.info? e=some i) (he:P.plainKey e=true) (hu:P.underlying e=some (.int .u64)) (hc:P.cellsOf e=1) (A B:List Int) (lA:A.length=n) (lB:B.length=n) :
  (Op.equalIn (d+2) t (.agg (us A).toArray) (.agg (us B).toArray)).run P w=.ok (decide (A=B)) w:=by
 rw[run_equalIn_array w (d+1) _ _ hp hi,List.range_eq_range',ZdV w d he hu hc A B n lA lB n 0 (by omega)];simp
theorem Zoy:(Tryz.prog.info? 27).map (fun i=>(i.zero,i.size,i.bytes))=some (some (.int .u64 0),1,8):=by kernel_rfl
theorem Zor (x0 x1 x2 x3 x4 x5 y0 y1 y2 y3 y4 y5:Int):∀ w:World,(Op.equalIn 9999 29 (.agg #[.int .u64 x0,.int .u64 x1,.int .u64 x2,.int .u64 x3,.int .u64 x4,.int .u64 x5]) (.agg #[.int .u64 y0,.int .u64 y1,.int .u64 y2,.int .u64 y3,.int .u64 y4,.int .u64 y5])).run Tryz.prog w=.ok (decide ([x0,x1,x2,x3,x4,x5]=[y0,y1,y2,y3,y4,y5])) w:=fun w=>by
 cases hi:Tryz.prog.info? 27 with
 | none=>have:=Zoy;rw[hi] at this;simp at this
 | some i=>exact ZiT (P:=Tryz.prog) w 9997 (t:=29) (e:=27) (n:=6) Tryz.underlying29 hi (by kernel_rfl) Tryz.underlying27 (by kernel_rfl) [x0,x1,x2,x3,x4,x5] [y0,y1,y2,y3,y4,y5] rfl rfl
theorem ZqO {w:World} {v:Value} {N:Int} (h:Zcr w v N):∃ (ao:Option Addr) (n cap:Nat),v=.slice ao n cap∧n≤cap∧cap≤maxLen∧((n:Int)=0↔N=0):=by
 obtain⟨D,sD,dD,tD,rfl⟩:=h;obtain ⟨ao,cap,rfl,m,k,-⟩:=sD.form;refine ⟨ao,D.length,cap,rfl,k,m,fun h=>?_,fun h=>?_⟩
 ·match D,h with
  | [],_=>rfl
 ·apply Classical.byContradiction
  intro hn;have l:=Zf0 D dD tD (by omega);have p:(0:Int)<4294967296 ^ (D.length-1):=Int.pow_pos (by decide);omega
theorem Zow {w0 W:World} (bs:List (Nat × List Value)) (hB:∀ b X,(b,X)∈bs→Blk W b X) (bel:Below w0.heap.size w0 W) :
  ∃ S:World→Prop,Hd S W∧Hid (∀ w1 w2,Hd S w1→Below w1.heap.size w1 w2→Hd S w2)∧Hid (∀ w1 o,Hd S w1→Hd S (w1.alloc o))∧Hid (∀ w1,Hd S w1→Hd S w1.drew)∧Hid (∀ (w1:World) (o o':Obj),W.heap.size≤w1.heap.size→Hd S (w1.alloc o)→Hd S (w1.alloc o')) ∧
   Hid (∀ w1 b j y,Hd S w1→(W.heap.size≤b∨∀ c X,(c,X)∈bs→c≠b)→w0.heap.size≤b→Hd S (w1.setCell ⟨b,j,none⟩ y)) ∧
   Hid (∀ w1,Hd S w1→W.heap.size≤w1.heap.size)∧Hid (∀ w1,Hd S w1→Below w0.heap.size w0 w1)∧Hid (∀ w1 b X,Hd S w1→(b,X)∈bs→Blk w1 b X) ∧
   Hid (∀ w1 b cs,Hd S w1→(W.heap.size≤b∨∀ c X,(c,X)∈bs→c≠b)→w0.heap.size≤b→Hd S (w1.setRow b cs)):=by
 refine⟨fun wx=>(∀ b X,(b,X)∈bs→Blk wx b X)∧W.heap.size≤wx.heap.size∧Below w0.heap.size w0 wx,⟨hB,Nat.le_refl _,bel⟩,?_,?_,?_,?_,?_,?_,?_,?_,?_⟩
 ·rintro w1 w2 ⟨h1,h3,h4⟩ hb
  exact⟨fun b X h=>(h1 b X h).later hb,Nat.le_trans h3 hb.size,Zaa h4 hb⟩
 ·rintro w1 o ⟨h1,h3,h4⟩
  exact⟨fun b X h=>(h1 b X h).alloc o,by simp;omega,Zah h4⟩
 ·rintro w1 ⟨h1,h3,h4⟩
  exact⟨h1,h3,h4.drew⟩
 ·rintro w1 o o' hn ⟨h1,h3,h4⟩
  exact⟨fun b X h=>(h1 b X h).swap (Nat.lt_of_lt_of_le (hB b X h).lt hn),by simp;omega,Zj5 h4 (Nat.le_trans bel.size hn)⟩
 ·rintro w1 b j y ⟨h1,h3,h4⟩ hn hl
  refine⟨fun c X h=>(h1 c X h).other _ _ ?_,by simpa using h3,h4.setCell hl _⟩;rcases hn with hn|hn
  ·have:=(hB c X h).lt
   exact Nat.ne_of_lt (Nat.lt_of_lt_of_le this hn)
  ·exact hn c X h
 ·rintro w1 ⟨_,h3,_⟩
  exact h3
 ·rintro w1 ⟨_,_,h4⟩
  exact h4
 ·rintro w1 b X ⟨h1,_,_⟩ h
  exact h1 b X h
 ·rintro w1 b cs ⟨h1,h3,h4⟩ hn hl
  refine⟨fun c X h=>(h1 c X h).row ?_,by simpa [World.setRow] using h3,below_setRow h4 hl _⟩;rcases hn with hn|hn
  ·have:=(hB c X h).lt
   exact Nat.ne_of_lt (Nat.lt_of_lt_of_le this hn)
  ·exact hn c X h
def RdB (w w':World) (g:Nat) (X:List Value):Prop:=Blk w' g X∧(∀ c Y,c≠g→Blk w c Y→Blk w' c Y)∧(∀ B a,B≤g→Below B a w→Below B a w')∧w.heap.size≤w'.heap.size
theorem RdB.before {w w1 w2:World} {g:Nat} {X:List Value} (hg:g<w.heap.size) (hb:Below w.heap.size w w1) (h:RdB w1 w2 g X):RdB w w2 g X :=
 ⟨h.1,fun c Y hc hY=>h.2.1 c Y hc (hY.later hb),fun B a hB hl=>h.2.2.1 B a hB (hl.trans (hb.mono (by omega))),Nat.le_trans hb.size h.2.2.2⟩
theorem RdB.row {w w2:World} {g c:Nat} {X:List Value} {cs:Array Value} (hg:g<w.heap.size) (hc:w.heap.size≤c) (h:RdB w w2 g X):RdB w (w2.setRow c cs) g X :=
 ⟨h.1.row (by omega),fun d Y hd hY=>(h.2.1 d Y hd hY).row (by have:=hY.lt;omega),fun B a hB hl=>below_setRow (h.2.2.1 B a hB hl) (by omega) _,by have:=h.2.2.2;simpa [World.setRow] using this⟩
theorem RdB.self {w w2:World} {g:Nat} {X Y:List Value} (h:RdB w w2 g X) {w3:World} (k:RdB w2 w3 g Y):RdB w w3 g Y :=
 ⟨k.1,fun c Z hc hZ=>k.2.1 c Z hc (h.2.1 c Z hc hZ),fun B a hB hl=>k.2.2.1 B a hB (h.2.2.1 B a hB hl),Nat.le_trans h.2.2.2 k.2.2.2⟩
theorem RdB.cell {w:World} {g k:Nat} {X:List Value} (B:Blk w g X) (v:Value):RdB w (w.setCell ⟨g,k,none⟩ v) g (X.set k v) :=
 ⟨B.set k v,fun c Y hc hY=>hY.other _ _ hc,fun B' a hB hl=>hl.setCell hB _,by simp⟩
theorem RdB.more {w w':World} {g:Nat} {X:List Value} (h:RdB w w' g X) (o:Obj):RdB w (w'.alloc o) g X :=
 ⟨h.1.alloc o,fun c Y hc hY=>(h.2.1 c Y hc hY).alloc o,fun B a hB hl=>(h.2.2.1 B a hB hl).alloc (Nat.le_trans hB (Nat.le_of_lt h.1.lt)) o,by have:=h.2.2.2;simp;omega⟩
def Agr (S:Nat→Prop) (w w':World):Prop:=w.heap.size≤w'.heap.size∧∀ b,S b→b<w.heap.size→w'.heap[b]?=w.heap[b]?
theorem Agr.refl (S:Nat→Prop) (w:World):Agr S w w:=⟨Nat.le_refl _,fun _ _ _=>rfl⟩
theorem Agr.trans {S:Nat→Prop} {w w' w'':World} (h:Agr S w w') (k:Agr S w' w''):Agr S w w'' :=
 ⟨Nat.le_trans h.1 k.1,fun b hb hl=>(k.2 b hb (Nat.lt_of_lt_of_le hl h.1)).trans (h.2 b hb hl)⟩
theorem Agr.below {S:Nat→Prop} {w w':World} (h:Below w.heap.size w w'):Agr S w w':=⟨h.size,fun b _ hl=>h.block b hl⟩
theorem Agr.row {S:Nat→Prop} {w w':World} {c:Nat} {cs:Array Value} (h:Agr S w w') (hc:¬ S c):Agr S w (w'.setRow c cs) :=
 ⟨by have:=h.1;simpa [World.setRow] using this,fun b hb hl=>(setRow_other w' c b cs (fun e=>hc (e ▸ hb))).trans (h.2 b hb hl)⟩
theorem Agr.cell {S:Nat→Prop} {w w':World} {c k:Nat} {v:Value} (h:Agr S w w') (hc:¬ S c):Agr S w (w'.setCell ⟨c,k,none⟩ v) :=
 ⟨by have:=h.1;simpa using this,fun b hb hl=>(heap_setCell_other w' ⟨c,k,none⟩ b v (fun e=>hc (by have e2:b=c:=e;exact e2 ▸ hb))).trans (h.2 b hb hl)⟩
def Dep (S:Nat→Prop) (w:World) (T:Tl) (cs:List Value):Prop:=∀ w',Agr S w w'→Zav w' T cs
theorem Dep.now {S:Nat→Prop} {w:World} {T:Tl} {cs:List Value} (h:Dep S w T cs):Zav w T cs:=h w (Agr.refl S w)
theorem Dep.next {S S':Nat→Prop} {w w':World} {T:Tl} {cs:List Value} (h:Dep S w T cs) (ha:Agr S w w') (hs:∀ b,S b→b<w.heap.size→S' b):Dep S' w' T cs:=fun w'' h2 =>
 h w'' ⟨Nat.le_trans ha.1 h2.1,fun b hb hl=>(h2.2 b (hs b hb hl) (Nat.lt_of_lt_of_le hl ha.1)).trans (ha.2 b hb hl)⟩
theorem Blk.agr {S:Nat→Prop} {w w':World} {g:Nat} {X:List Value} (B:Blk w g X) (h:Agr S w w') (hg:S g):Blk w' g X:=by
 obtain⟨t,ht⟩:=B;exact ⟨t,(h.2 g hg (Array.getElem?_eq_some_iff.1 ht).1).trans ht⟩
theorem Zmb {w:World} {g:Nat}:∀ {ks:List Tl} {o:Nat},(∀ i k,ks[i]?=some k→∃ cs,ZdX w g (o+5*i) cs∧Zav w k cs)→Zap w ks g o
 | [],_,_=>by rw[Zap];trivial
 | k::ks,o,h=>by
  rw[Zap];refine ⟨by simpa using h 0 k rfl,Zmb (fun i x hx=>?_)⟩;have:=h (i+1) x (by rw[List.getElem?_cons_succ];exact hx);rw[show o+5*(i+1)=o+5+5*i by omega] at this;exact this
theorem Za7 {S:Nat→Prop} {w w':World} {base size:Nat} {e:TypeId} {v:Value} {n:Nat} {xs:List Value} (h:w.ownsRow base e size v n xs) (ha:Agr S w w') (hs:∀ g,v.ownBlock=some g→S g):w'.ownsRow base e size v n xs:=by
 obtain⟨hl,h⟩:=h;rcases h with h|⟨g,cap,cur,h1,h2,h3,h4⟩
 ·exact ⟨hl,.inl h⟩
 ·exact ⟨hl,.inr ⟨g,cap,cur,h1,h2,(ha.2 g (hs g (by rw[h1];rfl)) (Array.getElem?_eq_some_iff.1 h3).1).trans h3,h4⟩⟩
theorem Zem {S:Nat→Prop} {w:World} {base:Nat} {e:TypeId} {v:Value} {ks:List Tl} {xs:List Value} (h:w.ownsRow base e 5 v ks.length xs) (hk:∀ i k,ks[i]?=some k→Dep S w k ((xs.drop (5*i)).take 5)) (c t:Int) (m:Bool) {S':Nat→Prop} (hS:∀ b,S b→S' b) (hv:∀ g,v.ownBlock=some g→S' g):Dep S' w (.mk c t m [] ks) [.int .i64 c,.int .i64 t,.bool m,.slice none 0 0,v]:=fun w' ha=>by
 have ha2:Agr S w w':=⟨ha.1,fun b hb hl=>ha.2 b (hS b hb) hl⟩;have h2:=Za7 h ha hv;rw[Zav];obtain ⟨hl,h2⟩:=h2;rcases h2 with ⟨e1,e2⟩|⟨g,cap,cur,h1,h2,h3,h4,h5,h6,h7⟩
 ·refine ⟨.slice none 0 0,none,0,by rw[e1,e2],⟨none,0,rfl,by decide,by decide,fun h0=>by simp at h0⟩,by omega,by decide,fun h0=>by omega⟩
 ·refine ⟨.slice none 0 0,some ⟨g,0,none⟩,cap,by rw[h1],⟨none,0,rfl,by decide,by decide,fun h0=>by simp at h0⟩,h4,h5,fun _=>⟨g,0,rfl,?_⟩⟩
  have B:Blk w' g cur.toList:=⟨e,by simpa using h3⟩;refine Zmb (fun i k hi=>⟨_,⟨B.lt,fun j u hu=>?_⟩,hk i k hi w' ha2⟩);have hj:j<5:=by
   have:=(List.getElem?_eq_some_iff.1 hu).1;rw[List.length_take] at this;omega
  have hi2:=(List.getElem?_eq_some_iff.1 hi).1;rw[List.getElem?_take,if_pos hj,List.getElem?_drop,← h7,List.getElem?_take,if_pos (by omega)] at hu;have:=B.cell (5*i+j) u hu;rw[Nat.zero_add];exact this
theorem Zjs {S:Nat→Prop} {w:World} {base:Nat} {e:TypeId} {v:Value} {b:List Int} {n:Nat} (h:w.ownsRow base e 1 v n (u8s b)) (hn:b.length=n) (hv:∀ g,v.ownBlock=some g→S g) (c t:Int) (m:Bool):Dep S w (.mk c t m b []) [.int .i64 c,.int .i64 t,.bool m,v,.slice none 0 0]:=fun w' ha=>by
 subst hn;have h2:=Bs.of_own (Za7 h ha hv);rw[Zav];exact ⟨v,none,0,rfl,h2,by simp,by decide,fun h0=>by simp at h0⟩
def Zca (cs:List Value):Prop:=cs.toArray.all (·.oneCell')=true
theorem Zav.ones {w:World}:∀ {T:Tl} {cs:List Value},Zav w T cs→Zca cs
 | .mk ..,cs,h=>by
  rw[Zav] at h;obtain ⟨bv,ao,cap,rfl,hb,_⟩:=h;obtain ⟨bo,bc,rfl,_⟩:=hb;simp[Zca,Value.oneCell']
theorem Zjt {B:List Int} {a en c p:Nat} (h:Zc2 B a en=.error (c,p)):c=6∨c=7:=by
 unfold Zc2 at h
 split at h
 ·cases h;exact .inl rfl
 ·split at h
  ·cases h
  ·split at h
   ·cases h;exact .inr rfl
   ·split at h
    ·cases h;exact .inl rfl
    ·split at h
     ·cases h;exact .inr rfl
     ·cases h
theorem ZhM {f:Nat→Nat→Except (Nat × Nat) (Tl × Nat)} {stop c p:Nat} (hf:∀ x c p,f x stop=.error (c,p)→c=6∨c=7∨c=9):∀ {k x:Nat} {acc:List Tl},Zbf f stop k x acc=.error (c,p)→c=6∨c=7∨c=9
 | 0,x,acc,h=>by rw[Zbf] at h;cases h
 | k+1,x,acc,h=>by
  rw[Zbf] at h
  split at h
  ·cases hq:f x stop with
   | error e=>rw[hq] at h;obtain ⟨c',p'⟩:=e;cases h;exact hf x _ _ hq
   | ok q=>rw[hq] at h;obtain ⟨t,y⟩:=q;exact ZhM hf h
  ·cases h
theorem Zdo {B:List Int}:∀ {d a en c p:Nat},ZaH B d a en=.error (c,p)→c=6∨c=7∨c=9
 | 0,a,en,c,p,h=>by rw[ZaH] at h;cases h;exact .inr (.inr rfl)
 | d+1,a,en,c,p,h=>by
  rw[ZaH] at h
  split at h
  ·cases h;exact .inl rfl
  ·split at h
   ·cases h;exact .inr (.inl rfl)
   ·cases hl:Zc2 B (a+1) en with
    | error e =>
     rw[hl] at h;obtain ⟨c',p'⟩:=e
     cases h
     rcases Zjt hl with h|h
     ·exact .inl h
     ·exact .inr (.inl h)
    | ok q =>
     obtain⟨n,f⟩:=q;rw[hl] at h;simp only at h
     split at h
     ·cases h;exact .inl rfl
     ·split at h
      ·cases hk:Zbf (ZaH B d) (f+n) n f [] with
       | error e =>
        rw[hk] at h;obtain ⟨c',p'⟩:=e
        cases h
        exact ZhM (fun x c p hx=>Zdo hx) hk
       | ok q=>rw[hk] at h;obtain ⟨ks,z⟩:=q;cases h
      ·cases h
theorem Blk.grown {w w':World} {row:Option Nat} {g:Nat} {X:List Value} (B:Blk w g X) (hg:w.grownBy w' row) (hr:∀ k,row=some k→k≠g):Blk w' g X:=by
 obtain⟨t,ht⟩:=B;exact ⟨t,(hg.block g (Array.getElem?_eq_some_iff.1 ht).1 (fun e=>hr g e.symm rfl)).trans ht⟩
theorem Agr.grown {S:Nat→Prop} {w w':World} {row:Option Nat} (hg:w.grownBy w' row) (hs:∀ b,S b→row≠some b):Agr S w w':=⟨hg.size,fun b hb hl=>hg.block b hl (fun e=>hs b hb e.symm)⟩
theorem ZaB {w:World} {base size:Nat} {e:TypeId} {v:Value} {n:Nat} {xs:List Value} {j:Nat} (h:w.ownsRow base e size v n xs) (hj:v.ownBlock=some j):base≤j∧j<w.heap.size:=by
 rcases h.2 with ⟨h1,_⟩|⟨g,c,cur,h1,h2,h3,_⟩
 ·rw[h1] at hj;simp[Value.ownBlock] at hj
 ·rw[h1] at hj
  simp only[Value.ownBlock,Option.some.injEq] at hj;subst hj;exact ⟨h2,(Array.getElem?_eq_some_iff.1 h3).1⟩
theorem Zme {wr w1 w3 wz:World} {base gt gg cap1 j:Nat} {e:TypeId} {kv u:Value} {acc:List Tl} {xs cs:List Value} {T:Tl} (own:wr.ownsRow base e 5 kv acc.length xs)
    (HD:∀ i t,acc[i]?=some t→Dep (fun b=>base≤b∧kv.ownBlock≠some b) wr t ((xs.drop (5*i)).take 5)) (hb:Below wr.heap.size wr w1) (hdep:Dep (fun b=>wr.heap.size≤b) w1 T cs) (l5:cs.length=5)
    (hb3:Below w1.heap.size w1 w3) (hgrow:w3.grownBy wz kv.ownBlock) (hat:kv.ownBlock=some gg∨gg=w3.heap.size) (hgt:gt<base) (hs:base≤wr.heap.size)
    (hownz:wz.ownsRow base e 5 (.slice (some ⟨gg,0,none⟩) (acc.length+1) cap1) (acc.length+1) (xs++cs)) :
    (wz.setCell ⟨gt,j,none⟩ u).ownsRow base e 5 (.slice (some ⟨gg,0,none⟩) (acc.length+1) cap1) (acc++[T]).length (xs++cs) ∧
      ∀ i t,(acc++[T])[i]?=some t→Dep (fun b=>base≤b∧(Value.slice (some ⟨gg,0,none⟩) (acc.length+1) cap1).ownBlock≠some b) (wz.setCell ⟨gt,j,none⟩ u) t (((xs++cs).drop (5*i)).take 5):=by
  have s1:=hb.size;have s3:=hb3.size;have hxs:=own.1;refine ⟨?_,fun i t hi=>?_⟩
  · rw[List.length_append]
    exact Za7 (S:=fun b=>base≤b) hownz (Agr.cell (Agr.refl _ _) (by show ¬ base≤gt;omega)) (fun g hg=>(ZaB hownz hg).1)
  · by_cases hil:i<acc.length
    · rw[List.getElem?_append_left hil] at hi
      rw[List.drop_append_of_le_length (by omega),List.take_append_of_le_length (by rw[List.length_drop];omega)];refine (HD i t hi).next (Agr.cell (((Agr.below hb).trans (Agr.below hb3)).trans (Agr.grown hgrow (fun b hb=>hb.2))) (by show ¬ (base≤gt∧_);omega)) (fun b hb hl=>⟨hb.1,fun e=>?_⟩);simp only[Value.ownBlock,Option.some.injEq] at e;subst e;rcases hat with h|h
      · exact hb.2 h
      · omega
    · have hlt:=(List.getElem?_eq_some_iff.1 hi).1
      rw[List.length_append] at hlt;have ei:i=acc.length:=by simp at hlt;omega
      subst ei;rw[List.getElem?_append_right (Nat.le_refl _),Nat.sub_self] at hi;simp only[List.getElem?_cons_zero,Option.some.injEq] at hi;subst hi;rw[show 5*acc.length=xs.length by omega,List.drop_left,List.take_of_length_le (by omega)];refine hdep.next (Agr.cell ((Agr.below hb3).trans (Agr.grown hgrow (fun b hb e=>?_))) (by show ¬ wr.heap.size≤gt;omega)) (fun b hb hl=>⟨by omega,fun e=>?_⟩)
      · have:=ZaB own e
        omega
      · simp only[Value.ownBlock,Option.some.injEq] at e
        subst e;rcases hat with h|h
        · have:=ZaB own h
          omega
        · omega
theorem Zaj:Hid (∀ w:World,(zeroValue 53).run Tryz.prog w=.ok (.agg #[.int .i64 0,.int .i64 0,.bool false,.slice none 0 0,.slice none 0 0]) w):=fun w=>by kernel_rfl
theorem Zcb:(Tryz.prog.info? 53).map (fun i=>(i.zero,i.size,i.bytes))=some (some (.agg #[.int .i64 0,.int .i64 0,.bool false,.slice none 0 0,.slice none 0 0]),5,72):=by kernel_rfl
theorem ZaO {i:Option TypeInfo} {z:Value} {n m:Nat} (h:i.map (fun i=>(i.zero,i.size,i.bytes))=some (some z,n,m)):∃ j,i=some j∧j.zero=some z∧j.size=n∧j.bytes=m:=by
 obtain⟨j,hj,e⟩:=Option.map_eq_some_iff.1 h;simp only[Prod.mk.injEq] at e;exact ⟨j,hj,e.1,e.2.1,e.2.2⟩
theorem five {cs:List Value} (h:cs.length=5):∃ a b c d e,cs=[a,b,c,d,e]:=by
 match cs,h with
 | [a,b,c,d,e],_=>exact ⟨a,b,c,d,e,rfl⟩
theorem ZeX {cs:List Value} (h:cs.length=5):Instr.fill (fun i=>some (i*5,5)) ((Array.range (1*5)).map ((Value.agg #[.int .i64 0,.int .i64 0,.bool false,.slice none 0 0,.slice none 0 0]).cells[· % (Value.agg #[.int .i64 0,.int .i64 0,.bool false,.slice none 0 0,.slice none 0 0]).cells.size]!)) [(0,.agg cs.toArray)]=some cs.toArray:=by
 obtain⟨a,b,c,d,e,rfl⟩:=five h;kernel_rfl
theorem dpl {S:Nat→Prop} {w w':World} {T:Tl} {cs:List Value} (h:Hid (Dep S w T cs)) (hb:Below w.heap.size w w'):Hid (Dep S w' T cs):=(h.out.next (Agr.below hb) (fun _ h _=>h):Dep S w' T cs)
theorem dpm {S:Nat→Prop} {w w':World} {T:Tl} {cs:List Value} (h:Dep S w T cs) (hb:Below w.heap.size w w'):Dep S w' T cs:=h.next (Agr.below hb) (fun _ h _=>h)
theorem Zj1 {w w':World} {T:Tl} {cs:List Value} (h:Hid (Zav w T cs)) (hb:Below w.heap.size w w'):Hid (Zav w' T cs):=h.out.later hb
theorem BsL {w w':World} {v:Value} {b:List Int} (h:Hid (Bs w v b)) (hb:Below w.heap.size w w'):Hid (Bs w' v b):=h.out.later hb
def ZdT (w:World) (c p:Nat) (er:Value):Prop:=(c=2∧er=.iface 46 (.int .i64 2))∨(¬ c=2∧∃ g,er=.iface 99 (.pointer (some ⟨g,0,none⟩))∧Blk w g [.int .i64 (p:Int),.iface 46 (.int .i64 (c:Int))])
def ZgA (n:Nat) (er:Value):Prop:=∀ g,er=.iface 99 (.pointer (some ⟨g,0,none⟩))→n≤g
theorem ZdT.later {w w':World} {c p:Nat} {er:Value} (h:ZdT w c p er) (hb:Below w.heap.size w w'):ZdT w' c p er:=by
 rcases h with h|⟨h1,g,h2,h3⟩
 ·exact .inl h
 ·exact .inr ⟨h1,g,h2,h3.later hb⟩
def Zi4 (w w':World) (v:Value) (X:List Int):Prop:=∃ g o cap cur,v=.slice (some ⟨g,o,none⟩) X.length cap∧X.length≤cap∧cap≤maxLen∧w.heap.size≤g∧Blk w' g cur∧∀ j,j<X.length→cur[o+j]?=some (.int .u8 (X.getD j 0))
theorem Zi4.bs {w w':World} {v:Value} {X:List Int} (h:Zi4 w w' v X):Bs w' v X:=by
 obtain⟨g,o,cap,cur,rfl,h1,h2,h3,h4,h5⟩:=h;exact ⟨_,cap,rfl,h2,h1,fun _=>⟨g,o,rfl,h4.lt,fun j hj=>h4.cell _ _ (h5 j hj)⟩⟩
def WrAt (w w':World) (T:Tl) (v er:Value):Prop:=(wrN T=0→Zi4 w w' v (Zak T)∧er=.nilIface)∧(¬ wrN T=0→Bs w' v []∧er=.iface 46 (.int .i64 ((wrN T:Nat):Int)))
def nilT:Tl:=.mk 0 0 false [] []
theorem ZiA (w:World):Zav w nilT [.int .i64 0,.int .i64 0,.bool false,.slice none 0 0,.slice none 0 0]:=by
 unfold nilT;rw[Zav];exact ⟨.slice none 0 0,none,0,rfl,⟨none,0,rfl,by decide,by decide,fun h=>by simp at h⟩,by simp,by decide,fun h=>by simp at h⟩
end Go.Proofs.YtohcdbifhnfcbaaGreatDoor
