import Derived.Test.YtohcdbifhnfcbaaGreatDoorNlSG
import Derived.Test.YtohcdbifhnfcbaaGreatDoorCtSize
import Derived.Test.YtohcdbifhnfcbaaGreatDoorKdBody0
import Derived.Test.YtohcdbifhnfcbaaGreatDoorDrDG
import Derived.Test.YtohcdbifhnfcbaaGreatDoorPrOid
import Derived.Test.YtohcdbifhnfcbaaGreatDoorRows
import Derived.Deep.WholeRow
import Derived.Deep.RegionHeld3
import Derived.Deep.DeepCutAuto
import Derived.Deep.DeepFit
import Derived.Deep.OwnRows
import Derived.Deep.AppendLies
import Derived.Great.BuildSlice
import Derived.Laws.Rows
import Derived.BigQuiet
namespace Go.Proofs.YtohcdbifhnfcbaaGreatDoor
open Go.RowKit
def ptC:List Pn→List Value
 | []=>[]
 | p::n=>.int .i64 p.1 :: .string (strOfNums p.2)::ptC n
theorem Zg5:∀ n:List Pn,(ptC n).length=n.length*2
 | []=>rfl
 | p::n=>by rw[ptC,List.length_cons,List.length_cons,Zg5 n,List.length_cons];omega
theorem ZiF:∀ n m:List Pn,ptC (n++m)=ptC n++ptC m
 | [],m=>rfl
 | p::n,m=>by rw[List.cons_append,ptC,ptC,ZiF n m];rfl
theorem ZmI:∀ {n:List Pn} {i:Nat} {p:Pn},n[i]?=some p→(ptC n)[i*2]?=some (.int .i64 p.1)∧(ptC n)[i*2+1]?=some (.string (strOfNums p.2))
 | [],i,p,h=>by simp at h
 | q::n,0,p,h=>by
  simp at h;subst h;exact ⟨rfl,rfl⟩
 | q::n,i+1,p,h=>by
  rw[List.getElem?_cons_succ] at h;obtain ⟨h1,h2⟩:=ZmI h;rw[ptC,show (i+1)*2=i*2+1+1 by omega];simp only[List.getElem?_cons_succ];exact ⟨h1,h2⟩
theorem Zcq.of_own {w:World} {base:Nat} {e:TypeId} {v:Value} {k:Nat} {n:List Pn} (h:w.ownsRow base e 2 v k (ptC n)):Zcq w v n:=by
 obtain⟨hl,h⟩:=h;have hn:n.length=k:=by rw[Zg5] at hl;omega
 rcases h with ⟨h1,h2⟩|⟨g,cap,cur,h1,h2,h3,h4,h5,h6,h7⟩
 ·exact ⟨none,0,by rw[h1,hn,h2],by omega,by decide,fun h=>by omega⟩
 ·refine ⟨_,cap,by rw[hn];exact h1,by omega,h5,fun _=>⟨g,0,rfl,(Array.getElem?_eq_some_iff.1 h3).1,fun i p hp=>?_⟩⟩
  obtain⟨e1,e2⟩:=ZmI hp;have hi:=(List.getElem?_eq_some_iff.1 hp).1;rw[← h7,List.getElem?_take,if_pos (by omega)] at e1 e2;rw[Nat.zero_add];simp only[World.cell?,h3,Option.isSome_none,Bool.false_eq_true,if_false];exact ⟨by simpa using e1,by simpa using e2⟩
theorem Zey.of_own {w w':World} {base:Nat} {e:TypeId} {v:Value} {k:Nat} {n:List Pn} (h:w'.ownsRow base e 2 v k (ptC n)) (hb:w.heap.size≤base):Zey w w' v n:=fun _ ha =>
 Zcq.of_own (Za7 h ha (fun _ hg=>Nat.le_trans hb (ZaB h hg).1))
theorem Zmt {c t:Int} {m:Bool} {b:List Int} {ks:List Tl} (h:¬ (c=0∧t=17∧m=true∧ks.length=1)):Zdc (.mk c t m b ks)=none:=by
 unfold Zdc
 split
 ·rename_i e
  cases e
  rw[if_neg (fun k=>h ⟨k.1,k.2.1,k.2.2.1,rfl⟩)]
 ·rfl
theorem Zmu {c t c1 t1:Int} {m m1:Bool} {b b1:List Int} {ks:List Tl} (h:¬ (c1=0∧t1=16∧m1=true∧ks.length=2)):Zdc (.mk c t m b [.mk c1 t1 m1 b1 ks])=none:=by
 unfold Zdc
 split
 ·rename_i e
  cases e
  rw[if_neg (fun k=>h ⟨k.2.2.2.1,k.2.2.2.2.1,k.2.2.2.2.2.1,rfl⟩)]
 ·rfl
theorem ZqQ {c t c1 t1 c2 t2 c3 t3:Int} {m m1 m2 m3:Bool} {b b1 b2 b3:List Int} {k2 k3:List Tl} (h:¬ (c2=0∧t2=6∧m2=false∧b2.length=3∧b2.getD 0 0=85∧b2.getD 1 0=4∧c3=0∧t3=12∧m3=false∧Zbn (b2.getD 2 0,b3)=true)):Zdc (.mk c t m b [.mk c1 t1 m1 b1 [.mk c2 t2 m2 b2 k2,.mk c3 t3 m3 b3 k3]])=none:=by
 unfold Zdc
 split
 ·rename_i e
  cases e
  rw[if_neg];rintro ⟨-,-,-,-,-,-,h1,h2,h3,h4,h5,h6,h7,h8,h9⟩;exact h ⟨h1,h2,h3,rfl,h4,h5,h6,h7,h8,h9⟩
 ·rfl
theorem ZnA {ks:List Tl} (h:ks.length=2):∃ p q,ks=[p,q]:=by
 match ks,h with
 | [p,q],_=>exact ⟨p,q,rfl⟩
theorem Zp0 {w:World} {base size:Nat} {e:TypeId} {v:Value} {n:Nat} {xs:List Value} (h:w.ownsRow base e size v n xs):∃ ao cap,v=.slice ao n cap:=by
 rcases h.2 with ⟨h1,h2⟩|⟨g,cap,cur,h1,_⟩
 ·exact ⟨none,0,by rw[h1,h2]⟩
 ·exact ⟨_,cap,h1⟩
theorem ZoS {b b1 b2 b3:List Int} {k2 k3:List Tl} (hl:b2.length=3) (h0:b2.getD 0 0=85) (h1:b2.getD 1 0=4) (h:Zbn (b2.getD 2 0,b3)=true):Zdc (.mk 0 17 true b [.mk 0 16 true b1 [.mk 0 6 false b2 k2,.mk 0 12 false b3 k3]])=some (b2.getD 2 0,b3):=by
 match b2,hl with
 | [x,y,z],_ =>
  have e0:x=85:=h0;have e1:y=4:=h1;subst e0 e1;have h':Zbn (z,b3)=true:=h;unfold Zdc;dsimp only;rw[if_pos ⟨rfl,rfl,rfl,rfl,rfl,rfl,rfl,rfl,rfl,rfl,rfl,rfl,rfl,rfl,h'⟩]
  rfl
theorem Zix:∀ ks:List Tl,ks.length≤szL ks
 | []=>Nat.zero_le _
 | k::ks=>by
  have h1:=ZcN k;have h2:=Zix ks;rw[szL,List.length_cons];omega
theorem Znv {B m:List Int} (h:ZbJ B=.ok m):m=B:=by
 unfold ZbJ at h
 split at h
 ·cases h
 ·split at h
  ·cases h
  ·split at h
   ·cases h
   ·cases h;rfl
theorem ZfU:∀ {xs l:List Int} {v:Int} {beg:Bool} {r:List Int},Zb2 xs l v beg=.ok r→∃ t,r=l++t
 | [],l,v,beg,r,h=>by
  rw[Zb2] at h
  split at h
  ·cases h
  ·cases h;exact ⟨[],(List.append_nil _).symm⟩
 | x::xs,l,v,beg,r,h=>by
  rw[Zb2] at h
  split at h
  ·cases h
  ·split at h
   ·obtain ⟨t,e⟩:=ZfU h
    exact⟨_,by rw[e,List.append_assoc]⟩
   ·exact ZfU h
theorem ZiJ:∀ {xs l:List Int} {v:Int} {r:List Int},1≤v→Zb2 xs l v false=.ok r→∃ u t,r=l++u::t∧128≤u
 | [],l,v,r,_,h=>by
  rw[Zb2,if_pos (.inl rfl)] at h
  cases h
 | x::xs,l,v,r,hv,h=>by
  rw[Zb2,if_neg (fun k=>by cases k.1)] at h
  split at h
  ·obtain ⟨t,e⟩:=ZfU h
   refine⟨_,t,by rw[e,List.append_assoc];rfl,?_⟩;omega
  ·exact ZiJ (by omega) h
theorem ZiL {x u:Int} {xs l t:List Int} (hx:0≤x∧x<256) (hu:u<128) (h:Zb2 (x::xs) l 0 true=.ok (l++u::t)):x=u∧Zb2 xs (l++[u]) 0 true=.ok (l++u::t):=by
 rw[Zb2] at h
 split at h
 ·cases h
 ·rename_i hn
  split at h
  ·rename_i hlt
   have e9:min (128*0+x%128) 1099511627776=x:=by omega
   rw[e9] at h;obtain ⟨t2,e⟩:=ZfU h;rw[List.append_assoc] at e;have e2:=List.append_cancel_left e;simp only[List.cons_append,List.nil_append,List.cons.injEq] at e2;obtain ⟨e3,-⟩:=e2;subst e3;exact ⟨rfl,h⟩
  ·have h1:1≤min (128*0+x%128) 1099511627776:=by
    have:¬ x=128:=fun k=>hn ⟨rfl,k⟩;omega
   obtain⟨u2,t2,e,h2⟩:=ZiJ h1 h;have e2:=List.append_cancel_left e;simp only[List.cons.injEq] at e2;omega
theorem Zq5 {xs l:List Int} (hx:byt xs) (h:Zb2 xs l 0 true=.ok l):xs=[]:=by
 cases xs with
 | nil=>rfl
 | cons x xs =>
  exfalso
  rw[Zb2] at h
  split at h
  ·cases h
  ·rename_i hn
   split at h
   ·obtain ⟨t,e⟩:=ZfU h
    have:=congrArg List.length e;simp at this
   ·have hb:=hx 0
    rw[List.getD_cons_zero] at hb;have h1:1≤min (128*0+x%128) 1099511627776:=by
     have:¬ x=128:=fun k=>hn ⟨rfl,k⟩;omega
    obtain⟨u2,t2,e,h2⟩:=ZiJ h1 h;have:=congrArg List.length e;simp at this
theorem ZgK {x:Int} {xs:List Int} (h:byt (x::xs)):byt xs:=fun j=>by simpa using h (j+1)
theorem ZmU {B:List Int} {a b c:Int} (hB:byt B) (ha:a<128) (hb:b<128) (hc:c<128) (h:Zb2 B [] 0 true=.ok [a,b,c]):B=[a,b,c]:=by
 have none_:∀ {l:List Int} {u:Int} {t:List Int},¬ Zb2 [] l 0 true=.ok (l++u::t):=by
  intro l u t h;rw[Zb2] at h
  split at h
  ·cases h
  ·simp only[Except.ok.injEq] at h
   have:=congrArg List.length h;simp at this
 match B,hB,h with
 | [],_,h=>exact absurd h (none_ (l:=[]))
 | x::B1,hB,h =>
  obtain⟨rfl,h⟩:=ZiL (l:=[]) (by simpa using hB 0) ha h
  match B1,ZgK hB,h with
  | [],_,h=>exact absurd h (none_ (l:=[x]))
  | y::B2,hB,h =>
   obtain⟨rfl,h⟩:=ZiL (l:=[x]) (by simpa using hB 0) hb h
   match B2,ZgK hB,h with
   | [],_,h=>exact absurd h (none_ (l:=[x,y]))
   | z::B3,hB,h =>
    obtain⟨rfl,h⟩:=ZiL (l:=[x,y]) (by simpa using hB 0) hc h;rw[Zq5 (ZgK hB) h]
theorem ZqB {l n:List Int} (h:Zdw l=.ok n):2≤n.length:=by
 unfold Zdw at h
 split at h
 ·cases h
 ·split at h
  ·cases h
  ·cases h
   have:(ZbK (l.getD 0 0)).length=2:=by unfold ZbK;split;rfl;split<;>rfl
   rw[List.length_append];omega
theorem ZqU {B n:List Int} (h:Zfk B=.ok n):2≤n.length:=by
 unfold Zfk at h
 cases hr:Zb2 B [] 0 true with
 | error c=>rw[hr] at h;cases h
 | ok l=>rw[hr] at h;exact ZqB h
def ZcC (B:List Int):Option Int:=if B.length=3∧B.getD 0 0=85∧B.getD 1 0=4∧ZbT (B.getD 2 0)=true then some (B.getD 2 0) else none
theorem Zgp {B:List Int} {k:Int} (h:ZcC B=some k):ZbT k=true∧B=[85,4,k]:=by
 unfold ZcC at h
 split at h
 ·rename_i c
  cases h
  refine⟨c.2.2.2,?_⟩
  match B,c.1 with
  | [x,y,z],_ =>
   have e0:x=85:=c.2.1;have e1:y=4:=c.2.2.1;rw[e0,e1]
   rfl
 ·cases h
theorem ZoA {k:Int} (h:ZbT k=true):ZcC [85,4,k]=some k:=if_pos ⟨rfl,rfl,rfl,h⟩
theorem ZhN {k:Int} (h:ZbT k=true):Zfk [85,4,k]=.ok [2,5,4,k]:=ZoT (by have:=Zjr (k:=k);rw[ZfK h] at this;exact this) (Zjq h)
theorem Zmf {B:List Int} {k:Int} (hB:byt B) (hk:ZbT k=true) (h:Zfk B=.ok [2,5,4,k]):B=[85,4,k]:=by
 have hk2:=ZdG hk;unfold Zfk at h
 cases hr:Zb2 B [] 0 true with
 | error c=>rw[hr] at h;cases h
 | ok l =>
  rw[hr] at h;replace h:Zdw l=.ok [2,5,4,k]:=h;unfold Zdw at h
  split at h
  ·cases h
  ·split at h
   ·cases h
   ·simp only[Except.ok.injEq] at h
    have hl:(ZbK (l.getD 0 0)).length=2:=by unfold ZbK;split;rfl;split<;>rfl
    have h1:ZbK (l.getD 0 0)=[2,5]:=by
     have:=congrArg (List.take 2) h;rw[List.take_append_of_le_length (by omega),List.take_of_length_le (by omega)] at this;exact this
    have h2:l.drop 1=[4,k]:=by
     have:=congrArg (List.drop 2) h;rw[List.drop_append_of_le_length (by omega),List.drop_of_length_le (by omega)] at this;exact this
    have h0:l.getD 0 0=85:=by
     unfold ZbK at h1
     split at h1
     ·simp at h1
     ·split at h1
      ·simp at h1
      ·simp only[List.cons.injEq,and_true,true_and] at h1
       omega
    have hl2:l=[85,4,k]:=by
     cases l with
     | nil=>simp at h2
     | cons a l =>
      rw[List.getD_cons_zero] at h0;rw[List.drop_succ_cons,List.drop_zero] at h2;rw[h0,h2]
    rw[hl2] at hr;exact ZmU hB (by decide) (by decide) (by omega) hr
def Zd4:Tl→Option Pn
 | .mk c t m b [.mk c2 t2 m2 b2 k2,.mk c3 t3 m3 b3 k3]=>if Zcx 16 (.mk c t m b [.mk c2 t2 m2 b2 k2,.mk c3 t3 m3 b3 k3])=true∧Zb4 6 (.mk c2 t2 m2 b2 k2)=true∧Zb4 12 (.mk c3 t3 m3 b3 k3)=true then (match ZcC b2 with|none=>none|some k=>if Zeu b3=true then some (k,b3) else none) else none
 | _=>none
def ZaT:Tl→Option Pn
 | .mk c t m b [k]=>if Zcx 17 (.mk c t m b [k])=true then Zd4 k else none
 | _=>none
theorem Zp6 {c t:Int} {m:Bool} {b:List Int} {ks:List Tl} (h:Zcx 17 (.mk c t m b ks)=false):ZaT (.mk c t m b ks)=none:=by
 match ks,h with
 | [],_=>rfl
 | [k],h=>rw[ZaT,if_neg (by rw[h];decide)]
 | _::_::_,_=>rfl
theorem Zp7 {c t:Int} {m:Bool} {b:List Int} {ks:List Tl} (h:¬ ks.length=1):ZaT (.mk c t m b ks)=none:=by
 match ks,h with
 | [],_=>rfl
 | [k],h=>exact absurd rfl h
 | _::_::_,_=>rfl
theorem Zes {c t:Int} {m:Bool} {b:List Int} {k:Tl} (h:Zd4 k=none):ZaT (.mk c t m b [k])=none:=by
 rw[ZaT,h]
 split<;>rfl
theorem ZmC {c t:Int} {m:Bool} {b:List Int} {ks:List Tl} (h:Zcx 16 (.mk c t m b ks)=false):Zd4 (.mk c t m b ks)=none:=by
 unfold Zd4
 split
 ·rename_i e
  cases e
  rw[if_neg (fun k=>by rw[h] at k;cases k.1)]
 ·rfl
theorem ZmD {c t:Int} {m:Bool} {b:List Int} {ks:List Tl} (h:¬ ks.length=2):Zd4 (.mk c t m b ks)=none:=by
 unfold Zd4
 split
 ·rename_i e
  cases e
  exact absurd rfl h
 ·rfl
theorem Zg2 {c t c2 t2 c3 t3:Int} {m m2 m3:Bool} {b b2 b3:List Int} {k2 k3:List Tl} (h:Zb4 6 (.mk c2 t2 m2 b2 k2)=false∨Zb4 12 (.mk c3 t3 m3 b3 k3)=false):Zd4 (.mk c t m b [.mk c2 t2 m2 b2 k2,.mk c3 t3 m3 b3 k3])=none:=by
 rw[Zd4,if_neg];rintro ⟨-,h1,h2⟩;rcases h with h|h
 ·rw[h] at h1;cases h1
 ·rw[h] at h2;cases h2
theorem ZmE {c t c2 t2 c3 t3:Int} {m m2 m3:Bool} {b b2 b3:List Int} {k2 k3:List Tl} (h:ZcC b2=none):Zd4 (.mk c t m b [.mk c2 t2 m2 b2 k2,.mk c3 t3 m3 b3 k3])=none:=by
 rw[Zd4,h]
 split<;>rfl
theorem ZmF {c t c2 t2 c3 t3:Int} {m m2 m3:Bool} {b b2 b3:List Int} {k2 k3:List Tl} (h:Zeu b3=false):Zd4 (.mk c t m b [.mk c2 t2 m2 b2 k2,.mk c3 t3 m3 b3 k3])=none:=by
 rw[Zd4]
 split
 ·split
  ·rfl
  ·rw[if_neg (by rw[h];decide)]
 ·rfl
theorem ZjA {c t c2 t2 c3 t3:Int} {m m2 m3:Bool} {b b2 b3:List Int} {k2 k3:List Tl} {k:Int} (h1:Zcx 16 (.mk c t m b [.mk c2 t2 m2 b2 k2,.mk c3 t3 m3 b3 k3])=true) (h2:Zb4 6 (.mk c2 t2 m2 b2 k2)=true) (h3:Zb4 12 (.mk c3 t3 m3 b3 k3)=true) (h4:ZcC b2=some k) (h5:Zeu b3=true):Zd4 (.mk c t m b [.mk c2 t2 m2 b2 k2,.mk c3 t3 m3 b3 k3])=some (k,b3):=by
 rw[Zd4,if_pos ⟨h1,h2,h3⟩,h4];exact if_pos h5
theorem Zne {c t:Int} {m:Bool} {b:List Int} {k:Tl} {p:Pn} (h:Zcx 17 (.mk c t m b [k])=true) (h2:Zd4 k=some p):ZaT (.mk c t m b [k])=some p:=by
 rw[ZaT,if_pos h,h2]
theorem ZcU {c t:Int} {m:Bool} {b:List Int} {ks:List Tl} (h:ZaK (.mk c t m b ks)=true):(m=true→b.length=0)∧(m=false→ks.length=0)∧ZaE ks=true:=by
 rw[ZaK,Bool.and_eq_true] at h;have h1:=h.1;unfold Zby at h1;simp only[Bool.and_eq_true,Bool.not_eq_true',Bool.and_eq_false_iff,decide_eq_false_iff_not,decide_eq_true_eq] at h1;refine ⟨fun e=>?_,fun e=>?_,h.2⟩
 ·rcases h1.1.2 with k|k
  ·rw[e] at k;cases k
  ·omega
 ·rcases h1.2 with k|k
  ·rw[e] at k;cases k
  ·omega
theorem ZcT {k:Tl} {ks:List Tl} (h:ZaE (k::ks)=true):ZaK k=true∧ZaE ks=true:=by
 rw[ZaE,Bool.and_eq_true] at h;exact h
theorem ZkJ:∀ {T:Tl},ZaK T=true→ZaT T=Zdc T
 | .mk c t m b ks,hf=>by
  obtain⟨f1,f2,f3⟩:=ZcU hf
  by_cases hl:ks.length=1
  rotate_left
  ·rw[Zp7 hl,Zmt (fun h=>hl h.2.2.2)]
  obtain⟨k,rfl⟩:=List.length_eq_one_iff.1 hl;obtain ⟨c1,t1,m1,b1,ks1⟩:=k;have g:=(ZcT f3).1;obtain ⟨g1,g2,g3⟩:=ZcU g
  by_cases hl1:ks1.length=2
  rotate_left
  ·rw[Zes (ZmD hl1),Zmu (fun h=>hl1 h.2.2.2)]
  obtain⟨p,q,rfl⟩:=ZnA hl1;obtain ⟨c2,t2,m2,b2,k2⟩:=p;obtain ⟨c3,t3,m3,b3,k3⟩:=q;obtain ⟨p1,p2,p3⟩:=ZcU (ZcT g3).1;obtain ⟨q1,q2,q3⟩:=ZcU (ZcT (ZcT g3).2).1
  by_cases ha:c=0∧t=17∧m=true∧[Tl.mk c1 t1 m1 b1 [Tl.mk c2 t2 m2 b2 k2,Tl.mk c3 t3 m3 b3 k3]].length=1
  rotate_left
  ·rw[Zmt ha,Zp6 (decide_eq_false (fun h=>ha ⟨h.1,h.2.1,h.2.2.1,rfl⟩))]
  by_cases hb:c1=0∧t1=16∧m1=true∧[Tl.mk c2 t2 m2 b2 k2,Tl.mk c3 t3 m3 b3 k3].length=2
  rotate_left
  ·rw[Zmu hb,Zes (ZmC (decide_eq_false (fun h=>hb ⟨h.1,h.2.1,h.2.2.1,rfl⟩)))]
  by_cases hc:c2=0∧t2=6∧m2=false∧b2.length=3∧b2.getD 0 0=85∧b2.getD 1 0=4∧c3=0∧t3=12∧m3=false∧Zbn (b2.getD 2 0,b3)=true
  ·obtain ⟨rfl,rfl,rfl,-⟩:=ha
   obtain⟨rfl,rfl,rfl,-⟩:=hb;obtain ⟨rfl,rfl,rfl,l3,x0,x1,rfl,rfl,rfl,hp⟩:=hc;have hkt:ZbT (b2.getD 2 0)=true∧Zeu b3=true:=by
    have h9:(ZbT (b2.getD 2 0) && Zeu b3)=true:=hp;rw[Bool.and_eq_true] at h9;exact h9
   rw[ZoS l3 x0 x1 hp];exact Zne (decide_eq_true ⟨rfl,rfl,rfl,f1 rfl⟩) (ZjA (decide_eq_true ⟨rfl,rfl,rfl,g1 rfl⟩) (decide_eq_true ⟨rfl,rfl,rfl,p2 rfl⟩) (decide_eq_true ⟨rfl,rfl,rfl,q2 rfl⟩) (if_pos ⟨l3,x0,x1,hkt.1⟩) hkt.2)
  ·rw[ZqQ hc]
   refine Zes ?_
   by_cases h6:Zb4 6 (.mk c2 t2 m2 b2 k2)=true
   rotate_left
   ·exact Zg2 (.inl (by simpa using h6))
   by_cases h12:Zb4 12 (.mk c3 t3 m3 b3 k3)=true
   rotate_left
   ·exact Zg2 (.inr (by simpa using h12))
   by_cases hk:ZcC b2=none
   ·exact ZmE hk
   by_cases ht:Zeu b3=false
   ·exact ZmF ht
   refine absurd ?_ hc;have e6:=of_decide_eq_true h6;have e12:=of_decide_eq_true h12;have ek:b2.length=3∧b2.getD 0 0=85∧b2.getD 1 0=4∧ZbT (b2.getD 2 0)=true:=by
    unfold ZcC at hk
    split at hk
    ·rename_i h9;exact h9
    ·exact absurd rfl hk
   refine⟨e6.1,e6.2.1,e6.2.2.1,ek.1,ek.2.1,ek.2.2.1,e12.1,e12.2.1,e12.2.2.1,?_⟩;show (ZbT _ && Zeu b3)=true;rw[ek.2.2.2]
   simpa using ht
theorem ZhT:∀ {ks:List Tl} {i:Nat} {k:Tl},ks[i]?=some k→ZaT k=none→ks.mapM ZaT=none
 | [],i,k,h,_=>by simp at h
 | x::xs,0,k,h,e=>by
  simp at h;subst h;rw[List.mapM_cons,e]
  rfl
 | x::xs,i+1,k,h,e=>by
  rw[List.getElem?_cons_succ] at h;rw[List.mapM_cons,ZhT h e]
  cases ZaT x<;>rfl
theorem ZkH {ks:List Tl} {i:Nat} {k:Tl} {n:List Pn} {p:Pn} (h:(ks.take i).mapM ZaT=some n) (hk:ks[i]?=some k) (e:ZaT k=some p):(ks.take (i+1)).mapM ZaT=some (n++[p]):=by
 rw[List.take_add_one,hk,List.mapM_append,h];simp[e]
def Zdf:Tl→Except Nat (List Pn)
 | .mk c t m b ks=>if Zcx 16 (.mk c t m b ks)=true then (match ks.mapM ZaT with|none=>.error 7|some n=>if 8<n.length then .error 2 else .ok n) else .error 7
theorem Zpf {c t:Int} {m:Bool} {b:List Int} {ks:List Tl} (h:Zcx 16 (.mk c t m b ks)=false):Zdf (.mk c t m b ks)=.error 7:=by
 rw[Zdf,if_neg (by rw[h];decide)]
theorem ZmV {c t:Int} {m:Bool} {b:List Int} {ks:List Tl} {i:Nat} {k:Tl} (h:ks[i]?=some k) (e:ZaT k=none):Zdf (.mk c t m b ks)=.error 7:=by
 rw[Zdf,ZhT h e]
 split<;>rfl
theorem ZkT {c t:Int} {m:Bool} {b:List Int} {ks:List Tl} {n:List Pn} (hm:Zcx 16 (.mk c t m b ks)=true) (h:ks.mapM ZaT=some n) (l:8<n.length):Zdf (.mk c t m b ks)=.error 2:=by
 rw[Zdf,h,if_pos hm];simp only;rw[if_pos l]
theorem Zpg {c t:Int} {m:Bool} {b:List Int} {ks:List Tl} {n:List Pn} (hm:Zcx 16 (.mk c t m b ks)=true) (h:ks.mapM ZaT=some n) (l:¬ 8<n.length):Zdf (.mk c t m b ks)=.ok n:=by
 rw[Zdf,h,if_pos hm];simp only;rw[if_neg l]
theorem ZhU:∀ {ks:List Tl},ZaE ks=true→ks.mapM ZaT=ks.mapM Zdc
 | [],_=>rfl
 | k::ks,h=>by
  rw[List.mapM_cons,List.mapM_cons,ZkJ (ZcT h).1,ZhU (ZcT h).2]
theorem ZmX:∀ {T:Tl},ZaK T=true→Zdf T=Zcz T
 | .mk c t m b ks,hf=>by
  obtain⟨f1,f2,f3⟩:=ZcU hf;rw[Zdf,Zcz,ZhU f3]
  by_cases h:c=0∧t=16∧m=true
  ·have hm:Zcx 16 (.mk c t m b ks)=true:=decide_eq_true ⟨h.1,h.2.1,h.2.2,f1 h.2.2⟩
   rw[if_pos h,if_pos hm]
   rfl
  ·rw[if_neg h,if_neg (fun k=>h ⟨(of_decide_eq_true k).1,(of_decide_eq_true k).2.1,(of_decide_eq_true k).2.2.1⟩)]
def OfP (w:World) (T:Tl) (e:Ending) (w':World):Prop :=
 (∀ n,Zdf T=.ok n→∃ v,e=.returned (.tuple #[v,.nilIface])∧Zey w w' v n)∧(∀ c,Zdf T=.error c→∃ (ao:Option Addr) (cap:Nat),e=.returned (.tuple #[.slice ao 0 cap,.iface 46 (.int .i64 (c:Int))]))∧Below w.heap.size w w'
theorem OfP.bad {w w':World} {T:Tl} {c:Nat} {ao:Option Addr} {cap:Nat} (h:Zdf T=.error c) (hb:Below w.heap.size w w'):OfP w T (.returned (.tuple #[.slice ao 0 cap,.iface 46 (.int .i64 (c:Int))])) w' :=
 ⟨fun n k=>(by rw[h] at k;cases k),fun d k=>(by rw[h] at k;cases k;exact ⟨ao,cap,rfl⟩),hb⟩
theorem OfP.ok {w w':World} {T:Tl} {n:List Pn} {v:Value} (h:Zdf T=.ok n) (hn:Zey w w' v n) (hb:Below w.heap.size w w'):OfP w T (.returned (.tuple #[v,.nilIface])) w' :=
 ⟨fun m k=>(by rw[h] at k;cases k;exact ⟨v,rfl,hn⟩),fun d k=>(by rw[h] at k;cases k),hb⟩
theorem OfP.ofR {w w':World} {T:Tl} {e:Ending} (h:OfP w T e w') (hw:wrN T=0→ZaK T=true):OfR w T e w':=by
 obtain⟨h1,h2,h3⟩:=h;refine ⟨?_,fun hz=>?_⟩
 ·cases hr:Zdf T with
  | ok n=>obtain ⟨v,e1,_⟩:=h1 n hr;exact ⟨v,_,e1,h3⟩
  | error c=>obtain ⟨ao,cap,e1⟩:=h2 c hr;exact ⟨_,_,e1,h3⟩
 ·rw[← ZmX (hw hz)]
  exact⟨h1,h2⟩
def Zea (w:World) (T:Tl) (e:Ending) (w':World):Prop:=Below w.heap.size w w'∧(ZaT T=none→e=.returned (.tuple #[.agg #[.int .i64 0,.string { data:=#[] }],.iface 46 (.int .i64 7)]))∧(∀ p,ZaT T=some p→e=.returned (.tuple #[.agg #[.int .i64 p.1,.string (strOfNums p.2)],.nilIface]))
theorem Zea.bad {w w':World} {T:Tl} (h:ZaT T=none) (hb:Below w.heap.size w w'):Zea w T (.returned (.tuple #[.agg #[.int .i64 0,.string { data:=#[] }],.iface 46 (.int .i64 7)])) w':=⟨hb,fun _=>rfl,fun p k=>(by rw[h] at k;cases k)⟩
theorem Zea.ok {w w':World} {T:Tl} {k:Int} {s:List Int} {s9:ByteArray} (h:ZaT T=some (k,s)) (hs:strOfNums s=s9) (hb:Below w.heap.size w w'):Zea w T (.returned (.tuple #[.agg #[.int .i64 k,.string s9],.nilIface])) w':=⟨hb,fun k=>(by rw[h] at k;cases k),fun p k=>(by rw[h] at k;cases k;rw[← hs])⟩
theorem Us.at {w:World} {ao:Option Addr} {m cap:Nat} {L:List Int} (h:Us w (.slice ao m cap) L) {i:Nat} (hi:i<L.length):∃ b o,ao=some ⟨b,o,none⟩∧b<w.heap.size∧w.cell? ⟨b,o+i,none⟩=some (.int .u64 (L.getD i 0)):=by
 obtain⟨a9,c9,e,_,_,h3⟩:=h;obtain ⟨b,o,e2,hl,hc⟩:=h3 (by omega);simp only[Value.slice.injEq] at e;exact ⟨b,o,by rw[e.1,e2],hl,hc i hi⟩
theorem Znt {n m:List Int} {i:Nat} (h:n.take i=m.take i) (hp:i<n.length) (hq:i<m.length):n.take (i+1)=m.take (i+1)↔n.getD i 0=m.getD i 0:=by
 rw[List.take_add_one,List.take_add_one,h,List.getElem?_eq_getElem hp,List.getElem?_eq_getElem hq,List.getD_eq_getElem?_getD,List.getD_eq_getElem?_getD,List.getElem?_eq_getElem hp,List.getElem?_eq_getElem hq];constructor
 ·intro e
  have:=List.append_cancel_left e
  simpa using this
 ·intro e
  simp only[Option.getD_some] at e;rw[e]
set_option linter.unusedSimpArgs false in
set_option maxRecDepth 100000 in
set_option maxHeartbeats 1000000 in
theorem Zkd {v u:Value} {n m:List Int} {w:World} (hn:Us w v n) (hm:Us w u m) :
  Calls Tryz.prog 154 #[v,u] w fun e w'=>e=.returned (.bool (decide (n=m)))∧Below w.heap.size w w':=by
 have HN:Hid (Us w v n):=hn;have HM:Hid (Us w u m):=hm;obtain ⟨a1,c1,rfl,-,-,-⟩:=hn;obtain ⟨a2,c2,rfl,-,-,-⟩:=hm;have hl1:Hid (n.length≤9223372036854775807):=by obtain ⟨_,c,e,h1,h2,_⟩:=HN.out;show _≤_;simp only[maxLen] at h1;omega
 go_enter Tryz.func154,Tryz.ntmps154
 by_cases hl:n.length=m.length
 rotate_left
 ·have H:Hid (decide (n=m)=false):=decide_eq_false (fun h=>hl (by rw[h]))
  have g1:((n.length:Int) == (m.length:Int))=false:=by rw[beq_eq_false_iff_ne];omega
  have g2:((n.length:Int) != (m.length:Int))=true:=by rw[bne,g1];rfl
  clear hl;go_wp2_with fail;go_ret;exact ⟨by rw[H.out];rfl,Below.refl _ _⟩
 obtain⟨L,hL⟩:∃ L,n.length=L:=⟨_,rfl⟩;have HL:Hid (n.length=L):=hL;have HL2:Hid (m.length=L):=by show _=_;rw[← hL,hl]
 rw[hL] at HN ⊢;rw[HL2.out] at HM ⊢;have g1:((L:Int) == (L:Int))=true:=beq_self_eq_true _;have g2:((L:Int) != (L:Int))=false:=by rw[bne,g1];rfl
 clear hl hL;go_wp2_with fail;clear g1 g2;go_loopw [13] (fun iv wx=>∃ i:Nat,i≤L∧iv=.int .i64 (i:Int)∧Hid (n.take i=m.take i)∧Below w.heap.size w wx) (fun iv _=>L-(intOf iv).toNat)
 case atStart=>exact ⟨0,by omega,rfl,rfl,Below.refl _ _⟩
 case round =>
  obtain⟨i,hi,rfl,HT,bel⟩:=hrel
  by_cases hil:i<L
  ·have g1:(i:Int)<(L:Int):=by omega
   have g2:(0:Int)≤(i:Int):=by omega
   have gi:IntKind.i64.wrap ((i:Int)+1)=(i:Int)+1:=by have:=hl1.out;rw[HL.out] at this;rw[IntKind.wrap_i64];omega
   obtain⟨b1,o1,e1,l1,x0⟩:=(HN.out.later bel).at (i:=i) (by rw[HL.out];exact hil);obtain ⟨b2,o2,e2,l2,y0⟩:=(HM.out.later bel).at (i:=i) (by rw[HL2.out];exact hil);subst e1 e2;have HS:Hid (n.take (i+1)=m.take (i+1)↔n.getD i 0=m.getD i 0):=Znt HT.out (by rw[HL.out];exact hil) (by rw[HL2.out];exact hil);obtain ⟨x,hx⟩:∃ x,n.getD i 0=x:=⟨_,rfl⟩;obtain ⟨y,hy⟩:∃ y,m.getD i 0=y:=⟨_,rfl⟩;have HX:Hid (n.getD i 0=x):=hx;have HY:Hid (m.getD i 0=y):=hy;rw[hx] at x0 HS;rw[hy] at y0 HS;clear hx hy
   by_cases hpq:x=y
   ·have HT2:Hid (n.take (i+1)=m.take (i+1)):=HS.out.2 hpq
    have d1:(x == y)=true:=by rw[hpq];exact beq_self_eq_true _
    have d2:(x != y)=false:=by rw[bne,d1];rfl
    clear hpq;go_wp2_with fail;go_quiet (fail);go_wp2_with fail;go_roundw
    case rel=>exact ⟨i+1,by omega,by go_num,HT2,ZaM bel _⟩
    case measure=>simp[intOf];omega
   ·have H:Hid (decide (n=m)=false):=decide_eq_false (fun h=>hpq (by rw[← HX.out,← HY.out,h]))
    have d1:(x == y)=false:=by rw[beq_eq_false_iff_ne];exact hpq
    have d2:(x != y)=true:=by rw[bne,d1];rfl
    clear hpq;go_wp2_with fail;go_quiet (fail);go_wp2_with fail;go_ret;exact ⟨by rw[H.out];rfl,ZaM bel _⟩
  ·have g1:¬ (i:Int)<(L:Int):=by omega
   have HI:Hid (i=L):=by show _=_;omega
   have H:Hid (decide (n=m)=true):=decide_eq_true (by have h:=HT.out;rw[HI.out,List.take_of_length_le (by rw[HL.out];exact Nat.le_refl _),List.take_of_length_le (by rw[HL2.out];exact Nat.le_refl _)] at h;exact h);go_wp2_with fail;go_ret;exact ⟨by rw[H.out];rfl,bel⟩
def ZgB (w:World) (B:List Int) (e:Ending) (w':World):Prop:=Below w.heap.size w w'∧(ZcC B=none→e=.returned (.tuple #[.int .i64 0,.iface 46 (.int .i64 7)]))∧(∀ k,ZcC B=some k→e=.returned (.tuple #[.int .i64 k,.nilIface]))
theorem ZgB.bad {w w':World} {B:List Int} (h:ZcC B=none) (hb:Below w.heap.size w w'):ZgB w B (.returned (.tuple #[.int .i64 0,.iface 46 (.int .i64 7)])) w':=⟨hb,fun _=>rfl,fun p k=>(by rw[h] at k;cases k)⟩
theorem ZgB.ok {w w':World} {B:List Int} {k:Int} (h:ZcC B=some k) (hb:Below w.heap.size w w'):ZgB w B (.returned (.tuple #[.int .i64 k,.nilIface])) w':=⟨hb,fun k=>(by rw[h] at k;cases k),fun p k=>(by rw[h] at k;cases k;rfl)⟩
theorem ZkE {B:List Int} {c:Nat} (h:Zfk B=.error c):ZcC B=none:=by
 cases hk:ZcC B with
 | none=>rfl
 | some k =>
  obtain⟨h1,rfl⟩:=Zgp hk;rw[ZhN h1] at h
  cases h
theorem ZfJ {B n:List Int} {x:Int} (h:Zfk B=.ok n) (hx:n.getD (n.length-1) 0=x) (hk:¬ (ZbT (IntKind.i64.wrap x)=true∧n=[2,5,4,IntKind.i64.wrap x])):ZcC B=none:=by
 cases hb:ZcC B with
 | none=>rfl
 | some k =>
  obtain⟨h1,rfl⟩:=Zgp hb;rw[ZhN h1] at h
  cases h
  have hx2:k=x:=hx;subst hx2;have hw:IntKind.i64.wrap k=k:=by have:=ZdG h1;rw[IntKind.wrap_i64];omega
  rw[hw] at hk;exact absurd ⟨h1,rfl⟩ hk
set_option linter.unusedSimpArgs false in
set_option maxRecDepth 100000 in
set_option maxHeartbeats 1000000 in
theorem Zke {v:Value} {B:List Int} {w:World} (hv:Bs w v B) (b:byt B) :
  Calls Tryz.prog 136 #[v] w (ZgB w B):=by
 have HV:Hid (Bs w v B):=hv;have HY:Hid (byt B):=b;go_enter Tryz.func136,Tryz.ntmps136;go_wp2_with fail;refine (Zql HV.out HY.out).mono ?_;rintro e w1 ⟨hok,hbad⟩
 cases ho:Zfk B with
 | error c =>
  obtain⟨oa,oc,rfl,bel⟩:=hbad c ho;have H:Hid (ZcC B=none):=ZkE ho;clear hok hbad ho;have q:=Zbh (c:Int);go_wp2_with fail;refine bodyPost_ret (results_tmp2 rfl _ _ _) rfl ?_;exact ZgB.bad H.out bel
 | ok n =>
  obtain⟨v1,rfl,hu,-,bel⟩:=hok n ho;have HO:Hid (Zfk B=.ok n):=ho;have HL:Hid (2≤n.length):=ZqU ho;have HU:Hid (Us w1 v1 n):=hu;obtain ⟨ua,uc,hv1,k1,-,-⟩:=id hu;obtain ⟨M,hM⟩:∃ M,n.length=M:=⟨_,rfl⟩;have HM:Hid (n.length=M):=hM;subst hv1;rw[hM] at HU HL ⊢;clear hok hbad ho hu hM;have hM2:=HL.out;have hM3:M≤9223372036854775807:=by obtain ⟨_,c,e,h1,h2,_⟩:=HU.out;rw[HM.out] at h2;simp only[maxLen] at h1;omega
  obtain⟨J,hJ⟩:∃ J,M=J+1:=⟨M-1,by omega⟩;have gs:IntKind.i64.wrap ((M:Int)-1)=(J:Int):=by rw[IntKind.wrap_i64];omega
  have g0:(0:Int)≤(J:Int):=by omega
  have g1:(J:Int)<(M:Int):=by omega
  obtain⟨b1,o1,e1,l1,x0⟩:=HU.out.at (i:=J) (by rw[HM.out];omega);subst e1;obtain ⟨x,hx⟩:∃ x,n.getD J 0=x:=⟨_,rfl⟩;have HX:Hid (n.getD (n.length-1) 0=x):=by show _=_;rw[HM.out,show M-1=J by omega];exact hx
  rw[hx] at x0;obtain ⟨y,hy⟩:∃ y,IntKind.i64.wrap x=y:=⟨_,rfl⟩;have HYw:Hid (IntKind.i64.wrap x=y):=hy;have q:=ZaU;clear hx hJ hM2 hM3;go_wp2_with fail;refine ZeF.mono ?_;rintro e w2 ⟨rfl,hw2⟩;rw[hw2];clear hw2
  cases hk:ZbT y with
  | false =>
   have H:Hid (ZcC B=none):=ZfJ HO.out HX.out (fun h=>by rw[HYw.out,hk] at h;cases h.1);clear hk;go_wp2_with fail;refine bodyPost_ret (results_tmp2 rfl _ _ _) rfl ?_;exact ZgB.bad H.out bel
  | true =>
   have HK:Hid (ZbT y=true):=hk;clear hk;go_wp2_with fail;refine Zgi.mono ?_;rintro e w3 ⟨g,rfl,-,hu,hb⟩;have HU3:Hid (Us w3 (.slice (some ⟨g,0,none⟩) 4 4) [2,5,4,y]):=by have h9:=hu;rw[ZfK HK.out] at h9;exact h9
   have HU1:Hid (Us w3 (.slice (some ⟨b1,o1,none⟩) M uc) n):=HU.out.later hb;replace bel:=Zaa bel hb;clear hu hb HU;go_wp2_with fail;refine (Zkd HU1.out HU3.out).mono ?_;rintro e w4 ⟨rfl,hb⟩;replace bel:=Zaa bel hb;clear hb
   by_cases heq:n=[2,5,4,y]
   ·have H:Hid (ZcC B=some y):=by
     have h9:=HO.out;rw[heq] at h9;rw[Zmf HY.out HK.out h9];exact ZoA HK.out
    rw[decide_eq_true heq];clear heq;go_wp2_with fail;refine bodyPost_ret (results_tmp2 rfl _ _ _) rfl ?_;exact ZgB.ok H.out bel
   ·have H:Hid (ZcC B=none):=ZfJ HO.out HX.out (fun h=>heq (by rw[HYw.out] at h;exact h.2))
    rw[decide_eq_false heq];clear heq;go_wp2_with fail;refine bodyPost_ret (results_tmp2 rfl _ _ _) rfl ?_;exact ZgB.bad H.out bel
theorem ZnK {T G:Prop} (main:T→G) (kp:T):G:=main kp
set_option linter.unusedSimpArgs false in
set_option maxRecDepth 100000 in
set_option maxHeartbeats 4000000 in
theorem Zkf {T:Tl} {cs:List Value} {w:World} (h:Zav w T cs) (wf:WfT T) :
  Calls Tryz.prog 107 #[.agg cs.toArray] w (Zea w T):=by
 have h9:=h;obtain ⟨c,t,m,b,ks⟩:=T;rw[WfT] at wf;have HWf:Hid (WfL ks):=wf.2.2.2;rw[Zav] at h;obtain ⟨bv,ka,kc,rfl,hbv,x1,x2,hk⟩:=h;obtain ⟨ba,bc,rfl,-,-,-⟩:=hbv;have HT:Hid (Zav w (.mk c t m b ks) [.int .i64 c,.int .i64 t,.bool m,.slice ba b.length bc,.slice ka ks.length kc]):=h9;have HK:Hid (0<ks.length→∃ g o,ka=some ⟨g,o,none⟩∧Zap w ks g o):=hk;obtain ⟨N,hN⟩:∃ N,b.length=N:=⟨_,rfl⟩;obtain ⟨K,hK⟩:∃ K,ks.length=K:=⟨_,rfl⟩;have HL:Hid (ks.length=K):=hK;rw[hK] at HK HT ⊢;rw[hN] at HT ⊢;clear hN hK hk x1 x2 wf h9;have B0:=(Blk.new w [.int .i64 c,.int .i64 t,.bool m,.slice ba N bc,.slice ka K kc] 53 w.heap.size rfl).alloc (.cells #[.int .i64 0,.string { data:=#[] }] 106);have R0:=Blk.new (w.alloc (.cells #[.int .i64 c,.int .i64 t,.bool m,.slice ba N bc,.slice ka K kc] 53)) [.int .i64 0,.string { data:=#[] }] 106 (w.heap.size+1) (by simp);have bel:Below w.heap.size w ((w.alloc (.cells #[.int .i64 c,.int .i64 t,.bool m,.slice ba N bc,.slice ka K kc] 53)).alloc (.cells #[.int .i64 0,.string { data:=#[] }] 106)):=((Below.refl _ _).alloc (Nat.le_refl _) _).alloc (by simp) _;have hz:=Zb1;go_enter Tryz.func107,Tryz.ntmps107;go_upto_region 1 with fail;generalize (w.alloc (.cells #[.int .i64 c,.int .i64 t,.bool m,.slice ba N bc,.slice ka K kc] 53)).alloc (.cells #[.int .i64 0,.string { data:=#[] }] 106)=W at *;clear hz;have hld:(loadVar 53 ⟨w.heap.size,0,none⟩).run Tryz.prog W=.ok (.agg #[.int .i64 c,.int .i64 t,.bool m,.slice ba N bc,.slice ka K kc]) W:=B0.load Tryz.underlying53 rfl Zae rfl;have l0:=B0.lt;go_wp2_with (first|((with_reducible show wpList _ _ _ (⟨_,.load _ _,_,_,_,_⟩::_) _ _);refine Zab (by rfl) (by rfl) (by rfl) hld ?_)|fail);refine (ZeG (HT.out.later bel)).mono ?_;rintro e w1 ⟨rfl,hb⟩;replace B0:=B0.later hb;replace R0:=R0.later hb;replace bel:=Zaa bel hb;clear hb hld l0;have f4:=B0.cell 4 _ rfl;have fl:=B0.lt
 cases hm:Zcx 17 (.mk c t m b ks) with
 | false =>
  have H:Hid (ZaT (.mk c t m b ks)=none):=Zp6 hm;clear hm;have hz:=Zb1;obtain ⟨tR,hR⟩:=R0;have HR1:Hid _:=hR;clear hR;go_wp2_with (first|((with_reducible show wpList _ _ _ (⟨_,.store _ _ _,_,_,_,_⟩::_) _ _);refine wpList_store_row rfl 106 _ _ rfl (w.heap.size+1) #[.int .i64 0,.string { data:=#[] }] rfl rfl tR _ HR1.out (by rw[ZaR];rfl) rfl (by simp[Value.oneCell']) ?_)|fail);refine bodyPost_ret (Zac rfl _ _ (w.heap.size+1) tR #[.int .i64 0,.string { data:=#[] }] (0,0) _ rfl (setRow_heap _ _ _ _ _ _ HR1.out) Tryz.underlying106 rfl (by rw[ZaR];rfl)) rfl ?_;exact Zea.bad H.out (below_setRow bel (by omega) _)
 | true =>
  have HMd:Hid (Zcx 17 (.mk c t m b ks)=true):=hm;clear hm
  by_cases hq:K=1
  rotate_left
  ·have d1:((K:Int) == 1)=false:=by rw[beq_eq_false_iff_ne];omega
   have d2:((K:Int) != 1)=true:=by rw[bne,d1];rfl
   have H:Hid (ZaT (.mk c t m b ks)=none):=Zp7 (by rw[HL.out];exact hq);clear hq;have hz:=Zb1;obtain ⟨tR,hR⟩:=R0;have HR1:Hid _:=hR;clear hR;go_wp2_with (first|((with_reducible show wpList _ _ _ (⟨_,.store _ _ _,_,_,_,_⟩::_) _ _);refine wpList_store_row rfl 106 _ _ rfl (w.heap.size+1) #[.int .i64 0,.string { data:=#[] }] rfl rfl tR _ HR1.out (by rw[ZaR];rfl) rfl (by simp[Value.oneCell']) ?_)|fail);refine bodyPost_ret (Zac rfl _ _ (w.heap.size+1) tR #[.int .i64 0,.string { data:=#[] }] (0,0) _ rfl (setRow_heap _ _ _ _ _ _ HR1.out) Tryz.underlying106 rfl (by rw[ZaR];rfl)) rfl ?_;exact Zea.bad H.out (below_setRow bel (by omega) _)
  subst hq;obtain ⟨k9,rfl⟩:∃ k,ks=[k]:=List.length_eq_one_iff.1 HL.out;obtain ⟨g,o,rfl,hks⟩:=HK.out (by omega);rw[Zap] at hks;obtain ⟨⟨cs1,hc1,ht1⟩,-⟩:=hks;replace hc1:=hc1.later bel;replace ht1:=ht1.later bel;have hwk:=HWf.out;rw[WfL] at hwk;replace hwk:=hwk.1;clear HK HWf HT HL;have HT1:Hid (Zav w1 k9 cs1):=ht1;obtain ⟨c1,t1,m1,b1,k1⟩:=k9;rw[Zav] at ht1;obtain ⟨bv1,ka1,kc1,hcs1,hb1,x11,x21,hk1⟩:=ht1;subst hcs1;obtain ⟨ba1,bc1,rfl,y11,y21,y31⟩:=id hb1;have HB1:Hid (Bs w1 (.slice ba1 b1.length bc1) b1):=hb1;have HK1:Hid (0<k1.length→∃ g o,ka1=some ⟨g,o,none⟩∧Zap w1 k1 g o):=hk1;obtain ⟨N1,hN1⟩:∃ N,b1.length=N:=⟨_,rfl⟩;obtain ⟨K1,hK1⟩:∃ K,k1.length=K:=⟨_,rfl⟩;have HN1:Hid (b1.length=N1):=hN1;have HL1:Hid (k1.length=K1):=hK1;have HM1:Hid (b1.length≤maxLen):=Nat.le_trans y21 y11;rw[hN1] at HB1 hc1 HT1;rw[hK1] at hc1 HK1 HT1;clear hN1 hK1 hk1 hb1 y11 y21 y31 x11 x21;rw[WfT] at hwk;have HWk:Hid (WfL k1):=hwk.2.2.2;clear hwk;have hld:(loadVar 53 ⟨g,o,none⟩).run Tryz.prog w1=.ok (.agg #[.int .i64 c1,.int .i64 t1,.bool m1,.slice ba1 N1 bc1,.slice ka1 K1 kc1]) w1:=Zat hc1 rfl;clear hc1;have hz:=Zaj.out;have B1:=Blk.new w1 [.int .i64 c1,.int .i64 t1,.bool m1,.slice ba1 N1 bc1,.slice ka1 K1 kc1] 53 w1.heap.size rfl;have st:Below w1.heap.size w1 (w1.alloc (.cells #[.int .i64 c1,.int .i64 t1,.bool m1,.slice ba1 N1 bc1,.slice ka1 K1 kc1] 53)):=(Below.refl _ _).alloc (Nat.le_refl _) _;replace R0:=R0.later st;replace bel:=Zaa bel st;go_upto_region 4 with (first|((with_reducible show wpList _ _ _ (⟨_,.load _ _,_,_,_,_⟩::_) _ _);refine Zab (by rfl) (by rfl) (by rfl) hld ?_)|((with_reducible show wpList _ _ _ (⟨_,.store _ _ _,_,_,_,_⟩::_) _ _);refine wpList_store_row rfl 53 _ _ rfl w1.heap.size #[.int .i64 c1,.int .i64 t1,.bool m1,.slice ba1 N1 bc1,.slice ka1 K1 kc1] rfl rfl 53 _ (heap_alloc_last _ _) (by rw[Zae];rfl) rfl (by simp[Value.oneCell']) ?_;rw[World.setRow_alloc_new])|fail);clear hz hld f4 fl B0;obtain ⟨g1,hg1⟩:∃ g,g=w1.heap.size:=⟨_,rfl⟩;rw[← hg1] at B1;generalize w1.alloc (.cells #[.int .i64 c1,.int .i64 t1,.bool m1,.slice ba1 N1 bc1,.slice ka1 K1 kc1] 53)=V1 at *;rw[← hg1];clear hg1;have hld:(loadVar 53 ⟨g1,0,none⟩).run Tryz.prog V1=.ok (.agg #[.int .i64 c1,.int .i64 t1,.bool m1,.slice ba1 N1 bc1,.slice ka1 K1 kc1]) V1:=B1.load Tryz.underlying53 rfl Zae rfl;have l0:=B1.lt;go_wp2_with (first|((with_reducible show wpList _ _ _ (⟨_,.load _ _,_,_,_,_⟩::_) _ _);refine Zab (by rfl) (by rfl) (by rfl) hld ?_)|fail);refine (ZeG (HT1.out.later st)).mono ?_;rintro e w3 ⟨rfl,hb⟩;replace B1:=B1.later hb;replace R0:=R0.later hb;replace bel:=Zaa bel hb;replace st:=Zaa st hb;clear hb hld l0;have f4:=B1.cell 4 _ rfl;have fl:=B1.lt
  cases hm:Zcx 16 (.mk c1 t1 m1 b1 k1) with
  | false =>
   have H:Hid (ZaT (.mk c t m b [.mk c1 t1 m1 b1 k1])=none):=Zes (ZmC hm);clear hm;have hz:=Zb1;obtain ⟨tR,hR⟩:=R0;have HR1:Hid _:=hR;clear hR;go_wp2_with (first|((with_reducible show wpList _ _ _ (⟨_,.store _ _ _,_,_,_,_⟩::_) _ _);refine wpList_store_row rfl 106 _ _ rfl (w.heap.size+1) #[.int .i64 0,.string { data:=#[] }] rfl rfl tR _ HR1.out (by rw[ZaR];rfl) rfl (by simp[Value.oneCell']) ?_)|fail);refine bodyPost_ret (Zac rfl _ _ (w.heap.size+1) tR #[.int .i64 0,.string { data:=#[] }] (0,0) _ rfl (setRow_heap _ _ _ _ _ _ HR1.out) Tryz.underlying106 rfl (by rw[ZaR];rfl)) rfl ?_;exact Zea.bad H.out (below_setRow bel (by omega) _)
  | true =>
   have HM1d:Hid (Zcx 16 (.mk c1 t1 m1 b1 k1)=true):=hm;clear hm
   by_cases hq:K1=2
   rotate_left
   ·have d1:((K1:Int) == 2)=false:=by rw[beq_eq_false_iff_ne];omega
    have d2:((K1:Int) != 2)=true:=by rw[bne,d1];rfl
    have H:Hid (ZaT (.mk c t m b [.mk c1 t1 m1 b1 k1])=none):=Zes (ZmD (by rw[HL1.out];exact hq));clear hq;have hz:=Zb1;obtain ⟨tR,hR⟩:=R0;have HR1:Hid _:=hR;clear hR;go_wp2_with (first|((with_reducible show wpList _ _ _ (⟨_,.store _ _ _,_,_,_,_⟩::_) _ _);refine wpList_store_row rfl 106 _ _ rfl (w.heap.size+1) #[.int .i64 0,.string { data:=#[] }] rfl rfl tR _ HR1.out (by rw[ZaR];rfl) rfl (by simp[Value.oneCell']) ?_)|fail);refine bodyPost_ret (Zac rfl _ _ (w.heap.size+1) tR #[.int .i64 0,.string { data:=#[] }] (0,0) _ rfl (setRow_heap _ _ _ _ _ _ HR1.out) Tryz.underlying106 rfl (by rw[ZaR];rfl)) rfl ?_;exact Zea.bad H.out (below_setRow bel (by omega) _)
   subst hq;obtain ⟨p9,q9,rfl⟩:∃ p q,k1=[p,q]:=ZnA HL1.out;obtain ⟨g2b,o2b,rfl,hks⟩:=HK1.out (by omega);rw[Zap,Zap] at hks;obtain ⟨⟨cs3,hc3,ht3⟩,⟨cs4,hc4,ht4⟩,-⟩:=hks;replace hc3:=hc3.later st;replace ht3:=ht3.later st;replace hc4:=hc4.later st;replace ht4:=ht4.later st;have hwo:=HWk.out;rw[WfL,WfL] at hwo;obtain ⟨hw3,hw4,-⟩:=hwo;clear HK1 HWk HT1 HB1 HL1 HN1 HM1 st;have HT3:Hid (Zav w3 p9 cs3):=ht3;obtain ⟨c3,t3,m3,b3,k3⟩:=p9;rw[Zav] at ht3;obtain ⟨bv3,ka3,kc3,hcs3,hb3,x13,x23,hk3⟩:=ht3;subst hcs3;obtain ⟨ba3,bc3,rfl,y13,y23,y33⟩:=id hb3;have HB3:Hid (Bs w3 (.slice ba3 b3.length bc3) b3):=hb3;have HK3:Hid (0<k3.length→∃ g o,ka3=some ⟨g,o,none⟩∧Zap w3 k3 g o):=hk3;obtain ⟨N3,hN3⟩:∃ N,b3.length=N:=⟨_,rfl⟩;obtain ⟨K3,hK3⟩:∃ K,k3.length=K:=⟨_,rfl⟩;have HN3:Hid (b3.length=N3):=hN3;have HL3:Hid (k3.length=K3):=hK3;have HM3:Hid (b3.length≤maxLen):=Nat.le_trans y23 y13;rw[hN3] at HB3 hc3 HT3;rw[hK3] at hc3 HK3 HT3;clear hN3 hK3 hk3 hb3 y13 y23 y33 x13 x23;have HT4:Hid (Zav w3 q9 cs4):=ht4;obtain ⟨c4,t4,m4,b4,k4⟩:=q9;rw[Zav] at ht4;obtain ⟨bv4,ka4,kc4,hcs4,hb4,x14,x24,hk4⟩:=ht4;subst hcs4;obtain ⟨ba4,bc4,rfl,y14,y24,y34⟩:=id hb4;have HB4:Hid (Bs w3 (.slice ba4 b4.length bc4) b4):=hb4;have HK4:Hid (0<k4.length→∃ g o,ka4=some ⟨g,o,none⟩∧Zap w3 k4 g o):=hk4;obtain ⟨N4,hN4⟩:∃ N,b4.length=N:=⟨_,rfl⟩;obtain ⟨K4,hK4⟩:∃ K,k4.length=K:=⟨_,rfl⟩;have HN4:Hid (b4.length=N4):=hN4;have HL4:Hid (k4.length=K4):=hK4;have HM4:Hid (b4.length≤maxLen):=Nat.le_trans y24 y14;rw[hN4] at HB4 hc4 HT4;rw[hK4] at hc4 HK4 HT4;clear hN4 hK4 hk4 hb4 y14 y24 y34 x14 x24;rw[WfT] at hw3 hw4;have HY3:Hid (byt b3):=hw3.2.2.1;have HY4:Hid (byt b4):=hw4.2.2.1;have HC3:Hid (ZdX w3 g2b o2b [.int .i64 c3,.int .i64 t3,.bool m3,.slice ba3 N3 bc3,.slice ka3 K3 kc3]):=hc3;have HC4:Hid (ZdX w3 g2b (o2b+5) [.int .i64 c4,.int .i64 t4,.bool m4,.slice ba4 N4 bc4,.slice ka4 K4 kc4]):=hc4;clear hc3 hc4 hw3 hw4 HK3 HK4;go_upto_region 6 with fail;obtain ⟨S1,hS1,KB1,KI1,KD1,KL1,KA1⟩:∃ S:World→Prop,Hd S w3∧Hid (∀ wx,Hd S wx→Below w3.heap.size w3 wx)∧Hid (∀ wx,Below w3.heap.size w3 wx→Hd S wx)∧Hid (∀ wx,Hd S wx→Hd S wx.drew)∧Hid (∀ w1 w2,Hd S w1→Below w1.heap.size w1 w2→Hd S w2)∧Hid (∀ w1 o,Hd S w1→Hd S (w1.alloc o)):=⟨fun wx=>Below w3.heap.size w3 wx,Below.refl _ _,fun _ h=>h,fun _ h=>h,fun wx h=>Below.drew h,fun w1 w2 h hb=>Zaa h hb,fun w1 o h=>Below.alloc h h.size o⟩;have r4:∀ wx,Hd S1 wx→wx.cell? ⟨g1,4,none⟩=some (.slice (some ⟨g2b,o2b,none⟩) 2 kc1):=fun wx h=>((KB1.out wx h).cell (p:=⟨g1,4,none⟩) fl).trans f4;have rl:∀ wx,Hd S1 wx→g1<wx.heap.size:=fun wx h=>Nat.lt_of_lt_of_le fl (KB1.out wx h).size;have r3:Hid (∀ wx,Hd S1 wx→(loadVar 53 ⟨g2b,o2b,none⟩).run Tryz.prog wx=.ok (.agg #[.int .i64 c3,.int .i64 t3,.bool m3,.slice ba3 N3 bc3,.slice ka3 K3 kc3]) wx):=fun wx h=>Zat (HC3.out.later (KB1.out wx h)) rfl;have r7:Hid (∀ wx,Hd S1 wx→(loadVar 53 ⟨g2b,o2b+5,none⟩).run Tryz.prog wx=.ok (.agg #[.int .i64 c4,.int .i64 t4,.bool m4,.slice ba4 N4 bc4,.slice ka4 K4 kc4]) wx):=fun wx h=>Zat (HC4.out.later (KB1.out wx h)) rfl;clear f4 fl;refine wp_region_noPanic ?_;refine wp_region_held_drew (S:=Hd S1) (by kernel_rfl) (KD1.out _ hS1) (fun hHeld=>?_);clear hS1;generalize World.drew _=wd1 at *;refine tkA 0 ?_;refine tkA 1 ?_;refine tkA 2 ?_;refine trA 3 (.agg #[.int .i64 c3,.int .i64 t3,.bool m3,.slice ba3 N3 bc3,.slice ka3 K3 kc3]) r3.out ?_;refine tkA 4 ?_;refine tkA 5 ?_;refine tkA 6 ?_;refine trA 7 (.agg #[.int .i64 c4,.int .i64 t4,.bool m4,.slice ba4 N4 bc4,.slice ka4 K4 kc4]) r7.out ?_;apply ZnK (T:=∀ (wz:World) (gi gt:Nat),Hd S1 wz→Blk wz gi [.int .i64 c3,.int .i64 t3,.bool m3,.slice ba3 N3 bc3,.slice ka3 K3 kc3]→Blk wz gt [.int .i64 0,.int .i64 0,.bool false,.slice none 0 0,.slice none 0 0]→w3.heap.size≤gi→w3.heap.size≤gt→gi≠gt→wpAnyH _ _ _ _ _ _ _ _ wz)
   case main =>
    intro k5;refine wpAnyH_ready (rs:=[8,9]) (by kernel_rfl) (by simp) ?_;refine AllReadyH.cons rfl (fun K hK=>?_) ?_
    ·have HH:Hid (Hd S1 wd1):=hHeld
     have hz:=Zaj.out;go_simp;refine hK.out _ _ ?_ (fun hHeld2=>?_)
     ·exact KA1.out _ _ hHeld
     ·clear hK K
      try clear hHeld
      have hHeld:=hHeld2;clear hHeld2
      try simp only[Act.put,List.getElem_toArray,List.getElem_cons_zero,List.getElem_cons_succ,List.setIfInBounds_toArray,List.set_cons_zero,List.set_cons_succ]
      clear hz;have Z8:=Blk.new wd1 [.int .i64 0,.int .i64 0,.bool false,.slice none 0 0,.slice none 0 0] 53 wd1.heap.size rfl;obtain ⟨gi,hg9⟩:∃ g,g=wd1.heap.size:=⟨_,rfl⟩;have lgi:w3.heap.size≤gi:=by rw[hg9];exact (KB1.out _ HH.out).size
      rw[← hg9] at Z8 ⊢;clear hg9 HH;generalize wd1.alloc (.cells #[.int .i64 0,.int .i64 0,.bool false,.slice none 0 0,.slice none 0 0] 53)=w8 at *;refine wpAnyH_ready (rs:=[9]) (by kernel_rfl) (by simp) ?_;refine AllReadyH.cons rfl (fun K hK=>?_) ?_
      ·have HH:Hid (Hd S1 w8):=hHeld
       have hz:=Zaj.out;go_simp;refine hK.out _ _ ?_ (fun hHeld2=>?_)
       ·exact KA1.out _ _ hHeld
       ·clear hK K
        try clear hHeld
        have hHeld:=hHeld2;clear hHeld2
        try simp only[Act.put,List.getElem_toArray,List.getElem_cons_zero,List.getElem_cons_succ,List.setIfInBounds_toArray,List.set_cons_zero,List.set_cons_succ]
        clear hz;have Z9:=Blk.new w8 [.int .i64 0,.int .i64 0,.bool false,.slice none 0 0,.slice none 0 0] 53 w8.heap.size rfl;obtain ⟨gt,hg9⟩:∃ g,g=w8.heap.size:=⟨_,rfl⟩;have lgt:w3.heap.size≤gt:=by rw[hg9];exact (KB1.out _ HH.out).size
        have hne:gi≠gt:=by have:=Z8.lt;omega
        replace Z8:=Z8.alloc (.cells #[.int .i64 0,.int .i64 0,.bool false,.slice none 0 0,.slice none 0 0] 53);rw[← hg9] at Z9 ⊢;clear hg9 HH;generalize w8.alloc (.cells #[.int .i64 0,.int .i64 0,.bool false,.slice none 0 0,.slice none 0 0] 53)=w9 at *;refine wpAnyH_ready (rs:=[10]) (by kernel_rfl) (by simp) ?_;refine AllReadyH.cons rfl (fun K hK=>?_) ?_
        ·obtain ⟨t8,h8⟩:=Z8
         rw[if_pos (by rfl)];refine wp_store_row 53 _ _ rfl gi #[.int .i64 c3,.int .i64 t3,.bool m3,.slice ba3 N3 bc3,.slice ka3 K3 kc3] rfl rfl t8 _ h8 (by rw[Zae];rfl) rfl (by simp[Value.oneCell']) ?_;refine hK.out _ _ ?_ (fun hHeld2=>?_)
         ·exact KI1.out _ (below_setRow (KB1.out _ hHeld) lgi _)
         ·clear hK K
          try clear hHeld
          have hHeld:=hHeld2;clear hHeld2
          try simp only[Act.put,List.getElem_toArray,List.getElem_cons_zero,List.getElem_cons_succ,List.setIfInBounds_toArray,List.set_cons_zero,List.set_cons_succ]
          have Z8:Blk (w9.setRow gi #[.int .i64 c3,.int .i64 t3,.bool m3,.slice ba3 N3 bc3,.slice ka3 K3 kc3]) gi [.int .i64 c3,.int .i64 t3,.bool m3,.slice ba3 N3 bc3,.slice ka3 K3 kc3]:=⟨t8,setRow_heap _ _ _ _ _ _ h8⟩;replace Z9:=Z9.row (c:=gi) (cs:=#[.int .i64 c3,.int .i64 t3,.bool m3,.slice ba3 N3 bc3,.slice ka3 K3 kc3]) (fun e=>hne e.symm);clear h8;generalize w9.setRow gi #[.int .i64 c3,.int .i64 t3,.bool m3,.slice ba3 N3 bc3,.slice ka3 K3 kc3]=w10 at *;exact k5 w10 gi gt hHeld Z8 Z9 lgi lgt hne
        exact AllReadyH.nil
      exact AllReadyH.nil
    refine AllReadyH.cons rfl (fun K hK=>?_) ?_
    ·have HH:Hid (Hd S1 wd1):=hHeld
     have hz:=Zaj.out;go_simp;refine hK.out _ _ ?_ (fun hHeld2=>?_)
     ·exact KA1.out _ _ hHeld
     ·clear hK K
      try clear hHeld
      have hHeld:=hHeld2;clear hHeld2
      try simp only[Act.put,List.getElem_toArray,List.getElem_cons_zero,List.getElem_cons_succ,List.setIfInBounds_toArray,List.set_cons_zero,List.set_cons_succ]
      clear hz;have Z9:=Blk.new wd1 [.int .i64 0,.int .i64 0,.bool false,.slice none 0 0,.slice none 0 0] 53 wd1.heap.size rfl;obtain ⟨gt,hg9⟩:∃ g,g=wd1.heap.size:=⟨_,rfl⟩;have lgt:w3.heap.size≤gt:=by rw[hg9];exact (KB1.out _ HH.out).size
      rw[← hg9] at Z9 ⊢;clear hg9 HH;generalize wd1.alloc (.cells #[.int .i64 0,.int .i64 0,.bool false,.slice none 0 0,.slice none 0 0] 53)=w9 at *;refine wpAnyH_ready (rs:=[8]) (by kernel_rfl) (by simp) ?_;refine AllReadyH.cons rfl (fun K hK=>?_) ?_
      ·have HH:Hid (Hd S1 w9):=hHeld
       have hz:=Zaj.out;go_simp;refine hK.out _ _ ?_ (fun hHeld2=>?_)
       ·exact KA1.out _ _ hHeld
       ·clear hK K
        try clear hHeld
        have hHeld:=hHeld2;clear hHeld2
        try simp only[Act.put,List.getElem_toArray,List.getElem_cons_zero,List.getElem_cons_succ,List.setIfInBounds_toArray,List.set_cons_zero,List.set_cons_succ]
        clear hz;have Z8:=Blk.new w9 [.int .i64 0,.int .i64 0,.bool false,.slice none 0 0,.slice none 0 0] 53 w9.heap.size rfl;obtain ⟨gi,hg9⟩:∃ g,g=w9.heap.size:=⟨_,rfl⟩;have lgi:w3.heap.size≤gi:=by rw[hg9];exact (KB1.out _ HH.out).size
        have hne:gi≠gt:=by have:=Z9.lt;omega
        replace Z9:=Z9.alloc (.cells #[.int .i64 0,.int .i64 0,.bool false,.slice none 0 0,.slice none 0 0] 53);rw[← hg9] at Z8 ⊢;clear hg9 HH;generalize w9.alloc (.cells #[.int .i64 0,.int .i64 0,.bool false,.slice none 0 0,.slice none 0 0] 53)=w8 at *;refine wpAnyH_ready (rs:=[10]) (by kernel_rfl) (by simp) ?_;refine AllReadyH.cons rfl (fun K hK=>?_) ?_
        ·obtain ⟨t8,h8⟩:=Z8
         rw[if_pos (by rfl)];refine wp_store_row 53 _ _ rfl gi #[.int .i64 c3,.int .i64 t3,.bool m3,.slice ba3 N3 bc3,.slice ka3 K3 kc3] rfl rfl t8 _ h8 (by rw[Zae];rfl) rfl (by simp[Value.oneCell']) ?_;refine hK.out _ _ ?_ (fun hHeld2=>?_)
         ·exact KI1.out _ (below_setRow (KB1.out _ hHeld) lgi _)
         ·clear hK K
          try clear hHeld
          have hHeld:=hHeld2;clear hHeld2
          try simp only[Act.put,List.getElem_toArray,List.getElem_cons_zero,List.getElem_cons_succ,List.setIfInBounds_toArray,List.set_cons_zero,List.set_cons_succ]
          have Z8:Blk (w8.setRow gi #[.int .i64 c3,.int .i64 t3,.bool m3,.slice ba3 N3 bc3,.slice ka3 K3 kc3]) gi [.int .i64 c3,.int .i64 t3,.bool m3,.slice ba3 N3 bc3,.slice ka3 K3 kc3]:=⟨t8,setRow_heap _ _ _ _ _ _ h8⟩;replace Z9:=Z9.row (c:=gi) (cs:=#[.int .i64 c3,.int .i64 t3,.bool m3,.slice ba3 N3 bc3,.slice ka3 K3 kc3]) (fun e=>hne e.symm);clear h8;generalize w8.setRow gi #[.int .i64 c3,.int .i64 t3,.bool m3,.slice ba3 N3 bc3,.slice ka3 K3 kc3]=w10 at *;exact k5 w10 gi gt hHeld Z8 Z9 lgi lgt hne
        exact AllReadyH.nil
      exact AllReadyH.nil
    exact AllReadyH.nil
   case kp =>
    intro wz gi gt hHeld Z8 Z9 lgi lgt hne;refine wpAnyH_ready (rs:=[11]) (by kernel_rfl) (by simp) ?_;refine AllReadyH.cons rfl (fun K hK=>?_) ?_
    ·obtain ⟨t9,h9⟩:=Z9
     rw[if_pos (by rfl)];refine wp_store_row 53 _ _ rfl gt #[.int .i64 c4,.int .i64 t4,.bool m4,.slice ba4 N4 bc4,.slice ka4 K4 kc4] rfl rfl t9 _ h9 (by rw[Zae];rfl) rfl (by simp[Value.oneCell']) ?_;refine hK.out _ _ ?_ (fun hHeld2=>?_)
     ·exact KI1.out _ (below_setRow (KB1.out _ hHeld) lgt _)
     ·clear hK K hHeld
      have hHeld:=hHeld2;clear hHeld2
      try simp only[Act.put,List.getElem_toArray,List.getElem_cons_zero,List.getElem_cons_succ,List.setIfInBounds_toArray,List.set_cons_zero,List.set_cons_succ]
      have Z9:Blk (wz.setRow gt #[.int .i64 c4,.int .i64 t4,.bool m4,.slice ba4 N4 bc4,.slice ka4 K4 kc4]) gt [.int .i64 c4,.int .i64 t4,.bool m4,.slice ba4 N4 bc4,.slice ka4 K4 kc4]:=⟨t9,setRow_heap _ _ _ _ _ _ h9⟩;replace Z8:=Z8.row (c:=gt) (cs:=#[.int .i64 c4,.int .i64 t4,.bool m4,.slice ba4 N4 bc4,.slice ka4 K4 kc4]) hne;clear h9;generalize wz.setRow gt #[.int .i64 c4,.int .i64 t4,.bool m4,.slice ba4 N4 bc4,.slice ka4 K4 kc4]=wf9 at *;refine wpAnyH_done (by kernel_rfl) ?_ _;refine NoPanic.normal ?_;have st:=KB1.out _ hHeld;have hb9:Below w3.heap.size w3 wf9:=st;replace R0:=R0.later st;replace bel:=bel.trans (st.mono bel.size);clear hHeld r3 r7 r4 rl KB1 KI1 KD1 KL1 KA1;have hld:(loadVar 53 ⟨gi,0,none⟩).run Tryz.prog wf9=.ok (.agg #[.int .i64 c3,.int .i64 t3,.bool m3,.slice ba3 N3 bc3,.slice ka3 K3 kc3]) wf9:=Z8.load Tryz.underlying53 rfl Zae rfl;have l0:=Z8.lt;go_wp2_with (first|((with_reducible show wpList _ _ _ (⟨_,.load _ _,_,_,_,_⟩::_) _ _);refine Zab (by rfl) (by rfl) (by rfl) hld ?_)|fail);refine (Zfy (HT3.out.later st)).mono ?_;rintro e w4 ⟨rfl,hb⟩;replace Z8:=Z8.later hb;replace Z9:=Z9.later hb;replace R0:=R0.later hb;replace bel:=Zaa bel hb;replace st:=Zaa st hb;clear hb hld l0
      cases hm:Zb4 6 (.mk c3 t3 m3 b3 k3) with
      | false =>
       have H:Hid (ZaT (.mk c t m b [.mk c1 t1 m1 b1 [.mk c3 t3 m3 b3 k3,.mk c4 t4 m4 b4 k4]])=none):=Zes (Zg2 (.inl hm));clear hm;have hz:=Zb1;obtain ⟨tR,hR⟩:=R0;have HR1:Hid _:=hR;clear hR;go_wp2_with (first|((with_reducible show wpList _ _ _ (⟨_,.store _ _ _,_,_,_,_⟩::_) _ _);refine wpList_store_row rfl 106 _ _ rfl (w.heap.size+1) #[.int .i64 0,.string { data:=#[] }] rfl rfl tR _ HR1.out (by rw[ZaR];rfl) rfl (by simp[Value.oneCell']) ?_)|fail);refine bodyPost_ret (Zac rfl _ _ (w.heap.size+1) tR #[.int .i64 0,.string { data:=#[] }] (0,0) _ rfl (setRow_heap _ _ _ _ _ _ HR1.out) Tryz.underlying106 rfl (by rw[ZaR];rfl)) rfl ?_;exact Zea.bad H.out (below_setRow bel (by omega) _)
      | true =>
       have HP3:Hid (Zb4 6 (.mk c3 t3 m3 b3 k3)=true):=hm;clear hm;have hld:(loadVar 53 ⟨gt,0,none⟩).run Tryz.prog w4=.ok (.agg #[.int .i64 c4,.int .i64 t4,.bool m4,.slice ba4 N4 bc4,.slice ka4 K4 kc4]) w4:=Z9.load Tryz.underlying53 rfl Zae rfl;have l0:=Z9.lt;go_wp2_with (first|((with_reducible show wpList _ _ _ (⟨_,.load _ _,_,_,_,_⟩::_) _ _);refine Zab (by rfl) (by rfl) (by rfl) hld ?_)|fail);refine (Zfy (HT4.out.later st)).mono ?_;rintro e w5 ⟨rfl,hb⟩;replace Z8:=Z8.later hb;replace Z9:=Z9.later hb;replace R0:=R0.later hb;replace bel:=Zaa bel hb;replace st:=Zaa st hb;clear hb hld l0
       cases hm:Zb4 12 (.mk c4 t4 m4 b4 k4) with
       | false =>
        have H:Hid (ZaT (.mk c t m b [.mk c1 t1 m1 b1 [.mk c3 t3 m3 b3 k3,.mk c4 t4 m4 b4 k4]])=none):=Zes (Zg2 (.inr hm));clear hm;have hz:=Zb1;obtain ⟨tR,hR⟩:=R0;have HR1:Hid _:=hR;clear hR;go_wp2_with (first|((with_reducible show wpList _ _ _ (⟨_,.store _ _ _,_,_,_,_⟩::_) _ _);refine wpList_store_row rfl 106 _ _ rfl (w.heap.size+1) #[.int .i64 0,.string { data:=#[] }] rfl rfl tR _ HR1.out (by rw[ZaR];rfl) rfl (by simp[Value.oneCell']) ?_)|fail);refine bodyPost_ret (Zac rfl _ _ (w.heap.size+1) tR #[.int .i64 0,.string { data:=#[] }] (0,0) _ rfl (setRow_heap _ _ _ _ _ _ HR1.out) Tryz.underlying106 rfl (by rw[ZaR];rfl)) rfl ?_;exact Zea.bad H.out (below_setRow bel (by omega) _)
       | true =>
        have HP4:Hid (Zb4 12 (.mk c4 t4 m4 b4 k4)=true):=hm;clear hm;have f3:=Z8.cell 3 _ rfl;have fl:=Z8.lt;go_wp2_with fail;refine (Zke (HB3.out.later st) HY3.out).mono ?_;rintro e w6 ⟨hb,hbad,hok⟩;replace Z9:=Z9.later hb;replace R0:=R0.later hb;replace bel:=Zaa bel hb;replace st:=Zaa st hb;clear hb f3 fl Z8
        cases hk:ZcC b3 with
        | none =>
         obtain rfl:=hbad hk;have q:=Zbh 7;have H:Hid (ZaT (.mk c t m b [.mk c1 t1 m1 b1 [.mk c3 t3 m3 b3 k3,.mk c4 t4 m4 b4 k4]])=none):=Zes (ZmE hk);clear hk hok hbad;have hz:=Zb1;obtain ⟨tR,hR⟩:=R0;have HR1:Hid _:=hR;clear hR;go_wp2_with (first|((with_reducible show wpList _ _ _ (⟨_,.store _ _ _,_,_,_,_⟩::_) _ _);refine wpList_store_row rfl 106 _ _ rfl (w.heap.size+1) #[.int .i64 0,.string { data:=#[] }] rfl rfl tR _ HR1.out (by rw[ZaR];rfl) rfl (by simp[Value.oneCell']) ?_)|fail);refine bodyPost_ret (Zac rfl _ _ (w.heap.size+1) tR #[.int .i64 0,.string { data:=#[] }] (0,0) _ rfl (setRow_heap _ _ _ _ _ _ HR1.out) Tryz.underlying106 rfl (by rw[ZaR];rfl)) rfl ?_;exact Zea.bad H.out (below_setRow bel (by omega) _)
        | some k =>
         obtain rfl:=hok k hk;have HKd:Hid (ZcC b3=some k):=hk;clear hk hok hbad;have q:=ZaU;have f3:=Z9.cell 3 _ rfl;have fl:=Z9.lt;go_wp2_with fail;refine (Zje (HB4.out.later st) HY4.out).mono ?_;rintro e w7 ⟨hok,hbad⟩;clear f3 fl q
         cases ht:ZbJ b4 with
         | error cc =>
          obtain⟨rfl,hb⟩:=hbad cc ht;replace R0:=R0.later hb;replace bel:=Zaa bel hb;have q:=Zbh (cc:Int);have H:Hid (ZaT (.mk c t m b [.mk c1 t1 m1 b1 [.mk c3 t3 m3 b3 k3,.mk c4 t4 m4 b4 k4]])=none):=Zes (ZmF (by unfold Zeu;rw[ht]));clear ht hok hbad hb;have hz:=Zb1;obtain ⟨tR,hR⟩:=R0;have HR1:Hid _:=hR;clear hR;go_wp2_with (first|((with_reducible show wpList _ _ _ (⟨_,.store _ _ _,_,_,_,_⟩::_) _ _);refine wpList_store_row rfl 106 _ _ rfl (w.heap.size+1) #[.int .i64 0,.string { data:=#[] }] rfl rfl tR _ HR1.out (by rw[ZaR];rfl) rfl (by simp[Value.oneCell']) ?_)|fail);refine bodyPost_ret (Zac rfl _ _ (w.heap.size+1) tR #[.int .i64 0,.string { data:=#[] }] (0,0) _ rfl (setRow_heap _ _ _ _ _ _ HR1.out) Tryz.underlying106 rfl (by rw[ZaR];rfl)) rfl ?_;exact Zea.bad H.out (below_setRow bel (by omega) _)
         | ok n =>
          obtain⟨rfl,hb⟩:=hok n ht;have H:Hid (ZaT (.mk c t m b [.mk c1 t1 m1 b1 [.mk c3 t3 m3 b3 k3,.mk c4 t4 m4 b4 k4]])=some (k,b4)):=Zne HMd.out (ZjA HM1d.out HP3.out HP4.out HKd.out (by unfold Zeu;rw[ht]));obtain rfl:=Znv ht;obtain ⟨s9,hs9⟩:∃ z,strOfNums n=z:=⟨_,rfl⟩;have HS9:Hid (strOfNums n=s9):=hs9;rw[hs9];clear hs9 ht hok hbad;replace R0:=R0.later hb;replace bel:=Zaa bel hb;clear hb;have q:=ZaU;have hz:=Zb1;obtain ⟨tR,hR⟩:=R0;have HR1:Hid _:=hR;clear hR;go_wp2_with (first|((with_reducible show wpList _ _ _ (⟨_,.store _ _ _,_,_,_,_⟩::_) _ _);refine wpList_store_row rfl 106 _ _ rfl (w.heap.size+1) #[.int .i64 k,.string s9] rfl rfl tR _ HR1.out (by rw[ZaR];rfl) rfl (by simp[Value.oneCell']) ?_)|fail);refine bodyPost_ret (Zac rfl _ _ (w.heap.size+1) tR #[.int .i64 k,.string s9] (0,0) _ rfl (setRow_heap _ _ _ _ _ _ HR1.out) Tryz.underlying106 rfl (by rw[ZaR];rfl)) rfl ?_;exact Zea.ok H.out HS9.out (below_setRow bel (by omega) _)
    exact AllReadyH.nil
theorem ZpM {T:Tl} (h:wrN T=0):ZaK T=true:=by
 unfold wrN at h
 split at h
 ·assumption
 ·cases h
set_option linter.unusedSimpArgs false in
set_option maxRecDepth 100000 in
set_option maxHeartbeats 4000000 in
theorem c16_Of {T:Tl} {cs:List Value} {w:World} (h:Zav w T cs) (wf:WfT T) (hz:szT T≤1000000) :
  Calls Tryz.prog 73 #[.agg cs.toArray] w (OfP w T):=by
 have h9:=h;obtain ⟨c,t,m,b,ks⟩:=T;have HZ:Hid (ks.length≤1000000):=by have h1:=Zix ks;rw[szT] at hz;show _≤_;omega
 rw[WfT] at wf;have HWf:Hid (WfL ks):=wf.2.2.2;rw[Zav] at h;obtain ⟨bv,ka,kc,rfl,hbv,x1,x2,hk⟩:=h;obtain ⟨ba,bc,rfl,-,-,-⟩:=hbv;have HT:Hid (Zav w (.mk c t m b ks) [.int .i64 c,.int .i64 t,.bool m,.slice ba b.length bc,.slice ka ks.length kc]):=h9;have HK:Hid (0<ks.length→∃ g o,ka=some ⟨g,o,none⟩∧Zap w ks g o):=hk;obtain ⟨N,hN⟩:∃ N,b.length=N:=⟨_,rfl⟩;obtain ⟨K,hK⟩:∃ K,ks.length=K:=⟨_,rfl⟩;have HL:Hid (ks.length=K):=hK;rw[hK] at HK HT HZ ⊢;rw[hN] at HT ⊢;clear hN hK hk x1 x2 wf h9 hz;have B0:=Blk.new w [.int .i64 c,.int .i64 t,.bool m,.slice ba N bc,.slice ka K kc] 53 w.heap.size rfl;have bel:Below w.heap.size w (w.alloc (.cells #[.int .i64 c,.int .i64 t,.bool m,.slice ba N bc,.slice ka K kc] 53)):=(Below.refl _ _).alloc (Nat.le_refl _) _;go_enter Tryz.func73,Tryz.ntmps73;go_upto_region 1 with fail;generalize w.alloc (.cells #[.int .i64 c,.int .i64 t,.bool m,.slice ba N bc,.slice ka K kc] 53)=W at *;have hld:(loadVar 53 ⟨w.heap.size,0,none⟩).run Tryz.prog W=.ok (.agg #[.int .i64 c,.int .i64 t,.bool m,.slice ba N bc,.slice ka K kc]) W:=B0.load Tryz.underlying53 rfl Zae rfl;have l0:=B0.lt;go_wp2_with (first|((with_reducible show wpList _ _ _ (⟨_,.load _ _,_,_,_,_⟩::_) _ _);refine Zab (by rfl) (by rfl) (by rfl) hld ?_)|fail);refine (ZeG (HT.out.later bel)).mono ?_;rintro e w1 ⟨rfl,hb⟩;replace B0:=B0.later hb;replace bel:=Zaa bel hb;clear hb hld l0;have f4:=B0.cell 4 _ rfl;have fl:=B0.lt
 cases hm:Zcx 16 (.mk c t m b ks) with
 | false =>
  have H:Hid (Zdf (.mk c t m b ks)=.error 7):=Zpf hm;clear hm;go_wp2_with fail;refine bodyPost_ret (results_tmp2 rfl _ _ _) rfl ?_;exact OfP.bad H.out bel
 | true =>
  have HMd:Hid (Zcx 16 (.mk c t m b ks)=true):=hm;clear hm;go_wp2_with fail;clear f4;obtain ⟨W0,hW0⟩:∃ z,z=w1.heap.size:=⟨_,rfl⟩;have hg0:w.heap.size<W0:=by rw[hW0];exact B0.lt
  have hs:W0≤w1.heap.size:=by omega
  clear hW0 B0 fl;go_loopw [4,16] (fun ov iv wx=>∃ (i:Nat) (n:List Pn),i≤K∧iv=.int .i64 (i:Int)∧wx.ownsRow W0 106 2 ov i (ptC n)∧Hid ((ks.take i).mapM ZaT=some n)∧Below w.heap.size w wx∧W0≤wx.heap.size) (fun _ iv _=>K-(intOf iv).toNat)
  case atStart=>exact ⟨0,[],by omega,rfl,⟨rfl,.inl ⟨rfl,rfl⟩⟩,by show List.mapM ZaT (ks.take 0)=some [];simp,bel,hs⟩
  case round =>
   clear bel hs;obtain ⟨i,n,hi,rfl,own,HM,bel,hs⟩:=hrel;obtain ⟨oa,oc,hov⟩:=Zp0 own;subst hov
   by_cases hil:i<K
   rotate_left
   ·have HI:Hid (ks.mapM ZaT=some n):=by have h:=HM.out;rw[List.take_of_length_le (by rw[HL.out];omega)] at h;exact h
    have hn:n.length=i:=by have h:=own.1;rw[Zg5] at h;omega
    have g1:¬ (i:Int)<(K:Int):=by omega
    by_cases h8:8<i
    ·have H:Hid (Zdf (.mk c t m b ks)=.error 2):=ZkT HMd.out HI.out (by rw[hn];exact h8)
     have g2:(8:Int)<(i:Int):=by omega
     clear hn h8;go_wp2_with fail;refine bodyPost_ret (results_tmp2 rfl _ _ _) rfl ?_;exact OfP.bad H.out bel
    ·have H:Hid (Zdf (.mk c t m b ks)=.ok n):=Zpg HMd.out HI.out (by rw[hn];exact h8)
     have g2:¬ (8:Int)<(i:Int):=by omega
     have HNew:Hid (Zey w wr (.slice oa i oc) n):=Zey.of_own own (by omega);clear hn h8 own;go_wp2_with fail;refine bodyPost_ret (results_tmp2 rfl _ _ _) rfl ?_;exact OfP.ok H.out HNew.out bel
   have g1:(i:Int)<(K:Int):=by omega
   have g2:(0:Int)≤(i:Int):=by omega
   have hK6:=HZ.out;have gi:IntKind.i64.wrap ((i:Int)+1)=(i:Int)+1:=by rw[IntKind.wrap_i64];omega
   obtain⟨k,hkk⟩:=ZbI (show i<ks.length by rw[HL.out];exact hil);have HKK:Hid (ks[i]?=some k):=hkk;have HWk:Hid (WfT k):=HWf.out.get hkk;obtain ⟨g,o,rfl,hks⟩:=HK.out (by omega);obtain ⟨cs1,hc1,ht1⟩:=hks.get hkk;replace hc1:=hc1.later bel;replace ht1:=ht1.later bel;have HL5:Hid (cs1.length=5):=ht1.five;have HS5:Hid (cs1.toArray.size=5):=by show _=_;rw[List.size_toArray];exact HL5.out
   have HO5:Hid (Zca cs1):=ht1.ones;have HT1:Hid (Zav wr k cs1):=ht1;have hld:(loadVar 53 ⟨g,o+i*5,none⟩).run Tryz.prog wr=.ok (.agg cs1.toArray) wr:=Zat (by rw[Nat.mul_comm];exact hc1) HL5.out;clear hc1 ht1 hkk hks;have hz:=Zaj.out;have B1:=Blk.new wr cs1 53 wr.heap.size rfl;have st:Below wr.heap.size wr (wr.alloc (.cells cs1.toArray 53)):=(Below.refl _ _).alloc (Nat.le_refl _) _;replace own:=Za7 (S:=fun _=>True) own (Agr.below st) (fun _ _=>trivial);replace hs:W0≤(wr.alloc (.cells cs1.toArray 53)).heap.size:=Nat.le_trans hs st.size;replace bel:=Zaa bel st;go_upto_region 7 with (first|((with_reducible show wpList _ _ _ (⟨_,.load _ _,_,_,_,_⟩::_) _ _);refine Zab (by rfl) (by rfl) (by rfl) hld ?_)|((with_reducible show wpList _ _ _ (⟨_,.store _ _ _,_,_,_,_⟩::_) _ _);refine wpList_store_row rfl 53 _ _ rfl wr.heap.size cs1.toArray rfl rfl 53 _ (heap_alloc_last _ _) (by rw[Zae,HS5.out]) (by rw[HS5.out];rfl) HO5.out ?_;rw[World.setRow_alloc_new])|fail);clear hz hld;obtain ⟨g1,hg1⟩:∃ g,g=wr.heap.size:=⟨_,rfl⟩;rw[← hg1] at B1;generalize wr.alloc (.cells cs1.toArray 53)=V1 at *;rw[← hg1];clear hg1;have hld:(loadVar 53 ⟨g1,0,none⟩).run Tryz.prog V1=.ok (.agg cs1.toArray) V1:=B1.load Tryz.underlying53 rfl Zae HL5.out;have l0:=B1.lt;go_wp2_with (first|((with_reducible show wpList _ _ _ (⟨_,.load _ _,_,_,_,_⟩::_) _ _);refine Zab (by rfl) (by rfl) (by rfl) hld ?_)|fail);refine (Zkf (HT1.out.later st) HWk.out).mono ?_;rintro e w2 ⟨hb,hbad,hok⟩;clear hld l0 B1 st;replace own:=Za7 (S:=fun _=>True) own (Agr.below hb) (fun _ _=>trivial);replace hs:W0≤w2.heap.size:=Nat.le_trans hs hb.size;replace bel:=Zaa bel hb;clear hb
   cases hp:ZaT k with
   | none =>
    obtain rfl:=hbad hp;have H:Hid (Zdf (.mk c t m b ks)=.error 7):=ZmV HKK.out hp;clear hbad hok hp;have hz:=Zb1;replace own:=own.alloc (.cells #[.int .i64 0,.string { data:=#[] }] 106);have B2:=Blk.new w2 [.int .i64 0,.string { data:=#[] }] 106 w2.heap.size rfl;replace bel:=Zah (o:=.cells #[.int .i64 0,.string { data:=#[] }] 106) bel;replace hs:W0≤(w2.alloc (.cells #[.int .i64 0,.string { data:=#[] }] 106)).heap.size:=Nat.le_trans hs ((Below.refl _ _).alloc (Nat.le_refl _) _).size;go_upto_region 8 with (first|((with_reducible show wpList _ _ _ (⟨_,.store _ _ _,_,_,_,_⟩::_) _ _);refine wpList_store_row rfl 106 _ _ rfl w2.heap.size #[.int .i64 0,.string { data:=#[] }] rfl rfl 106 _ (heap_alloc_last _ _) (by rw[ZaR];rfl) rfl (by simp[Value.oneCell']) ?_;rw[World.setRow_alloc_new])|fail);clear hz;obtain ⟨g2b,hg2⟩:∃ g,g=w2.heap.size:=⟨_,rfl⟩;rw[← hg2] at B2;generalize w2.alloc (.cells #[.int .i64 0,.string { data:=#[] }] 106)=V2 at *;rw[← hg2];clear hg2;have q:=Zbh 7;clear own hs B2;go_wp2_with fail;refine bodyPost_ret (results_tmp2 rfl _ _ _) rfl ?_;exact OfP.bad H.out bel
   | some p =>
    obtain⟨k1,s1⟩:=p;obtain rfl:=hok _ hp;have HNx:Hid ((ks.take (i+1)).mapM ZaT=some (n++[(k1,s1)])):=ZkH HM.out HKK.out hp;obtain ⟨s9,hs9⟩:∃ z,strOfNums s1=z:=⟨_,rfl⟩;have HS9:Hid (strOfNums s1=s9):=hs9;simp only;rw[hs9];clear hbad hok hp hs9;have hz:=Zb1;replace own:=own.alloc (.cells #[.int .i64 k1,.string s9] 106);have B2:=Blk.new w2 [.int .i64 k1,.string s9] 106 w2.heap.size rfl;replace bel:=Zah (o:=.cells #[.int .i64 k1,.string s9] 106) bel;replace hs:W0≤(w2.alloc (.cells #[.int .i64 k1,.string s9] 106)).heap.size:=Nat.le_trans hs ((Below.refl _ _).alloc (Nat.le_refl _) _).size;go_upto_region 8 with (first|((with_reducible show wpList _ _ _ (⟨_,.store _ _ _,_,_,_,_⟩::_) _ _);refine wpList_store_row rfl 106 _ _ rfl w2.heap.size #[.int .i64 k1,.string s9] rfl rfl 106 _ (heap_alloc_last _ _) (by rw[ZaR];rfl) rfl (by simp[Value.oneCell']) ?_;rw[World.setRow_alloc_new])|fail);clear hz;obtain ⟨g2b,hg2⟩:∃ g,g=w2.heap.size:=⟨_,rfl⟩;rw[← hg2] at B2;generalize w2.alloc (.cells #[.int .i64 k1,.string s9] 106)=V2 at *;rw[← hg2];clear hg2

    have q:=ZaU;obtain ⟨jp,hjp,hp0,hp1,hp2⟩:=ZaO Zma;have HF:Hid _:=Zl6 (a:=.int .i64 k1) (b:=.string s9);have hzp:=Zb1;have hld:(loadVar 106 ⟨g2b,0,none⟩).run Tryz.prog V2=.ok (.agg #[.int .i64 k1,.string s9]) V2:=B2.load Tryz.underlying106 rfl ZaR rfl;have l0:=B2.lt;have HNews:Hid (∀ j u,[Value.int .i64 k1,.string s9][j]?=some u→(V2.alloc (.cells #[.int .i64 k1,.string s9] 106)).cell? ((⟨V2.heap.size,0,none⟩:Addr).add j)=some u):=fun j u hu=>by
     have e:(⟨V2.heap.size,0,none⟩:Addr).add j=⟨V2.heap.size,0+j,none⟩:=by unfold Addr.add;split<;>simp_all
     rw[e,Nat.zero_add];exact (Blk.new V2 [Value.int .i64 k1,.string s9] 106 V2.heap.size rfl).cell j u hu
    go_wp2_with (first|((with_reducible show wpList _ _ _ (⟨_,.load _ _,_,_,_,_⟩::_) _ _);refine Zab (by rfl) (by rfl) (by rfl) hld ?_)|((with_reducible show wpList _ _ _ (⟨_,.buildSlice _ _ _,_,_,_,_⟩::_) _ _);refine Go.wpList_buildSlice rfl 25 106 1 _ rfl #[.int .i64 k1,.string s9] jp _ Tryz.underlying25 hjp hp0 (by rw[hp1];decide) (by rw[hp1];decide) (by rw[hp1];refine (congrArg _ (?_:_=[(0,Value.agg #[.int .i64 k1,.string s9])])).trans HF.out;kernel_rfl) ?_)|(at_builtin;refine wpList_append_lies _ (by rfl) _ _ _ (by rfl) W0 106 jp _ 2 24 Tryz.underlying25 hjp hp0 hp1 hp2 rfl (by omega) _ i (ptC n) (by rfl) (own.alloc _) ⟨V2.heap.size,0,none⟩ 1 1 [.int .i64 k1,.string s9] (by rfl) rfl HNews.out (by simp[Value.oneCell']) (by omega) (by unfold maxLen;omega) (by omega) (by simp;omega) (V2.heap.size+1) (by simp) ?_;intro gg cap1 wy hownz hgrow hat hltz)|fail);have bel10:=Below.grown (Zah (o:=.cells #[.int .i64 k1,.string s9] 106) bel) hgrow (by have:=bel.size;simp;omega) (fun k hk=>by have:=(ZaB own hk).1;omega);have HSz:Hid (W0≤wy.heap.size):=by have hgz:=hgrow.size;show _≤_;simp at hgz;omega
    have HPt:Hid (ptC n++[.int .i64 k1,.string s9]=ptC (n++[(k1,s1)])):=by show _=_;rw[ZiF,← HS9.out];rfl
    rw[HPt.out] at hownz;clear hgrow hat hltz own B2 bel hld l0 hzp;go_roundw
    case rel=>exact ⟨i+1,n++[(k1,s1)],by omega,by go_num,hownz,HNx,bel10,HSz.out⟩
    case measure=>simp[intOf];omega
theorem Zqp {T:Tl} {cs:List Value} {w:World} (h:Zav w T cs) (wf:WfT T) (hz:szT T≤1000000):Calls Tryz.prog 73 #[.agg cs.toArray] w (OfR w T):=(c16_Of h wf hz).mono (fun _ _ h=>h.ofR ZpM)
end Go.Proofs.YtohcdbifhnfcbaaGreatDoor
