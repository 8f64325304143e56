import Derived.Test.YtohcdbifhnfcbaaGreatDoorBase
import Derived.Test.YtohcdbifhnfcbaaGreatDoorPmNG
import Derived.Test.YtohcdbifhnfcbaaGreatDoorRows
import Derived.Deep.WholeRow
import Derived.Deep.RegionHeld3
import Derived.Deep.DeepCutAuto
import Derived.Deep.DeepFit
namespace Go.Proofs.YtohcdbifhnfcbaaGreatDoor
open Go.RowKit
inductive Tl where
 | mk (c t:Int) (m:Bool) (b:List Int) (ks:List Tl)
mutual
def szT:Tl→Nat
 | .mk _ _ _ _ ks=>1+szL ks
def szL:List Tl→Nat
 | []=>0
 | k::ks=>szT k+szL ks
end
theorem ZcN:∀ t:Tl,0<szT t
 | .mk _ _ _ _ ks=>by rw[szT];omega
theorem ZcM:∀ {ks:List Tl} {i:Nat} {k:Tl},ks[i]?=some k→szT k≤szL ks
 | [],i,k,h=>by simp at h
 | x::xs,0,k,h=>by
  simp at h;subst h;rw[szL];omega
 | x::xs,i+1,k,h=>by
  rw[List.getElem?_cons_succ] at h;have:=ZcM h;rw[szL];omega
def ZdX (w:World) (g o:Nat) (cs:List Value):Prop:=g<w.heap.size∧∀ j v,cs[j]?=some v→w.cell? ⟨g,o+j,none⟩=some v
theorem ZdX.later {w w':World} {g o:Nat} {cs:List Value} (h:ZdX w g o cs) (hb:Below w.heap.size w w'):ZdX w' g o cs :=
 ⟨Nat.lt_of_lt_of_le h.1 hb.size,fun j v hj=>(hb.cell (p:=⟨g,o+j,none⟩) h.1).trans (h.2 j v hj)⟩
mutual
def Zav (w:World):Tl→List Value→Prop
 | .mk c t m b ks,cs=>∃ bv ao cap,cs=[.int .i64 c,.int .i64 t,.bool m,bv,.slice ao ks.length cap]∧Bs w bv b∧ks.length≤cap∧cap≤maxLen∧(0<ks.length→∃ g o,ao=some ⟨g,o,none⟩∧Zap w ks g o)
def Zap (w:World):List Tl→Nat→Nat→Prop
 | [],_,_=>True
 | k::ks,g,o=>(∃ cs,ZdX w g o cs∧Zav w k cs)∧Zap w ks g (o+5)
end
theorem Zav.five {w:World}:∀ {t:Tl} {cs:List Value},Zav w t cs→cs.length=5
 | .mk ..,_,h=>by
  rw[Zav] at h;obtain ⟨_,_,_,rfl,_⟩:=h
  rfl
mutual
theorem Zav.later {w w':World} (hb:Below w.heap.size w w'):∀ {t:Tl} {cs:List Value},Zav w t cs→Zav w' t cs
 | .mk c t m b ks,cs,h=>by
  rw[Zav] at h ⊢;obtain ⟨bv,ao,cap,h1,h2,h3,h4,h5⟩:=h;refine ⟨bv,ao,cap,h1,h2.later hb,h3,h4,fun h0=>?_⟩;obtain ⟨g,o,e,hk⟩:=h5 h0;exact ⟨g,o,e,Zap.later hb hk⟩
theorem Zap.later {w w':World} (hb:Below w.heap.size w w'):∀ {ks:List Tl} {g o:Nat},Zap w ks g o→Zap w' ks g o
 | [],_,_,_=>by rw[Zap];trivial
 | k::ks,g,o,h=>by
  rw[Zap] at h ⊢;obtain ⟨⟨cs,h1,h2⟩,h3⟩:=h;exact ⟨⟨cs,h1.later hb,Zav.later hb h2⟩,Zap.later hb h3⟩
end
theorem Zap.get {w:World}:∀ {ks:List Tl} {g o i:Nat} {k:Tl},Zap w ks g o→ks[i]?=some k→∃ cs,ZdX w g (o+5*i) cs∧Zav w k cs
 | [],_,_,i,_,_,h=>by simp at h
 | x::xs,g,o,0,k,h,e=>by
  rw[Zap] at h;simp at e;subst e;exact h.1
 | x::xs,g,o,i+1,k,h,e=>by
  rw[Zap] at h;rw[List.getElem?_cons_succ] at e;have:=Zap.get h.2 e;rw[show o+5*(i+1)=o+5+5*i by omega];exact this
mutual
def WfT:Tl→Prop
 | .mk c t _ b ks=>(-9223372036854775808≤c∧c<9223372036854775808)∧(-9223372036854775808≤t∧t<9223372036854775808)∧byt b∧WfL ks
def WfL:List Tl→Prop
 | []=>True
 | k::ks=>WfT k∧WfL ks
end
theorem WfL.get:∀ {ks:List Tl} {i:Nat} {k:Tl},WfL ks→ks[i]?=some k→WfT k
 | [],i,k,_,h=>by simp at h
 | x::xs,0,k,h,e=>by
  rw[WfL] at h;simp at e;subst e;exact h.1
 | x::xs,i+1,k,h,e=>by
  rw[WfL] at h;rw[List.getElem?_cons_succ] at e;exact WfL.get h.2 e
def Zby (c t:Int) (m:Bool) (b:List Int) (ks:List Tl):Bool:=decide (0≤c) && decide (c≤3) && decide (0≤t) && decide (t≤30) && !(m && decide (0<b.length)) && !(!m && decide (0<ks.length))
mutual
def ZaK:Tl→Bool
 | .mk c t m b ks=>Zby c t m b ks && ZaE ks
def ZaE:List Tl→Bool
 | []=>true
 | k::ks=>ZaK k && ZaE ks
end
mutual
def Zct:Tl→Nat
 | .mk _ _ _ _ ks=>Zb7 ks+1
def Zb7:List Tl→Nat
 | []=>0
 | k::ks=>max (Zct k) (Zb7 ks)
end
theorem Zgm {ks:List Tl} {i:Nat} {k:Tl} (h:ks[i]?=some k):ZaE (ks.drop i)=(ZaK k && ZaE (ks.drop (i+1))):=by
 have e:=List.getElem?_eq_some_iff.1 h;rw[List.drop_eq_getElem_cons e.1,e.2,ZaE]
theorem Zjf:∀ (xs ys:List Tl),Zb7 (xs++ys)=max (Zb7 xs) (Zb7 ys)
 | [],ys=>by simp[Zb7]
 | x::xs,ys=>by rw[List.cons_append,Zb7,Zb7,Zjf xs ys,Nat.max_assoc]
theorem ZlW {ks:List Tl} {i:Nat} {k:Tl} (h:ks[i]?=some k):Zb7 (ks.take (i+1))=max (Zb7 (ks.take i)) (Zct k):=by
 rw[List.take_add_one,h];show Zb7 (ks.take i++[k])=_;rw[Zjf];simp[Zb7]
def ZbD (c t:Int) (m:Bool):Int:=64*c+t+(if m then 32 else 0)
def Zbv (n:Nat):List Int :=
 if n<128 then [(n:Int)] else if n<256 then [129,(n:Int)] else if n<65536 then [130,((n/256:Nat):Int),((n%256:Nat):Int)] else [131,((n/65536%256:Nat):Int),((n/256%256:Nat):Int),((n%256:Nat):Int)]
mutual
def Zak:Tl→List Int
 | .mk c t m b ks=>ZbD c t m::(Zbv (b++Zal ks).length++(b++Zal ks))
def Zal:List Tl→List Int
 | []=>[]
 | k::ks=>Zak k++Zal ks
end
theorem ZeD:∀ (xs ys:List Tl),Zal (xs++ys)=Zal xs++Zal ys
 | [],ys=>by rw[Zal];rfl
 | x::xs,ys=>by rw[List.cons_append,Zal,Zal,ZeD xs ys,List.append_assoc]
theorem Zc6 {ks:List Tl} {i:Nat} {k:Tl} (h:ks[i]?=some k):Zal (ks.take (i+1))=Zal (ks.take i)++Zak k:=by
 rw[List.take_add_one,h];show Zal (ks.take i++[k])=_;rw[ZeD,Zal,Zal,List.append_nil]
theorem Zfh (n:Nat):(Zbv n).length≤4:=by
 unfold Zbv
 split
 ·simp
 split
 ·simp
 split<;>simp
theorem Zlt {ks:List Tl}:∀ {i:Nat},i≤ks.length→(Zal (ks.take i)).length≤(Zal ks).length:=fun {i} _=>by
 have e:Zal ks=Zal (ks.take i)++Zal (ks.drop i):=by rw[← ZeD,List.take_append_drop]
 rw[e,List.length_append];omega
theorem ZeE {ks:List Tl} {i:Nat} {k:Tl} (h:ks[i]?=some k):(Zal (ks.take i)).length+(Zak k).length≤(Zal ks).length:=by
 have:=Zlt (ks:=ks) (i:=i+1) (by have:=(List.getElem?_eq_some_iff.1 h).1;omega);rw[Zc6 h,List.length_append] at this;exact this
theorem ZaE.get:∀ {ks:List Tl} {i:Nat} {k:Tl},ZaE ks=true→ks[i]?=some k→ZaK k=true
 | [],i,k,_,h=>by simp at h
 | x::xs,0,k,h,e=>by
  rw[ZaE,Bool.and_eq_true] at h;simp at e;subst e;exact h.1
 | x::xs,i+1,k,h,e=>by
  rw[ZaE,Bool.and_eq_true] at h;rw[List.getElem?_cons_succ] at e;exact ZaE.get h.2 e
theorem Zei {c t:Int} {m:Bool} {b:List Int} {ks:List Tl} (h:Zby c t m b ks=true):(0≤c∧c≤3)∧(0≤t∧t≤30):=by
 unfold Zby at h;simp only[Bool.and_eq_true,decide_eq_true_eq] at h;omega
noncomputable def wrN (T:Tl):Nat:=if ZaK T=true then (if 16<Zct T then 9 else if 1048576<(Zak T).length then 2 else 0) else 1
def beV (B:List Int) (o:Nat):Nat→Nat
 | 0=>0
 | k+1=>256*beV B o k+(B.getD (o+k) 0).toNat
def byN (B:List Int) (a:Nat):Nat:=(B.getD a 0).toNat
def Zc2 (B:List Int) (a en:Nat):Except (Nat × Nat) (Nat × Nat) :=
 if en≤a then .error (6,a)
 else if byN B a<128 then .ok (byN B a,a+1)
 else if byN B a=128∨131<byN B a then .error (7,a)
 else if en<a+1+(byN B a-128) then .error (6,a)
 else if byN B (a+1)=0∨beV B (a+1) (byN B a-128)<128 then .error (7,a)
 else .ok (beV B (a+1) (byN B a-128),a+1+(byN B a-128))
def Zbf (f:Nat→Nat→Except (Nat × Nat) (Tl × Nat)) (stop:Nat):Nat→Nat→List Tl→Except (Nat × Nat) (List Tl × Nat)
 | 0,x,acc=>.ok (acc,x)
 | k+1,x,acc=>if x<stop then (match f x stop with|.error e=>.error e|.ok (t,y)=>Zbf f stop k y (acc++[t])) else .ok (acc,x)
def ZaH (B:List Int):Nat→Nat→Nat→Except (Nat × Nat) (Tl × Nat)
  | 0,a,_=>.error (9,a)
  | d+1,a,en =>
    if en≤a then .error (6,a)
    else if byN B a%32=31 then .error (7,a)
    else match Zc2 B (a+1) en with
      | .error e=>.error e
      | .ok (n,f) =>
        if en<f+n then .error (6,a+1)
        else if byN B a/32%2=1 then
          (match Zbf (ZaH B d) (f+n) n f [] with
            | .error e=>.error e
            | .ok (ks,z)=>.ok (.mk ((byN B a/64:Nat):Int) ((byN B a%32:Nat):Int) true [] ks,z))
        else .ok (.mk ((byN B a/64:Nat):Int) ((byN B a%32:Nat):Int) false ((B.drop f).take n) [],f+n)
def Zaq (B:List Int):Except (Nat × Nat) Tl :=
 if 1048576<B.length then .error (2,0)
 else match ZaH B 16 0 B.length with
  | .error e=>.error e
  | .ok (t,z)=>if z<B.length then .error (8,z) else .ok t
theorem ZcP {B:List Int} (h:byt B) (a:Nat):byN B a<256:=by
 have:=h a;unfold byN;omega
theorem Zb6 {B:List Int} (h:byt B) (a:Nat):B.getD a 0=((byN B a:Nat):Int):=by
 have:=h a;unfold byN;omega
def ZaX (B:List Int) (a:Nat) (X:List Int):Prop:=∀ j,j<X.length→B.getD (a+j) 0=X.getD j 0
theorem ZaX.two {B X Y:List Int} {a:Nat} (h:ZaX B a X) (k:ZaX B (a+X.length) Y):ZaX B a (X++Y):=fun j hj=>by
 rw[List.length_append] at hj;rw[List.getD_eq_getElem?_getD (l:=X++Y),List.getElem?_append]
 split
 ·rw[← List.getD_eq_getElem?_getD];exact h j (by omega)
 ·rw[← List.getD_eq_getElem?_getD,← k (j-X.length) (by omega),show a+X.length+(j-X.length)=a+j by omega]
theorem ZaX.left {B X Y:List Int} {a:Nat} (h:ZaX B a (X++Y)):ZaX B a X:=fun j hj=>by
 have:=h j (by rw[List.length_append];omega);rw[this,List.getD_eq_getElem?_getD,List.getElem?_append_left hj,← List.getD_eq_getElem?_getD]
theorem ZaX.right {B X Y:List Int} {a:Nat} (h:ZaX B a (X++Y)):ZaX B (a+X.length) Y:=fun j hj=>by
 have:=h (X.length+j) (by rw[List.length_append];omega);rw[show a+X.length+j=a+(X.length+j) by omega,this,List.getD_eq_getElem?_getD,List.getElem?_append_right (by omega),← List.getD_eq_getElem?_getD,show X.length+j-X.length=j by omega]
theorem ZaX.nil {B:List Int} {a:Nat}:ZaX B a []:=fun j hj=>by simp at hj
theorem ZaX.one {B:List Int} {a:Nat} {x:Int} (h:B.getD a 0=x):ZaX B a [x]:=fun j hj=>by
 have e:j=0:=by simp at hj;exact hj
 subst e;exact h
theorem ZaX.cons {B X:List Int} {a:Nat} {x:Int} (h:B.getD a 0=x) (k:ZaX B (a+1) X):ZaX B a (x::X):=(ZaX.one h).two k
theorem ZaX.head {B X:List Int} {a:Nat} {x:Int} (h:ZaX B a (x::X)):B.getD a 0=x:=h 0 (by simp)
theorem ZaX.tail {B X:List Int} {a:Nat} {x:Int} (h:ZaX B a (x::X)):ZaX B (a+1) X:=ZaX.right (X:=[x]) h
theorem ZaX.take {B X:List Int} {a:Nat} (h:ZaX B a X) (l:a+X.length≤B.length):(B.drop a).take X.length=X:=by
 apply List.ext_getElem
 ·rw[List.length_take,List.length_drop];omega
 ·intro j h1 h2
  have:=h j h2;rw[List.getElem_take,List.getElem_drop]
  simpa [List.getD_eq_getElem?_getD,h2,show a+j<B.length by omega] using this
theorem ZaX.of_take {B:List Int} {a n:Nat} (l:a+n≤B.length):ZaX B a ((B.drop a).take n)∧((B.drop a).take n).length=n:=by
 have e:((B.drop a).take n).length=n:=by rw[List.length_take,List.length_drop];omega
 refine⟨fun j hj=>?_,e⟩;rw[e] at hj;rw[List.getD_eq_getElem?_getD,List.getD_eq_getElem?_getD,List.getElem?_take,if_pos hj,List.getElem?_drop]
theorem ZaX.all {B X:List Int} (h:ZaX B 0 X) (l:X.length=B.length):B=X:=by
 have:=h.take (by omega);rw[List.drop_zero,l,List.take_length] at this;exact this
theorem Zhr {B:List Int} (h:byt B) (a n:Nat):byt ((B.drop a).take n):=fun j=>by
 rw[List.getD_eq_getElem?_getD,List.getElem?_take]
 split
 ·rw[List.getElem?_drop,← List.getD_eq_getElem?_getD];exact h _
 ·exact ⟨by decide,by decide⟩
theorem Zmh {B:List Int} {a en n f:Nat} (b:byt B) (h:Zc2 B a en=.ok (n,f)):a<en∧f≤en∧f=a+(Zbv n).length∧n<16777216∧ZaX B a (Zbv n):=by
 unfold Zc2 at h;have l0:=ZcP b a;have l1:=ZcP b (a+1);have l2:=ZcP b (a+2);have l3:=ZcP b (a+3);have i0:=Zb6 b a;have i1:=Zb6 b (a+1);have i2:=Zb6 b (a+2);have i3:=Zb6 b (a+3)
 by_cases c1:en≤a
 ·rw[if_pos c1] at h;cases h
 ·rw[if_neg c1] at h
  by_cases c2:byN B a<128
  ·rw[if_pos c2] at h
   simp only[Except.ok.injEq,Prod.mk.injEq] at h;obtain ⟨rfl,rfl⟩:=h;have e:Zbv (byN B a)=[((byN B a:Nat):Int)]:=by unfold Zbv;rw[if_pos c2]
   rw[e];exact ⟨by omega,by omega,rfl,by omega,ZaX.one i0⟩
  ·rw[if_neg c2] at h
   by_cases c3:byN B a=128∨131<byN B a
   ·rw[if_pos c3] at h;cases h
   ·rw[if_neg c3] at h
    by_cases c4:en<a+1+(byN B a-128)
    ·rw[if_pos c4] at h;cases h
    ·rw[if_neg c4] at h
     by_cases c5:byN B (a+1)=0∨beV B (a+1) (byN B a-128)<128
     ·rw[if_pos c5] at h;cases h
     ·rw[if_neg c5] at h
      simp only[Except.ok.injEq,Prod.mk.injEq] at h;obtain ⟨rfl,rfl⟩:=h;have hm:byN B a=129∨byN B a=130∨byN B a=131:=by omega
      rcases hm with e|e|e
      ·rw[e] at c4 c5 i0 ⊢
       have ev:beV B (a+1) (129-128)=byN B (a+1):=by show 256*0+byN B (a+1+0)=_;simp
       rw[ev] at c5 ⊢;have el:Zbv (byN B (a+1))=[129,((byN B (a+1):Nat):Int)]:=by unfold Zbv;rw[if_neg (by omega),if_pos (by omega)]
       rw[el];exact ⟨by omega,by omega,rfl,by omega,ZaX.cons i0 (ZaX.one i1)⟩
      ·rw[e] at c4 c5 i0 ⊢
       have ev:beV B (a+1) (130-128)=256*byN B (a+1)+byN B (a+2):=by show 256*(256*0+byN B (a+1+0))+byN B (a+1+1)=_;simp
       rw[ev] at c5 ⊢;have el:Zbv (256*byN B (a+1)+byN B (a+2))=[130,((byN B (a+1):Nat):Int),((byN B (a+2):Nat):Int)]:=by
        unfold Zbv;rw[if_neg (by omega),if_neg (by omega),if_pos (by omega),show (256*byN B (a+1)+byN B (a+2))/256=byN B (a+1) by omega,show (256*byN B (a+1)+byN B (a+2))%256=byN B (a+2) by omega]
       rw[el];exact ⟨by omega,by omega,rfl,by omega,ZaX.cons i0 (ZaX.cons i1 (ZaX.one i2))⟩
      ·rw[e] at c4 c5 i0 ⊢
       have ev:beV B (a+1) (131-128)=256*(256*byN B (a+1)+byN B (a+2))+byN B (a+3):=by show 256*(256*(256*0+byN B (a+1+0))+byN B (a+1+1))+byN B (a+1+2)=_;simp
       rw[ev] at c5 ⊢;have el:Zbv (256*(256*byN B (a+1)+byN B (a+2))+byN B (a+3))=[131,((byN B (a+1):Nat):Int),((byN B (a+2):Nat):Int),((byN B (a+3):Nat):Int)]:=by
        unfold Zbv;rw[if_neg (by omega),if_neg (by omega),if_neg (by omega),show (256*(256*byN B (a+1)+byN B (a+2))+byN B (a+3))/65536%256=byN B (a+1) by omega,show (256*(256*byN B (a+1)+byN B (a+2))+byN B (a+3))/256%256=byN B (a+2) by omega,show (256*(256*byN B (a+1)+byN B (a+2))+byN B (a+3))%256=byN B (a+3) by omega]
       rw[el];exact ⟨by omega,by omega,rfl,by omega,ZaX.cons i0 (ZaX.cons i1 (ZaX.cons i2 (ZaX.one i3)))⟩
theorem len_of {B:List Int} {a en n:Nat} (h:ZaX B a (Zbv n)) (hn:n<16777216) (he:a+(Zbv n).length≤en):Zc2 B a en=.ok (n,a+(Zbv n).length):=by
 unfold Zc2;unfold Zbv at h he ⊢
 by_cases c1:n<128
 ·rw[if_pos c1] at h he ⊢
  have e0:byN B a=n:=by unfold byN;rw[h.head];omega
  simp only[List.length_singleton] at he ⊢;rw[if_neg (by omega),e0,if_pos c1]
 ·rw[if_neg c1] at h he ⊢
  by_cases c2:n<256
  ·rw[if_pos c2] at h he ⊢
   have e0:byN B a=129:=by unfold byN;rw[h.head];rfl
   have e1:byN B (a+1)=n:=by unfold byN;rw[h.tail.head];omega
   have ev:beV B (a+1) (129-128)=n:=by show 256*0+byN B (a+1+0)=_;rw[Nat.add_zero,e1];omega
   simp only[List.length_cons,List.length_nil] at he ⊢;rw[if_neg (by omega),e0,if_neg (by omega),if_neg (by omega),if_neg (by omega),e1,ev,if_neg (by omega)]
  ·rw[if_neg c2] at h he ⊢
   by_cases c3:n<65536
   ·rw[if_pos c3] at h he ⊢
    have e0:byN B a=130:=by unfold byN;rw[h.head];rfl
    have e1:byN B (a+1)=n/256:=by unfold byN;rw[h.tail.head];omega
    have e2:byN B (a+1+1)=n%256:=by unfold byN;rw[h.tail.tail.head];omega
    have ev:beV B (a+1) (130-128)=n:=by show 256*(256*0+byN B (a+1+0))+byN B (a+1+1)=_;rw[Nat.add_zero (a+1),e1,e2];omega
    simp only[List.length_cons,List.length_nil] at he ⊢;rw[if_neg (by omega),e0,if_neg (by omega),if_neg (by omega),if_neg (by omega),e1,ev,if_neg (by omega)]
   ·rw[if_neg c3] at h he ⊢
    have e0:byN B a=131:=by unfold byN;rw[h.head];rfl
    have e1:byN B (a+1)=n/65536%256:=by unfold byN;rw[h.tail.head];omega
    have e2:byN B (a+1+1)=n/256%256:=by unfold byN;rw[h.tail.tail.head];omega
    have e3:byN B (a+1+2)=n%256:=by unfold byN;rw[show a+1+2=a+1+1+1 by omega,h.tail.tail.tail.head];omega
    have ev:beV B (a+1) (131-128)=n:=by show 256*(256*(256*0+byN B (a+1+0))+byN B (a+1+1))+byN B (a+1+2)=_;rw[Nat.add_zero (a+1),e1,e2,e3];omega
    simp only[List.length_cons,List.length_nil] at he ⊢;rw[if_neg (by omega),e0,if_neg (by omega),if_neg (by omega),if_neg (by omega),e1,ev,if_neg (by omega)]
theorem Zen (n:Nat):1≤(Zbv n).length:=by
 unfold Zbv
 split
 ·simp
 ·split
  ·simp
  ·split<;>simp
theorem ZaL (c t:Int) (m:Bool) (b:List Int) (ks:List Tl):(Zak (.mk c t m b ks)).length=1+(Zbv (b++Zal ks).length).length+(b++Zal ks).length:=by
 rw[Zak,List.length_cons,List.length_append];omega
theorem Zcs:∀ T:Tl,2≤(Zak T).length
 | .mk c t m b ks=>by
  rw[ZaL];have:=Zen (b++Zal ks).length;omega
theorem Zge:∀ ks:List Tl,2*ks.length≤(Zal ks).length
 | []=>by simp
 | k::ks=>by
  rw[Zal,List.length_append,List.length_cons];have:=Zcs k;have:=Zge ks;omega
def ElOk (B:List Int) (d a:Nat) (T:Tl) (z:Nat):Prop:=z=a+(Zak T).length∧ZaX B a (Zak T)∧ZaK T=true∧Zct T≤d∧WfT T
theorem Zmd {B:List Int} {d stop:Nat} {f:Nat→Nat→Except (Nat × Nat) (Tl × Nat)} (hf:∀ a T z,f a stop=.ok (T,z)→ElOk B d a T z∧z≤stop) :
  ∀ (k x:Nat) (acc ks:List Tl) (z:Nat),Zbf f stop k x acc=.ok (ks,z)→x≤stop→∃ ls,ks=acc++ls∧z=x+(Zal ls).length∧ZaX B x (Zal ls)∧ZaE ls=true∧Zb7 ls≤d∧WfL ls∧z≤stop∧(stop≤x+k→z=stop)
 | 0,x,acc,ks,z,h,hx=>by
  simp only[Zbf,Except.ok.injEq,Prod.mk.injEq] at h;obtain ⟨rfl,rfl⟩:=h;exact ⟨[],by simp,by simp[Zal],by rw[Zal];exact ZaX.nil,by rw[ZaE],by rw[Zb7];omega,by rw[WfL];trivial,hx,fun h=>by omega⟩
 | k+1,x,acc,ks,z,h,hx=>by
  rw[Zbf] at h
  by_cases c:x<stop
  ·rw[if_pos c] at h
   cases hq:f x stop with
   | error e=>rw[hq] at h;cases h
   | ok p =>
    obtain⟨t,y⟩:=p;rw[hq] at h;obtain ⟨⟨q1,q2,q3,q4,q5⟩,q6⟩:=hf x t y hq;obtain ⟨ls,r1,r2,r3,r4,r5,r6,r7,r8⟩:=Zmd hf k y (acc++[t]) ks z h q6;have b2:=Zcs t;refine ⟨t::ls,by rw[r1,List.append_assoc];rfl,by rw[Zal,List.length_append];omega,?_,by rw[ZaE,q3,r4];rfl,by rw[Zb7];omega,by rw[WfL];exact ⟨q5,r6⟩,r7,fun h=>r8 (by omega)⟩;rw[Zal];refine q2.two ?_;rw[← q1];exact r3
  ·rw[if_neg c] at h
   simp only[Except.ok.injEq,Prod.mk.injEq] at h;obtain ⟨rfl,rfl⟩:=h;exact ⟨[],by simp,by simp[Zal],by rw[Zal];exact ZaX.nil,by rw[ZaE],by rw[Zb7];omega,by rw[WfL];trivial,hx,fun h=>by omega⟩
theorem ZqE (x:Nat):ZbD ((x/64:Nat):Int) ((x%32:Nat):Int) (decide (x/32%2=1))=(x:Int):=by
 unfold ZbD
 by_cases c:x/32%2=1
 ·rw[decide_eq_true c,if_pos rfl];omega
 ·rw[decide_eq_false c,if_neg (by decide)];omega
theorem ZeJ {B:List Int} (b:byt B):∀ (d a en:Nat) (T:Tl) (z:Nat),en≤B.length→ZaH B d a en=.ok (T,z)→ElOk B d a T z∧z≤en
 | 0,a,en,T,z,_,h=>by rw[ZaH] at h;cases h
 | d+1,a,en,T,z,he,h=>by
  rw[ZaH] at h
  by_cases c1:en≤a
  ·rw[if_pos c1] at h;cases h
  rw[if_neg c1] at h
  by_cases c2:byN B a%32=31
  ·rw[if_pos c2] at h;cases h
  rw[if_neg c2] at h
  cases hl:Zc2 B (a+1) en with
  | error e=>rw[hl] at h;cases h
  | ok p =>
   obtain⟨n,f⟩:=p;rw[hl] at h;simp only at h
   by_cases c3:en<f+n
   ·rw[if_pos c3] at h;cases h
   rw[if_neg c3] at h;obtain ⟨p1,p2,p3,p4,p5⟩:=Zmh b hl;have hb:byN B a<256:=ZcP b a;have hh:=ZqE (byN B a)
   by_cases c4:byN B a/32%2=1
   ·rw[if_pos c4] at h
    rw[decide_eq_true c4] at hh
    cases hk:Zbf (ZaH B d) (f+n) n f [] with
    | error e=>rw[hk] at h;cases h
    | ok p =>
     obtain⟨ks,y⟩:=p;rw[hk] at h;simp only[Except.ok.injEq,Prod.mk.injEq] at h;obtain ⟨rfl,rfl⟩:=h;obtain ⟨ls,r1,r2,r3,r4,r5,r6,r7,r8⟩:=Zmd (B:=B) (d:=d) (fun a T z hz=>ZeJ b d a (f+n) T z (by omega) hz) n f [] ks y hk (by omega);rw[List.nil_append] at r1;subst r1;have ez:=r8 (by omega);have en':(Zal ks).length=n:=by omega
     refine⟨⟨?_,?_,?_,?_,?_⟩,by omega⟩
     ·rw[ZaL,List.nil_append,en'];omega
     ·rw[Zak,List.nil_append,en',hh]
      refine ZaX.cons (Zb6 b a) (p5.two ?_);rw[← p3];exact r3
     ·rw[ZaK,r4,Bool.and_true]
      unfold Zby;simp;omega
     ·rw[Zct];omega
     ·rw[WfT]
      exact⟨by omega,by omega,fun j=>by simp,r6⟩
   ·rw[if_neg c4] at h
    rw[decide_eq_false c4] at hh;simp only[Except.ok.injEq,Prod.mk.injEq] at h;obtain ⟨rfl,rfl⟩:=h;obtain ⟨t1,t2⟩:=ZaX.of_take (B:=B) (a:=f) (n:=n) (by omega);refine ⟨⟨?_,?_,?_,?_,?_⟩,by omega⟩
    ·rw[ZaL,Zal,List.append_nil,t2];omega
    ·rw[Zak,Zal,List.append_nil,t2,hh]
     refine ZaX.cons (Zb6 b a) (p5.two ?_);rw[← p3];exact t1
    ·rw[ZaK,ZaE]
     unfold Zby;simp;omega
    ·rw[Zct,Zb7];omega
    ·rw[WfT,WfL]
     exact⟨by omega,by omega,Zhr b f n,trivial⟩
theorem Zkv {c t:Int} {m:Bool} {b:List Int} {ks:List Tl} (h:Zby c t m b ks=true):(m=true→b=[])∧(m=false→ks=[]):=by
 unfold Zby at h;simp only[Bool.and_eq_true,Bool.not_eq_true',Bool.and_eq_false_iff,decide_eq_false_iff_not,Bool.not_eq_false'] at h;obtain ⟨⟨_,h1⟩,h2⟩:=h;constructor
 ·intro e
  subst e;rcases h1 with h1|h1
  ·cases h1
  ·exact List.eq_nil_of_length_eq_zero (by omega)
 ·intro e
  subst e;rcases h2 with h2|h2
  ·cases h2
  ·exact List.eq_nil_of_length_eq_zero (by omega)
theorem Zmc {B:List Int} {d stop:Nat} {f:Nat→Nat→Except (Nat × Nat) (Tl × Nat)} (hf:∀ T a,ZaK T=true→Zct T≤d→(Zak T).length<16777216→ZaX B a (Zak T)→a+(Zak T).length≤stop→f a stop=.ok (T,a+(Zak T).length)) :
  ∀ (ks:List Tl) (k x:Nat) (acc:List Tl),ks.length≤k→ZaE ks=true→Zb7 ks≤d→(Zal ks).length<16777216→ZaX B x (Zal ks)→x+(Zal ks).length=stop→Zbf f stop k x acc=.ok (acc++ks,stop)
 | [],k,x,acc,_,_,_,_,_,hs=>by
  rw[Zal,List.length_nil,Nat.add_zero] at hs;subst hs
  cases k with
  | zero=>rw[Zbf,List.append_nil]
  | succ k=>rw[Zbf,if_neg (by omega),List.append_nil]
 | t::ks,0,x,acc,hk,_,_,_,_,_=>by simp at hk
 | t::ks,k+1,x,acc,hk,hfi,hd,hl,hp,hs=>by
  rw[Zal,List.length_append] at hl hs;rw[Zal] at hp;rw[ZaE,Bool.and_eq_true] at hfi;rw[Zb7] at hd;have b2:=Zcs t;rw[Zbf,if_pos (by omega),hf t x hfi.1 (by omega) (by omega) hp.left (by omega)];simp only;rw[Zmc hf ks k (x+(Zak t).length) (acc++[t]) (by simpa using hk) hfi.2 (by omega) (by omega) hp.right (by omega),List.append_assoc]
  rfl
theorem Zl1 {B:List Int}:∀ (d:Nat) (T:Tl) (a en:Nat),en≤B.length→ZaK T=true→Zct T≤d→(Zak T).length<16777216→ZaX B a (Zak T)→a+(Zak T).length≤en→ZaH B d a en=.ok (T,a+(Zak T).length)
 | 0,.mk c t m b ks,a,en,_,_,hd,_,_,_=>by rw[Zct] at hd;omega
 | d+1,.mk c t m b ks,a,en,he,hfi,hd,hl,hp,hs=>by
  rw[ZaK,Bool.and_eq_true] at hfi;rw[Zct] at hd;have nums:=Zei hfi.1;have more:=Zkv hfi.1;rw[ZaL] at hl hs ⊢;rw[Zak] at hp;have lp:=Zen (b++Zal ks).length;have h0:byN B a=(ZbD c t m).toNat:=by unfold byN;rw[hp.head]
  have hb:(byN B a:Int)=64*c+t+(if m then 32 else 0):=by
   rw[h0];unfold ZbD
   split<;>omega
  have hlen:=len_of (B:=B) (a:=a+1) (en:=en) hp.tail.left (by omega) (by omega);have hrest:=hp.tail.right;rw[ZaH,if_neg (by omega),if_neg (by cases m<;>simp at hb<;>omega),hlen];simp only;obtain ⟨n,hn⟩:∃ n,(b++Zal ks).length=n:=⟨_,rfl⟩;rw[hn] at hl hs hlen hrest lp ⊢;obtain ⟨e,hee⟩:∃ e,a+1+(Zbv n).length=e:=⟨_,rfl⟩;rw[hee] at hrest ⊢;rw[if_neg (by omega)]
  cases m with
  | true =>
   have eb:=more.1 rfl;subst eb;rw[List.nil_append] at hn hrest;simp at hb;have b2:=Zge ks;rw[if_pos (by omega),Zmc (B:=B) (d:=d) (fun T a h1 h2 h3 h4 h5=>Zl1 d T a (e+n) (by omega) h1 h2 h3 h4 h5) ks n e [] (by omega) hfi.2 (by omega) (by omega) hrest (by omega)];simp only[List.nil_append,Except.ok.injEq,Prod.mk.injEq,Tl.mk.injEq,and_true];refine ⟨⟨by omega,by omega⟩,by omega⟩
  | false =>
   have ek:=more.2 rfl;subst ek;rw[Zal,List.append_nil] at hn hrest;simp at hb;rw[if_neg (by omega)];have ht:=hrest.take (by omega);rw[hn] at ht;rw[ht];simp only[Except.ok.injEq,Prod.mk.injEq,Tl.mk.injEq,and_true];refine ⟨⟨by omega,by omega⟩,by omega⟩
theorem Zg3 {B:List Int} {T:Tl} (b:byt B) (h:Zaq B=.ok T):Zak T=B∧ZaK T=true∧Zct T≤16∧WfT T∧B.length≤1048576:=by
 unfold Zaq at h
 by_cases c:1048576<B.length
 ·rw[if_pos c] at h;cases h
 rw[if_neg c] at h
 cases hq:ZaH B 16 0 B.length with
 | error e=>rw[hq] at h;cases h
 | ok p =>
  obtain⟨U,z⟩:=p;rw[hq] at h;simp only at h
  by_cases c2:z<B.length
  ·rw[if_pos c2] at h;cases h
  rw[if_neg c2] at h;simp only[Except.ok.injEq] at h;subst h;obtain ⟨⟨q1,q2,q3,q4,q5⟩,q6⟩:=ZeJ b 16 0 B.length U z (Nat.le_refl _) hq;exact ⟨(q2.all (by omega)).symm,q3,q4,q5,by omega⟩
theorem Zo3 (X Y:List Int):ZaX (X++Y) 0 X:=fun j hj=>by
 rw[Nat.zero_add,List.getD_eq_getElem?_getD,List.getElem?_append_left hj,← List.getD_eq_getElem?_getD]
theorem Zo0 {T:Tl} {Y:List Int} (hf:ZaK T=true) (hd:Zct T≤16) (hl:(Zak T++Y).length≤1048576):Zaq (Zak T++Y)=if Y.length=0 then .ok T else .error (8,(Zak T).length):=by
 unfold Zaq;rw[if_neg (by omega)];have ll:(Zak T++Y).length=(Zak T).length+Y.length:=List.length_append;rw[Zl1 16 T 0 (Zak T++Y).length (Nat.le_refl _) hf hd (by omega) (Zo3 _ _) (by omega),Nat.zero_add];simp only
 by_cases c:Y.length=0
 ·rw[if_neg (by omega),if_pos c]
 ·rw[if_pos (by omega),if_neg c]
theorem ZgH {A B:List Int} (ha:byt A) (hb:byt B):byt (A++B):=fun j=>by
 rw[List.getD_eq_getElem?_getD,List.getElem?_append]
 split
 ·rw[← List.getD_eq_getElem?_getD];exact ha j
 ·rw[← List.getD_eq_getElem?_getD];exact hb _
theorem Zbk {x:Int} {A:List Int} (hx:0≤x∧x<256) (ha:byt A):byt (x::A):=fun j=>by
 cases j with
 | zero=>exact hx
 | succ j=>rw[List.getD_cons_succ];exact ha j
theorem ZdA:byt []:=fun j=>by simp
theorem ZoB (n:Nat):byt (Zbv n):=by
 unfold Zbv
 split
 ·exact Zbk (by omega) ZdA
 ·split
  ·exact Zbk (by omega) (Zbk (by omega) ZdA)
  ·split
   ·exact Zbk (by omega) (Zbk (by omega) (Zbk (by omega) ZdA))
   ·exact Zbk (by omega) (Zbk (by omega) (Zbk (by omega) (Zbk (by omega) ZdA)))
mutual
theorem Zgf:∀ {T:Tl},ZaK T=true→WfT T→byt (Zak T)
 | .mk c t m b ks,h,hw=>by
  rw[ZaK,Bool.and_eq_true] at h;rw[WfT] at hw;have nums:=Zei h.1;rw[Zak];refine Zbk ?_ (ZgH (ZoB _) (ZgH hw.2.2.1 (Zgc h.2 hw.2.2.2)));unfold ZbD
  split<;>omega
theorem Zgc:∀ {ks:List Tl},ZaE ks=true→WfL ks→byt (Zal ks)
 | [],_,_=>by rw[Zal];exact ZdA
 | k::ks,h,hw=>by
  rw[ZaE,Bool.and_eq_true] at h;rw[WfL] at hw;rw[Zal];exact ZgH (Zgf h.1 hw.1) (Zgc h.2 hw.2)
end
theorem Zae:(Tryz.prog.info? 53).map (·.size)=some 5:=by kernel_rfl
theorem Zat {w:World} {g o:Nat} {cs:List Value} (h:ZdX w g o cs) (l:cs.length=5):(loadVar 53 ⟨g,o,none⟩).run Tryz.prog w=.ok (.agg cs.toArray) w :=
 Zb9 (n:=5) (fun j v hv=>h.2 j v hv) l Tryz.underlying53 rfl Zae
theorem ZbI {ks:List Tl} {i:Nat} (h:i<ks.length):∃ k,ks[i]?=some k:=⟨ks[i],List.getElem?_eq_getElem h⟩
theorem Zbt {c t:Int} {m:Bool} {b:List Int} {ks:List Tl} (h:c<0∨3<c∨t<0∨30<t∨(m=true∧0<b.length)∨(m=false∧0<ks.length)):Zby c t m b ks=false:=by
 unfold Zby;rcases h with h|h|h|h|⟨h1,h2⟩|⟨h1,h2⟩
 ·rw[decide_eq_false (show ¬ 0≤c by omega)];simp
 ·rw[decide_eq_false (show ¬ c≤3 by omega)];simp
 ·rw[decide_eq_false (show ¬ 0≤t by omega)];simp
 ·rw[decide_eq_false (show ¬ t≤30 by omega)];simp
 ·rw[h1,decide_eq_true h2];simp
 ·rw[h1,decide_eq_true h2];simp
theorem ZdF {c t:Int} {m:Bool} {b:List Int} {ks:List Tl} (h1:0≤c∧c≤3) (h2:0≤t∧t≤30) (h3:m=true→b.length=0) (h4:m=false→ks.length=0):Zby c t m b ks=true:=by
 unfold Zby;rw[decide_eq_true h1.1,decide_eq_true h1.2,decide_eq_true h2.1,decide_eq_true h2.2]
 cases m with
 | true=>rw[decide_eq_false (show ¬ 0<b.length by have:=h3 rfl;omega)];rfl
 | false=>rw[decide_eq_false (show ¬ 0<ks.length by have:=h4 rfl;omega)];rfl
mutual
theorem ZlX:∀ T:Tl,Zct T≤szT T
 | .mk _ _ _ _ ks=>by
  have:=ZgM ks;rw[Zct,szT];omega
theorem ZgM:∀ ks:List Tl,Zb7 ks≤szL ks
 | []=>by rw[Zb7];omega
 | k::ks=>by
  have:=ZlX k;have:=ZgM ks;rw[Zb7,szL];omega
end
theorem Zar {a w w':World} (h:Below a.heap.size a w) (hb:Below w.heap.size w w'):Below a.heap.size a w':=h.trans (hb.mono h.size)
end Go.Proofs.YtohcdbifhnfcbaaGreatDoor
