/- An element's bytes. Plain facts. Elements read out of bytes: what is read, or what is amiss and where. Plain facts. -/
import Derived.Test.YtnkipgbnnhahbaaDoorDrTree
import Derived.Test.YtnkipgbnnhahbaaDoorCtBase
namespace Go.Proofs.YtnkipgbnnhahbaaDoor
/-- an element's first byte -/
def headB (c t:Int) (m:Bool):Int:=64 * c + t + (if m then 32 else 0)
/-- a length as it is told -/
def lenB (n:Nat):List Int :=
 if n < 128 then [(n:Int)] else if n < 256 then [129,(n:Int)] else if n < 65536 then [130,((n / 256:Nat):Int),((n % 256:Nat):Int)] else [131,((n / 65536 % 256:Nat):Int),((n / 256 % 256:Nat):Int),((n % 256:Nat):Int)]
mutual
/-- an element's bytes -/
def bytesT:Tl→List Int
 | .mk c t m b ks=>headB c t m :: (lenB (b++bytesL ks).length++(b++bytesL ks))
def bytesL:List Tl→List Int
 | []=>[]
 | k :: ks=>bytesT k++bytesL ks
end
theorem bytesL_app:∀ (xs ys:List Tl),bytesL (xs++ys)=bytesL xs++bytesL ys
 | [],ys=>by rw [bytesL];rfl
 | x :: xs,ys=>by rw [List.cons_append,bytesL,bytesL,bytesL_app xs ys,List.append_assoc]
theorem bytesL_next {ks:List Tl} {i:Nat} {k:Tl} (h:ks[i]?=some k):bytesL (ks.take (i + 1))=bytesL (ks.take i)++bytesT k:=by
 rw [List.take_add_one,h]
 show bytesL (ks.take i++[k])=_
 rw [bytesL_app,bytesL,bytesL,List.append_nil]
theorem lenB_len (n:Nat):(lenB n).length≤4:=by
 unfold lenB
 split
 ·simp
 split
 ·simp
 split<;>simp
theorem fineL.get:∀ {ks:List Tl} {i:Nat} {k:Tl},fineL ks=true→ks[i]?=some k→fineT k=true
 | [],i,k,_,h=>by simp at h
 | x :: xs,0,k,h,e=>by
  rw [fineL,Bool.and_eq_true] at h
  simp at e
  subst e
  exact h.1
 | x :: xs,i + 1,k,h,e=>by
  rw [fineL,Bool.and_eq_true] at h
  rw [List.getElem?_cons_succ] at e
  exact fineL.get h.2 e
/-- k bytes from place o on, the highest first -/
def beV (B:List Int) (o:Nat):Nat→Nat
 | 0=>0
 | k + 1=>256 * beV B o k + (B.getD (o + k) 0).toNat
/-- the byte at a place -/
def byN (B:List Int) (a:Nat):Nat:=(B.getD a 0).toNat
/-- a length told at a place, within an end: it, and where what it tells of begins -/
def lenP (B:List Int) (a en:Nat):Except (Nat × Nat) (Nat × Nat) :=
 if en≤a then .error (6,a)
 else if byN B a < 128 then .ok (byN B a,a + 1)
 else if byN B a=128∨131 < byN B a then .error (7,a)
 else if en < a + 1 + (byN B a - 128) then .error (6,a)
 else if byN B (a + 1)=0∨beV B (a + 1) (byN B a - 128) < 128 then .error (7,a)
 else .ok (beV B (a + 1) (byN B a - 128),a + 1 + (byN B a - 128))
/-- elements one behind the other, up to a place -/
def kidsP (f:Nat→Nat→Except (Nat × Nat) (Tl × Nat)) (stop:Nat):Nat→Nat→List Tl→Except (Nat × Nat) (List Tl × Nat)
 | 0,x,acc=>.ok (acc,x)
 | k + 1,x,acc=>if x < stop then (match f x stop with|.error e=>.error e|.ok (t,y)=>kidsP f stop k y (acc++[t])) else .ok (acc,x)
/-- an element at a place, within an end; d: how deep it may be -/
def elemP (B:List Int):Nat→Nat→Nat→Except (Nat × Nat) (Tl × Nat)
  | 0,a,_=>.error (9,a)
  | d + 1,a,en =>
    if en≤a then .error (6,a)
    else if byN B a % 32=31 then .error (7,a)
    else match lenP B (a + 1) en with
      | .error e=>.error e
      | .ok (n,f) =>
        if en < f + n then .error (6,a + 1)
        else if byN B a / 32 % 2=1 then
          (match kidsP (elemP B d) (f + n) n f [] with
            | .error e=>.error e
            | .ok (ks,z)=>.ok (.mk ((byN B a / 64:Nat):Int) ((byN B a % 32:Nat):Int) true [] ks,z))
        else .ok (.mk ((byN B a / 64:Nat):Int) ((byN B a % 32:Nat):Int) false ((B.drop f).take n) [],f + n)
/-- the whole: 2: too long (at no place) -/
def parseP (B:List Int):Except (Nat × Nat) Tl :=
 if 1048576 < B.length then .error (2,0)
 else match elemP B 16 0 B.length with
  | .error e=>.error e
  | .ok (t,z)=>if z < B.length then .error (8,z) else .ok t
theorem byN_lt {B:List Int} (h:byt B) (a:Nat):byN B a < 256:=by
 have:=h a
 unfold byN
 omega
theorem byN_int {B:List Int} (h:byt B) (a:Nat):B.getD a 0=((byN B a:Nat):Int):=by
 have:=h a
 unfold byN
 omega
/-- X stands there -/
def PreAt (B:List Int) (a:Nat) (X:List Int):Prop:=∀ j,j < X.length→B.getD (a + j) 0=X.getD j 0
theorem PreAt.two {B X Y:List Int} {a:Nat} (h:PreAt B a X) (k:PreAt B (a + X.length) Y):PreAt B a (X++Y):=fun j hj=>by
 rw [List.length_append] at hj
 rw [List.getD_eq_getElem?_getD (l:=X++Y),List.getElem?_append]
 split
 ·rw [← List.getD_eq_getElem?_getD];exact h j (by omega)
 ·rw [← List.getD_eq_getElem?_getD,← k (j - X.length) (by omega),show a + X.length + (j - X.length)=a + j by omega]
theorem PreAt.nil {B:List Int} {a:Nat}:PreAt B a []:=fun j hj=>by simp at hj
theorem PreAt.one {B:List Int} {a:Nat} {x:Int} (h:B.getD a 0=x):PreAt B a [x]:=fun j hj=>by
 have e:j=0:=by simp at hj;exact hj
 subst e
 exact h
theorem PreAt.cons {B X:List Int} {a:Nat} {x:Int} (h:B.getD a 0=x) (k:PreAt B (a + 1) X):PreAt B a (x :: X):=(PreAt.one h).two k
theorem PreAt.take {B X:List Int} {a:Nat} (h:PreAt B a X) (l:a + X.length≤B.length):(B.drop a).take X.length=X:=by
 apply List.ext_getElem
 ·rw [List.length_take,List.length_drop];omega
 ·intro j h1 h2
  have:=h j h2
  rw [List.getElem_take,List.getElem_drop]
  simpa [List.getD_eq_getElem?_getD,h2,show a + j < B.length by omega] using this
theorem PreAt.of_take {B:List Int} {a n:Nat} (l:a + n≤B.length):PreAt B a ((B.drop a).take n)∧((B.drop a).take n).length=n:=by
 have e:((B.drop a).take n).length=n:=by rw [List.length_take,List.length_drop];omega
 refine ⟨fun j hj=>?_,e⟩
 rw [e] at hj
 rw [List.getD_eq_getElem?_getD,List.getD_eq_getElem?_getD,List.getElem?_take,if_pos hj,List.getElem?_drop]
theorem PreAt.all {B X:List Int} (h:PreAt B 0 X) (l:X.length=B.length):B=X:=by
 have:=h.take (by omega)
 rw [List.drop_zero,l,List.take_length] at this
 exact this
theorem byt_takeP {B:List Int} (h:byt B) (a n:Nat):byt ((B.drop a).take n):=fun j=>by
 rw [List.getD_eq_getElem?_getD,List.getElem?_take]
 split
 ·rw [List.getElem?_drop,← List.getD_eq_getElem?_getD];exact h _
 ·exact ⟨by decide,by decide⟩
/-- a length that is taken is told by those bytes -/
theorem len_ok {B:List Int} {a en n f:Nat} (b:byt B) (h:lenP B a en=.ok (n,f)):a < en∧f≤en∧f=a + (lenB n).length∧n < 16777216∧PreAt B a (lenB n):=by
 unfold lenP at h
 have l0:=byN_lt b a
 have l1:=byN_lt b (a + 1)
 have l2:=byN_lt b (a + 2)
 have l3:=byN_lt b (a + 3)
 have i0:=byN_int b a
 have i1:=byN_int b (a + 1)
 have i2:=byN_int b (a + 2)
 have i3:=byN_int b (a + 3)
 by_cases c1:en≤a
 ·rw [if_pos c1] at h;cases h
 ·rw [if_neg c1] at h
  by_cases c2:byN B a < 128
  ·rw [if_pos c2] at h
   simp only [Except.ok.injEq,Prod.mk.injEq] at h
   obtain ⟨rfl,rfl⟩:=h
   have e:lenB (byN B a)=[((byN B a:Nat):Int)]:=by unfold lenB;rw [if_pos c2]
   rw [e]
   exact ⟨by omega,by omega,rfl,by omega,PreAt.one i0⟩
  ·rw [if_neg c2] at h
   by_cases c3:byN B a=128∨131 < byN B a
   ·rw [if_pos c3] at h;cases h
   ·rw [if_neg c3] at h
    by_cases c4:en < a + 1 + (byN B a - 128)
    ·rw [if_pos c4] at h;cases h
    ·rw [if_neg c4] at h
     by_cases c5:byN B (a + 1)=0∨beV B (a + 1) (byN B a - 128) < 128
     ·rw [if_pos c5] at h;cases h
     ·rw [if_neg c5] at h
      simp only [Except.ok.injEq,Prod.mk.injEq] at h
      obtain ⟨rfl,rfl⟩:=h
      have hm:byN B a=129∨byN B a=130∨byN B a=131:=by omega
      rcases hm with e|e|e
      ·rw [e] at c4 c5 i0 ⊢
       have ev:beV B (a + 1) (129 - 128)=byN B (a + 1):=by show 256 * 0 + byN B (a + 1 + 0)=_;simp
       rw [ev] at c5 ⊢
       have el:lenB (byN B (a + 1))=[129,((byN B (a + 1):Nat):Int)]:=by unfold lenB;rw [if_neg (by omega),if_pos (by omega)]
       rw [el]
       exact ⟨by omega,by omega,rfl,by omega,PreAt.cons i0 (PreAt.one i1)⟩
      ·rw [e] at c4 c5 i0 ⊢
       have ev:beV B (a + 1) (130 - 128)=256 * byN B (a + 1) + byN B (a + 2):=by show 256 * (256 * 0 + byN B (a + 1 + 0)) + byN B (a + 1 + 1)=_;simp
       rw [ev] at c5 ⊢
       have el:lenB (256 * byN B (a + 1) + byN B (a + 2))=[130,((byN B (a + 1):Nat):Int),((byN B (a + 2):Nat):Int)]:=by
        unfold lenB
        rw [if_neg (by omega),if_neg (by omega),if_pos (by omega),show (256 * byN B (a + 1) + byN B (a + 2)) / 256=byN B (a + 1) by omega,show (256 * byN B (a + 1) + byN B (a + 2)) % 256=byN B (a + 2) by omega]
       rw [el]
       exact ⟨by omega,by omega,rfl,by omega,PreAt.cons i0 (PreAt.cons i1 (PreAt.one i2))⟩
      ·rw [e] at c4 c5 i0 ⊢
       have ev:beV B (a + 1) (131 - 128)=256 * (256 * byN B (a + 1) + byN B (a + 2)) + byN B (a + 3):=by show 256 * (256 * (256 * 0 + byN B (a + 1 + 0)) + byN B (a + 1 + 1)) + byN B (a + 1 + 2)=_;simp
       rw [ev] at c5 ⊢
       have el:lenB (256 * (256 * byN B (a + 1) + byN B (a + 2)) + byN B (a + 3))=[131,((byN B (a + 1):Nat):Int),((byN B (a + 2):Nat):Int),((byN B (a + 3):Nat):Int)]:=by
        unfold lenB
        rw [if_neg (by omega),if_neg (by omega),if_neg (by omega),show (256 * (256 * byN B (a + 1) + byN B (a + 2)) + byN B (a + 3)) / 65536 % 256=byN B (a + 1) by omega,show (256 * (256 * byN B (a + 1) + byN B (a + 2)) + byN B (a + 3)) / 256 % 256=byN B (a + 2) by omega,show (256 * (256 * byN B (a + 1) + byN B (a + 2)) + byN B (a + 3)) % 256=byN B (a + 3) by omega]
       rw [el]
       exact ⟨by omega,by omega,rfl,by omega,PreAt.cons i0 (PreAt.cons i1 (PreAt.cons i2 (PreAt.one i3)))⟩
theorem lenB_pos (n:Nat):1≤(lenB n).length:=by
 unfold lenB
 split
 ·simp
 ·split
  ·simp
  ·split<;>simp
theorem bytesT_len (c t:Int) (m:Bool) (b:List Int) (ks:List Tl):(bytesT (.mk c t m b ks)).length=1 + (lenB (b++bytesL ks).length).length + (b++bytesL ks).length:=by
 rw [bytesT,List.length_cons,List.length_append]
 omega
theorem bytesT_two:∀ T:Tl,2≤(bytesT T).length
 | .mk c t m b ks=>by
  rw [bytesT_len]
  have:=lenB_pos (b++bytesL ks).length
  omega
/-- an element that is read: its bytes stand there -/
def ElOk (B:List Int) (d a:Nat) (T:Tl) (z:Nat):Prop:=z=a + (bytesT T).length∧PreAt B a (bytesT T)∧fineT T=true∧depT T≤d∧WfT T
theorem kids_ok {B:List Int} {d stop:Nat} {f:Nat→Nat→Except (Nat × Nat) (Tl × Nat)} (hf:∀ a T z,f a stop=.ok (T,z)→ElOk B d a T z∧z≤stop) :
  ∀ (k x:Nat) (acc ks:List Tl) (z:Nat),kidsP f stop k x acc=.ok (ks,z)→x≤stop→∃ ls,ks=acc++ls∧z=x + (bytesL ls).length∧PreAt B x (bytesL ls)∧fineL ls=true∧depL ls≤d∧WfL ls∧z≤stop∧(stop≤x + k→z=stop)
 | 0,x,acc,ks,z,h,hx=>by
  simp only [kidsP,Except.ok.injEq,Prod.mk.injEq] at h
  obtain ⟨rfl,rfl⟩:=h
  exact ⟨[],by simp,by simp [bytesL],by rw [bytesL];exact PreAt.nil,by rw [fineL],by rw [depL];omega,by rw [WfL];trivial,hx,fun h=>by omega⟩
 | k + 1,x,acc,ks,z,h,hx=>by
  rw [kidsP] at h
  by_cases c:x < stop
  ·rw [if_pos c] at h
   cases hq:f x stop with
   | error e=>rw [hq] at h;cases h
   | ok p =>
    obtain ⟨t,y⟩:=p
    rw [hq] at h
    obtain ⟨⟨q1,q2,q3,q4,q5⟩,q6⟩:=hf x t y hq
    obtain ⟨ls,r1,r2,r3,r4,r5,r6,r7,r8⟩:=kids_ok hf k y (acc++[t]) ks z h q6
    have b2:=bytesT_two t
    refine ⟨t :: ls,by rw [r1,List.append_assoc];rfl,by rw [bytesL,List.length_append];omega,?_,by rw [fineL,q3,r4];rfl,by rw [depL];omega,by rw [WfL];exact ⟨q5,r6⟩,r7,fun h=>r8 (by omega)⟩
    rw [bytesL]
    refine q2.two ?_
    rw [← q1]
    exact r3
  ·rw [if_neg c] at h
   simp only [Except.ok.injEq,Prod.mk.injEq] at h
   obtain ⟨rfl,rfl⟩:=h
   exact ⟨[],by simp,by simp [bytesL],by rw [bytesL];exact PreAt.nil,by rw [fineL],by rw [depL];omega,by rw [WfL];trivial,hx,fun h=>by omega⟩
theorem head_of (x:Nat):headB ((x / 64:Nat):Int) ((x % 32:Nat):Int) (decide (x / 32 % 2=1))=(x:Int):=by
 unfold headB
 by_cases c:x / 32 % 2=1
 ·rw [decide_eq_true c,if_pos rfl];omega
 ·rw [decide_eq_false c,if_neg (by decide)];omega
theorem elem_ok {B:List Int} (b:byt B):∀ (d a en:Nat) (T:Tl) (z:Nat),en≤B.length→elemP B d a en=.ok (T,z)→ElOk B d a T z∧z≤en
 | 0,a,en,T,z,_,h=>by rw [elemP] at h;cases h
 | d + 1,a,en,T,z,he,h=>by
  rw [elemP] at h
  by_cases c1:en≤a
  ·rw [if_pos c1] at h;cases h
  rw [if_neg c1] at h
  by_cases c2:byN B a % 32=31
  ·rw [if_pos c2] at h;cases h
  rw [if_neg c2] at h
  cases hl:lenP B (a + 1) en with
  | error e=>rw [hl] at h;cases h
  | ok p =>
   obtain ⟨n,f⟩:=p
   rw [hl] at h
   simp only at h
   by_cases c3:en < f + n
   ·rw [if_pos c3] at h;cases h
   rw [if_neg c3] at h
   obtain ⟨p1,p2,p3,p4,p5⟩:=len_ok b hl
   have hb:byN B a < 256:=byN_lt b a
   have hh:=head_of (byN B a)
   by_cases c4:byN B a / 32 % 2=1
   ·rw [if_pos c4] at h
    rw [decide_eq_true c4] at hh
    cases hk:kidsP (elemP B d) (f + n) n f [] with
    | error e=>rw [hk] at h;cases h
    | ok p =>
     obtain ⟨ks,y⟩:=p
     rw [hk] at h
     simp only [Except.ok.injEq,Prod.mk.injEq] at h
     obtain ⟨rfl,rfl⟩:=h
     obtain ⟨ls,r1,r2,r3,r4,r5,r6,r7,r8⟩:=kids_ok (B:=B) (d:=d) (fun a T z hz=>elem_ok b d a (f + n) T z (by omega) hz) n f [] ks y hk (by omega)
     rw [List.nil_append] at r1
     subst r1
     have ez:=r8 (by omega)
     have en':(bytesL ks).length=n:=by omega
     refine ⟨⟨?_,?_,?_,?_,?_⟩,by omega⟩
     ·rw [bytesT_len,List.nil_append,en'];omega
     ·rw [bytesT,List.nil_append,en',hh]
      refine PreAt.cons (byN_int b a) (p5.two ?_)
      rw [← p3]
      exact r3
     ·rw [fineT,r4,Bool.and_true]
      unfold fine1
      simp
      omega
     ·rw [depT];omega
     ·rw [WfT]
      exact ⟨by omega,by omega,fun j=>by simp,r6⟩
   ·rw [if_neg c4] at h
    rw [decide_eq_false c4] at hh
    simp only [Except.ok.injEq,Prod.mk.injEq] at h
    obtain ⟨rfl,rfl⟩:=h
    obtain ⟨t1,t2⟩:=PreAt.of_take (B:=B) (a:=f) (n:=n) (by omega)
    refine ⟨⟨?_,?_,?_,?_,?_⟩,by omega⟩
    ·rw [bytesT_len,bytesL,List.append_nil,t2];omega
    ·rw [bytesT,bytesL,List.append_nil,t2,hh]
     refine PreAt.cons (byN_int b a) (p5.two ?_)
     rw [← p3]
     exact t1
    ·rw [fineT,fineL]
     unfold fine1
     simp
     omega
    ·rw [depT,depL];omega
    ·rw [WfT,WfL]
     exact ⟨by omega,by omega,byt_takeP b f n,trivial⟩
/-- what is read whole is told by those bytes alone -/
theorem parse_ok {B:List Int} {T:Tl} (b:byt B) (h:parseP B=.ok T):bytesT T=B∧fineT T=true∧depT T≤16∧WfT T∧B.length≤1048576:=by
 unfold parseP at h
 by_cases c:1048576 < B.length
 ·rw [if_pos c] at h;cases h
 rw [if_neg c] at h
 cases hq:elemP B 16 0 B.length with
 | error e=>rw [hq] at h;cases h
 | ok p =>
  obtain ⟨U,z⟩:=p
  rw [hq] at h
  simp only at h
  by_cases c2:z < B.length
  ·rw [if_pos c2] at h;cases h
  rw [if_neg c2] at h
  simp only [Except.ok.injEq] at h
  subst h
  obtain ⟨⟨q1,q2,q3,q4,q5⟩,q6⟩:=elem_ok b 16 0 B.length U z (Nat.le_refl _) hq
  exact ⟨(q2.all (by omega)).symm,q3,q4,q5,by omega⟩
end Go.Proofs.YtnkipgbnnhahbaaDoor
