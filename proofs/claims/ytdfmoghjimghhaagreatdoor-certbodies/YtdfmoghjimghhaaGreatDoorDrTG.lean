import Derived.Test.YtdfmoghjimghhaaGreatDoorBase
import Derived.Test.YtdfmoghjimghhaaGreatDoorLBytes
import Derived.Laws.Rows
import Derived.Laws.Tables
import Derived.Tactics
import Derived.Test.YtdfmoghjimghhaaGreatDoorRows
import Derived.Deep.WholeRow
import Derived.Deep.RegionHeld3
import Derived.Deep.DeepCutAuto
import Derived.Deep.DeepFit
namespace Go.Proofs.YtdfmoghjimghhaaGreatDoor
open Go.RowKit
theorem Za3 {P:Program} {o:Oper} {a:Act} {w:World} {ty:TypeId} {x:Operand} {ad:Addr} {v:Value} (ho:o.op=.load ty x) (hx:a.eval x=.pointer (some ad)) (h:(loadVar ty ad).run P w=.ok v w):(execOp a.eval o).run P w=.ok (.value v) w:=by
 unfold execOp;simp only[ho,hx,Instr.loadAt,Instr.sureAddr,Sem.run_bind,Sem.run_pure,Result.andThen_ok,h]
theorem Blk.load {P:Program} {w:World} {g n:Nat} {F:List Value} {ty:TypeId} {d:TypeDesc} (B:Blk w g F) (hu:P.underlying ty=some d) (hd:(match d with|.struct _|.array _ _=>true|_=>false)=true) (hs:(P.info? ty).map (·.size)=some n) (hn:F.length=n):(loadVar ty ⟨g,0,none⟩).run P w=.ok (.agg F.toArray) w:=by
 obtain⟨t,ht⟩:=B;exact run_loadVar_row w g t ty F.toArray (0,0) d ht hu hd (by rw[hs,List.size_toArray,hn])
theorem Zae {P:Program} {ops:Array Oper} {rest:List Oper} {o:Oper} {a:Act} {w:World} {Q:Exit→Act→World→Prop} {ty:TypeId} {x:Operand} {ad:Addr} {v:Value} (hw:Region.wanted o (yielded ops a.tmps)=true) (ho:o.op=.load ty x) (hx:a.eval x=.pointer (some ad)) (h:(loadVar ty ad).run P w=.ok v w)
  (k:wpList P ops Q rest (a.put o.dst v) w):wpList P ops Q (o::rest) a w:=by
 refine wpList_step fun K hK=>?_;simp only[hw,if_true];unfold Oper.wp execOp;simp only[ho,hx,Instr.loadAt,Instr.sureAddr,Sem.run_bind,Sem.run_pure,Result.andThen_ok,h];exact hK _ _ k
theorem Zb8 {P:Program} {w:World} {g o n:Nat} {F:List Value} {ty:TypeId} {d:TypeDesc} (hc:∀ j v,F[j]?=some v→w.cell? ⟨g,o+j,none⟩=some v) (hn:F.length=n) (hu:P.underlying ty=some d) (hd:(match d with|.struct _|.array _ _=>true|_=>false)=true) (hs:(P.info? ty).map (·.size)=some n):(loadVar ty ⟨g,o,none⟩).run P w=.ok (.agg F.toArray) w:=by
 have hl:(loadCells ⟨g,o,none⟩ F.length).run P w=.ok F.toArray w :=
  run_loadCells_list (P:=P) w ⟨g,o,none⟩ F (fun j v hv=>by
   have hadd:(⟨g,o,none⟩:Addr).add j=⟨g,o+j,none⟩:=by unfold Addr.add;split<;>simp_all
   rw[hadd];exact hc j v hv)
 cases hq:P.info? ty with
 | none=>simp[hq] at hs
 | some i =>
  have hz:i.size=F.length:=by simp[hq] at hs;omega
  have hagg:(isAgg ty).run P w=.ok true w:=by
   unfold isAgg;rw[Sem.run_bind,run_underlying hu w]
   cases d<;>simp_all
  simp[loadVar,Sem.run_bind,hagg,sizeOf,typeInfo,hq,hz,hl]
theorem Blk.bs {w:World} {g q:Nat} {P:List Int} (B:Blk w g (u8s P)) (l:P.length=q) (h:q≤maxLen):Bs w (.slice (some ⟨g,0,none⟩) q q) P :=
 ⟨some ⟨g,0,none⟩,q,by rw[l],h,by omega,fun _=>⟨g,0,rfl,B.lt,fun j hj=>by rw[Nat.zero_add];exact B.cell j _ (ZdK P j hj)⟩⟩
theorem Zag {P:Program} {fn:Func} {p u:Tmp} {ty:TypeId} (h:fn.results=#[.cell p ty,.tmp u]) (tmps:Array Value) (w:World) (g:Nat) (t:TypeId) (cs:Array Value) (fr:Nat × Nat) (d:TypeDesc)
  (hp:tmps.getD p undef=.pointer (some ⟨g,0,none⟩)) (hg:w.heap[g]?=some (.cells cs t fr))
  (hu:P.underlying ty=some d) (hd:(match d with|.struct _|.array _ _=>true|_=>false)=true) (hi:(P.info? ty).map (·.size)=some cs.size) :
  (results fn tmps).run P w=.ok (.tuple #[.agg cs,tmps.getD u undef]) w:=by
 have hp':tmps[p]?.getD undef=.pointer (some ⟨g,0,none⟩):=by simpa using hp
 simp[results,h,hp',asAddr,run_loadVar_row w g t ty cs fr d hg hu hd hi]
inductive Tl where
 | mk (c t:Int) (m:Bool) (b:List Int) (ks:List Tl)
mutual
def szT:Tl→Nat
 | .mk _ _ _ _ ks=>1+szL ks
def szL:List Tl→Nat
 | []=>0
 | k::ks=>szT k+szL ks
end
theorem ZdI:∀ t:Tl,0<szT t
 | .mk _ _ _ _ ks=>by rw[szT];omega
theorem Zdf:∀ {ks:List Tl} {i:Nat} {k:Tl},ks[i]?=some k→szT k≤szL ks
 | [],i,k,h=>by simp at h
 | x::xs,0,k,h=>by
  simp at h;subst h;rw[szL];omega
 | x::xs,i+1,k,h=>by
  rw[List.getElem?_cons_succ] at h;have:=Zdf h;rw[szL];omega
def ZnP (w:World) (g o:Nat) (cs:List Value):Prop:=g<w.heap.size∧∀ j v,cs[j]?=some v→w.cell? ⟨g,o+j,none⟩=some v
theorem ZnP.later {w w':World} {g o:Nat} {cs:List Value} (h:ZnP w g o cs) (hb:Below w.heap.size w w'):ZnP w' g o cs :=
 ⟨Nat.lt_of_lt_of_le h.1 hb.size,fun j v hj=>(hb.cell (p:=⟨g,o+j,none⟩) h.1).trans (h.2 j v hj)⟩
mutual
def Zbg (w:World):Tl→List Value→Prop
 | .mk c t m b ks,cs=>∃ bv ao cap,cs=[.int .i64 c,.int .i64 t,.bool m,bv,.slice ao ks.length cap]∧Bs w bv b∧ks.length≤cap∧cap≤maxLen∧(0<ks.length→∃ g o,ao=some ⟨g,o,none⟩∧ZaW w ks g o)
def ZaW (w:World):List Tl→Nat→Nat→Prop
 | [],_,_=>True
 | k::ks,g,o=>(∃ cs,ZnP w g o cs∧Zbg w k cs)∧ZaW w ks g (o+5)
end
theorem Zbg.five {w:World}:∀ {t:Tl} {cs:List Value},Zbg w t cs→cs.length=5
 | .mk ..,_,h=>by
  rw[Zbg] at h;obtain ⟨_,_,_,rfl,_⟩:=h
  rfl
mutual
theorem Zbg.later {w w':World} (hb:Below w.heap.size w w'):∀ {t:Tl} {cs:List Value},Zbg w t cs→Zbg w' t cs
 | .mk c t m b ks,cs,h=>by
  rw[Zbg] at h ⊢;obtain ⟨bv,ao,cap,h1,h2,h3,h4,h5⟩:=h;refine ⟨bv,ao,cap,h1,h2.later hb,h3,h4,fun h0=>?_⟩;obtain ⟨g,o,e,hk⟩:=h5 h0;exact ⟨g,o,e,ZaW.later hb hk⟩
theorem ZaW.later {w w':World} (hb:Below w.heap.size w w'):∀ {ks:List Tl} {g o:Nat},ZaW w ks g o→ZaW w' ks g o
 | [],_,_,_=>by rw[ZaW];trivial
 | k::ks,g,o,h=>by
  rw[ZaW] at h ⊢;obtain ⟨⟨cs,h1,h2⟩,h3⟩:=h;exact ⟨⟨cs,h1.later hb,Zbg.later hb h2⟩,ZaW.later hb h3⟩
end
theorem ZaW.get {w:World}:∀ {ks:List Tl} {g o i:Nat} {k:Tl},ZaW w ks g o→ks[i]?=some k→∃ cs,ZnP w g (o+5*i) cs∧Zbg w k cs
 | [],_,_,i,_,_,h=>by simp at h
 | x::xs,g,o,0,k,h,e=>by
  rw[ZaW] at h;simp at e;subst e;exact h.1
 | x::xs,g,o,i+1,k,h,e=>by
  rw[ZaW] at h;rw[List.getElem?_cons_succ] at e;have:=ZaW.get h.2 e;rw[show o+5*(i+1)=o+5+5*i by omega];exact this
mutual
def WfT:Tl→Prop
 | .mk c t _ b ks=>(-9223372036854775808≤c∧c<9223372036854775808)∧(-9223372036854775808≤t∧t<9223372036854775808)∧byt b∧WfL ks
def WfL:List Tl→Prop
 | []=>True
 | k::ks=>WfT k∧WfL ks
end
def Zbu (c t:Int) (m:Bool) (b:List Int) (ks:List Tl):Bool:=decide (0≤c) && decide (c≤3) && decide (0≤t) && decide (t≤30) && !(m && decide (0<b.length)) && !(!m && decide (0<ks.length))
mutual
def Za1:Tl→Bool
 | .mk c t m b ks=>Zbu c t m b ks && ZaU ks
def ZaU:List Tl→Bool
 | []=>true
 | k::ks=>Za1 k && ZaU ks
end
mutual
def Zc1:Tl→Nat
 | .mk _ _ _ _ ks=>Zb7 ks+1
def Zb7:List Tl→Nat
 | []=>0
 | k::ks=>max (Zc1 k) (Zb7 ks)
end
theorem Zfx {ks:List Tl} {i:Nat} {k:Tl} (h:ks[i]?=some k):ZaU (ks.drop i)=(Za1 k && ZaU (ks.drop (i+1))):=by
 have e:=List.getElem?_eq_some_iff.1 h;rw[List.drop_eq_getElem_cons e.1,e.2,ZaU]
theorem Zh9:∀ (xs ys:List Tl),Zb7 (xs++ys)=max (Zb7 xs) (Zb7 ys)
 | [],ys=>by simp[Zb7]
 | x::xs,ys=>by rw[List.cons_append,Zb7,Zb7,Zh9 xs ys,Nat.max_assoc]
theorem Zkj {ks:List Tl} {i:Nat} {k:Tl} (h:ks[i]?=some k):Zb7 (ks.take (i+1))=max (Zb7 (ks.take i)) (Zc1 k):=by
 rw[List.take_add_one,h];show Zb7 (ks.take i++[k])=_;rw[Zh9];simp[Zb7]
def Zbz (c t:Int) (m:Bool):Int:=64*c+t+(if m then 32 else 0)
def Zbq (n:Nat):List Int :=
 if n<128 then [(n:Int)] else if n<256 then [129,(n:Int)] else if n<65536 then [130,((n/256:Nat):Int),((n%256:Nat):Int)] else [131,((n/65536%256:Nat):Int),((n/256%256:Nat):Int),((n%256:Nat):Int)]
mutual
def Zao:Tl→List Int
 | .mk c t m b ks=>Zbz c t m::(Zbq (b++Zam ks).length++(b++Zam ks))
def Zam:List Tl→List Int
 | []=>[]
 | k::ks=>Zao k++Zam ks
end
theorem Zd7:∀ (xs ys:List Tl),Zam (xs++ys)=Zam xs++Zam ys
 | [],ys=>by rw[Zam];rfl
 | x::xs,ys=>by rw[List.cons_append,Zam,Zam,Zd7 xs ys,List.append_assoc]
theorem ZcL {ks:List Tl} {i:Nat} {k:Tl} (h:ks[i]?=some k):Zam (ks.take (i+1))=Zam (ks.take i)++Zao k:=by
 rw[List.take_add_one,h];show Zam (ks.take i++[k])=_;rw[Zd7,Zam,Zam,List.append_nil]
theorem Zf2 (n:Nat):(Zbq n).length≤4:=by
 unfold Zbq
 split
 ·simp
 split
 ·simp
 split<;>simp
theorem ZjR {ks:List Tl}:∀ {i:Nat},i≤ks.length→(Zam (ks.take i)).length≤(Zam ks).length:=fun {i} _=>by
 have e:Zam ks=Zam (ks.take i)++Zam (ks.drop i):=by rw[← Zd7,List.take_append_drop]
 rw[e,List.length_append];omega
theorem Zd8 {ks:List Tl} {i:Nat} {k:Tl} (h:ks[i]?=some k):(Zam (ks.take i)).length+(Zao k).length≤(Zam ks).length:=by
 have:=ZjR (ks:=ks) (i:=i+1) (by have:=(List.getElem?_eq_some_iff.1 h).1;omega);rw[ZcL h,List.length_append] at this;exact this
theorem ZaU.get:∀ {ks:List Tl} {i:Nat} {k:Tl},ZaU ks=true→ks[i]?=some k→Za1 k=true
 | [],i,k,_,h=>by simp at h
 | x::xs,0,k,h,e=>by
  rw[ZaU,Bool.and_eq_true] at h;simp at e;subst e;exact h.1
 | x::xs,i+1,k,h,e=>by
  rw[ZaU,Bool.and_eq_true] at h;rw[List.getElem?_cons_succ] at e;exact ZaU.get h.2 e
theorem ZgK {c t:Int} {m:Bool} {b:List Int} {ks:List Tl} (h:Zbu c t m b ks=true):(0≤c∧c≤3)∧(0≤t∧t≤30):=by
 unfold Zbu at h;simp only[Bool.and_eq_true,decide_eq_true_eq] at h;omega
noncomputable def wrN (T:Tl):Nat:=if Za1 T=true then (if 16<Zc1 T then 9 else if 1048576<(Zao T).length then 2 else 0) else 1
def beV (B:List Int) (o:Nat):Nat→Nat
 | 0=>0
 | k+1=>256*beV B o k+(B.getD (o+k) 0).toNat
def byN (B:List Int) (a:Nat):Nat:=(B.getD a 0).toNat
def ZfB (B:List Int) (a en:Nat):Except (Nat × Nat) (Nat × Nat) :=
 if en≤a then .error (6,a)
 else if byN B a<128 then .ok (byN B a,a+1)
 else if byN B a=128∨131<byN B a then .error (7,a)
 else if en<a+1+(byN B a-128) then .error (6,a)
 else if byN B (a+1)=0∨beV B (a+1) (byN B a-128)<128 then .error (7,a)
 else .ok (beV B (a+1) (byN B a-128),a+1+(byN B a-128))
def ZbQ (f:Nat→Nat→Except (Nat × Nat) (Tl × Nat)) (stop:Nat):Nat→Nat→List Tl→Except (Nat × Nat) (List Tl × Nat)
 | 0,x,acc=>.ok (acc,x)
 | k+1,x,acc=>if x<stop then (match f x stop with|.error e=>.error e|.ok (t,y)=>ZbQ f stop k y (acc++[t])) else .ok (acc,x)
def Za6 (B:List Int):Nat→Nat→Nat→Except (Nat × Nat) (Tl × Nat)
  | 0,a,_=>.error (9,a)
  | d+1,a,en =>
    if en≤a then .error (6,a)
    else if byN B a%32=31 then .error (7,a)
    else match ZfB B (a+1) en with
      | .error e=>.error e
      | .ok (n,f) =>
        if en<f+n then .error (6,a+1)
        else if byN B a/32%2=1 then
          (match ZbQ (Za6 B d) (f+n) n f [] with
            | .error e=>.error e
            | .ok (ks,z)=>.ok (.mk ((byN B a/64:Nat):Int) ((byN B a%32:Nat):Int) true [] ks,z))
        else .ok (.mk ((byN B a/64:Nat):Int) ((byN B a%32:Nat):Int) false ((B.drop f).take n) [],f+n)
def Zdd (B:List Int):Except (Nat × Nat) Tl :=
 if 1048576<B.length then .error (2,0)
 else match Za6 B 16 0 B.length with
  | .error e=>.error e
  | .ok (t,z)=>if z<B.length then .error (8,z) else .ok t
theorem ZdM {B:List Int} (h:byt B) (a:Nat):byN B a<256:=by
 have:=h a;unfold byN;omega
theorem ZcK {B:List Int} (h:byt B) (a:Nat):B.getD a 0=((byN B a:Nat):Int):=by
 have:=h a;unfold byN;omega
def Zbs (B:List Int) (a:Nat) (X:List Int):Prop:=∀ j,j<X.length→B.getD (a+j) 0=X.getD j 0
theorem Zbs.two {B X Y:List Int} {a:Nat} (h:Zbs B a X) (k:Zbs B (a+X.length) Y):Zbs B a (X++Y):=fun j hj=>by
 rw[List.length_append] at hj;rw[List.getD_eq_getElem?_getD (l:=X++Y),List.getElem?_append]
 split
 ·rw[← List.getD_eq_getElem?_getD];exact h j (by omega)
 ·rw[← List.getD_eq_getElem?_getD,← k (j-X.length) (by omega),show a+X.length+(j-X.length)=a+j by omega]
theorem Zbs.nil {B:List Int} {a:Nat}:Zbs B a []:=fun j hj=>by simp at hj
theorem Zbs.one {B:List Int} {a:Nat} {x:Int} (h:B.getD a 0=x):Zbs B a [x]:=fun j hj=>by
 have e:j=0:=by simp at hj;exact hj
 subst e;exact h
theorem Zbs.cons {B X:List Int} {a:Nat} {x:Int} (h:B.getD a 0=x) (k:Zbs B (a+1) X):Zbs B a (x::X):=(Zbs.one h).two k
theorem Zbs.of_take {B:List Int} {a n:Nat} (l:a+n≤B.length):Zbs B a ((B.drop a).take n)∧((B.drop a).take n).length=n:=by
 have e:((B.drop a).take n).length=n:=by rw[List.length_take,List.length_drop];omega
 refine⟨fun j hj=>?_,e⟩;rw[e] at hj;rw[List.getD_eq_getElem?_getD,List.getD_eq_getElem?_getD,List.getElem?_take,if_pos hj,List.getElem?_drop]
theorem Zgv {B:List Int} (h:byt B) (a n:Nat):byt ((B.drop a).take n):=fun j=>by
 rw[List.getD_eq_getElem?_getD,List.getElem?_take]
 split
 ·rw[List.getElem?_drop,← List.getD_eq_getElem?_getD];exact h _
 ·exact ⟨by decide,by decide⟩
theorem ZnU {B:List Int} {a en n f:Nat} (b:byt B) (h:ZfB B a en=.ok (n,f)):a<en∧f≤en∧f=a+(Zbq n).length∧n<16777216∧Zbs B a (Zbq n):=by
 unfold ZfB at h;have l0:=ZdM b a;have l1:=ZdM b (a+1);have l2:=ZdM b (a+2);have l3:=ZdM b (a+3);have i0:=ZcK b a;have i1:=ZcK b (a+1);have i2:=ZcK b (a+2);have i3:=ZcK b (a+3)
 by_cases c1:en≤a
 ·rw[if_pos c1] at h;cases h
 ·rw[if_neg c1] at h
  by_cases c2:byN B a<128
  ·rw[if_pos c2] at h
   simp only[Except.ok.injEq,Prod.mk.injEq] at h;obtain ⟨rfl,rfl⟩:=h;have e:Zbq (byN B a)=[((byN B a:Nat):Int)]:=by unfold Zbq;rw[if_pos c2]
   rw[e];exact ⟨by omega,by omega,rfl,by omega,Zbs.one i0⟩
  ·rw[if_neg c2] at h
   by_cases c3:byN B a=128∨131<byN B a
   ·rw[if_pos c3] at h;cases h
   ·rw[if_neg c3] at h
    by_cases c4:en<a+1+(byN B a-128)
    ·rw[if_pos c4] at h;cases h
    ·rw[if_neg c4] at h
     by_cases c5:byN B (a+1)=0∨beV B (a+1) (byN B a-128)<128
     ·rw[if_pos c5] at h;cases h
     ·rw[if_neg c5] at h
      simp only[Except.ok.injEq,Prod.mk.injEq] at h;obtain ⟨rfl,rfl⟩:=h;have hm:byN B a=129∨byN B a=130∨byN B a=131:=by omega
      rcases hm with e|e|e
      ·rw[e] at c4 c5 i0 ⊢
       have ev:beV B (a+1) (129-128)=byN B (a+1):=by show 256*0+byN B (a+1+0)=_;simp
       rw[ev] at c5 ⊢;have el:Zbq (byN B (a+1))=[129,((byN B (a+1):Nat):Int)]:=by unfold Zbq;rw[if_neg (by omega),if_pos (by omega)]
       rw[el];exact ⟨by omega,by omega,rfl,by omega,Zbs.cons i0 (Zbs.one i1)⟩
      ·rw[e] at c4 c5 i0 ⊢
       have ev:beV B (a+1) (130-128)=256*byN B (a+1)+byN B (a+2):=by show 256*(256*0+byN B (a+1+0))+byN B (a+1+1)=_;simp
       rw[ev] at c5 ⊢;have el:Zbq (256*byN B (a+1)+byN B (a+2))=[130,((byN B (a+1):Nat):Int),((byN B (a+2):Nat):Int)]:=by
        unfold Zbq;rw[if_neg (by omega),if_neg (by omega),if_pos (by omega),show (256*byN B (a+1)+byN B (a+2))/256=byN B (a+1) by omega,show (256*byN B (a+1)+byN B (a+2))%256=byN B (a+2) by omega]
       rw[el];exact ⟨by omega,by omega,rfl,by omega,Zbs.cons i0 (Zbs.cons i1 (Zbs.one i2))⟩
      ·rw[e] at c4 c5 i0 ⊢
       have ev:beV B (a+1) (131-128)=256*(256*byN B (a+1)+byN B (a+2))+byN B (a+3):=by show 256*(256*(256*0+byN B (a+1+0))+byN B (a+1+1))+byN B (a+1+2)=_;simp
       rw[ev] at c5 ⊢;have el:Zbq (256*(256*byN B (a+1)+byN B (a+2))+byN B (a+3))=[131,((byN B (a+1):Nat):Int),((byN B (a+2):Nat):Int),((byN B (a+3):Nat):Int)]:=by
        unfold Zbq;rw[if_neg (by omega),if_neg (by omega),if_neg (by omega),show (256*(256*byN B (a+1)+byN B (a+2))+byN B (a+3))/65536%256=byN B (a+1) by omega,show (256*(256*byN B (a+1)+byN B (a+2))+byN B (a+3))/256%256=byN B (a+2) by omega,show (256*(256*byN B (a+1)+byN B (a+2))+byN B (a+3))%256=byN B (a+3) by omega]
       rw[el];exact ⟨by omega,by omega,rfl,by omega,Zbs.cons i0 (Zbs.cons i1 (Zbs.cons i2 (Zbs.one i3)))⟩
theorem Zim (n:Nat):1≤(Zbq n).length:=by
 unfold Zbq
 split
 ·simp
 ·split
  ·simp
  ·split<;>simp
theorem ZbN (c t:Int) (m:Bool) (b:List Int) (ks:List Tl):(Zao (.mk c t m b ks)).length=1+(Zbq (b++Zam ks).length).length+(b++Zam ks).length:=by
 rw[Zao,List.length_cons,List.length_append];omega
theorem Zdi:∀ T:Tl,2≤(Zao T).length
 | .mk c t m b ks=>by
  rw[ZbN];have:=Zim (b++Zam ks).length;omega
theorem ZiX:∀ ks:List Tl,2*ks.length≤(Zam ks).length
 | []=>by simp
 | k::ks=>by
  rw[Zam,List.length_append,List.length_cons];have:=Zdi k;have:=ZiX ks;omega
def ElOk (B:List Int) (d a:Nat) (T:Tl) (z:Nat):Prop:=z=a+(Zao T).length∧Zbs B a (Zao T)∧Za1 T=true∧Zc1 T≤d∧WfT T
theorem ZkA {B:List Int} {d stop:Nat} {f:Nat→Nat→Except (Nat × Nat) (Tl × Nat)} (hf:∀ a T z,f a stop=.ok (T,z)→ElOk B d a T z∧z≤stop) :
  ∀ (k x:Nat) (acc ks:List Tl) (z:Nat),ZbQ f stop k x acc=.ok (ks,z)→x≤stop→∃ ls,ks=acc++ls∧z=x+(Zam ls).length∧Zbs B x (Zam ls)∧ZaU ls=true∧Zb7 ls≤d∧WfL ls∧z≤stop∧(stop≤x+k→z=stop)
 | 0,x,acc,ks,z,h,hx=>by
  simp only[ZbQ,Except.ok.injEq,Prod.mk.injEq] at h;obtain ⟨rfl,rfl⟩:=h;exact ⟨[],by simp,by simp[Zam],by rw[Zam];exact Zbs.nil,by rw[ZaU],by rw[Zb7];omega,by rw[WfL];trivial,hx,fun h=>by omega⟩
 | k+1,x,acc,ks,z,h,hx=>by
  rw[ZbQ] at h
  by_cases c:x<stop
  ·rw[if_pos c] at h
   cases hq:f x stop with
   | error e=>rw[hq] at h;cases h
   | ok p =>
    obtain⟨t,y⟩:=p;rw[hq] at h;obtain ⟨⟨q1,q2,q3,q4,q5⟩,q6⟩:=hf x t y hq;obtain ⟨ls,r1,r2,r3,r4,r5,r6,r7,r8⟩:=ZkA hf k y (acc++[t]) ks z h q6;have b2:=Zdi t;refine ⟨t::ls,by rw[r1,List.append_assoc];rfl,by rw[Zam,List.length_append];omega,?_,by rw[ZaU,q3,r4];rfl,by rw[Zb7];omega,by rw[WfL];exact ⟨q5,r6⟩,r7,fun h=>r8 (by omega)⟩;rw[Zam];refine q2.two ?_;rw[← q1];exact r3
  ·rw[if_neg c] at h
   simp only[Except.ok.injEq,Prod.mk.injEq] at h;obtain ⟨rfl,rfl⟩:=h;exact ⟨[],by simp,by simp[Zam],by rw[Zam];exact Zbs.nil,by rw[ZaU],by rw[Zb7];omega,by rw[WfL];trivial,hx,fun h=>by omega⟩
theorem Zou (x:Nat):Zbz ((x/64:Nat):Int) ((x%32:Nat):Int) (decide (x/32%2=1))=(x:Int):=by
 unfold Zbz
 by_cases c:x/32%2=1
 ·rw[decide_eq_true c,if_pos rfl];omega
 ·rw[decide_eq_false c,if_neg (by decide)];omega
theorem ZhD {B:List Int} (b:byt B):∀ (d a en:Nat) (T:Tl) (z:Nat),en≤B.length→Za6 B d a en=.ok (T,z)→ElOk B d a T z∧z≤en
 | 0,a,en,T,z,_,h=>by rw[Za6] at h;cases h
 | d+1,a,en,T,z,he,h=>by
  rw[Za6] at h
  by_cases c1:en≤a
  ·rw[if_pos c1] at h;cases h
  rw[if_neg c1] at h
  by_cases c2:byN B a%32=31
  ·rw[if_pos c2] at h;cases h
  rw[if_neg c2] at h
  cases hl:ZfB B (a+1) en with
  | error e=>rw[hl] at h;cases h
  | ok p =>
   obtain⟨n,f⟩:=p;rw[hl] at h;simp only at h
   by_cases c3:en<f+n
   ·rw[if_pos c3] at h;cases h
   rw[if_neg c3] at h;obtain ⟨p1,p2,p3,p4,p5⟩:=ZnU b hl;have hb:byN B a<256:=ZdM b a;have hh:=Zou (byN B a)
   by_cases c4:byN B a/32%2=1
   ·rw[if_pos c4] at h
    rw[decide_eq_true c4] at hh
    cases hk:ZbQ (Za6 B d) (f+n) n f [] with
    | error e=>rw[hk] at h;cases h
    | ok p =>
     obtain⟨ks,y⟩:=p;rw[hk] at h;simp only[Except.ok.injEq,Prod.mk.injEq] at h;obtain ⟨rfl,rfl⟩:=h;obtain ⟨ls,r1,r2,r3,r4,r5,r6,r7,r8⟩:=ZkA (B:=B) (d:=d) (fun a T z hz=>ZhD b d a (f+n) T z (by omega) hz) n f [] ks y hk (by omega);rw[List.nil_append] at r1;subst r1;have ez:=r8 (by omega);have en':(Zam ks).length=n:=by omega
     refine⟨⟨?_,?_,?_,?_,?_⟩,by omega⟩
     ·rw[ZbN,List.nil_append,en'];omega
     ·rw[Zao,List.nil_append,en',hh]
      refine Zbs.cons (ZcK b a) (p5.two ?_);rw[← p3];exact r3
     ·rw[Za1,r4,Bool.and_true]
      unfold Zbu;simp;omega
     ·rw[Zc1];omega
     ·rw[WfT]
      exact⟨by omega,by omega,fun j=>by simp,r6⟩
   ·rw[if_neg c4] at h
    rw[decide_eq_false c4] at hh;simp only[Except.ok.injEq,Prod.mk.injEq] at h;obtain ⟨rfl,rfl⟩:=h;obtain ⟨t1,t2⟩:=Zbs.of_take (B:=B) (a:=f) (n:=n) (by omega);refine ⟨⟨?_,?_,?_,?_,?_⟩,by omega⟩
    ·rw[ZbN,Zam,List.append_nil,t2];omega
    ·rw[Zao,Zam,List.append_nil,t2,hh]
     refine Zbs.cons (ZcK b a) (p5.two ?_);rw[← p3];exact t1
    ·rw[Za1,ZaU]
     unfold Zbu;simp;omega
    ·rw[Zc1,Zb7];omega
    ·rw[WfT,WfL]
     exact⟨by omega,by omega,Zgv b f n,trivial⟩
theorem Zab:(Tryz.prog.info? 57).map (·.size)=some 5:=by kernel_rfl
theorem ZcT {w:World} {g o:Nat} {cs:List Value} (h:ZnP w g o cs) (l:cs.length=5):(loadVar 57 ⟨g,o,none⟩).run Tryz.prog w=.ok (.agg cs.toArray) w :=
 Zb8 (n:=5) (fun j v hv=>h.2 j v hv) l Tryz.underlying57 rfl Zab
theorem ZdA {ks:List Tl} {i:Nat} (h:i<ks.length):∃ k,ks[i]?=some k:=⟨ks[i],List.getElem?_eq_getElem h⟩
theorem Za9 {c t:Int} {m:Bool} {b:List Int} {ks:List Tl} (h:c<0∨3<c∨t<0∨30<t∨(m=true∧0<b.length)∨(m=false∧0<ks.length)):Zbu c t m b ks=false:=by
 unfold Zbu;rcases h with h|h|h|h|⟨h1,h2⟩|⟨h1,h2⟩
 ·rw[decide_eq_false (show ¬ 0≤c by omega)];simp
 ·rw[decide_eq_false (show ¬ c≤3 by omega)];simp
 ·rw[decide_eq_false (show ¬ 0≤t by omega)];simp
 ·rw[decide_eq_false (show ¬ t≤30 by omega)];simp
 ·rw[h1,decide_eq_true h2];simp
 ·rw[h1,decide_eq_true h2];simp
theorem Zdl {c t:Int} {m:Bool} {b:List Int} {ks:List Tl} (h1:0≤c∧c≤3) (h2:0≤t∧t≤30) (h3:m=true→b.length=0) (h4:m=false→ks.length=0):Zbu c t m b ks=true:=by
 unfold Zbu;rw[decide_eq_true h1.1,decide_eq_true h1.2,decide_eq_true h2.1,decide_eq_true h2.2]
 cases m with
 | true=>rw[decide_eq_false (show ¬ 0<b.length by have:=h3 rfl;omega)];rfl
 | false=>rw[decide_eq_false (show ¬ 0<ks.length by have:=h4 rfl;omega)];rfl
mutual
theorem Zkk:∀ T:Tl,Zc1 T≤szT T
 | .mk _ _ _ _ ks=>by
  have:=ZfW ks;rw[Zc1,szT];omega
theorem ZfW:∀ ks:List Tl,Zb7 ks≤szL ks
 | []=>by rw[Zb7];omega
 | k::ks=>by
  have:=Zkk k;have:=ZfW ks;rw[Zb7,szL];omega
end
theorem Zas {a w w':World} (h:Below a.heap.size a w) (hb:Below w.heap.size w w'):Below a.heap.size a w':=h.trans (hb.mono h.size)
end Go.Proofs.YtdfmoghjimghhaaGreatDoor
