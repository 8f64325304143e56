import Derived.Test.YtohcdbifhnfcbaaGreatDoorPmNG
namespace Go.Proofs.YtohcdbifhnfcbaaGreatDoor
def Zb2:List Int→List Int→Int→Bool→Except Nat (List Int)
 | [],l,_,beg=>if beg=false∨l.length=0 then .error 7 else .ok l
 | x::xs,l,v,beg =>
  if beg=true∧x=128 then .error 7
  else if x<128 then Zb2 xs (l++[min (128*v+x%128) 1099511627776]) 0 true
  else Zb2 xs l (min (128*v+x%128) 1099511627776) false
def ZbK (x:Int):List Int:=if x<40 then [0,x] else if x<80 then [1,x-40] else [2,x-80]
def Zdw (l:List Int):Except Nat (List Int) :=
 if 4294967375<l.getD 0 0∨∃ j,j<l.length∧0<j∧4294967295<l.getD j 0 then .error 3
 else if 16<(ZbK (l.getD 0 0)++l.drop 1).length then .error 2
 else .ok (ZbK (l.getD 0 0)++l.drop 1)
def Zfk (B:List Int):Except Nat (List Int) :=
 match Zb2 B [] 0 true with
 | .error c=>.error c
 | .ok l=>Zdw l
def b7F:Nat→Nat→List Int→List Int
 | 0,_,l=>l
 | f+1,v,l=>if v=0 then l else b7F f (v/128) (((128+v%128:Nat):Int)::l)
def b7 (v:Nat):List Int:=b7F 9 (v/128) [((v%128:Nat):Int)]
theorem Zj4 (f:Nat) (l:List Int):b7F f 0 l=l:=by
 cases f with
 | zero=>rfl
 | succ f=>rw[b7F,if_pos rfl]
theorem Zp3 {x:Nat} {xs l:List Int} {v:Nat} {beg:Bool} (hx:x<128) (hb:beg=true→¬ x=0) (hv:128*v+x≤1099511627776):Zb2 (((128+x:Nat):Int)::xs) l (v:Int) beg=Zb2 xs l ((128*v+x:Nat):Int) false:=by
 rw[Zb2,if_neg (by rintro ⟨h1,h2⟩;have:=hb h1;omega),if_neg (by omega)]
 congr 1
 omega
theorem Zp4 {x:Nat} {xs l:List Int} {v:Nat} {beg:Bool} (hx:x<128) (hv:128*v+x≤1099511627776):Zb2 ((x:Int)::xs) l (v:Int) beg=Zb2 xs (l++[((128*v+x:Nat):Int)]) 0 true:=by
 rw[Zb2,if_neg (by rintro ⟨_,h2⟩;omega),if_pos (by omega)]
 congr 3
 omega
theorem ZmS:∀ (f u:Nat) (l xs acc:List Int),u<128 ^ f→0<u→u≤1099511627776→Zb2 (b7F f u l++xs) acc 0 true=Zb2 (l++xs) acc (u:Int) false
 | 0,u,l,xs,acc,h,h0,_=>by simp at h;omega
 | f+1,u,l,xs,acc,h,h0,hc=>by
  rw[b7F,if_neg (by omega)]
  by_cases c:u/128=0
  ·rw[c,Zj4,List.cons_append]
   have:=Zp3 (x:=u%128) (xs:=l++xs) (l:=acc) (v:=0) (beg:=true) (by omega) (fun _=>by omega) (by omega);rw[show 128*0+u%128=u by omega] at this;exact this
  ·rw[ZmS f (u/128) _ xs acc (by rw[Nat.pow_succ] at h;omega) (by omega) (by omega),List.cons_append]
   have:=Zp3 (x:=u%128) (xs:=l++xs) (l:=acc) (v:=u/128) (beg:=false) (by omega) (fun h=>by cases h) (by omega);rw[show 128*(u/128)+u%128=u by omega] at this;exact this
theorem raw_b7 (v:Nat) (xs acc:List Int) (h:v≤4294967375):Zb2 (b7 v++xs) acc 0 true=Zb2 xs (acc++[(v:Int)]) 0 true:=by
 unfold b7
 by_cases c:v/128=0
 ·rw[c,Zj4]
  have:=Zp4 (x:=v%128) (xs:=xs) (l:=acc) (v:=0) (beg:=true) (by omega) (by omega);rw[show 128*0+v%128=v by omega] at this;exact this
 ·have p9:(128:Nat) ^ 9=9223372036854775808:=by decide
  rw[ZmS 9 (v/128) _ xs acc (by omega) (by omega) (by omega)];have:=Zp4 (x:=v%128) (xs:=xs) (l:=acc) (v:=v/128) (beg:=false) (by omega) (by omega);rw[show 128*(v/128)+v%128=v by omega] at this;exact this
def b7s:List Nat→List Int
 | []=>[]
 | v::vs=>b7 v++b7s vs
theorem ZmT:∀ (vs:List Nat) (acc:List Int),(∀ v,v∈vs→v≤4294967375)→Zb2 (b7s vs) acc 0 true=Zb2 [] (acc++vs.map (fun v:Nat=>(v:Int))) 0 true
 | [],acc,_=>by rw[b7s,List.map_nil,List.append_nil]
 | v::vs,acc,h=>by
  rw[b7s,raw_b7 v _ acc (h v (List.Mem.head _)),ZmT vs _ (fun x hx=>h x (List.Mem.tail _ hx)),List.map_cons,List.append_assoc]
  rfl
theorem Zlk:∀ (f v:Nat) (l:List Int),(b7F f v l).length≤f+l.length
 | 0,_,_=>by rw[b7F];omega
 | f+1,v,l=>by
  rw[b7F]
  split
  ·omega
  ·have:=Zlk f (v/128) (((128+v%128:Nat):Int)::l)
   rw[List.length_cons] at this;omega
def Za8 (L:List Int):List Nat:=(L.getD 1 0+40*L.getD 0 0).toNat::(L.drop 2).map Int.toNat
def Za6 (L:List Int):Except Nat (List Int) :=
 if L.length<2∨16<L.length∨2<L.getD 0 0∨(L.getD 0 0<2∧39<L.getD 1 0) then .error 1
 else if ∃ j,j<L.length∧4294967295<L.getD j 0 then .error 1
 else .ok (b7s (Za8 L))
def wrd (L:List Int):Prop:=∀ j,0≤L.getD j 0∧L.getD j 0<18446744073709551616
theorem Zll:∀ (A B:List Nat),b7s (A++B)=b7s A++b7s B
 | [],B=>by rw[b7s];rfl
 | a::A,B=>by rw[List.cons_append,b7s,b7s,Zll A B,List.append_assoc]
theorem ZgE {vs:List Nat} {k:Nat} (h:k<vs.length):b7s (vs.take (k+1))=b7s (vs.take k)++b7 (vs.getD k 0):=by
 rw[List.take_add_one,Zll]
 congr 1
 rw[List.getElem?_eq_getElem h,List.getD_eq_getElem?_getD,List.getElem?_eq_getElem h];simp[b7s]
theorem Zi7 (v:Nat):(b7 v).length≤10:=by
 have:=Zlk 9 (v/128) [((v%128:Nat):Int)];rw[List.length_singleton] at this;unfold b7;omega
theorem ZgD:∀ vs:List Nat,(b7s vs).length≤10*vs.length
 | []=>by simp[b7s]
 | v::vs=>by
  have h1:=Zi7 v;have h2:=ZgD vs;rw[b7s,List.length_append,List.length_cons];omega
theorem Zce {L:List Int} (h:2≤L.length):(Za8 L).length=L.length-1:=by
 simp[Za8];omega
theorem Zi0 {L:List Int} {i:Nat} (h:0<i) (hi:i<L.length):(Za8 L).getD (i-1) 0=if i=1 then (L.getD 1 0+40*L.getD 0 0).toNat else (L.getD i 0).toNat:=by
 unfold Za8
 by_cases k:i=1
 ·subst k;rfl
 ·rw[if_neg k,show i-1=(i-2)+1 by omega,List.getD_cons_succ,List.getD_eq_getElem?_getD,List.getD_eq_getElem?_getD,List.getElem?_map,List.getElem?_drop,show 2+(i-2)=i by omega,List.getElem?_eq_getElem hi]
  rfl
theorem ZoE {L:List Int} (h:2≤L.length):L=L.getD 0 0::L.getD 1 0::L.drop 2:=by
 match L,h with
 | a::b::L,_=>rfl
theorem ZoT {L B:List Int} (w:wrd L) (h:Za6 L=.ok B):Zfk B=.ok L:=by
 unfold Za6 at h
 by_cases c:L.length<2∨16<L.length∨2<L.getD 0 0∨(L.getD 0 0<2∧39<L.getD 1 0)
 ·rw[if_pos c] at h;cases h
 rw[if_neg c] at h
 by_cases d:∃ j,j<L.length∧4294967295<L.getD j 0
 ·rw[if_pos d] at h;cases h
 rw[if_neg d] at h
 cases h
 have hl:2≤L.length:=by omega
 have w0:=w 0;have w1:=w 1;have d0:¬ 4294967295<L.getD 0 0:=fun k=>d ⟨0,by omega,k⟩;have d1:¬ 4294967295<L.getD 1 0:=fun k=>d ⟨1,by omega,k⟩;have hd:∀ j,j<L.length→¬ 4294967295<L.getD j 0:=fun j hj k=>d ⟨j,hj,k⟩;have small:∀ v,v∈Za8 L→v≤4294967375:=by
  intro v hv;unfold Za8 at hv;rcases List.mem_cons.1 hv with e|e
  ·omega
  ·obtain ⟨x,hx,rfl⟩:=List.mem_map.1 e
   obtain⟨k,hk,e2⟩:=List.mem_iff_getElem.1 hx;rw[List.getElem_drop] at e2;have:=hd (2+k) (by rw[List.length_drop] at hk;omega);rw[List.getD_eq_getElem?_getD,List.getElem?_eq_getElem (by rw[List.length_drop] at hk;omega),Option.getD_some,e2] at this;omega
 have hm:(Za8 L).map (fun v:Nat=>(v:Int))=(L.getD 1 0+40*L.getD 0 0)::L.drop 2:=by
  unfold Za8;rw[List.map_cons,List.map_map]
  congr 1
  ·omega
  ·apply List.ext_getElem?
   intro j;rw[List.getElem?_map]
   by_cases hj:j<(L.drop 2).length
   ·have e:=w (2+j)
    rw[List.getElem?_eq_getElem hj,Option.map_some,Option.some.injEq];rw[List.length_drop] at hj;rw[List.getD_eq_getElem?_getD,List.getElem?_eq_getElem (show 2+j<L.length by omega),Option.getD_some] at e;simp only[Function.comp,List.getElem_drop];omega
   ·rw[List.getElem?_eq_none (by omega)]
    rfl
 unfold Zfk;rw[ZmT _ _ small,hm,List.nil_append,Zb2,if_neg (by simp)];show Zdw _=_;unfold Zdw;have f2:ZbK (L.getD 1 0+40*L.getD 0 0)=[L.getD 0 0,L.getD 1 0]:=by
  unfold ZbK
  by_cases k0:L.getD 0 0=0
  ·rw[if_pos (by omega),k0];congr 2;omega
  ·by_cases k1:L.getD 0 0=1
   ·rw[if_neg (by omega),if_pos (by omega),k1];congr 2;omega
   ·have k2:L.getD 0 0=2:=by omega
    rw[if_neg (by omega),if_neg (by omega),k2];congr 2;omega
 have g0:((L.getD 1 0+40*L.getD 0 0)::L.drop 2).getD 0 0=L.getD 1 0+40*L.getD 0 0:=rfl;have dr:((L.getD 1 0+40*L.getD 0 0)::L.drop 2).drop 1=L.drop 2:=rfl;have ee:[L.getD 0 0,L.getD 1 0]++L.drop 2=L:=(ZoE hl).symm;rw[g0,dr,f2,ee,if_neg,if_neg (by omega)];rintro (k|⟨j,k1,k2,k3⟩)
 ·omega
 ·have ej:j=(j-1)+1:=by omega
  rw[ej,List.getD_cons_succ,List.getD_eq_getElem?_getD,List.getElem?_drop,← List.getD_eq_getElem?_getD] at k3;rw[List.length_cons,List.length_drop] at k1;exact hd _ (by omega) k3
def okF:List Int→Bool→Bool
 | [],beg=>beg
 | x::xs,beg=>if beg=true∧x=128 then false else okF xs (decide (x<128))
theorem ZiK:∀ (B l:List Int) (v:Int) (beg:Bool),okF B beg=false→Zb2 B l v beg=.error 7
 | [],l,v,beg,h=>by
  rw[okF] at h;rw[Zb2,if_pos (.inl h)]
 | x::xs,l,v,beg,h=>by
  rw[okF] at h;rw[Zb2]
  by_cases c:beg=true∧x=128
  ·rw[if_pos c]
  ·rw[if_neg c] at h ⊢
   by_cases d:x<128
   ·rw[decide_eq_true d] at h
    rw[if_pos d];exact ZiK xs _ _ _ h
   ·rw[decide_eq_false d] at h
    rw[if_neg d];exact ZiK xs _ _ _ h
def Zcm:List Int→Int→Int × Nat
 | [],v=>(v,0)
 | x::xs,v=>if x<128 then (min (128*v+x%128) 1099511627776,1) else ((Zcm xs (min (128*v+x%128) 1099511627776)).1,(Zcm xs (min (128*v+x%128) 1099511627776)).2+1)
theorem Zir:∀ (B:List Int) (v:Int),(0≤v∧v≤1099511627776)→0≤(Zcm B v).1∧(Zcm B v).1≤1099511627776
 | [],_,h=>h
 | x::xs,v,h=>by
  rw[Zcm]
  split
  ·show 0≤min _ _∧min _ _≤_
   omega
  ·exact Zir xs _ (by omega)
theorem Zg8:∀ (B l:List Int) (v:Int) (beg:Bool),okF B beg=true→¬ B=[]→Zb2 B l v beg=Zb2 (B.drop (Zcm B v).2) (l++[(Zcm B v).1]) 0 true∧okF (B.drop (Zcm B v).2) true=true∧0<(Zcm B v).2
 | [],_,_,_,_,h=>absurd rfl h
 | x::xs,l,v,beg,h,_=>by
  rw[okF] at h
  by_cases c:beg=true∧x=128
  ·rw[if_pos c] at h;cases h
  ·rw[if_neg c] at h
   by_cases d:x<128
   ·rw[decide_eq_true d] at h
    have e:Zcm (x::xs) v=(min (128*v+x%128) 1099511627776,1):=by rw[Zcm,if_pos d]
    rw[e];refine ⟨?_,h,Nat.one_pos⟩;rw[Zb2,if_neg c,if_pos d]
    rfl
   ·rw[decide_eq_false d] at h
    have e:Zcm (x::xs) v=((Zcm xs (min (128*v+x%128) 1099511627776)).1,(Zcm xs (min (128*v+x%128) 1099511627776)).2+1):=by rw[Zcm,if_neg d]
    have hx:¬ xs=[]:=fun k=>by rw[k,okF] at h;cases h
    have ih:=Zg8 xs l (min (128*v+x%128) 1099511627776) false h hx;rw[e];refine ⟨?_,by rw[List.drop_succ_cons];exact ih.2.1,Nat.succ_pos _⟩;rw[Zb2,if_neg c,if_neg d,List.drop_succ_cons];exact ih.1
theorem ZdE {B:List Int} {i:Nat} (h:i<B.length):B.drop i=B.getD i 0::B.drop (i+1):=by
 rw[List.drop_eq_getElem_cons h];simp[List.getD_eq_getElem?_getD,h]
theorem ZoU {B:List Int} {i:Nat} {beg:Bool} (h:i<B.length) (hn:¬ (beg=true∧B.getD i 0=128)):okF (B.drop i) beg=okF (B.drop (i+1)) (decide (B.getD i 0<128)):=by
 rw[ZdE h,okF,if_neg hn]
theorem ZoV {B:List Int} {i:Nat} (h:i<B.length) (hn:B.getD i 0=128):okF (B.drop i) true=false:=by
 rw[ZdE h,okF,if_pos ⟨rfl,hn⟩]
theorem ZlT {B:List Int} {i:Nat} {v:Int} (h:i<B.length) (hn:¬ B.getD i 0<128):Zcm (B.drop i) v=((Zcm (B.drop (i+1)) (min (128*v+B.getD i 0%128) 1099511627776)).1,(Zcm (B.drop (i+1)) (min (128*v+B.getD i 0%128) 1099511627776)).2+1):=by
 rw[ZdE h,Zcm,if_neg hn]
theorem ZlU {B:List Int} {i:Nat} {v:Int} (h:i<B.length) (hn:B.getD i 0<128):Zcm (B.drop i) v=(min (128*v+B.getD i 0%128) 1099511627776,1):=by
 rw[ZdE h,Zcm,if_pos hn]
def loF:Nat→Nat→List Int
 | 0,_=>[]
 | f+1,u=>if u=0 then [] else ((128+u%128:Nat):Int)::loF f (u/128)
theorem Zmj:∀ (f u:Nat) (l:List Int),b7F f u l=(loF f u).reverse++l
 | 0,_,l=>by rw[b7F,loF];rfl
 | f+1,u,l=>by
  rw[b7F,loF]
  split
  ·rfl
  ·rw[Zmj f (u/128),List.reverse_cons,List.append_assoc]
   rfl
theorem b7_rev (v:Nat):b7 v=(((v%128:Nat):Int)::loF 9 (v/128)).reverse:=by
 unfold b7;rw[Zmj,List.reverse_cons]
theorem loF_0 (f:Nat):loF f 0=[]:=by
 cases f with
 | zero=>rfl
 | succ f=>rw[loF,if_pos rfl]
theorem ZoF {f u:Nat} (h:0<u):loF (f+1) u=((128+u%128:Nat):Int)::loF f (u/128):=by rw[loF,if_neg (by omega)]
theorem ZmR:∀ (k:Nat) (R L:List Int),R.length≤k→okF R true=true→0<L.length→∃ m,Zb2 R L 0 true=.ok (L++m)
 | 0,R,L,hk,_,hL=>by
  obtain rfl:R=[]:=List.eq_nil_of_length_eq_zero (by omega);exact ⟨[],by rw[Zb2,if_neg (by rintro (h|h);cases h;omega),List.append_nil]⟩
 | k+1,R,L,hk,h,hL=>by
  by_cases e:R=[]
  ·subst e
   exact⟨[],by rw[Zb2,if_neg (by rintro (h|h);cases h;omega),List.append_nil]⟩
  ·obtain ⟨h1,h2,h3⟩:=Zg8 R L 0 true h e
   obtain⟨m,hm⟩:=ZmR k (R.drop (Zcm R 0).2) (L++[(Zcm R 0).1]) (by rw[List.length_drop];omega) h2 (by simp);exact ⟨(Zcm R 0).1::m,by rw[h1,hm,List.append_assoc];rfl⟩
theorem Zdq {L m:List Int} {j:Nat} (hj:j<L.length):(L++m).getD j 0=L.getD j 0:=by
 simp[List.getD_eq_getElem?_getD,List.getElem?_append_left hj]
theorem Zmy {B R L:List Int} {j:Nat} (hE:Zb2 B [] 0 true=Zb2 R L 0 true) (hk:okF R true=true) (hj:j<L.length) (h:(j=0∧4294967375<L.getD j 0)∨(0<j∧4294967295<L.getD j 0)):Zfk B=.error 3:=by
 obtain⟨m,hm⟩:=ZmR R.length R L (Nat.le_refl _) hk (by omega);unfold Zfk;rw[hE,hm];show Zdw (L++m)=_;unfold Zdw;rw[if_pos];rcases h with ⟨rfl,h⟩|⟨h1,h2⟩
 ·exact .inl (by rw[Zdq hj];exact h)
 ·exact .inr ⟨j,by rw[List.length_append];omega,h1,by rw[Zdq hj];exact h2⟩
def Zf7 (L:List Int):Prop:=¬ 4294967375<L.getD 0 0∧∀ j,j<L.length→0<j→¬ 4294967295<L.getD j 0
theorem Zf7.one {x:Int} (h:¬ 4294967375<x):Zf7 [x]:=⟨h,fun j h1 h2=>absurd h1 (by show ¬ j<1;omega)⟩
theorem ZhL {L:List Int} {n:Int}:(L++[n]).getD L.length 0=n:=by simp[List.getD_eq_getElem?_getD]
theorem Zf7.add {L:List Int} {n:Int} (h:Zf7 L) (h0:0<L.length) (hn:¬ 4294967295<n):Zf7 (L++[n]):=by
 refine⟨by rw[Zdq h0];exact h.1,fun j h1 h2=>?_⟩
 by_cases k:j<L.length
 ·rw[Zdq k];exact h.2 j k h2
 ·rw[List.length_append] at h1
  replace h1:j<L.length+1:=h1;rw[show j=L.length by omega,ZhL];exact hn
def ZeA (L:List Int):List Int:=(ZbK (L.getD 0 0)++L.drop 1).take 17
theorem Zkw (x:Int):(ZbK x).length=2:=by
 unfold ZbK
 split
 ·rfl
 ·split<;>rfl
theorem Zn5 {x:Int}:ZeA [x]=ZbK x:=by
 unfold ZeA;show (ZbK x++[]).take 17=_;rw[List.append_nil,List.take_of_length_le (by rw[Zkw];omega)]
theorem Zn4 {L:List Int} {n:Int} (h0:0<L.length):ZeA (L++[n])=if (ZeA L).length≤16 then ZeA L++[n] else ZeA L:=by
 have e:ZbK ((L++[n]).getD 0 0)++(L++[n]).drop 1=(ZbK (L.getD 0 0)++L.drop 1)++[n]:=by
  rw[Zdq h0,List.drop_append_of_le_length h0,List.append_assoc]
 unfold ZeA;rw[e];generalize ZbK (L.getD 0 0)++L.drop 1=F
 by_cases c:F.length≤16
 ·rw[List.take_of_length_le (by rw[List.length_append];show F.length+1≤17;omega),List.take_of_length_le (by omega),if_pos c]
 ·rw[if_neg (by rw[List.length_take];omega),List.take_append_of_le_length (by omega)]
theorem ZqT {B L:List Int} (hE:Zb2 B [] 0 true=Zb2 [] L 0 true) (hL:0<L.length) (h:Zf7 L):Zfk B=if 16<(ZeA L).length then .error 2 else .ok (ZeA L):=by
 unfold Zfk;rw[hE,Zb2,if_neg (by rintro (h|h);cases h;omega)];show Zdw L=_;unfold Zdw;rw[if_neg (by
  rintro(k|⟨j,k1,k2,k3⟩)
  ·exact h.1 k
  ·exact h.2 j k1 k2 k3)]
 unfold ZeA;generalize ZbK (L.getD 0 0)++L.drop 1=F
 by_cases c:16<F.length
 ·rw[if_pos c,if_pos (by rw[List.length_take];omega)]
 ·rw[if_neg c,if_neg (by rw[List.length_take];omega),List.take_of_length_le (by omega)]
theorem ZqV {B:List Int} (h:(okF B true && decide (0<B.length))=false):Zfk B=.error 7:=by
 unfold Zfk
 by_cases c:okF B true=true
 ·rw[c,Bool.true_and,decide_eq_false_iff_not] at h
  obtain rfl:B=[]:=List.eq_nil_of_length_eq_zero (by omega)
  rfl
 ·rw[ZiK B [] 0 true (by simpa using c)]
theorem ZqW {B:List Int} (h:(okF B true && decide (0<B.length))=true):Zb2 B [] 0 true=Zb2 (B.drop (Zcm B 0).2) [(Zcm B 0).1] 0 true∧okF (B.drop (Zcm B 0).2) true=true:=by
 rw[Bool.and_eq_true,decide_eq_true_iff] at h;obtain ⟨h1,h2,_⟩:=Zg8 B [] 0 true h.1 (fun k=>by rw[k] at h;simp at h);exact ⟨h1,h2⟩
theorem Zol {R L:List Int} (h:okF R true=true) (h0:0<R.length):Zb2 R L 0 true=Zb2 (R.drop (Zcm R 0).2) (L++[(Zcm R 0).1]) 0 true∧okF (R.drop (Zcm R 0).2) true=true∧(R.drop (Zcm R 0).2).length<R.length:=by
 obtain⟨h1,h2,h3⟩:=Zg8 R L 0 true h (fun k=>by rw[k] at h0;simp at h0);exact ⟨h1,h2,by rw[List.length_drop];omega⟩
theorem Zl7 {f r d:Nat} (hr:min (f/40) 2=r) (hd:f-40*r=d):ZbK (f:Int)=[(r:Int),(d:Int)]:=by
 unfold ZbK
 by_cases c0:f<40
 ·rw[if_pos (by omega),show r=0 by omega,show d=f by omega];rfl
 ·by_cases c1:f<80
  ·rw[if_neg (by omega),if_pos (by omega),show r=1 by omega]
   congr 2
   omega
  ·rw[if_neg (by omega),if_neg (by omega),show r=2 by omega]
   congr 2
   omega
end Go.Proofs.YtohcdbifhnfcbaaGreatDoor
