import Derived.Test.YtdfmoghjimghhaaGreatDoorBase
import Derived.Test.YtdfmoghjimghhaaGreatDoorLBytes
import Derived.Test.YtdfmoghjimghhaaGreatDoorDrTG
import Derived.Test.YtdfmoghjimghhaaGreatDoorCRef
import Derived.Test.YtdfmoghjimghhaaGreatDoorRefA
import Derived.Test.YtdfmoghjimghhaaGreatDoorCCode
import Derived.Test.YtdfmoghjimghhaaGreatDoorRows
import Derived.Deep.OwnRows
import Derived.Deep.AppendLies
import Derived.Deep.WholeRow
import Derived.Deep.RegionHeld3
import Derived.Deep.DeepCutAuto
import Derived.Deep.DeepFit
import Derived.Great.BuildSlice
import Derived.Laws.Rows
import Derived.Laws.StructEq
import Derived.Laws.BytesArg
namespace Go.Proofs.YtdfmoghjimghhaaGreatDoor
open Go.RowKit
def Za4:List Int→List Int
 | []=>[]
 | x::xs=>if x=0 then Za4 xs else x::xs
def ZdB:List Int→Nat
 | []=>0
 | x::xs=>if x=0 then ZdB xs+1 else 0
theorem Zf1:∀ N:List Int,ZdB N≤N.length
 | []=>Nat.le_refl _
 | x::xs=>by
  rw[ZdB,List.length_cons]
  split
  ·have:=Zf1 xs;omega
  ·omega
theorem ZcE:∀ N:List Int,Za4 N=N.drop (ZdB N)
 | []=>rfl
 | x::xs=>by
  rw[Za4,ZdB]
  split
  ·rw[List.drop_succ_cons];exact ZcE xs
  ·rfl
theorem Ze2:∀ (N:List Int) (i:Nat),i<ZdB N→N.getD i 0=0
 | [],i,h=>by simp[ZdB] at h
 | x::xs,i,h=>by
  rw[ZdB] at h
  split at h
  ·rename_i hx
   cases i with
   | zero=>exact hx
   | succ i=>rw[List.getD_cons_succ];exact Ze2 xs i (by omega)
  ·omega
theorem Zee:∀ (N:List Int),ZdB N<N.length→¬ N.getD (ZdB N) 0=0
 | [],h=>by simp at h
 | x::xs,h=>by
  rw[ZdB] at h ⊢
  by_cases hx:x=0
  ·rw[if_pos hx] at h ⊢
   rw[List.getD_cons_succ];exact Zee xs (by simpa using h)
  ·rw[if_neg hx,List.getD_cons_zero]
   exact hx
theorem Zjl {N:List Int} (h:0<N.length→¬ N.getD 0 0=0):Za4 N=N:=by
 cases N with
 | nil=>rfl
 | cons x xs=>rw[Za4,if_neg (show ¬ x=0 from h (by simp))]
theorem Zcc {B:List Int} (h:byt B) (r:Nat):byt (B.drop r):=fun j=>by
 rw[List.getD_eq_getElem?_getD,List.getElem?_drop,← List.getD_eq_getElem?_getD];exact h _
def Zdc (B:List Int):Except Nat (List Int) :=
 if B.length=0∨127<B.getD 0 0∨(1<B.length∧B.getD 0 0=0∧B.getD 1 0<128) then .error 7
 else if 64<(if B.getD 0 0=0 then B.drop 1 else B).length then .error 2
 else .ok (if B.getD 0 0=0 then B.drop 1 else B)
def ZaK (N:List Int):Except Nat (List Int) :=
 if 64<(Za4 N).length then .error 2
 else if (Za4 N).length=0∨127<(Za4 N).getD 0 0 then .ok ((0:Int)::Za4 N)
 else .ok (Za4 N)
def beW:List Int→Int→Int
 | [],v=>v
 | x::xs,v=>beW xs (256*v+x)
theorem ZnR:∀ (X:List Int) (v:Int),byt X→0≤v→v≤beW X v
 | [],v,_,_=>Int.le_refl _
 | x::xs,v,hb,hv=>by
  have h0:=hb 0;rw[List.getD_cons_zero] at h0;have:=ZnR xs (256*v+x) (fun j=>by have:=hb (j+1);rwa [List.getD_cons_succ] at this) (by omega);rw[beW];omega
def Zet (B:List Int):Except Nat Int :=
 match Zdc B with
 | .error c=>.error c
 | .ok n=>if 2147483647<beW n 0 then .error 3 else .ok (beW n 0)
def ZbF (B:List Int):Except Nat (List Int) :=
 if 64<B.length then .error 2 else if B.length=0 then .error 7 else if ∃ j,j<B.length∧(B.getD j 0<32∨126<B.getD j 0) then .error 7 else .ok B
def ZeW:Nat→Nat→List Int→List Int
 | 0,_,l=>l
 | f+1,n,l=>if n=0 then l else ZeW f (n/256) (((n%256:Nat):Int)::l)
theorem Zkl (f:Nat) (l:List Int):ZeW f 0 l=l:=by
 cases f with
 | zero=>rfl
 | succ f=>rw[ZeW,if_pos rfl]
theorem Zmp:∀ (f n:Nat) (l:List Int),n<256 ^ f→beW (ZeW f n l) 0=beW l (n:Int)
 | 0,n,l,h=>by
  have:n=0:=by simpa using h
  subst this
  rfl
 | f+1,n,l,h=>by
  rw[ZeW]
  split
  ·rename_i h0
   subst h0
   rfl
  ·rw[Zmp f (n/256) _ (by rw[Nat.pow_succ] at h;omega),beW]
   congr 1
   omega
theorem ZgG:∀ (f n:Nat) (l:List Int),n<256 ^ f→0<n→¬ (ZeW f n l).getD 0 0=0
 | 0,n,l,h,h0=>by simp at h;omega
 | f+1,n,l,h,h0=>by
  rw[ZeW,if_neg (by omega)]
  by_cases c:n/256=0
  ·rw[c,Zkl,List.getD_cons_zero]
   omega
  ·exact ZgG f (n/256) _ (by rw[Nat.pow_succ] at h;omega) (by omega)
theorem ZdT:∀ (f n:Nat) (l:List Int),(ZeW f n l).length≤f+l.length
 | 0,_,_=>by rw[ZeW];omega
 | f+1,n,l=>by
  rw[ZeW]
  split
  ·omega
  ·have:=ZdT f (n/256) (((n%256:Nat):Int)::l)
   rw[List.length_cons] at this;omega
def Zau (n:Int):Except Nat (List Int):=if n<0∨2147483647<n then .error 3 else ZaK (ZeW 4 n.toNat [])
theorem Zdq (w:World):(w.alloc (.cells #[] 5)).ownsRow w.heap.size 5 1 (.slice (some ⟨w.heap.size,0,none⟩) 0 0) 0 (u8s []):=Zax w [] 5 0 w.heap.size rfl (Nat.le_refl _) (by decide)
theorem Zan {w:World} {base:Nat} {e:TypeId} {v:Value} {n:Nat} {xs:List Value} {j:Nat} (h:w.ownsRow base e 1 v n xs) (hj:v.ownBlock=some j):base≤j:=by
 rcases h.2 with ⟨h1,_⟩|⟨g,c,cur,h1,h2,_⟩
 ·rw[h1] at hj;simp[Value.ownBlock] at hj
 ·rw[h1] at hj;simp[Value.ownBlock] at hj;omega
theorem ZeN {w:World} {g o n cap r m k:Nat} {ad:Option Addr} {B:List Int} (h:Bs w (.slice (some ⟨g,o,none⟩) n cap) B) (hn:B.length=n) (hr:r≤n) (hm:m=n-r) (ha:0<m→ad=some ⟨g,o+r,none⟩) (hk:k=cap-r):Bs w (.slice ad m k) (B.drop r):=by
 obtain⟨a,c,e,h1,h2,h3⟩:=h;obtain ⟨rfl,_,rfl⟩:some ⟨g,o,none⟩=a∧n=B.length∧cap=c:=by simpa using e
 have el:(B.drop r).length=m:=by rw[List.length_drop,hn,hm]
 refine⟨ad,k,by rw[el],by rw[hk];exact Nat.le_trans (Nat.sub_le _ _) h1,by rw[el,hm,hk];exact Nat.sub_le_sub_right (by rw[← hn];exact h2) r,fun h0=>?_⟩;rw[el] at h0 ⊢;obtain ⟨b',o',e',k1,k2⟩:=h3 (by rw[hn];exact Nat.lt_of_lt_of_le h0 (by rw[hm];exact Nat.sub_le _ _));simp only[Option.some.injEq,Addr.mk.injEq] at e';obtain ⟨rfl,rfl,-⟩:=e';refine ⟨g,o+r,ha h0,k1,fun j hj=>?_⟩;rw[Nat.add_assoc,k2 (r+j) (by omega),List.getD_eq_getElem?_getD,List.getD_eq_getElem?_getD,List.getElem?_drop]
def ZbR (w:World) (v:Value):Prop:=∀ (a:Addr) (n c:Nat),v=.slice (some a) n c→0<n→w.heap.size≤a.block
theorem ZbR.of_own {w w':World} {e:TypeId} {size:Nat} {v:Value} {n:Nat} {xs:List Value} (h:w'.ownsRow w.heap.size e size v n xs):ZbR w v:=fun a m c e _=>by
 rcases h.2 with ⟨h1,_⟩|⟨g,cap,cur,h1,h2,_⟩
 ·rw[h1] at e
  cases e
 ·rw[h1] at e
  simp only[Value.slice.injEq,Option.some.injEq] at e;rw[← e.1];exact h2
theorem ZbR.upN {w w':World} {v:Value} (h:ZbR w' v) (hs:w.heap.size≤w'.heap.size):ZbR w v:=fun a n c e h0=>Nat.le_trans hs (h a n c e h0)
def b7F:Nat→Nat→List Int→List Int
 | 0,_,l=>l
 | f+1,v,l=>if v=0 then l else b7F f (v/128) (((128+v%128:Nat):Int)::l)
def b7 (v:Nat):List Int:=b7F 9 (v/128) [((v%128:Nat):Int)]
theorem Zl7 (f:Nat) (l:List Int):b7F f 0 l=l:=by
 cases f with
 | zero=>rfl
 | succ f=>rw[b7F,if_pos rfl]
def b7s:List Nat→List Int
 | []=>[]
 | v::vs=>b7 v++b7s vs
theorem ZjJ:∀ (f v:Nat) (l:List Int),(b7F f v l).length≤f+l.length
 | 0,_,_=>by rw[b7F];omega
 | f+1,v,l=>by
  rw[b7F]
  split
  ·omega
  ·have:=ZjJ f (v/128) (((128+v%128:Nat):Int)::l)
   rw[List.length_cons] at this;omega
def Za5 (L:List Int):List Nat:=(L.getD 1 0+40*L.getD 0 0).toNat::(L.drop 2).map Int.toNat
def ZaD (L:List Int):Except Nat (List Int) :=
 if L.length<2∨16<L.length∨2<L.getD 0 0∨(L.getD 0 0<2∧39<L.getD 1 0) then .error 1
 else if ∃ j,j<L.length∧4294967295<L.getD j 0 then .error 1
 else .ok (b7s (Za5 L))
def wrd (L:List Int):Prop:=∀ j,0≤L.getD j 0∧L.getD j 0<18446744073709551616
theorem ZjK:∀ (A B:List Nat),b7s (A++B)=b7s A++b7s B
 | [],B=>by rw[b7s];rfl
 | a::A,B=>by rw[List.cons_append,b7s,b7s,ZjK A B,List.append_assoc]
theorem ZfR {vs:List Nat} {k:Nat} (h:k<vs.length):b7s (vs.take (k+1))=b7s (vs.take k)++b7 (vs.getD k 0):=by
 rw[List.take_add_one,ZjK]
 congr 1
 rw[List.getElem?_eq_getElem h,List.getD_eq_getElem?_getD,List.getElem?_eq_getElem h];simp[b7s]
theorem Zh2 (v:Nat):(b7 v).length≤10:=by
 have:=ZjJ 9 (v/128) [((v%128:Nat):Int)];rw[List.length_singleton] at this;unfold b7;omega
theorem ZfQ:∀ vs:List Nat,(b7s vs).length≤10*vs.length
 | []=>by simp[b7s]
 | v::vs=>by
  have h1:=Zh2 v;have h2:=ZfQ vs;rw[b7s,List.length_append,List.length_cons];omega
theorem ZbS {L:List Int} (h:2≤L.length):(Za5 L).length=L.length-1:=by
 simp[Za5];omega
theorem ZhX {L:List Int} {i:Nat} (h:0<i) (hi:i<L.length):(Za5 L).getD (i-1) 0=if i=1 then (L.getD 1 0+40*L.getD 0 0).toNat else (L.getD i 0).toNat:=by
 unfold Za5
 by_cases k:i=1
 ·subst k;rfl
 ·rw[if_neg k,show i-1=(i-2)+1 by omega,List.getD_cons_succ,List.getD_eq_getElem?_getD,List.getD_eq_getElem?_getD,List.getElem?_map,List.getElem?_drop,show 2+(i-2)=i by omega,List.getElem?_eq_getElem hi]
  rfl
def QQ:Int:=39402006196394479212279040100143613805079739270465446667946905279627659399113263569398956308152294913554433653942643
theorem fQ:Zaz [17072048233947408755,6348401684107011962,14367412456785391071,18446744073709551615,18446744073709551615,18446744073709551615]:=Zje (by decide)
def U6 (cs:List Value) (x:Int):Prop:=∃ z0 z1 z2 z3 z4 z5:Int,cs=[.int .u64 z0,.int .u64 z1,.int .u64 z2,.int .u64 z3,.int .u64 z4,.int .u64 z5]∧Zaz [z0,z1,z2,z3,z4,z5]∧v64 [z0,z1,z2,z3,z4,z5]=x
theorem U6.mk {z0 z1 z2 z3 z4 z5:Int} (h:Zaz [z0,z1,z2,z3,z4,z5]):U6 [.int .u64 z0,.int .u64 z1,.int .u64 z2,.int .u64 z3,.int .u64 z4,.int .u64 z5] (v64 [z0,z1,z2,z3,z4,z5]):=⟨z0,z1,z2,z3,z4,z5,rfl,h,rfl⟩
theorem U6.len {cs:List Value} {x:Int} (h:U6 cs x):cs.length=6:=by
 obtain⟨z0,z1,z2,z3,z4,z5,rfl,_⟩:=h
 rfl
theorem U6.bd {cs:List Value} {x:Int} (h:U6 cs x):0≤x∧x<18446744073709551616 ^ 6:=by
 obtain⟨z0,z1,z2,z3,z4,z5,rfl,hf,rfl⟩:=h;exact ZaN _ rfl hf
def isSc (x:Int):Prop:=1≤x∧x<QQ
instance (x:Int):Decidable (isSc x):=by unfold isSc;exact inferInstance
theorem conv_s {w:World} {b o n cap:Nat} {bs:List Int} (h:Bs w (.slice (some ⟨b,o,none⟩) n cap) bs) (hn:0<n):(convert 22 9 (.slice (some ⟨b,o,none⟩) n cap)).run Tryz.prog w=.ok (.string (strOfNums bs)) w:=by
 obtain⟨ao,c,e,-,-,h4⟩:=h;simp only[Value.slice.injEq] at e;obtain ⟨rfl,rfl,rfl⟩:=e;obtain ⟨b',o',e',-,h6⟩:=h4 hn;simp only[Option.some.injEq,Addr.mk.injEq] at e';obtain ⟨rfl,rfl,-⟩:=e';exact run_convert_bytes_arg w 22 5 Tryz.underlying22 Tryz.underlying5 b o bs.length _ bs rfl h6 9 Tryz.underlying9
theorem Bs.form {w:World} {v:Value} {bs:List Int} (h:Bs w v bs) (h0:0<bs.length):∃ b o cap,v=.slice (some ⟨b,o,none⟩) bs.length cap∧bs.length≤cap∧cap≤maxLen:=by
 obtain⟨ao,cap,e,h1,h2,h3⟩:=h;obtain ⟨b,o,rfl,_⟩:=h3 h0;exact ⟨b,o,cap,e,h2,h1⟩
theorem ZdS {w:World} {v:Value} {bs:List Int} (h:Bs w v bs):(convert 22 9 v).run Tryz.prog w=.ok (.string (strOfNums bs)) w:=by
 by_cases h0:0<bs.length
 ·obtain ⟨b,o,cap,rfl,_,_⟩:=h.form h0
  exact conv_s h h0
 ·obtain rfl:bs=[]:=List.eq_nil_of_length_eq_zero (by omega)
  obtain⟨ao,cap,rfl,_,_,_⟩:=h
  cases ao<;>kernel_rfl
abbrev Pn:=Int × List Int
def Zb3 (w:World) (v:Value) (n:List Pn):Prop:=∃ ao cap,v=.slice ao n.length cap∧n.length≤cap∧cap≤maxLen∧(0<n.length→∃ b o,ao=some ⟨b,o,none⟩∧b<w.heap.size∧∀ i p,n[i]?=some p→w.cell? ⟨b,o+i*2,none⟩=some (.int .i64 p.1)∧w.cell? ⟨b,o+i*2+1,none⟩=some (.string (strOfNums p.2)))
def WfN (n:List Pn):Prop:=∀ (i:Nat) (p:Pn),n[i]?=some p→(-9223372036854775808≤p.1∧p.1<9223372036854775808)∧byt p.2∧p.2.length≤maxLen
theorem Zb3.later {w w':World} {v:Value} {n:List Pn} (h:Zb3 w v n) (hb:Below w.heap.size w w'):Zb3 w' v n:=by
 obtain⟨ao,cap,e,h1,h2,h3⟩:=h;refine ⟨ao,cap,e,h1,h2,fun h0=>?_⟩;obtain ⟨b,o,e2,hl,hc⟩:=h3 h0;exact ⟨b,o,e2,Nat.lt_of_lt_of_le hl hb.size,fun i p hp=>⟨(hb.cell (p:=⟨b,o+i*2,none⟩) hl).trans (hc i p hp).1,(hb.cell (p:=⟨b,o+i*2+1,none⟩) hl).trans (hc i p hp).2⟩⟩
theorem Zb3.nil0 (w:World):Zb3 w (.slice none 0 0) []:=⟨_,_,rfl,Nat.le_refl _,by decide,fun h=>absurd h (by decide)⟩
def Us (w:World) (v:Value) (L:List Int):Prop :=
 ∃ ao cap,v=.slice ao L.length cap∧cap≤maxLen∧L.length≤cap∧(0<L.length→∃ b o,ao=some ⟨b,o,none⟩∧b<w.heap.size∧∀ j,j<L.length→w.cell? ⟨b,o+j,none⟩=some (.int .u64 (L.getD j 0)))
theorem Us.later {w w':World} {v:Value} {L:List Int} (h:Us w v L) (hb:Below w.heap.size w w'):Us w' v L:=by
 obtain⟨ao,cap,h1,h2,h3,h4⟩:=h;refine ⟨ao,cap,h1,h2,h3,fun hp=>?_⟩;obtain ⟨b,o,e1,e2,e3⟩:=h4 hp;exact ⟨b,o,e1,Nat.lt_of_lt_of_le e2 hb.size,fun j hj=>(hb.cell e2).trans (e3 j hj)⟩
theorem Zpb (w:World):Us w (.slice none 0 0) []:=⟨none,0,rfl,by decide,Nat.le_refl _,fun h=>absurd h (by decide)⟩
theorem Zhc {w:World} {g q:Nat} {P:List Int} (B:Blk w g (us P)) (l:P.length=q) (h:q≤maxLen):Us w (.slice (some ⟨g,0,none⟩) q q) P :=
 ⟨some ⟨g,0,none⟩,q,by rw[l],h,by omega,fun _=>⟨g,0,rfl,B.lt,fun j hj=>by rw[Nat.zero_add];exact B.cell j _ (ZaO P j hj)⟩⟩
def ZiS {α:Type} (P:World→Value→α→Prop) (w:World) (v:Value) (L:List α):Prop:=∃ ao cap,v=.slice ao L.length cap∧L.length≤cap∧cap≤maxLen∧(0<L.length→∃ b o,ao=some ⟨b,o,none⟩∧b<w.heap.size∧∀ i x,L[i]?=some x→∃ u,w.cell? ⟨b,o+i,none⟩=some u∧P w u x)
theorem ZiS.later {α:Type} {P:World→Value→α→Prop} (hP:∀ {w w':World} {u:Value} {x:α},P w u x→Below w.heap.size w w'→P w' u x) {w w':World} {v:Value} {L:List α} (h:ZiS P w v L) (hb:Below w.heap.size w w'):ZiS P w' v L:=by
 obtain⟨ao,cap,e,h1,h2,h3⟩:=h;refine ⟨ao,cap,e,h1,h2,fun h0=>?_⟩;obtain ⟨b,o,e2,hl,hc⟩:=h3 h0;refine ⟨b,o,e2,Nat.lt_of_lt_of_le hl hb.size,fun i x hx=>?_⟩;obtain ⟨u,k1,k2⟩:=hc i x hx;exact ⟨u,(hb.cell (p:=⟨b,o+i,none⟩) hl).trans k1,hP k2 hb⟩
theorem ZiS.nil0 {α:Type} {P:World→Value→α→Prop} (w:World):ZiS P w (.slice none 0 0) []:=⟨none,0,rfl,Nat.zero_le _,Nat.zero_le _,fun h=>absurd h (Nat.lt_irrefl 0)⟩
def Zgo (w:World) (v:Value) (L:List (List Int)):Prop:=ZiS Us w v L
def ZcY (w:World) (v:Value) (L:List (List Pn)):Prop:=ZiS Zb3 w v L
theorem Zgo.later {w w':World} {v:Value} {L:List (List Int)} (h:Zgo w v L) (hb:Below w.heap.size w w'):Zgo w' v L:=ZiS.later (P:=Us) (fun h hb=>Us.later h hb) h hb
theorem ZcY.later {w w':World} {v:Value} {L:List (List Pn)} (h:ZcY w v L) (hb:Below w.heap.size w w'):ZcY w' v L:=ZiS.later (P:=Zb3) (fun h hb=>Zb3.later h hb) h hb
structure Ct where
 serial:List Int
 issuer:List Pn
 subject:List Pn
 frm:Int
 til:Int
 kx:Int
 ky:Int
 kn:Bool
 ca:Bool
 path:Int
 usage:Int
 uses:List (List Int)
 permit:List (List Pn)
 exclude:List (List Pn)
 odd:Bool
 body:List Int
 sr:Int
 ss:Int
def Zkf (sv iv jv:Value) (frm til:Int) (xs ys:List Value) (kn ca:Bool) (path usage:Int) (uv pv ev:Value) (odd:Bool) (bv:Value) (rs zs:List Value):List Value :=
 [sv,iv,jv,.int .i64 frm,.int .i64 til]++(xs++ys++[.bool kn])++[.bool ca,.int .i64 path,.int .i64 usage,uv,pv,ev,.bool odd,bv]++(rs++zs)
def Zds (w:World) (c:Ct) (cs:List Value):Prop:=∃ sv iv jv xs ys uv pv ev bv rs zs,cs=Zkf sv iv jv c.frm c.til xs ys c.kn c.ca c.path c.usage uv pv ev c.odd bv rs zs∧Bs w sv c.serial∧Zb3 w iv c.issuer∧Zb3 w jv c.subject∧U6 xs c.kx∧U6 ys c.ky∧Zgo w uv c.uses∧ZcY w pv c.permit∧ZcY w ev c.exclude∧Bs w bv c.body∧U6 rs c.sr∧U6 zs c.ss
theorem Zds.later {w w':World} {c:Ct} {cs:List Value} (h:Zds w c cs) (hb:Below w.heap.size w w'):Zds w' c cs:=by
 obtain⟨sv,iv,jv,xs,ys,uv,pv,ev,bv,rs,zs,e,h1,h2,h3,h4,h5,h6,h7,h8,h9,h10,h11⟩:=h;exact ⟨sv,iv,jv,xs,ys,uv,pv,ev,bv,rs,zs,e,h1.later hb,h2.later hb,h3.later hb,h4,h5,h6.later hb,h7.later hb,h8.later hb,h9.later hb,h10,h11⟩
theorem Zds.len {w:World} {c:Ct} {cs:List Value} (h:Zds w c cs):cs.length=38:=by
 obtain⟨sv,iv,jv,xs,ys,uv,pv,ev,bv,rs,zs,rfl,-,-,-,h4,h5,-,-,-,-,h10,h11⟩:=h;simp[Zkf,h4.len,h5.len,h10.len,h11.len]
def WfC (c:Ct):Prop:=byt c.serial∧WfN c.issuer∧WfN c.subject∧(-9223372036854775808≤c.frm∧c.frm<9223372036854775808)∧(-9223372036854775808≤c.til∧c.til<9223372036854775808)∧(-9223372036854775808≤c.path∧c.path<9223372036854775808)∧(-9223372036854775808≤c.usage∧c.usage<9223372036854775808)∧(∀ l∈c.uses,wrd l)∧(∀ n∈c.permit,WfN n)∧(∀ n∈c.exclude,WfN n)∧byt c.body
end Go.Proofs.YtdfmoghjimghhaaGreatDoor
