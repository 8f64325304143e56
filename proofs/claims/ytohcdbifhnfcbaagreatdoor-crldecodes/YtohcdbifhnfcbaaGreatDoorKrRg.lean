import Derived.Test.YtohcdbifhnfcbaaGreatDoorKdBody0
import Derived.Test.YtohcdbifhnfcbaaGreatDoorCtSize
import Derived.Test.YtohcdbifhnfcbaaGreatDoorEdDecG
import Derived.Test.YtohcdbifhnfcbaaGreatDoorNlSG
import Derived.Test.YtohcdbifhnfcbaaGreatDoorPmNG
import Derived.Test.YtohcdbifhnfcbaaGreatDoorDrDG
import Derived.Test.YtohcdbifhnfcbaaGreatDoorDrTG
import Derived.Test.YtohcdbifhnfcbaaGreatDoorKrEl
import Derived.Test.YtohcdbifhnfcbaaGreatDoorRows
import Derived.Deep.OwnRows
import Derived.Deep.AppendLies
import Derived.Great.BuildSlice
import Derived.Laws.Rows
import Derived.BigQuiet
import Derived.Deep.WholeRow
import Derived.Deep.RegionHeld3
import Derived.Deep.DeepCutAuto
import Derived.Deep.DeepFit
namespace Go.Proofs.YtohcdbifhnfcbaaGreatDoor
open Go.RowKit
open Classical
def Zf3 (er:Value):Prop:=(∃ ty pv,er=.iface ty pv)∧∀ w:World,(binOp .neq 35 er .nilIface).run Tryz.prog w=.ok (.bool true) w
theorem ZaA (c:Int):Zf3 (.iface 46 (.int .i64 c)):=⟨⟨_,_,rfl⟩,Zbh c⟩
theorem Zqw {w:World} {c p:Nat} {er:Value} (h:ZdT w c p er):Zf3 er:=⟨by rcases h with ⟨_,h⟩|⟨_,g,h,_⟩;exact ⟨_,_,h⟩;exact ⟨_,_,h⟩,h.ne⟩
def ZnQ (w:World) (r:Option (List Int)) (e:Ending) (w':World):Prop:=Below w.heap.size w w'∧(r=none→∃ er,Zf3 er∧e=.returned (.tuple #[.slice none 0 0,er]))∧(∀ n,r=some n→∃ v,e=.returned (.tuple #[v,.nilIface])∧Bs w' v n∧Zbg w v)
theorem ZnQ.bad {w w':World} {r:Option (List Int)} {er:Value} (h:r=none) (k:Zf3 er) (hb:Below w.heap.size w w'):ZnQ w r (.returned (.tuple #[.slice none 0 0,er])) w':=⟨hb,fun _=>⟨er,k,rfl⟩,fun n q=>(by rw[h] at q;cases q)⟩
theorem ZnQ.ok {w w':World} {r:Option (List Int)} {n:List Int} {v:Value} (h:r=some n) (hv:Bs w' v n) (hn:Zbg w v) (hb:Below w.heap.size w w'):ZnQ w r (.returned (.tuple #[v,.nilIface])) w':=⟨hb,fun q=>(by rw[h] at q;cases q),fun m q=>(by rw[h] at q;cases q;exact ⟨v,rfl,hv,hn⟩)⟩
def ZnW (w:World) (r:Option Int) (e:Ending) (w':World):Prop:=Below w.heap.size w w'∧(r=none→∃ er,Zf3 er∧e=.returned (.tuple #[.int .i64 0,er]))∧(∀ n,r=some n→e=.returned (.tuple #[.int .i64 n,.nilIface]))
theorem ZnW.bad {w w':World} {r:Option Int} {er:Value} (h:r=none) (k:Zf3 er) (hb:Below w.heap.size w w'):ZnW w r (.returned (.tuple #[.int .i64 0,er])) w':=⟨hb,fun _=>⟨er,k,rfl⟩,fun n q=>(by rw[h] at q;cases q)⟩
theorem ZnW.ok {w w':World} {r:Option Int} {n:Int} (h:r=some n) (hb:Below w.heap.size w w'):ZnW w r (.returned (.tuple #[.int .i64 n,.nilIface])) w':=⟨hb,fun q=>(by rw[h] at q;cases q),fun m q=>(by rw[h] at q;cases q;rfl)⟩
noncomputable def ZcX (b:List Int):Option (Int × Int):=open Classical in match Zaq b with
 | .ok T=>(match Zdl T with|some (x,y)=>if ZbL (beN x)∧ZbL (beN y) then some (beN x,beN y) else none|none=>none)
 | .error _=>none
def ZdO (w:World) (r:Option (Int × Int)) (e:Ending) (w':World):Prop:=Below w.heap.size w w'∧(r=none→∃ er,Zf3 er∧e=.returned (.tuple #[.agg #[.int .u64 0,.int .u64 0,.int .u64 0,.int .u64 0,.int .u64 0,.int .u64 0,.int .u64 0,.int .u64 0,.int .u64 0,.int .u64 0,.int .u64 0,.int .u64 0],er]))∧(∀ x y,r=some (x,y)→∃ rs ss:List Value,e=.returned (.tuple #[.agg (rs++ss).toArray,.nilIface])∧U6 rs x∧U6 ss y)
theorem ZdO.bad {w w':World} {r:Option (Int × Int)} {er:Value} (h:r=none) (k:Zf3 er) (hb:Below w.heap.size w w'):ZdO w r (.returned (.tuple #[.agg #[.int .u64 0,.int .u64 0,.int .u64 0,.int .u64 0,.int .u64 0,.int .u64 0,.int .u64 0,.int .u64 0,.int .u64 0,.int .u64 0,.int .u64 0,.int .u64 0],er])) w':=⟨hb,fun _=>⟨er,k,rfl⟩,fun x y q=>(by rw[h] at q;cases q)⟩
theorem ZdO.ok {w w':World} {r:Option (Int × Int)} {x y:Int} {rs ss:List Value} (h:r=some (x,y)) (h1:U6 rs x) (h2:U6 ss y) (hb:Below w.heap.size w w'):ZdO w r (.returned (.tuple #[.agg (rs++ss).toArray,.nilIface])) w':=⟨hb,fun q=>(by rw[h] at q;cases q),fun x' y' q=>(by rw[h] at q;cases q;exact ⟨rs,ss,rfl,h1,h2⟩)⟩
theorem Zp8 {B:List Int} {q:Nat × Nat} (h:Zaq B=.error q):ZcX B=none:=by unfold ZcX;rw[h]
theorem Ze1 {B:List Int} {T:Tl} (h:Zaq B=.ok T) (k:Zdl T=none):ZcX B=none:=by unfold ZcX;simp only[h,k]
theorem Zp9 {B x y:List Int} {T:Tl} (h:Zaq B=.ok T) (k:Zdl T=some (x,y)) (l:ZbL (beN x)∧ZbL (beN y)):ZcX B=some (beN x,beN y):=by
 unfold ZcX;simp only[h,k];rw[if_pos l]
theorem ZjI {B x y:List Int} {T:Tl} (h:Zaq B=.ok T) (k:Zdl T=some (x,y)) (l:¬ (ZbL (beN x)∧ZbL (beN y))):ZcX B=none:=by
 unfold ZcX;simp only[h,k];rw[if_neg l]
theorem u_sigD {v:Value} {B:List Int} {w:World} (G:Zex w) (hv:Bs w v B) (b:byt B):Calls Tryz.prog 78 #[v] w (ZdO w (ZcX B)):=by
 refine(Zkn G hv b).mono ?_;rintro e w' ⟨h1,h2⟩
 cases hp:Zaq B with
 | error q =>
  obtain⟨c,p⟩:=q;obtain ⟨er,rfl,her,hb⟩:=h1 c p hp;exact ZdO.bad (Zp8 hp) (Zqw her) hb
 | ok T =>
  obtain⟨h3,h4⟩:=h2 T hp
  cases hs:Zdl T with
  | none =>
   obtain⟨rfl,hb⟩:=h3 hs;exact ZdO.bad (Ze1 hp hs) (ZaA 7) hb
  | some q =>
   obtain⟨x,y⟩:=q;obtain ⟨h5,h6⟩:=h4 x y hs
   by_cases k:ZbL (beN x)∧ZbL (beN y)
   ·obtain ⟨rs,ss,rfl,u1,u2,hb⟩:=h6 k.1 k.2
    exact ZdO.ok (Zp9 hp hs k) u1 u2 hb
   ·obtain ⟨rfl,hb⟩:=h5 k
    exact ZdO.bad (ZjI hp hs k) (ZaA 3) hb
theorem ZoQ {b n:List Int} (h:Zbi b=.ok n) (h0:0<n.length):¬ n.getD 0 0=0:=by
 unfold Zbi at h
 by_cases k:b.length=0∨127<b.getD 0 0∨(1<b.length∧b.getD 0 0=0∧b.getD 1 0<128)
 ·rw[if_pos k] at h
  cases h
 ·rw[if_neg k] at h
  by_cases z:b.getD 0 0=0
  ·simp only[if_pos z] at h
   split at h
   ·cases h
   ·cases h
    rw[List.length_drop] at h0;intro e;have e2:(b.drop 1).getD 0 0=b.getD 1 0:=by
     rw[List.getD_eq_getElem?_getD,List.getElem?_drop,List.getD_eq_getElem?_getD]
    rw[e2] at e;exact k (.inr (.inr ⟨by omega,z,by omega⟩))
  ·simp only[if_neg z] at h
   split at h
   ·cases h
   ·cases h
    exact z
theorem Zdv {c t:Int} {m:Bool} {b:List Int} {ks:List Tl}:ZoO (.mk c t m b ks)=if c=0∧t=2∧m=false then okO (Zbi b) else none:=rfl
theorem Zd8 {c t:Int} {m:Bool} {b:List Int} {ks:List Tl}:ZdW (.mk c t m b ks)=if c=0∧m=false then okO (Zbz t b) else none:=rfl
theorem Zc4 {c t:Int} {m:Bool} {b:List Int} {ks:List Tl}:ZdZ (.mk c t m b ks)=if c=0∧t=3∧m=false then (match Zbd b with|.ok (x,n)=>if n=0 then some x else none|.error _=>none) else none:=rfl
theorem Zgv {b n:List Int} {ks:List Tl} (h:Zbi b=.ok n):Ze0 (.mk 0 2 false b ks)=if Zld n=true then some n else none:=by
 unfold Ze0;rw[Zdv,if_pos ⟨rfl,rfl,rfl⟩,h];show (if 0<n.length∧n.length≤20 then some n else none)=_;unfold Zld
 by_cases k:0<n.length∧n.length≤20
 ·have:=ZoQ h k.1
  rw[if_pos k,if_pos (decide_eq_true (by omega))]
 ·rw[if_neg k,if_neg (by rw[decide_eq_true_eq];omega)]
theorem Zpy {b:List Int} {ks:List Tl} {c:Nat} (h:Zbi b=.error c):Ze0 (.mk 0 2 false b ks)=none:=by
 unfold Ze0;rw[Zdv,if_pos ⟨rfl,rfl,rfl⟩,h]
 rfl
theorem Zk2 {c t:Int} {m:Bool} {b:List Int} {ks:List Tl} (h:¬ (c=0∧t=2∧m=false)):Ze0 (.mk c t m b ks)=none:=by
 unfold Ze0;rw[Zdv,if_neg h]
theorem Zk5 {t n:Int} {b:List Int} {ks:List Tl} (h:Zbz t b=.ok n):ZdW (.mk 0 t false b ks)=some n:=by
 rw[Zd8,if_pos ⟨rfl,rfl⟩,h]
 rfl
theorem ZpE {t:Int} {c:Nat} {b:List Int} {ks:List Tl} (h:Zbz t b=.error c):ZdW (.mk 0 t false b ks)=none:=by
 rw[Zd8,if_pos ⟨rfl,rfl⟩,h]
 rfl
theorem Zk4 {c t:Int} {m:Bool} {b:List Int} {ks:List Tl} (h:¬ (c=0∧m=false)):ZdW (.mk c t m b ks)=none:=by
 rw[Zd8,if_neg h]
theorem Zgb {b x:List Int} {n:Int} {ks:List Tl} (h:Zbd b=.ok (x,n)):ZdZ (.mk 0 3 false b ks)=if n=0 then some x else none:=by
 rw[Zc4,if_pos ⟨rfl,rfl,rfl⟩,h]
theorem Zn6 {b:List Int} {c:Nat} {ks:List Tl} (h:Zbd b=.error c):ZdZ (.mk 0 3 false b ks)=none:=by
 rw[Zc4,if_pos ⟨rfl,rfl,rfl⟩,h]
theorem Zj6 {c t:Int} {m:Bool} {b:List Int} {ks:List Tl} (h:¬ (c=0∧t=3∧m=false)):ZdZ (.mk c t m b ks)=none:=by
 rw[Zc4,if_neg h]
def GdT (T:Tl):Prop:=ZaK T=true∧Zct T≤16∧(Zak T).length≤1048576∧WfT T
theorem GdT.of {B:List Int} {T:Tl} (b:byt B) (h:Zaq B=.ok T):GdT T:=by
 obtain⟨e,h1,h2,h3,h4⟩:=Zg3 b h;exact ⟨h1,h2,by rw[e];exact h4,h3⟩
theorem Zfu:∀ {ks:List Tl} {i:Nat} {k:Tl},ks[i]?=some k→(Zak k).length≤(Zal ks).length
 | [],i,k,h=>by simp at h
 | x::xs,0,k,h=>by
  simp at h;subst h;rw[Zal,List.length_append];omega
 | x::xs,i+1,k,h=>by
  rw[List.getElem?_cons_succ] at h;have:=Zfu h;rw[Zal,List.length_append];omega
theorem Zgn:∀ {ks:List Tl} {i:Nat} {k:Tl},ZaE ks=true→ks[i]?=some k→ZaK k=true
 | [],i,k,_,h=>by simp at h
 | x::xs,0,k,f,h=>by
  simp at h;subst h;rw[ZaE,Bool.and_eq_true] at f;exact f.1
 | x::xs,i+1,k,f,h=>by
  rw[List.getElem?_cons_succ] at h;rw[ZaE,Bool.and_eq_true] at f;exact Zgn f.2 h
theorem ZhG:∀ {ks:List Tl} {i:Nat} {k:Tl},ks[i]?=some k→Zct k≤Zb7 ks
 | [],i,k,h=>by simp at h
 | x::xs,0,k,h=>by
  simp at h;subst h;rw[Zb7];omega
 | x::xs,i+1,k,h=>by
  rw[List.getElem?_cons_succ] at h;have:=ZhG h;rw[Zb7];omega
theorem GdT.kid {c t:Int} {m:Bool} {b:List Int} {ks:List Tl} {i:Nat} {k:Tl} (h:GdT (.mk c t m b ks)) (hk:ks[i]?=some k):GdT k:=by
 obtain⟨h1,h2,h3,h4⟩:=h;rw[ZaK,Bool.and_eq_true] at h1;rw[Zct] at h2;rw[ZaL] at h3;rw[WfT] at h4;have:=ZhG hk;have:=Zfu hk;exact ⟨Zgn h1.2 hk,by omega,by rw[List.length_append] at h3;omega,h4.2.2.2.get hk⟩
theorem GdT.body {c t:Int} {m:Bool} {b:List Int} {ks:List Tl} (h:GdT (.mk c t m b ks)):b.length≤1048576:=by
 have h3:=h.2.2.1;rw[ZaL,List.length_append] at h3;omega
theorem GdT.wf {T:Tl} (h:GdT T):WfT T:=h.2.2.2
theorem GdT.wr {T:Tl} (h:GdT T):wrN T=0:=by
 unfold wrN;rw[if_pos h.1,if_neg (by have:=h.2.1;omega),if_neg (by have:=h.2.2.1;omega)]
mutual
theorem Zqa:∀ T:Tl,2*szT T≤(Zak T).length
 | .mk c t m b ks=>by
  have hz:=Znr ks;have hp:=Zen (b++Zal ks).length;rw[szT,ZaL,List.length_append];rw[List.length_append] at hp;omega
theorem Znr:∀ ks:List Tl,2*szL ks≤(Zal ks).length
 | []=>by rw[szL];omega
 | k::ks=>by
  have h1:=Zqa k;have h2:=Znr ks;rw[szL,Zal,List.length_append];omega
end
theorem GdT.sz {T:Tl} (h:GdT T):szT T≤1000000:=by
 have:=Zqa T;have:=h.2.2.1;omega
def SigB (r s:Int) (X Y x y:List Int):Prop:=Is48 X r∧Is48 Y s∧ZaG X=.ok x∧ZaG Y=.ok y
def ZgR:Tl→Option Gn
 | .mk c t m _ [s,u]=>if c=0∧t=16∧m=true then (Ze0 s).bind fun n=>(ZdW u).bind fun v=>some (n,v) else none
 | _=>none
def Za5:Tl→Option (List Gn)
 | .mk c t m _ ks=>if (c=0∧t=16∧m=true)∧0<ks.length∧ks.length≤64 then ks.mapM ZgR else none
noncomputable def Zas:Tl→Option Cr
 | .mk c t m _ (v::a::i::f::u::rest)=>if (c=0∧t=16∧m=true)∧rest.length≤1∧v=Zcp 1∧a=ZbR then (okO (Zcz i)).bind fun I=>(ZdW f).bind fun F=>(ZdW u).bind fun U=>(match rest with|[]=>some []|g::_=>Za5 g).bind fun L=>some ⟨I,F,U,L,[],0,0⟩ else none
 | _=>none
noncomputable def crD:Tl→Option Cr
 | .mk c t m _ [x,a,s]=>if (c=0∧t=16∧m=true)∧a=ZbR then (Zas x).bind fun C=>((ZdZ s).bind ZcX).bind fun q=>some { C with body:=Zak x,sr:=q.1,ss:=q.2 } else none
 | _=>none
def BsD (S:Nat→Prop) (w:World) (v:Value) (n:List Int):Prop:=∀ w',Agr S w w'→Bs w' v n
theorem BsD.of {S:Nat→Prop} {w:World} {v:Value} {n:List Int} (h:Bs w v n) (hS:∀ a m c,v=.slice (some a) m c→0<m→S a.block):BsD S w v n:=fun _ ha=>Zcn h hS ha
theorem BsD.next {S S':Nat→Prop} {w w':World} {v:Value} {n:List Int} (h:BsD S w v n) (ha:Agr S w w') (hs:∀ b,S b→b<w.heap.size→S' b):BsD S' w' v n:=fun w'' h2 =>
 h w'' ⟨Nat.le_trans ha.1 h2.1,fun b hb hl=>(h2.2 b (hs b hb hl) (Nat.lt_of_lt_of_le hl ha.1)).trans (ha.2 b hb hl)⟩
def RwG (w:World) (base:Nat) (gv:Value) (L:List Gn):Prop:=∃ xs:List Value,w.ownsRow base 64 2 gv L.length xs∧∀ i g,L[i]?=some g→∃ u,xs[i*2]?=some u∧xs[i*2+1]?=some (.int .i64 g.2)∧BsD (fun b=>base≤b∧gv.ownBlock≠some b) w u g.1
theorem RwG.nil0 (w:World) (base:Nat):RwG w base (.slice none 0 0) []:=⟨[],⟨rfl,.inl ⟨rfl,rfl⟩⟩,fun i g h=>by simp at h⟩
theorem RwG.later {w w':World} {base:Nat} {gv:Value} {L:List Gn} (h:RwG w base gv L) (hb:Below w.heap.size w w'):RwG w' base gv L:=by
 obtain⟨xs,h1,h2⟩:=h;refine ⟨xs,Za7 (S:=fun _=>True) h1 (Agr.below hb) (fun _ _=>trivial),fun i g hg=>?_⟩;obtain ⟨u,k1,k2,k3⟩:=h2 i g hg;exact ⟨u,k1,k2,k3.next (Agr.below hb) (fun _ h _=>h)⟩
theorem RwG.sl {w:World} {base:Nat} {gv:Value} {L:List Gn} (h:RwG w base gv L):∃ ao cap,gv=.slice ao L.length cap:=by
 obtain⟨xs,h1,_⟩:=h;rcases h1.2 with ⟨e1,e2⟩|⟨g,cap,cur,e1,_⟩
 ·exact ⟨none,0,by rw[e1,e2]⟩
 ·exact ⟨_,cap,e1⟩
theorem RwG.ltE {w:World} {base:Nat} {gv:Value} {L:List Gn} {b:Nat} (h:RwG w base gv L) (hb:gv.ownBlock=some b):base≤b∧b<w.heap.size:=by
 obtain⟨xs,h1,_⟩:=h;exact ZaB h1 hb
def ZnV (w w':World) (v:Value) (L:List Gn):Prop:=∀ w'',Agr (fun b=>w.heap.size≤b) w' w''→Zfc w'' v L
theorem RwG.new {w w':World} {base:Nat} {gv:Value} {L:List Gn} (h:RwG w' base gv L) (hb:w.heap.size≤base):ZnV w w' gv L:=fun w'' ha=>by
 obtain⟨xs,h1,h2⟩:=h;have hge:∀ g,gv.ownBlock=some g→w.heap.size≤g:=fun g hg=>Nat.le_trans hb (ZaB h1 hg).1;have o2:=Za7 h1 ha hge;have hl:xs.length=L.length*2:=h1.1;rcases o2.2 with ⟨e1,e2⟩|⟨g,cap,cur,e1,e2,e3,e4,e5,e6,e7⟩
 ·exact ⟨none,0,by rw[e1,e2],by omega,by decide,fun h=>by omega⟩
 ·refine ⟨_,cap,e1,by omega,e5,fun _=>⟨g,0,rfl,(Array.getElem?_eq_some_iff.1 e3).1,fun i x hx=>?_⟩⟩
  obtain⟨u,k1,k2,k3⟩:=h2 i x hx;have hi:=(List.getElem?_eq_some_iff.1 hx).1;refine ⟨u,?_,k3 w'' ⟨ha.1,fun b h9 hl9=>ha.2 b (Nat.le_trans hb h9.1) hl9⟩,?_⟩
  ·rw[← e7,List.getElem?_take,if_pos (by omega)] at k1
   rw[Nat.zero_add];simp only[World.cell?,e3,Option.isSome_none,Bool.false_eq_true,if_false]
   simpa using k1
  ·rw[← e7,List.getElem?_take,if_pos (by omega)] at k2
   rw[Nat.zero_add];simp only[World.cell?,e3,Option.isSome_none,Bool.false_eq_true,if_false]
   simpa using k2
theorem ZgT:(Tryz.prog.info? 64).map (fun i=>(i.zero,i.size,i.bytes))=some (some (.agg #[.slice none 0 0,.int .i64 0]),2,32):=by kernel_rfl
theorem Zjl {a b:Value}:Instr.fill (fun i=>some (i*2,2)) ((Array.range (1*2)).map ((Value.agg #[.slice none 0 0,.int .i64 0]).cells[· % (Value.agg #[.slice none 0 0,.int .i64 0]).cells.size]!)) [(0,.agg #[a,b])]=some #[a,b]:=by kernel_rfl
theorem Zdj {ops:Array Oper} {rest:List Oper} {o:Oper} {a:Act} {w:World} {Q:Exit→Act→World→Prop} (hgd:o.guard=none) (s x:Operand)
  (ho:o.op=.call { callee:=.builtin .append,args:=#[s,x],argTypes:=#[26,26] })
  (base:Nat) (gv:Value) (L:List Gn) (hs:a.eval s=gv) (hr:RwG w base gv L) (g:Nat) (hx:a.eval x=.slice (some ⟨g,0,none⟩) 1 1) (u:Value) (t:Int) (B:Blk w g [u,.int .i64 t]) (ou:u.oneCell'=true)
  (n:List Int) (hd:BsD (fun b=>base≤b∧gv.ownBlock≠some b) w u n) (hn:L.length≤1000000) (hbase:base≤w.heap.size)
  (h:∀ gv' w',RwG w' base gv' (L++[(n,t)])→w.grownBy w' gv.ownBlock→(∀ b,gv.ownBlock=some b→base≤b)→wpList Tryz.prog ops Q rest (a.put o.dst gv') w') :
  wpList Tryz.prog ops Q (o::rest) a w:=by
 obtain⟨xs,h1,h2⟩:=hr;obtain ⟨jt,hjt,ht0,ht1,ht2⟩:=ZaO ZgT;refine wpList_append_lies _ hgd s x _ ho base 64 jt _ 2 32 Tryz.underlying26 hjt ht0 ht1 ht2 rfl (by omega) gv L.length xs hs h1 ⟨g,0,none⟩ 1 1 [u,.int .i64 t] hx rfl ?_ (fun z hz=>?_) (by omega) (by unfold maxLen;omega) (by omega) hbase w.heap.size rfl ?_
 ·intro j z hz
  rw[Addr.add_mid,Nat.zero_add];exact B.cell j z hz
 ·simp only[List.mem_cons,List.not_mem_nil,or_false] at hz
  rcases hz with rfl|rfl
  ·exact ou
  ·rfl
 ·intro g' cap1 w' hown hgrow hat hlt
  have hl:xs.length=L.length*2:=h1.1;refine h _ w' ⟨xs++[u,.int .i64 t],by rw[List.length_append];exact hown,fun i y hy=>?_⟩ hgrow (fun b hb=>(ZaB h1 hb).1);have hag:Agr (fun b=>base≤b∧gv.ownBlock≠some b) w w':=Agr.grown hgrow (fun b hb=>hb.2);have hS:∀ b,(base≤b∧gv.ownBlock≠some b)→b<w.heap.size→(base≤b∧(Value.slice (some ⟨g',0,none⟩) (L.length+1) cap1).ownBlock≠some b):=fun b hb hlb=>⟨hb.1,fun e=>by
   simp only[Value.ownBlock,Option.some.injEq] at e;rcases hat with e2|e2
   ·exact hb.2 (by rw[e2,e])
   ·omega⟩
  by_cases hi:i<L.length
  ·rw[List.getElem?_append_left hi] at hy
   obtain⟨v,k1,k2,k3⟩:=h2 i y hy;exact ⟨v,by rw[List.getElem?_append_left (by omega)];exact k1,by rw[List.getElem?_append_left (by omega)];exact k2,k3.next hag hS⟩
  ·have hi2:=(List.getElem?_eq_some_iff.1 hy).1
   rw[List.length_append] at hi2;obtain rfl:i=L.length:=by simp at hi2;omega
   rw[List.getElem?_append_right (Nat.le_refl _),Nat.sub_self] at hy;simp only[List.getElem?_cons_zero,Option.some.injEq] at hy;subst hy;exact ⟨u,by rw[List.getElem?_append_right (by omega),show L.length*2-xs.length=0 by omega];rfl,by rw[List.getElem?_append_right (by omega),show L.length*2+1-xs.length=1 by omega];rfl,hd.next hag hS⟩
end Go.Proofs.YtohcdbifhnfcbaaGreatDoor
