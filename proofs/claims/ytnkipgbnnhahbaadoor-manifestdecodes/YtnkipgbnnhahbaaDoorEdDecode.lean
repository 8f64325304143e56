/- The two tables of the field as they lie in memory. (Plain part.) What makes 1 of a number, by Fermat, modulo the order. Numbers of six limbs and points as rows of cells. Rows of cells: numbers, points and signatures loaded and stored whole. (Plain part.) Signatures held against each other, and put together. A signature's bytes. An error that is a Code. What ecdsa.Decode answers. -/
import Derived.Test.YtnkipgbnnhahbaaDoorCPt
import Derived.Test.YtnkipgbnnhahbaaDoorBase
import Derived.Test.YtnkipgbnnhahbaaDoorApBs
import Derived.Test.YtnkipgbnnhahbaaDoorCtBase
import Derived.Test.YtnkipgbnnhahbaaDoorNmBase
import Derived.Test.YtnkipgbnnhahbaaDoorByt
import Derived.Test.YtnkipgbnnhahbaaDoorDrPar
import Derived.Test.YtnkipgbnnhahbaaDoorPmNum
import Derived.Test.YtnkipgbnnhahbaaDoorDrDep
import Derived.Test.YtnkipgbnnhahbaaDoorPut
import Derived.Test.YtnkipgbnnhahbaaDoorTakeRow
import Derived.Test.YtnkipgbnnhahbaaDoorRwT
import Derived.Test.YtnkipgbnnhahbaaDoorPrNumber
import Derived.Test.YtnkipgbnnhahbaaDoorCtTl
import Derived.Test.YtnkipgbnnhahbaaDoorDrCode
import Derived.Test.YtnkipgbnnhahbaaDoorRows
import Derived.ChangeKeysEq
import Derived.Deep.WholeRow
import Derived.Deep.RegionHeld3
import Derived.Deep.DeepCutAuto
import Derived.Deep.DeepFit
import Derived.Deep.OwnRows
import Derived.Deep.AppendLies
import Derived.Great.BuildSlice
import Derived.Laws.Rows
import Derived.Laws.StructEq
import Derived.Shelf.Spec.BitsCarry
import Derived.Deep.QuietTactic
import Derived.BigQuiet
namespace Go.Proofs.YtnkipgbnnhahbaaDoor
open Go.RowKit
/-- the order -/
def QQ:Int:=39402006196394479212279040100143613805079739270465446667946905279627659399113263569398956308152294913554433653942643
def OutO (a:Int) (e:Nat) (z:Int):Prop:=z=a ^ e % QQ
/-- from 1 to N - 1 -/
def isSc (x:Int):Prop:=1≤x∧x < QQ
instance (x:Int):Decidable (isSc x):=by unfold isSc;exact inferInstance
/-- 1 over it (0 of 0) -/
def InvO (x z:Int):Prop:=OutO x 39402006196394479212279040100143613805079739270465446667946905279627659399113263569398956308152294913554433653942641 z
theorem InvO.one {x y z:Int} (h:InvO x y) (k:InvO x z):y=z:=h.trans k.symm
/-- a point as a row of cells -/
def P13 (cs:List Value) (P:Pt):Prop:=∃ (s0 s1 s2 s3 s4 s5 t0 t1 t2 t3 t4 t5:Int) (k:Bool),cs=[.int .u64 s0,.int .u64 s1,.int .u64 s2,.int .u64 s3,.int .u64 s4,.int .u64 s5,.int .u64 t0,.int .u64 t1,.int .u64 t2,.int .u64 t3,.int .u64 t4,.int .u64 t5,.bool k]∧Told P [s0,s1,s2,s3,s4,s5] [t0,t1,t2,t3,t4,t5] k
/-- thirteen cells that may be a point -/
def P13R (cs:List Value) (X Y:Int) (n:Bool):Prop:=∃ xs ys,cs=xs++ys++[.bool n]∧U6 xs X∧U6 ys Y
theorem P13.len {cs:List Value} {P:Pt} (h:P13 cs P):cs.length=13:=by
 obtain ⟨s0,s1,s2,s3,s4,s5,t0,t1,t2,t3,t4,t5,k,rfl,_⟩:=h
 rfl
theorem P13R.len {cs:List Value} {X Y:Int} {n:Bool} (h:P13R cs X Y n):cs.length=13:=by
 obtain ⟨xs,ys,rfl,h1,h2⟩:=h
 simp [h1.len,h2.len]
theorem P13R.ones {cs:List Value} {X Y:Int} {n:Bool} (h:P13R cs X Y n):OneR cs:=by
 obtain ⟨xs,ys,rfl,⟨z0,z1,z2,z3,z4,z5,rfl,_⟩,⟨y0,y1,y2,y3,y4,y5,rfl,_⟩⟩:=h
 simp [OneR,Value.oneCell']
/-- a block that is written whole -/
theorem Blk.put {w:World} {g:Nat} {X ys:List Value} (B:Blk w g X):Blk (w.setRow g ys.toArray) g ys:=by
 obtain ⟨t,h⟩:=B
 exact ⟨t,setRow_heap _ _ _ _ _ _ h⟩
theorem exec_build14 {P:Program} {o:Oper} {a:Act} {w:World} {ty:TypeId} {fs:Array (Nat × Operand)} {ps:List (Nat × Value)} {v:Value} (ho:o.op=.build ty fs) (hx:fs.toList.map (fun p=>(p.1,a.eval p.2))=ps) (h:(Instr.build ty ps.toArray).run P w=.ok v w):(execOp a.eval o).run P w=.ok (.value v) w:=by
 have e:(fs.map fun (p:Nat × Operand)=>(p.1,a.eval p.2))=ps.toArray:=by rw [← hx];exact Array.ext' (by rw [Array.toList_map])
 unfold execOp
 simp only [ho,e,Sem.run_bind,Sem.run_pure,Result.andThen_ok,h]
/-- a number in an element -/
def partP:Tl→Option (List Int)
 | .mk c t m b _=>if c=0∧t=2∧m=false then (match numP b with|.ok n=>some n|.error _=>none) else none
/-- two numbers in a list -/
def sigP:Tl→Option (List Int × List Int)
 | .mk c t m _ [a,b]=>if c=0∧t=16∧m=true then (match partP a,partP b with|some x,some y=>some (x,y)|_,_=>none) else none
 | _=>none
/-- an error that is a Code itself -/
def codeV (c:Int):Value:=.iface 39 (.int .i64 c)
/-- what Decode tells -/
def DecR (w:World) (B:List Int) (e:Ending) (w':World):Prop:=(∀ c p,parseP B=.error (c,p)→∃ er:Value,e=.returned (.tuple #[.agg #[.int .u64 0,.int .u64 0,.int .u64 0,.int .u64 0,.int .u64 0,.int .u64 0,.int .u64 0,.int .u64 0,.int .u64 0,.int .u64 0,.int .u64 0,.int .u64 0],er])∧ErAt w' c p er∧Below w.heap.size w w')∧(∀ T,parseP B=.ok T→(sigP T=none→e=.returned (.tuple #[.agg #[.int .u64 0,.int .u64 0,.int .u64 0,.int .u64 0,.int .u64 0,.int .u64 0,.int .u64 0,.int .u64 0,.int .u64 0,.int .u64 0,.int .u64 0,.int .u64 0],codeV 7])∧Below w.heap.size w w')∧(∀ x y,sigP T=some (x,y)→(¬ (isSc (beN x)∧isSc (beN y))→e=.returned (.tuple #[.agg #[.int .u64 0,.int .u64 0,.int .u64 0,.int .u64 0,.int .u64 0,.int .u64 0,.int .u64 0,.int .u64 0,.int .u64 0,.int .u64 0,.int .u64 0,.int .u64 0],codeV 3])∧Below w.heap.size w w')∧(isSc (beN x)→isSc (beN y)→∃ rs ss,e=.returned (.tuple #[.agg (rs++ss).toArray,.nilIface])∧U6 rs (beN x)∧U6 ss (beN y)∧Below w.heap.size w w')))
theorem DecR.bad {w w':World} {B:List Int} {c p:Nat} {er:Value} (h:parseP B=.error (c,p)) (k:ErAt w' c p er) (bel:Below w.heap.size w w'):DecR w B (.returned (.tuple #[.agg #[.int .u64 0,.int .u64 0,.int .u64 0,.int .u64 0,.int .u64 0,.int .u64 0,.int .u64 0,.int .u64 0,.int .u64 0,.int .u64 0,.int .u64 0,.int .u64 0],er])) w' :=
 ⟨fun c2 p2 h2=>(by rw [h] at h2;cases h2;exact ⟨er,rfl,k,bel⟩),fun T h2=>(by rw [h] at h2;cases h2)⟩
theorem DecR.form {w w':World} {B:List Int} {T:Tl} (h:parseP B=.ok T) (k:sigP T=none) (bel:Below w.heap.size w w'):DecR w B (.returned (.tuple #[.agg #[.int .u64 0,.int .u64 0,.int .u64 0,.int .u64 0,.int .u64 0,.int .u64 0,.int .u64 0,.int .u64 0,.int .u64 0,.int .u64 0,.int .u64 0,.int .u64 0],.iface 39 (.int .i64 7)])) w' :=
 ⟨fun c2 p2 h2=>(by rw [h] at h2;cases h2),fun T2 h2=>(by rw [h] at h2;cases h2;exact ⟨fun _=>⟨rfl,bel⟩,fun x y h3=>(by rw [k] at h3;cases h3)⟩)⟩
theorem DecR.range {w w':World} {B:List Int} {T:Tl} {x y:List Int} (h:parseP B=.ok T) (k:sigP T=some (x,y)) (hn:¬ (isSc (beN x)∧isSc (beN y))) (bel:Below w.heap.size w w'):DecR w B (.returned (.tuple #[.agg #[.int .u64 0,.int .u64 0,.int .u64 0,.int .u64 0,.int .u64 0,.int .u64 0,.int .u64 0,.int .u64 0,.int .u64 0,.int .u64 0,.int .u64 0,.int .u64 0],.iface 39 (.int .i64 3)])) w' :=
 ⟨fun c2 p2 h2=>(by rw [h] at h2;cases h2),fun T2 h2=>(by rw [h] at h2;cases h2;exact ⟨fun h3=>(by rw [k] at h3;cases h3),fun x2 y2 h3=>(by rw [k] at h3;cases h3;exact ⟨fun _=>⟨rfl,bel⟩,fun a b=>absurd ⟨a,b⟩ hn⟩)⟩)⟩
theorem DecR.ok {w w':World} {B:List Int} {T:Tl} {x y:List Int} {rs ss us:List Value} (h:parseP B=.ok T) (k:sigP T=some (x,y)) (hr:U6 rs (beN x)) (hs:U6 ss (beN y)) (h1:isSc (beN x)) (h2:isSc (beN y)) (hu:rs++ss=us) (bel:Below w.heap.size w w'):DecR w B (.returned (.tuple #[.agg us.toArray,.nilIface])) w' :=
 ⟨fun c2 p2 h2=>(by rw [h] at h2;cases h2),fun T2 h3=>(by rw [h] at h3;cases h3;exact ⟨fun h4=>(by rw [k] at h4;cases h4),fun x2 y2 h4=>(by rw [k] at h4;cases h4;exact ⟨fun hn=>absurd ⟨h1,h2⟩ hn,fun _ _=>⟨rs,ss,by rw [hu],hr,hs,bel⟩⟩)⟩)⟩
theorem ErAt.ne {w:World} {c p:Nat} {er:Value} (h:ErAt w c p er):∀ w:World,(binOp .neq 27 er .nilIface).run Tryd.prog w=.ok (.bool true) w:=fun w=>by
 rcases h with ⟨_,rfl⟩|⟨_,g,rfl,_⟩
 ·kernel_rfl
 ·kernel_rfl
/-- what was read of the kids so far -/
def RdTo (w:World) (gt:Nat) (ks:List Tl) (i:Nat) (X:List Value):Prop:=(∀ j,j < 2→∃ a n c,X[j]?=some (.slice a n c))∧∀ j,j < i→∃ k n v,ks[j]?=some k∧partP k=some n∧X[j]?=some v∧Bs w v n∧(∀ a m c,v=.slice (some a) m c→0 < m→a.block≠gt)∧byt n∧n.length≤64∧(48 < n.length→QQ≤beN n)
theorem RdTo.later {w w':World} {gt i:Nat} {ks:List Tl} {X:List Value} (h:RdTo w gt ks i X) (hb:Below w.heap.size w w'):RdTo w' gt ks i X :=
 ⟨h.1,fun j hj=>by obtain ⟨k,n,v,h1,h2,h3,h4,h5⟩:=h.2 j hj;exact ⟨k,n,v,h1,h2,h3,h4.later hb,h5⟩⟩
theorem bs_cellC {w:World} {v u:Value} {n:List Int} {g k:Nat} (h:Bs w v n) (hg:∀ a m c,v=.slice (some a) m c→0 < m→a.block≠g):Bs (w.setCell ⟨g,k,none⟩ u) v n:=by
 obtain ⟨ao,cp,e,h1,h2,h3⟩:=h
 refine ⟨ao,cp,e,h1,h2,fun h0=>?_⟩
 obtain ⟨b,o,e2,hb,hc⟩:=h3 h0
 have hne:b≠g:=hg ⟨b,o,none⟩ _ _ (by rw [e,e2]) h0
 refine ⟨b,o,e2,by simpa using hb,fun j hj=>?_⟩
 rw [World.cell?_setCell_far _ _ _ _ (by exact fun h=>hne h.symm)]
 exact hc j hj
theorem RdTo.next {w:World} {gt i:Nat} {ks:List Tl} {X:List Value} {k:Tl} {n:List Int} {a:Option Addr} {m c:Nat} (h:RdTo w gt ks i X) (hX:X.length=2) (hi:i < 2) (hk:ks[i]?=some k) (hp:partP k=some n) (hv:Bs w (.slice a m c) n) (hg:∀ b m' c',Value.slice a m c=.slice (some b) m' c'→0 < m'→b.block≠gt) (hb:byt n) (hl:n.length≤64) (hq:48 < n.length→QQ≤beN n):RdTo (w.setCell ⟨gt,i,none⟩ (.slice a m c)) gt ks (i + 1) (X.set i (.slice a m c)):=by
 refine ⟨fun j hj=>?_,fun j hj=>?_⟩
 ·by_cases e:j=i
  ·subst e
   exact ⟨_,_,_,List.getElem?_set_self (by omega)⟩
  ·rw [List.getElem?_set_ne (fun h=>e h.symm)]
   exact h.1 j hj
 ·by_cases e:j=i
  ·subst e
   exact ⟨k,n,_,hk,hp,List.getElem?_set_self (by omega),bs_cellC hv hg,hg,hb,hl,hq⟩
  ·rw [List.getElem?_set_ne (fun h=>e h.symm)]
   obtain ⟨k',n',v,h1,h2,h3,h4,h5,h6⟩:=h.2 j (by omega)
   exact ⟨k',n',v,h1,h2,h3,bs_cellC h4 h5,h5,h6⟩
end Go.Proofs.YtnkipgbnnhahbaaDoor
