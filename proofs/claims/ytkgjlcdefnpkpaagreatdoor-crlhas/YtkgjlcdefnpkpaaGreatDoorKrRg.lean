/- A signature's bytes. A signature's bytes: what was written is read as it was. Plain facts. Numbers in elements: plain facts. limb.Bytes: a number's 48 bytes. An error that is a Code. ecdsa.isA, numberOf and belowN. What ecdsa.Decode answers. What is read, or an error. Lists of revoked ones that are read: what is good, and what is read of it; rows of those that are revoked. -/
import Derived.Test.YtkgjlcdefnpkpaaGreatDoorEdG
import Derived.Test.YtkgjlcdefnpkpaaGreatDoorApBs
import Derived.Test.YtkgjlcdefnpkpaaGreatDoorBase
import Derived.Test.YtkgjlcdefnpkpaaGreatDoorDrTG
import Derived.Test.YtkgjlcdefnpkpaaGreatDoorPmNG
import Derived.Test.YtkgjlcdefnpkpaaGreatDoorCtRG
import Derived.Test.YtkgjlcdefnpkpaaGreatDoorDrDG
import Derived.Test.YtkgjlcdefnpkpaaGreatDoorPrG
import Derived.Test.YtkgjlcdefnpkpaaGreatDoorDcG3
import Derived.Test.YtkgjlcdefnpkpaaGreatDoorKrUp0
import Derived.Test.YtkgjlcdefnpkpaaGreatDoorCtSize
import Derived.Test.YtkgjlcdefnpkpaaGreatDoorNlSG
import Derived.Test.YtkgjlcdefnpkpaaGreatDoorKrSpec
import Derived.Test.YtkgjlcdefnpkpaaGreatDoorRows
import Derived.Shelf.Spec.BitsCarry
import Derived.Deep.RegionHeld3
import Derived.Deep.QuietTactic
import Derived.BigQuiet
import Derived.Deep.WholeRow
import Derived.Deep.DeepCutAuto
import Derived.Deep.DeepFit
import Derived.Deep.OwnRows
import Derived.Deep.AppendLies
import Derived.Great.BuildSlice
import Derived.Laws.Rows
namespace Go.Proofs.YtkgjlcdefnpkpaaGreatDoor
open Go.RowKit
open Classical
/-- a number in an element -/
def partP:Tl→Option (List Int)
 | .mk c t m b _=>if c=0∧t=2∧m=false then (match numP b with|.ok n=>some n|.error _=>none) else none
/-- two numbers in a list -/
def sigP:Tl→Option (List Int × List Int)
 | .mk c t m _ [a,b]=>if c=0∧t=16∧m=true then (match partP a,partP b with|some x,some y=>some (x,y)|_,_=>none) else none
 | _=>none
/-- the bytes of six limbs -/
def bytesOf (A:List Int):List Int:=(List.range 48).map fun i=>A.getD ((47 - i) / 8) 0 / 2 ^ ((47 - i) % 8 * 8) % 256
/-- an error that is a Code itself -/
def codeV (c:Int):Value:=.iface 56 (.int .i64 c)
/-- what Decode tells -/
def DecR (w:World) (B:List Int) (e:Ending) (w':World):Prop:=(∀ c p,parseP B=.error (c,p)→∃ er:Value,e=.returned (.tuple #[.agg #[.int .u64 0,.int .u64 0,.int .u64 0,.int .u64 0,.int .u64 0,.int .u64 0,.int .u64 0,.int .u64 0,.int .u64 0,.int .u64 0,.int .u64 0,.int .u64 0],er])∧ErAt w' c p er∧Below w.heap.size w w')∧(∀ T,parseP B=.ok T→(sigP T=none→e=.returned (.tuple #[.agg #[.int .u64 0,.int .u64 0,.int .u64 0,.int .u64 0,.int .u64 0,.int .u64 0,.int .u64 0,.int .u64 0,.int .u64 0,.int .u64 0,.int .u64 0,.int .u64 0],codeV 7])∧Below w.heap.size w w')∧(∀ x y,sigP T=some (x,y)→(¬ (isSc (beN x)∧isSc (beN y))→e=.returned (.tuple #[.agg #[.int .u64 0,.int .u64 0,.int .u64 0,.int .u64 0,.int .u64 0,.int .u64 0,.int .u64 0,.int .u64 0,.int .u64 0,.int .u64 0,.int .u64 0,.int .u64 0],codeV 3])∧Below w.heap.size w w')∧(isSc (beN x)→isSc (beN y)→∃ rs ss,e=.returned (.tuple #[.agg (rs++ss).toArray,.nilIface])∧U6 rs (beN x)∧U6 ss (beN y)∧Below w.heap.size w w')))
theorem DecR.bad {w w':World} {B:List Int} {c p:Nat} {er:Value} (h:parseP B=.error (c,p)) (k:ErAt w' c p er) (bel:Below w.heap.size w w'):DecR w B (.returned (.tuple #[.agg #[.int .u64 0,.int .u64 0,.int .u64 0,.int .u64 0,.int .u64 0,.int .u64 0,.int .u64 0,.int .u64 0,.int .u64 0,.int .u64 0,.int .u64 0,.int .u64 0],er])) w' :=
 ⟨fun c2 p2 h2=>(by rw [h] at h2;cases h2;exact ⟨er,rfl,k,bel⟩),fun T h2=>(by rw [h] at h2;cases h2)⟩
theorem DecR.form {w w':World} {B:List Int} {T:Tl} (h:parseP B=.ok T) (k:sigP T=none) (bel:Below w.heap.size w w'):DecR w B (.returned (.tuple #[.agg #[.int .u64 0,.int .u64 0,.int .u64 0,.int .u64 0,.int .u64 0,.int .u64 0,.int .u64 0,.int .u64 0,.int .u64 0,.int .u64 0,.int .u64 0,.int .u64 0],.iface 56 (.int .i64 7)])) w' :=
 ⟨fun c2 p2 h2=>(by rw [h] at h2;cases h2),fun T2 h2=>(by rw [h] at h2;cases h2;exact ⟨fun _=>⟨rfl,bel⟩,fun x y h3=>(by rw [k] at h3;cases h3)⟩)⟩
theorem DecR.range {w w':World} {B:List Int} {T:Tl} {x y:List Int} (h:parseP B=.ok T) (k:sigP T=some (x,y)) (hn:¬ (isSc (beN x)∧isSc (beN y))) (bel:Below w.heap.size w w'):DecR w B (.returned (.tuple #[.agg #[.int .u64 0,.int .u64 0,.int .u64 0,.int .u64 0,.int .u64 0,.int .u64 0,.int .u64 0,.int .u64 0,.int .u64 0,.int .u64 0,.int .u64 0,.int .u64 0],.iface 56 (.int .i64 3)])) w' :=
 ⟨fun c2 p2 h2=>(by rw [h] at h2;cases h2),fun T2 h2=>(by rw [h] at h2;cases h2;exact ⟨fun h3=>(by rw [k] at h3;cases h3),fun x2 y2 h3=>(by rw [k] at h3;cases h3;exact ⟨fun _=>⟨rfl,bel⟩,fun a b=>absurd ⟨a,b⟩ hn⟩)⟩)⟩
theorem DecR.ok {w w':World} {B:List Int} {T:Tl} {x y:List Int} {rs ss us:List Value} (h:parseP B=.ok T) (k:sigP T=some (x,y)) (hr:U6 rs (beN x)) (hs:U6 ss (beN y)) (h1:isSc (beN x)) (h2:isSc (beN y)) (hu:rs++ss=us) (bel:Below w.heap.size w w'):DecR w B (.returned (.tuple #[.agg us.toArray,.nilIface])) w' :=
 ⟨fun c2 p2 h2=>(by rw [h] at h2;cases h2),fun T2 h3=>(by rw [h] at h3;cases h3;exact ⟨fun h4=>(by rw [k] at h4;cases h4),fun x2 y2 h4=>(by rw [k] at h4;cases h4;exact ⟨fun hn=>absurd ⟨h1,h2⟩ hn,fun _ _=>⟨rs,ss,by rw [hu],hr,hs,bel⟩⟩)⟩)⟩
/-- what was read of the kids so far -/
def RdTo (w:World) (gt:Nat) (ks:List Tl) (i:Nat) (X:List Value):Prop:=(∀ j,j < 2→∃ a n c,X[j]?=some (.slice a n c))∧∀ j,j < i→∃ k n v,ks[j]?=some k∧partP k=some n∧X[j]?=some v∧Bs w v n∧(∀ a m c,v=.slice (some a) m c→0 < m→a.block≠gt)∧byt n∧n.length≤64∧(48 < n.length→QQ≤beN n)
theorem RdTo.later {w w':World} {gt i:Nat} {ks:List Tl} {X:List Value} (h:RdTo w gt ks i X) (hb:Below w.heap.size w w'):RdTo w' gt ks i X :=
 ⟨h.1,fun j hj=>by obtain ⟨k,n,v,h1,h2,h3,h4,h5⟩:=h.2 j hj;exact ⟨k,n,v,h1,h2,h3,h4.later hb,h5⟩⟩
theorem bs_cellC {w:World} {v u:Value} {n:List Int} {g k:Nat} (h:Bs w v n) (hg:∀ a m c,v=.slice (some a) m c→0 < m→a.block≠g):Bs (w.setCell ⟨g,k,none⟩ u) v n:=by
 obtain ⟨ao,cp,e,h1,h2,h3⟩:=h
 refine ⟨ao,cp,e,h1,h2,fun h0=>?_⟩
 obtain ⟨b,o,e2,hb,hc⟩:=h3 h0
 have hne:b≠g:=hg ⟨b,o,none⟩ _ _ (by rw [e,e2]) h0
 refine ⟨b,o,e2,by simpa using hb,fun j hj=>?_⟩
 rw [World.cell?_setCell_far _ _ _ _ (by exact fun h=>hne h.symm)]
 exact hc j hj
theorem RdTo.next {w:World} {gt i:Nat} {ks:List Tl} {X:List Value} {k:Tl} {n:List Int} {a:Option Addr} {m c:Nat} (h:RdTo w gt ks i X) (hX:X.length=2) (hi:i < 2) (hk:ks[i]?=some k) (hp:partP k=some n) (hv:Bs w (.slice a m c) n) (hg:∀ b m' c',Value.slice a m c=.slice (some b) m' c'→0 < m'→b.block≠gt) (hb:byt n) (hl:n.length≤64) (hq:48 < n.length→QQ≤beN n):RdTo (w.setCell ⟨gt,i,none⟩ (.slice a m c)) gt ks (i + 1) (X.set i (.slice a m c)):=by
 refine ⟨fun j hj=>?_,fun j hj=>?_⟩
 ·by_cases e:j=i
  ·subst e
   exact ⟨_,_,_,List.getElem?_set_self (by omega)⟩
  ·rw [List.getElem?_set_ne (fun h=>e h.symm)]
   exact h.1 j hj
 ·by_cases e:j=i
  ·subst e
   exact ⟨k,n,_,hk,hp,List.getElem?_set_self (by omega),bs_cellC hv hg,hg,hb,hl,hq⟩
  ·rw [List.getElem?_set_ne (fun h=>e h.symm)]
   obtain ⟨k',n',v,h1,h2,h3,h4,h5,h6⟩:=h.2 j (by omega)
   exact ⟨k',n',v,h1,h2,h3,bs_cellC h4 h5,h5,h6⟩
/-- an error, whichever it is -/
def ErrV (er:Value):Prop:=(∃ ty pv,er=.iface ty pv)∧∀ w:World,(binOp .neq 36 er .nilIface).run Tryz.prog w=.ok (.bool true) w
/-- bytes, or an error -/
def BytO (w:World) (r:Option (List Int)) (e:Ending) (w':World):Prop:=Below w.heap.size w w'∧(r=none→∃ er,ErrV er∧e=.returned (.tuple #[.slice none 0 0,er]))∧(∀ n,r=some n→∃ v,e=.returned (.tuple #[v,.nilIface])∧Bs w' v n∧NewV w v)
theorem BytO.bad {w w':World} {r:Option (List Int)} {er:Value} (h:r=none) (k:ErrV er) (hb:Below w.heap.size w w'):BytO w r (.returned (.tuple #[.slice none 0 0,er])) w':=⟨hb,fun _=>⟨er,k,rfl⟩,fun n q=>(by rw [h] at q;cases q)⟩
theorem BytO.ok {w w':World} {r:Option (List Int)} {n:List Int} {v:Value} (h:r=some n) (hv:Bs w' v n) (hn:NewV w v) (hb:Below w.heap.size w w'):BytO w r (.returned (.tuple #[v,.nilIface])) w':=⟨hb,fun q=>(by rw [h] at q;cases q),fun m q=>(by rw [h] at q;cases q;exact ⟨v,rfl,hv,hn⟩)⟩
/-- an int, or an error -/
def IntO (w:World) (r:Option Int) (e:Ending) (w':World):Prop:=Below w.heap.size w w'∧(r=none→∃ er,ErrV er∧e=.returned (.tuple #[.int .i64 0,er]))∧(∀ n,r=some n→e=.returned (.tuple #[.int .i64 n,.nilIface]))
theorem IntO.bad {w w':World} {r:Option Int} {er:Value} (h:r=none) (k:ErrV er) (hb:Below w.heap.size w w'):IntO w r (.returned (.tuple #[.int .i64 0,er])) w':=⟨hb,fun _=>⟨er,k,rfl⟩,fun n q=>(by rw [h] at q;cases q)⟩
theorem IntO.ok {w w':World} {r:Option Int} {n:Int} (h:r=some n) (hb:Below w.heap.size w w'):IntO w r (.returned (.tuple #[.int .i64 n,.nilIface])) w':=⟨hb,fun q=>(by rw [h] at q;cases q),fun m q=>(by rw [h] at q;cases q;rfl)⟩
/-- a signature, or an error -/
def SigO8 (w:World) (r:Option (Int × Int)) (e:Ending) (w':World):Prop:=Below w.heap.size w w'∧(r=none→∃ er,ErrV er∧e=.returned (.tuple #[.agg #[.int .u64 0,.int .u64 0,.int .u64 0,.int .u64 0,.int .u64 0,.int .u64 0,.int .u64 0,.int .u64 0,.int .u64 0,.int .u64 0,.int .u64 0,.int .u64 0],er]))∧(∀ x y,r=some (x,y)→∃ rs ss:List Value,e=.returned (.tuple #[.agg (rs++ss).toArray,.nilIface])∧U6 rs x∧U6 ss y)
theorem SigO8.bad {w w':World} {r:Option (Int × Int)} {er:Value} (h:r=none) (k:ErrV er) (hb:Below w.heap.size w w'):SigO8 w r (.returned (.tuple #[.agg #[.int .u64 0,.int .u64 0,.int .u64 0,.int .u64 0,.int .u64 0,.int .u64 0,.int .u64 0,.int .u64 0,.int .u64 0,.int .u64 0,.int .u64 0,.int .u64 0],er])) w':=⟨hb,fun _=>⟨er,k,rfl⟩,fun x y q=>(by rw [h] at q;cases q)⟩
theorem SigO8.ok {w w':World} {r:Option (Int × Int)} {x y:Int} {rs ss:List Value} (h:r=some (x,y)) (h1:U6 rs x) (h2:U6 ss y) (hb:Below w.heap.size w w'):SigO8 w r (.returned (.tuple #[.agg (rs++ss).toArray,.nilIface])) w':=⟨hb,fun q=>(by rw [h] at q;cases q),fun x' y' q=>(by rw [h] at q;cases q;exact ⟨rs,ss,rfl,h1,h2⟩)⟩
/-- an element that was read, or lies in one -/
def GdT (T:Tl):Prop:=fineT T=true∧depT T≤16∧(bytesT T).length≤1048576∧WfT T
theorem GdT.of {B:List Int} {T:Tl} (b:byt B) (h:parseP B=.ok T):GdT T:=by
 obtain ⟨e,h1,h2,h3,h4⟩:=parse_ok b h
 exact ⟨h1,h2,by rw [e];exact h4,h3⟩
theorem GdT.body {c t:Int} {m:Bool} {b:List Int} {ks:List Tl} (h:GdT (.mk c t m b ks)):b.length≤1048576:=by
 have h3:=h.2.2.1
 rw [bytesT_len,List.length_append] at h3
 omega
theorem GdT.wf {T:Tl} (h:GdT T):WfT T:=h.2.2.2
/-- bytes that lean on what S says -/
def BsD (S:Nat→Prop) (w:World) (v:Value) (n:List Int):Prop:=∀ w',Agr S w w'→Bs w' v n
theorem BsD.of {S:Nat→Prop} {w:World} {v:Value} {n:List Int} (h:Bs w v n) (hS:∀ a m c,v=.slice (some a) m c→0 < m→S a.block):BsD S w v n:=fun _ ha=>bs_agrC h hS ha
theorem BsD.next {S S':Nat→Prop} {w w':World} {v:Value} {n:List Int} (h:BsD S w v n) (ha:Agr S w w') (hs:∀ b,S b→b < w.heap.size→S' b):BsD S' w' v n:=fun w'' h2 =>
 h w'' ⟨Nat.le_trans ha.1 h2.1,fun b hb hl=>(h2.2 b (hs b hb hl) (Nat.lt_of_lt_of_le hl ha.1)).trans (ha.2 b hb hl)⟩
/-- those that are revoked, in a row of one's own -/
def RwG (w:World) (base:Nat) (gv:Value) (L:List Gn):Prop:=∃ xs:List Value,w.ownsRow base 54 2 gv L.length xs∧∀ i g,L[i]?=some g→∃ u,xs[i * 2]?=some u∧xs[i * 2 + 1]?=some (.int .i64 g.2)∧BsD (fun b=>base≤b∧gv.ownBlock≠some b) w u g.1
theorem RwG.nil0 (w:World) (base:Nat):RwG w base (.slice none 0 0) []:=⟨[],⟨rfl,.inl ⟨rfl,rfl⟩⟩,fun i g h=>by simp at h⟩
theorem RwG.later {w w':World} {base:Nat} {gv:Value} {L:List Gn} (h:RwG w base gv L) (hb:Below w.heap.size w w'):RwG w' base gv L:=by
 obtain ⟨xs,h1,h2⟩:=h
 refine ⟨xs,own_agr (S:=fun _=>True) h1 (Agr.below hb) (fun _ _=>trivial),fun i g hg=>?_⟩
 obtain ⟨u,k1,k2,k3⟩:=h2 i g hg
 exact ⟨u,k1,k2,k3.next (Agr.below hb) (fun _ h _=>h)⟩
theorem RwG.sl {w:World} {base:Nat} {gv:Value} {L:List Gn} (h:RwG w base gv L):∃ ao cap,gv=.slice ao L.length cap:=by
 obtain ⟨xs,h1,_⟩:=h
 rcases h1.2 with ⟨e1,e2⟩|⟨g,cap,cur,e1,_⟩
 ·exact ⟨none,0,by rw [e1,e2]⟩
 ·exact ⟨_,cap,e1⟩
theorem RwG.ltE {w:World} {base:Nat} {gv:Value} {L:List Gn} {b:Nat} (h:RwG w base gv L) (hb:gv.ownBlock=some b):base≤b∧b < w.heap.size:=by
 obtain ⟨xs,h1,_⟩:=h
 exact own_geK h1 hb
/-- new, and so whatever becomes of what was -/
def GnNew (w w':World) (v:Value) (L:List Gn):Prop:=∀ w'',Agr (fun b=>w.heap.size≤b) w' w''→GnAt w'' v L
theorem RwG.new {w w':World} {base:Nat} {gv:Value} {L:List Gn} (h:RwG w' base gv L) (hb:w.heap.size≤base):GnNew w w' gv L:=fun w'' ha=>by
 obtain ⟨xs,h1,h2⟩:=h
 have hge:∀ g,gv.ownBlock=some g→w.heap.size≤g:=fun g hg=>Nat.le_trans hb (own_geK h1 hg).1
 have o2:=own_agr h1 ha hge
 have hl:xs.length=L.length * 2:=h1.1
 rcases o2.2 with ⟨e1,e2⟩|⟨g,cap,cur,e1,e2,e3,e4,e5,e6,e7⟩
 ·exact ⟨none,0,by rw [e1,e2],by omega,by decide,fun h=>by omega⟩
 ·refine ⟨_,cap,e1,by omega,e5,fun _=>⟨g,0,rfl,(Array.getElem?_eq_some_iff.1 e3).1,fun i x hx=>?_⟩⟩
  obtain ⟨u,k1,k2,k3⟩:=h2 i x hx
  have hi:=(List.getElem?_eq_some_iff.1 hx).1
  refine ⟨u,?_,k3 w'' ⟨ha.1,fun b h9 hl9=>ha.2 b (Nat.le_trans hb h9.1) hl9⟩,?_⟩
  ·rw [← e7,List.getElem?_take,if_pos (by omega)] at k1
   rw [Nat.zero_add]
   simp only [World.cell?,e3,Option.isSome_none,Bool.false_eq_true,if_false]
   simpa using k1
  ·rw [← e7,List.getElem?_take,if_pos (by omega)] at k2
   rw [Nat.zero_add]
   simp only [World.cell?,e3,Option.isSome_none,Bool.false_eq_true,if_false]
   simpa using k2
theorem info_gn8:(Tryz.prog.info? 54).map (fun i=>(i.zero,i.size,i.bytes))=some (some (.agg #[.slice none 0 0,.int .i64 0]),2,32):=by kernel_rfl
theorem fill_gn8 {a b:Value}:Instr.fill (fun i=>some (i * 2,2)) ((Array.range (1 * 2)).map ((Value.agg #[.slice none 0 0,.int .i64 0]).cells[· % (Value.agg #[.slice none 0 0,.int .i64 0]).cells.size]!)) [(0,.agg #[a,b])]=some #[a,b]:=by kernel_rfl
end Go.Proofs.YtkgjlcdefnpkpaaGreatDoor
