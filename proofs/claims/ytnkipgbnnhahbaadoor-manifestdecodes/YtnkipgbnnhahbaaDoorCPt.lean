/- What stays through a walk: blocks that are known, blocks that may be written, all below; under one letter S, with its rules. What stays through a walk, for blocks of whatever cells: known ones, and ones that may be written; under one letter S, with its rules. The reference's numbers as slices: their lengths; stores beside them. Six limbs that fit. The field's prime: plain facts on numbers. The points of the curve are a group: sums go either way round and in any order. Plain facts on numbers. Points, as the document's and as limbs: plain facts; the curve's number. -/
import Derived.Test.YtnkipgbnnhahbaaDoorPut13
import Derived.Test.YtnkipgbnnhahbaaDoorNum
import Derived.Test.YtnkipgbnnhahbaaDoorBase
import Derived.Test.YtnkipgbnnhahbaaDoorApBs
import Derived.Laws.CopyOwn
import Derived.Deep.MidRow
import Derived.Test.YtnkipgbnnhahbaaDoorRows
import Derived.Deep.WholeRow
import Derived.Deep.RegionHeld3
import Derived.Deep.DeepCutAuto
import Derived.Deep.DeepFit
namespace Go.Proofs.YtnkipgbnnhahbaaDoor
open Go.RowKit
/-- S at a world, under a head of its own -/
def Hd (S:World→Prop) (w:World):Prop:=S w
/-- a block of n numbers of 64 bits, whatever they are -/
def Wrn (w:World) (b n:Nat):Prop:=∃ X:List Int,X.length=n∧Blk w b (us X)
theorem Wrn.mk {w:World} {b n:Nat} {X:List Int} (h:Blk w b (us X)) (l:X.length=n):Wrn w b n:=⟨_,l,h⟩
theorem Wrn.later {w w':World} {b n:Nat} (h:Wrn w b n) (hb:Below w.heap.size w w'):Wrn w' b n:=by
 obtain ⟨X,l,h⟩:=h
 exact ⟨X,l,h.later hb⟩
theorem Wrn.lt {w:World} {b n:Nat} (h:Wrn w b n):b < w.heap.size:=by
 obtain ⟨X,l,h⟩:=h
 exact h.lt
theorem Wrn.alloc {w:World} {b n:Nat} (h:Wrn w b n) (o:Obj):Wrn (w.alloc o) b n:=by
 obtain ⟨X,l,h⟩:=h
 exact ⟨X,l,h.alloc o⟩
theorem Wrn.set {w:World} {b n c j:Nat} {y:Int} (h:Wrn w b n):Wrn (w.setCell ⟨c,j,none⟩ (.int .u64 y)) b n:=by
 obtain ⟨X,l,h⟩:=h
 by_cases e:b=c
 ·subst e;exact ⟨_,by simpa using l,h.setu j y⟩
 ·exact ⟨X,l,h.other _ _ e⟩
theorem Wrn.row {w:World} {b n:Nat} {cs:Array Value} (h:Wrn w b n):Blk (w.setRow b cs) b cs.toList:=by
 obtain ⟨X,l,t,h⟩:=h
 exact ⟨t,by simpa using setRow_heap w b _ cs t _ h⟩
theorem Blk.row {w:World} {b c:Nat} {X:List Value} {cs:Array Value} (h:Blk w b X) (hc:b≠c):Blk (w.setRow c cs) b X:=by
 obtain ⟨t,h⟩:=h
 exact ⟨t,by rw [setRow_other _ _ _ _ hc];exact h⟩
theorem num_len {w:World} {v:Value} {N:Int} (h:NumIs w v N):∃ (ao:Option Addr) (n cap:Nat),v=.slice ao n cap∧n≤cap∧cap≤maxLen∧((n:Int)=0↔N=0):=by
 obtain ⟨D,sD,dD,tD,rfl⟩:=h
 obtain ⟨ao,cap,rfl,m,k,-⟩:=sD.form
 refine ⟨ao,D.length,cap,rfl,k,m,fun h=>?_,fun h=>?_⟩
 ·match D,h with
  | [],_=>rfl
 ·apply Classical.byContradiction
  intro hn
  have l:=trd_lower D dD tD (by omega)
  have p:(0:Int) < 4294967296 ^ (D.length - 1):=Int.pow_pos (by decide)
  omega
theorem NumIs.form {w:World} {v:Value} {N:Int} (h:NumIs w v N):∃ (ao:Option Addr) (n cap:Nat),v=.slice ao n cap:=by
 obtain ⟨ao,n,cap,e,-⟩:=num_len h
 exact ⟨ao,n,cap,e⟩
/-- a store into a block that begins with a bool leaves numbers as they are -/
theorem NumIs.set {w:World} {v:Value} {N:Int} {b j:Nat} {c:Bool} {X:List Value} {y:Value} (h:NumIs w v N) (B:Blk w b (.bool c :: X)):NumIs (w.setCell ⟨b,j,none⟩ y) v N:=by
 obtain ⟨D,sD,h2⟩:=h
 refine ⟨D,?_,h2⟩
 rcases sD with ⟨h1,h3⟩|⟨b',cap,h1,h3,h4,h5,h6⟩
 ·exact .inl ⟨h1,h3⟩
 ·refine .inr ⟨b',cap,h1,h3,h4,by simpa using h5,fun k hk=>?_⟩
  have h0:=h6 0 (by omega)
  have hb:=B.cell 0 _ rfl
  have hne:b'≠b:=by
   rintro rfl
   rw [hb] at h0
   simp at h0
  rw [World.cell?_setCell_other _ _ _ _ (by simp)]
  exact h6 k hk
theorem fits6 {x0 x1 x2 x3 x4 x5:Int} (h:(0≤x0∧x0 < 18446744073709551616)∧(0≤x1∧x1 < 18446744073709551616)∧(0≤x2∧x2 < 18446744073709551616)∧(0≤x3∧x3 < 18446744073709551616)∧(0≤x4∧x4 < 18446744073709551616)∧(0≤x5∧x5 < 18446744073709551616)):fits [x0,x1,x2,x3,x4,x5]:=by
 obtain ⟨h0,h1,h2,h3,h4,h5⟩:=h
 intro j
 match j with
 | 0=>exact h0
 | 1=>exact h1
 | 2=>exact h2
 | 3=>exact h3
 | 4=>exact h4
 | 5=>exact h5
 | _ + 6=>exact ⟨by simp,by simp⟩
/-- the prime -/
def PP:Int:=39402006196394479212279040100143613805079739270465446667948293404245721771496870329047266088258938001861606973112319
/-- the prime divides it -/
def Nu (a:Int):Prop:=PP ∣ a
theorem Nu.add {a b:Int} (h:Nu a) (k:Nu b):Nu (a + b):=Int.dvd_add h k
/-- points -/
abbrev Pt:=Option (Int × Int)
/-- a point of the document's -/
def PtIs (w:World) (v:Value):Pt→Prop
 | none=>v=.agg #[.bool true,.slice none 0 0,.slice none 0 0]
 | some p=>∃ a m c a' m' c',v=.agg #[.bool false,.slice a m c,.slice a' m' c']∧NumIs w (.slice a m c) p.1∧NumIs w (.slice a' m' c') p.2
theorem PtIs.later {w w':World} {v:Value} {P:Pt} (h:PtIs w v P) (hb:Below w.heap.size w w'):PtIs w' v P:=by
 cases P with
 | none=>exact h
 | some p =>
  obtain ⟨a,m,c,a',m',c',e,h1,h2⟩:=h
  exact ⟨a,m,c,a',m',c',e,h1.later hb,h2.later hb⟩
theorem PtIs.drew {w:World} {v:Value} {P:Pt} (h:PtIs w v P):PtIs w.drew v P:=by
 cases P with
 | none=>exact h
 | some p =>
  obtain ⟨a,m,c,a',m',c',e,h1,h2⟩:=h
  exact ⟨a,m,c,a',m',c',e,h1.drew,h2.drew⟩
theorem PtIs.alloc {w:World} {v:Value} {P:Pt} (h:PtIs w v P) (o:Obj):PtIs (w.alloc o) v P:=h.later ((Below.refl _ _).alloc (Nat.le_refl _) o)
theorem PtIs.form {w:World} {v:Value} {P:Pt} (h:PtIs w v P):∃ (nb:Bool) (a:Option Addr) (n k:Nat) (b:Option Addr) (m l:Nat),v=.agg #[.bool nb,.slice a n k,.slice b m l]:=by
 cases P with
 | none=>exact ⟨true,none,0,0,none,0,0,h⟩
 | some p =>
  obtain ⟨a,m,c,a',m',c',e,_⟩:=h
  exact ⟨false,a,m,c,a',m',c',e⟩
/-- the limbs A and B and the bool n tell the point P -/
structure Told (P:Pt) (A B:List Int) (n:Bool):Prop where
 fA:fits A
 fB:fits B
 is:(P=none∧n=true∧A=[0,0,0,0,0,0]∧B=[0,0,0,0,0,0])∨(P=some (v64 A,v64 B)∧n=false)
end Go.Proofs.YtnkipgbnnhahbaaDoor
