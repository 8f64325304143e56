/- Parts in rows; what is read of an element. What the program reads of elements, as functions. What was read is that name's element: plain facts. A signature's bytes are one alone: plain facts. -/
import Derived.Test.YtnkipgbnnhahbaaGreatDoorDcOut
import Derived.Test.YtnkipgbnnhahbaaGreatDoorCtSig
import Derived.Test.YtnkipgbnnhahbaaGreatDoorDrDep
import Derived.Test.YtnkipgbnnhahbaaGreatDoorMfPln
import Derived.Test.YtnkipgbnnhahbaaGreatDoorEcTlv
import Derived.Test.YtnkipgbnnhahbaaGreatDoorEdFact
import Derived.Test.YtnkipgbnnhahbaaGreatDoorClWr
import Derived.Test.YtnkipgbnnhahbaaGreatDoorRows
import Derived.Deep.WholeRow
import Derived.Deep.RegionHeld3
import Derived.Deep.DeepCutAuto
import Derived.Deep.DeepFit
import Derived.Deep.OwnRows
import Derived.Deep.AppendLies
import Derived.Great.BuildSlice
import Derived.Laws.Rows
import Derived.BigQuiet
namespace Go.Proofs.YtnkipgbnnhahbaaGreatDoor
open Go.RowKit
/-- parts as cells -/
def ptC:List Pn→List Value
 | []=>[]
 | p :: n=>.int .i64 p.1 :: .string (strOfNums p.2) :: ptC n
theorem ptC_len:∀ n:List Pn,(ptC n).length=n.length * 2
 | []=>rfl
 | p :: n=>by rw [ptC,List.length_cons,List.length_cons,ptC_len n,List.length_cons];omega
theorem ptC_get:∀ {n:List Pn} {i:Nat} {p:Pn},n[i]?=some p→(ptC n)[i * 2]?=some (.int .i64 p.1)∧(ptC n)[i * 2 + 1]?=some (.string (strOfNums p.2))
 | [],i,p,h=>by simp at h
 | q :: n,0,p,h=>by
  simp at h
  subst h
  exact ⟨rfl,rfl⟩
 | q :: n,i + 1,p,h=>by
  rw [List.getElem?_cons_succ] at h
  obtain ⟨h1,h2⟩:=ptC_get h
  rw [ptC,show (i + 1) * 2=i * 2 + 1 + 1 by omega]
  simp only [List.getElem?_cons_succ]
  exact ⟨h1,h2⟩
theorem NmAt.of_own {w:World} {base:Nat} {e:TypeId} {v:Value} {k:Nat} {n:List Pn} (h:w.ownsRow base e 2 v k (ptC n)):NmAt w v n:=by
 obtain ⟨hl,h⟩:=h
 have hn:n.length=k:=by rw [ptC_len] at hl;omega
 rcases h with ⟨h1,h2⟩|⟨g,cap,cur,h1,h2,h3,h4,h5,h6,h7⟩
 ·exact ⟨none,0,by rw [h1,hn,h2],by omega,by decide,fun h=>by omega⟩
 ·refine ⟨_,cap,by rw [hn];exact h1,by omega,h5,fun _=>⟨g,0,rfl,(Array.getElem?_eq_some_iff.1 h3).1,fun i p hp=>?_⟩⟩
  obtain ⟨e1,e2⟩:=ptC_get hp
  have hi:=(List.getElem?_eq_some_iff.1 hp).1
  rw [← h7,List.getElem?_take,if_pos (by omega)] at e1 e2
  rw [Nat.zero_add]
  simp only [World.cell?,h3,Option.isSome_none,Bool.false_eq_true,if_false]
  exact ⟨by simpa using e1,by simpa using e2⟩
theorem NmNew.of_own {w w':World} {base:Nat} {e:TypeId} {v:Value} {k:Nat} {n:List Pn} (h:w'.ownsRow base e 2 v k (ptC n)) (hb:w.heap.size≤base):NmNew w w' v n:=fun _ ha =>
 NmAt.of_own (own_agr h ha (fun _ hg=>Nat.le_trans hb (own_geK h hg).1))
/-- what read tells -/
def ReadR (w:World) (T:Tl) (e:Ending) (w':World):Prop :=
 (∀ n,readN T=.ok n→∃ v,e=.returned (.tuple #[v,.int .i64 0])∧NmNew w w' v n)∧(∀ c,readN T=.error c→e=.returned (.tuple #[.slice none 0 0,.int .i64 (c:Int)]))∧Below w.heap.size w w'
theorem ReadR.bad {w w':World} {T:Tl} {c:Nat} (h:readN T=.error c) (hb:Below w.heap.size w w'):ReadR w T (.returned (.tuple #[.slice none 0 0,.int .i64 (c:Int)])) w' :=
 ⟨fun n k=>(by rw [h] at k;cases k),fun d k=>(by rw [h] at k;cases k;rfl),hb⟩
theorem ReadR.ok {w w':World} {T:Tl} {n:List Pn} {v:Value} (h:readN T=.ok n) (hn:NmNew w w' v n) (hb:Below w.heap.size w w'):ReadR w T (.returned (.tuple #[v,.int .i64 0])) w' :=
 ⟨fun m k=>(by rw [h] at k;cases k;exact ⟨v,rfl,hn⟩),fun d k=>(by rw [h] at k;cases k),hb⟩
/-- an identifier's kind -/
def kindB (B:List Int):Option Int:=if B.length=3∧B.getD 0 0=85∧B.getD 1 0=4∧kindN (B.getD 2 0)=true then some (B.getD 2 0) else none
/-- a list's part; a set's part -/
def pairP:Tl→Option Pn
 | .mk c t m b [.mk c2 t2 m2 b2 k2,.mk c3 t3 m3 b3 k3]=>if madeB 16 (.mk c t m b [.mk c2 t2 m2 b2 k2,.mk c3 t3 m3 b3 k3])=true∧plainB 6 (.mk c2 t2 m2 b2 k2)=true∧plainB 12 (.mk c3 t3 m3 b3 k3)=true then (match kindB b2 with|none=>none|some k=>if textL b3=true then some (k,b3) else none) else none
 | _=>none
def ofSetP:Tl→Option Pn
 | .mk c t m b [k]=>if madeB 17 (.mk c t m b [k])=true then pairP k else none
 | _=>none
/-- what the program reads of an element -/
def readP:Tl→Except Nat (List Pn)
 | .mk c t m b ks=>if madeB 16 (.mk c t m b ks)=true then (match ks.mapM ofSetP with|none=>.error 7|some n=>if 8 < n.length then .error 2 else .ok n) else .error 7
/-- what the program's Of tells -/
def OfP (w:World) (T:Tl) (e:Ending) (w':World):Prop :=
 (∀ n,readP T=.ok n→∃ v,e=.returned (.tuple #[v,.nilIface])∧NmNew w w' v n)∧(∀ c,readP T=.error c→∃ (ao:Option Addr) (cap:Nat),e=.returned (.tuple #[.slice ao 0 cap,.iface 46 (.int .i64 (c:Int))]))∧Below w.heap.size w w'
theorem OfP.bad {w w':World} {T:Tl} {c:Nat} {ao:Option Addr} {cap:Nat} (h:readP T=.error c) (hb:Below w.heap.size w w'):OfP w T (.returned (.tuple #[.slice ao 0 cap,.iface 46 (.int .i64 (c:Int))])) w' :=
 ⟨fun n k=>(by rw [h] at k;cases k),fun d k=>(by rw [h] at k;cases k;exact ⟨ao,cap,rfl⟩),hb⟩
theorem OfP.ok {w w':World} {T:Tl} {n:List Pn} {v:Value} (h:readP T=.ok n) (hn:NmNew w w' v n) (hb:Below w.heap.size w w'):OfP w T (.returned (.tuple #[v,.nilIface])) w' :=
 ⟨fun m k=>(by rw [h] at k;cases k;exact ⟨v,rfl,hn⟩),fun d k=>(by rw [h] at k;cases k),hb⟩
/-- what partOf tells -/
def PartR (w:World) (T:Tl) (e:Ending) (w':World):Prop:=Below w.heap.size w w'∧(ofSetP T=none→e=.returned (.tuple #[.agg #[.int .i64 0,.string { data:=#[] }],.iface 46 (.int .i64 7)]))∧(∀ p,ofSetP T=some p→e=.returned (.tuple #[.agg #[.int .i64 p.1,.string (strOfNums p.2)],.nilIface]))
theorem PartR.bad {w w':World} {T:Tl} (h:ofSetP T=none) (hb:Below w.heap.size w w'):PartR w T (.returned (.tuple #[.agg #[.int .i64 0,.string { data:=#[] }],.iface 46 (.int .i64 7)])) w':=⟨hb,fun _=>rfl,fun p k=>(by rw [h] at k;cases k)⟩
theorem PartR.ok {w w':World} {T:Tl} {k:Int} {s:List Int} {s9:ByteArray} (h:ofSetP T=some (k,s)) (hs:strOfNums s=s9) (hb:Below w.heap.size w w'):PartR w T (.returned (.tuple #[.agg #[.int .i64 k,.string s9],.nilIface])) w':=⟨hb,fun k=>(by rw [h] at k;cases k),fun p k=>(by rw [h] at k;cases k;rw [← hs])⟩
theorem fine_say {c t:Int} {m:Bool} {b:List Int} {ks:List Tl} (h:fineT (.mk c t m b ks)=true):(m=true→b=[])∧(m=false→ks=[])∧fineL ks=true:=by
 rw [fineT,Bool.and_eq_true] at h
 obtain ⟨h1,h2⟩:=h
 unfold fine1 at h1
 simp only [Bool.and_eq_true,Bool.not_eq_true',Bool.and_eq_false_iff,decide_eq_true_eq,decide_eq_false_iff_not] at h1
 obtain ⟨⟨-,h3⟩,h4⟩:=h1
 refine ⟨fun e=>?_,fun e=>?_,h2⟩
 ·subst e
  rcases h3 with h|h
  ·cases h
  ·exact List.eq_nil_of_length_eq_zero (by omega)
 ·subst e
  rcases h4 with h|h
  ·cases h
  ·exact List.eq_nil_of_length_eq_zero (by omega)
theorem byt_mem9 {X:List Int} (h:∀ x∈X,0≤x∧x < 256):byt X:=fun j=>by
 rw [List.getD_eq_getElem?_getD]
 cases e:X[j]? with
 | none=>simp
 | some x=>exact h x (List.mem_of_getElem? e)
theorem lessZ_pad:∀ (m:Nat) (X:List Int),lessZ (List.replicate m 0++X)=lessZ X
 | 0,X=>rfl
 | m + 1,X=>by rw [List.replicate_succ,List.cons_append,lessZ,if_pos rfl,lessZ_pad m X]
theorem lessZ_of {x:Int} {X:List Int} (h:¬ x=0):lessZ (x :: X)=x :: X:=by rw [lessZ,if_neg h]
/-- a number's body is one alone -/
theorem numOf_num {b n:List Int} (h:numP b=.ok n):numOf n=.ok b:=by
 unfold numP at h
 by_cases h0:b.length=0∨127 < b.getD 0 0∨(1 < b.length∧b.getD 0 0=0∧b.getD 1 0 < 128)
 ·rw [if_pos h0] at h
  cases h
 ·rw [if_neg h0] at h
  match b,h0,h with
  | [],h0,_=>exact absurd (.inl rfl) h0
  | x :: xs,h0,h =>
   by_cases hx:x=0
   ·subst hx
    have hz:((0:Int) :: xs).getD 0 0=0:=rfl
    simp only [if_pos hz] at h
    split at h
    ·cases h
    ·rename_i h64
     cases h
     match xs,h0,h64 with
     | [],_,_=>rfl
     | y :: ys,h0,h64 =>
      have hy:¬ y < 128:=fun k=>h0 (.inr (.inr ⟨by simp,rfl,k⟩))
      have hl:¬ 64 < (y :: ys).length:=h64
      show numOf (y :: ys)=_
      unfold numOf
      rw [lessZ_of (by omega),if_neg hl,if_pos (.inr (by show 127 < y;omega))]
   ·have hz:¬ (x :: xs).getD 0 0=0:=hx
    simp only [if_neg hz] at h
    split at h
    ·cases h
    ·rename_i h64
     cases h
     have hy:¬ 127 < x:=fun k=>h0 (.inr (.inl k))
     unfold numOf
     rw [lessZ_of hx,if_neg h64,if_neg (fun k=>k.elim (fun k=>by simp at k) hy)]
theorem numOf_48 {b n X:List Int} (h:numP b=.ok n) (hn:byt n) (hl:n.length≤48) (hX:Is48 X (beN n)):numOf X=.ok b:=by
 have e:X=List.replicate (48 - n.length) 0++n:=beN_inj _ _ (by rw [hX.1];simp;omega) hX.2.1 (byt_mem9 (fun x hx=>by
  rcases List.mem_append.1 hx with k|k
  ·rw [List.eq_of_mem_replicate k];omega
  ·obtain ⟨i,hi⟩:=List.getElem?_of_mem k
   have:=hn i
   rw [List.getD_eq_getElem?_getD,hi] at this
   exact this)) (by rw [hX.2.2,beN_pad])
 have e2:numOf X=numOf n:=by
  unfold numOf
  rw [e,lessZ_pad]
 rw [e2]
 exact numOf_num h
theorem be_ltL {n:List Int} (hn:byt n) (hl:n.length≤48):beN n < 18446744073709551616 ^ 6:=by
 have k:=be_lt (bs:=List.replicate (48 - n.length) 0++n) (byt_mem9 (fun x hx=>by
  rcases List.mem_append.1 hx with k|k
  ·rw [List.eq_of_mem_replicate k];omega
  ·obtain ⟨i,hi⟩:=List.getElem?_of_mem k
   have:=hn i
   rw [List.getD_eq_getElem?_getD,hi] at this
   exact this)) (by simp;omega)
 rw [beN_pad] at k
 exact k.2
theorem sigP_kids {c t:Int} {m:Bool} {b:List Int} {ks:List Tl} (h:¬ ks.length=2):sigP (.mk c t m b ks)=none:=by
 unfold sigP
 split
 ·rename_i e
  simp only [Tl.mk.injEq] at e
  exact absurd (by rw [e.2.2.2.2];rfl) h
 ·rfl
theorem sigP_some {c t c0 t0 c1 t1:Int} {m m0 m1:Bool} {b b0 b1 x y:List Int} {k0 k1:List Tl} (h:sigP (.mk c t m b [.mk c0 t0 m0 b0 k0,.mk c1 t1 m1 b1 k1])=some (x,y)):(c=0∧t=16∧m=true)∧(c0=0∧t0=2∧m0=false)∧(c1=0∧t1=2∧m1=false)∧numP b0=.ok x∧numP b1=.ok y:=by
 simp only [sigP,partP] at h
 split at h
 ·rename_i h1
  by_cases h2:c0=0∧t0=2∧m0=false
  ·by_cases h3:c1=0∧t1=2∧m1=false
   ·rw [if_pos h2,if_pos h3] at h
    cases e1:numP b0 with
    | error z=>rw [e1] at h;cases h
    | ok u =>
     cases e2:numP b1 with
     | error z=>rw [e1,e2] at h;cases h
     | ok v =>
      rw [e1,e2] at h
      cases h
      exact ⟨h1,h2,h3,rfl,rfl⟩
   ·rw [if_pos h2,if_neg h3] at h
    cases e1:numP b0 with
    | error z=>rw [e1] at h;cases h
    | ok u=>rw [e1] at h;cases h
  ·rw [if_neg h2] at h
   cases h
 ·cases h
theorem sigP_num {c t c0 t0 c1 t1:Int} {m m0 m1:Bool} {b b0 b1:List Int} {k0 k1:List Tl} (h:okO (numP b0)=none∨okO (numP b1)=none):sigP (.mk c t m b [.mk c0 t0 m0 b0 k0,.mk c1 t1 m1 b1 k1])=none:=by
 cases e:sigP (.mk c t m b [.mk c0 t0 m0 b0 k0,.mk c1 t1 m1 b1 k1]) with
 | none=>rfl
 | some q =>
  obtain ⟨x,y⟩:=q
  obtain ⟨-,-,-,h4,h5⟩:=sigP_some e
  rcases h with h|h
  ·rw [h4] at h;cases h
  ·rw [h5] at h;cases h
/-- the bytes of what was read are those that were there -/
theorem sig_fwd {B nx ny X Y x y:List Int} {c t c0 t0 c1 t1:Int} {m m0 m1:Bool} {b b0 b1:List Int} {k0 k1:List Tl} (hB:byt B) (hp:parseP B=.ok (.mk c t m b [.mk c0 t0 m0 b0 k0,.mk c1 t1 m1 b1 k1])) (hs:sigP (.mk c t m b [.mk c0 t0 m0 b0 k0,.mk c1 t1 m1 b1 k1])=some (nx,ny)) (n1:byt nx) (n2:byt ny) (l1:nx.length≤48) (l2:ny.length≤48) (k:SigB (beN nx) (beN ny) X Y x y):bytesT (sigT x y)=B:=by
 obtain ⟨⟨rfl,rfl,rfl⟩,⟨rfl,rfl,rfl⟩,⟨rfl,rfl,rfl⟩,e1,e2⟩:=sigP_some hs
 obtain ⟨e,f,-,-,-⟩:=parse_ok hB hp
 obtain ⟨f1,-,f3⟩:=fine_say f
 obtain rfl:=f1 rfl
 rw [fineL,fineL,Bool.and_eq_true,Bool.and_eq_true] at f3
 obtain rfl:=(fine_say f3.1).2.1 rfl
 obtain rfl:=(fine_say f3.2.1).2.1 rfl
 have q1:=numOf_48 e1 n1 l1 k.1
 have q2:=numOf_48 e2 n2 l2 k.2.1
 rw [k.2.2.1] at q1
 rw [k.2.2.2] at q2
 cases q1
 cases q2
 exact e
theorem sig_bwd {B X Y x y:List Int} {r s:Int} (k:SigB r s X Y x y) (h:isSc r∧isSc s) (e:bytesT (sigT x y)=B):sigD B=some (r,s):=by
 obtain ⟨x',h1,l1⟩:=num48 k.1.1
 obtain ⟨y',h2,l2⟩:=num48 k.2.1.1
 have e1:=k.2.2.1
 have e2:=k.2.2.2
 rw [h1] at e1
 rw [h2] at e2
 cases e1
 cases e2
 have hp:=sig_parse l1 l2
 rw [e] at hp
 have hs:=sigP_back k.1.2.1 k.2.1.2.1 h1 h2
 have z1:beN (lessZ X)=r:=by rw [beN_less,k.1.2.2]
 have z2:beN (lessZ Y)=s:=by rw [beN_less,k.2.1.2.2]
 have q:=sigD_s hp hs (by rw [z1,z2];exact h)
 rw [z1,z2] at q
 exact q
/-- a signature, and whether it is one -/
def SigE (w:World) (r:Option (Int × Int)) (e:Ending) (w':World):Prop:=Below w.heap.size w w'∧∃ (rs ss:List Value) (x y:Int) (bb:Bool),e=.returned (.tuple #[.agg (rs++ss).toArray,.bool bb])∧U6 rs x∧U6 ss y∧Hid (bb=true→r=some (x,y))∧Hid (bb=false→r=none)
theorem SigE.no0 {w w':World} {r:Option (Int × Int)} (h:r=none) (hb:Below w.heap.size w w'):SigE w r (.returned (.tuple #[.agg #[.int .u64 0,.int .u64 0,.int .u64 0,.int .u64 0,.int .u64 0,.int .u64 0,.int .u64 0,.int .u64 0,.int .u64 0,.int .u64 0,.int .u64 0,.int .u64 0],.bool false])) w':=⟨hb,[.int .u64 0,.int .u64 0,.int .u64 0,.int .u64 0,.int .u64 0,.int .u64 0],[.int .u64 0,.int .u64 0,.int .u64 0,.int .u64 0,.int .u64 0,.int .u64 0],0,0,false,rfl,U6.zero,U6.zero,fun q=>(by cases q),fun _=>h⟩
theorem SigE.is {w w':World} {r:Option (Int × Int)} {rs ss:List Value} {x y:Int} {bb:Bool} {ts:List Value} (ht:rs++ss=ts) (h1:U6 rs x) (h2:U6 ss y) (h3:bb=true→r=some (x,y)) (h4:bb=false→r=none) (hb:Below w.heap.size w w'):SigE w r (.returned (.tuple #[.agg ts.toArray,.bool bb])) w':=⟨hb,rs,ss,x,y,bb,by rw [ht],h1,h2,h3,h4⟩
end Go.Proofs.YtnkipgbnnhahbaaGreatDoor
