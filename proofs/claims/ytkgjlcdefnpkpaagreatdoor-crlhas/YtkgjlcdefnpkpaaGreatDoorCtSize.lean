/- Certificates and their elements, as functions. What each part of a body is, or none. Names' elements: plain facts. How great certificates' elements are. Plain facts. -/
import Derived.Test.YtkgjlcdefnpkpaaGreatDoorCtBase
import Derived.Test.YtkgjlcdefnpkpaaGreatDoorNlSG
import Derived.Test.YtkgjlcdefnpkpaaGreatDoorPmNG
import Derived.Test.YtkgjlcdefnpkpaaGreatDoorPmTof
import Derived.Test.YtkgjlcdefnpkpaaGreatDoorDrTG
import Derived.Test.YtkgjlcdefnpkpaaGreatDoorApBs
import Derived.Test.YtkgjlcdefnpkpaaGreatDoorEdG
import Derived.Test.YtkgjlcdefnpkpaaGreatDoorCtRG
import Derived.Test.YtkgjlcdefnpkpaaGreatDoorNlElem
import Derived.Test.YtkgjlcdefnpkpaaGreatDoorDrDG
import Derived.Test.YtkgjlcdefnpkpaaGreatDoorRows
import Derived.Deep.OwnRows
import Derived.Deep.AppendLies
import Derived.Great.BuildSlice
import Derived.Laws.Rows
import Derived.BigQuiet
import Derived.Deep.WholeRow
import Derived.Deep.RegionHeld3
import Derived.Deep.DeepCutAuto
import Derived.Deep.DeepFit
namespace Go.Proofs.YtkgjlcdefnpkpaaGreatDoor
open Go.RowKit
/-- a list, an element of class 2, a truth that is true -/
def listT (ks:List Tl):Tl:=.mk 0 16 true [] ks
/-- what is answered, or no bytes -/
def orNil:Except Nat (List Int)→List Int
 | .ok b=>b
 | .error _=>[]
/-- an identifier's element -/
def oidT (l:List Int):Tl:=.mk 0 6 false (orNil (oidOf l)) []
def algT:Tl:=listT [oidT [1,2,840,10045,4,3,3]]
/-- the bytes of an element, or none -/
noncomputable def wrB (T:Tl):List Int:=if wrN T=0 then bytesT T else []
/-- a serial number's element, a time's; or none -/
def serT (n:List Int):Option Tl:=if n.length < 1∨20 < n.length∨n.getD 0 0=0 then none else some (.mk 0 2 false (orNil (numOf n)) [])
def timT (v:Int):Option Tl:=match timeOf v with|.ok (a,b)=>some (.mk 0 a false b [])|.error _=>none
noncomputable def orT:Option Tl→Tl
 | some T=>T
 | none=>.mk 0 0 false [] []
theorem with_keyK {T G:Prop} (main:T→G) (kp:T):G:=main kp
/-- what a function tells that makes an element, or an error -/
def ElR (w:World) (r:Option Tl) (e:Ending) (w':World):Prop:=Below w.heap.size w w'∧(r=none→∃ c:Int,e=.returned (.tuple #[.agg #[.int .i64 0,.int .i64 0,.bool false,.slice none 0 0,.slice none 0 0],.iface 56 (.int .i64 c)]))∧(∀ T,r=some T→∃ cs:List Value,e=.returned (.tuple #[.agg cs.toArray,.nilIface])∧Dep (fun g=>w.heap.size≤g) w' T cs)
theorem ElR.bad {w w':World} {r:Option Tl} {c:Int} (h:r=none) (hb:Below w.heap.size w w'):ElR w r (.returned (.tuple #[.agg #[.int .i64 0,.int .i64 0,.bool false,.slice none 0 0,.slice none 0 0],.iface 56 (.int .i64 c)])) w':=⟨hb,fun _=>⟨c,rfl⟩,fun T k=>(by rw [h] at k;cases k)⟩
theorem ElR.ok {w w':World} {r:Option Tl} {T:Tl} {cs:List Value} (h:r=some T) (hd:Dep (fun g=>w.heap.size≤g) w' T cs) (hb:Below w.heap.size w w'):ElR w r (.returned (.tuple #[.agg cs.toArray,.nilIface])) w':=⟨hb,fun k=>(by rw [h] at k;cases k),fun T' k=>(by rw [h] at k;cases k;exact ⟨cs,rfl,hd⟩)⟩
theorem RwT.cell {w:World} {N c k:Nat} {kv v:Value} {Ts:List Tl} (h:RwT w N kv Ts) (hc:c < N):RwT (w.setCell ⟨c,k,none⟩ v) N kv Ts:=by
 obtain ⟨xs,h1,h2⟩:=h
 exact ⟨xs,own_agr (S:=fun b=>N≤b) h1 ((Agr.refl _ _).cell (by omega)) (fun g hg=>(own_geK h1 hg).1),fun i t ht=>(h2 i t ht).next ((Agr.refl _ _).cell (fun h=>by have:=h.1;omega)) (fun _ h _=>h)⟩
theorem RwT.ltE {w:World} {N b:Nat} {kv:Value} {Ts:List Tl} (h:RwT w N kv Ts) (hb:kv.ownBlock=some b):N≤b∧b < w.heap.size:=by
 obtain ⟨xs,h1,_⟩:=h
 exact own_geK h1 hb
/-- may it be a serial number? -/
def serB (n:List Int):Bool:=decide (¬ (n.length < 1∨20 < n.length∨n.getD 0 0=0))
theorem serT_no {n:List Int} (h:serB n=false):serT n=none:=by
 unfold serB at h
 unfold serT
 rw [if_pos (Decidable.not_not.1 (of_decide_eq_false h))]
theorem serT_yes {n:List Int} (h:serB n=true):∃ b,numOf n=.ok b∧serT n=some (.mk 0 2 false b []):=by
 have h1:=of_decide_eq_true h
 unfold serT
 rw [if_neg h1]
 cases hn:numOf n with
 | ok b=>exact ⟨b,rfl,rfl⟩
 | error c =>
  exfalso
  unfold numOf at hn
  have hz:∀ X:List Int,(lessZ X).length≤X.length:=by
   intro X
   induction X with
   | nil=>simp [lessZ]
   | cons x X ih =>
    rw [lessZ]
    split
    ·rw [List.length_cons];omega
    ·exact Nat.le_refl _
  have:=hz n
  rw [if_neg (by omega)] at hn
  split at hn<;>cases hn
theorem timT_no {t:Int} {c:Nat} (h:timeOf t=.error c):timT t=none:=by unfold timT;rw [h]
theorem timT_yes {t a:Int} {b:List Int} (h:timeOf t=.ok (a,b)):timT t=some (.mk 0 a false b []):=by unfold timT;rw [h]
/-- a name's element, or none -/
def nameO (n:List Pn):Option Tl:=if mayN n=true then some (elemN n) else none
theorem take_mem {α:Type} {L:List α} {i:Nat} {x:α} {P:α→Prop} (h:∀ l∈L.take i,P l) (hx:L[i]?=some x) (k:P x):∀ l∈L.take (i + 1),P l:=fun l hl=>by
 rw [List.take_add_one,hx,List.mem_append] at hl
 rcases hl with hl|hl
 ·exact h l hl
 ·simp at hl
  subst hl
  exact k
theorem map_next {α β:Type} {L:List α} {i:Nat} {x:α} {f:α→β} (hx:L[i]?=some x):(L.take (i + 1)).map f=(L.take i).map f++[f x]:=by
 rw [List.take_add_one,hx,List.map_append]
 rfl
theorem con_NElemO {v:Value} {n:List Pn} {w:World} (hn:NmAt w v n) (wn:WfN n):Calls Tryz.prog 44 #[v] w (ElR w (nameO n)):=by
 refine (con_NElem hn wn).mono ?_
 rintro e w' ⟨h1,h2⟩
 unfold nameO
 cases hm:mayN n with
 | false =>
  obtain ⟨rfl,hb⟩:=h1 hm
  exact ElR.bad (by simp) hb
 | true =>
  obtain ⟨kv,xs,rfl,h3,h4,hb⟩:=h2 hm
  exact ElR.ok (by simp) (ElemR.tl h3 h4) hb
/-- two blocks that are known whole -/
def Two (w:World) (g:Nat) (X:List Value) (h:Nat) (Y:List Value):Prop:=Blk w g X∧Blk w h Y
theorem Two.later {w w':World} {g h:Nat} {X Y:List Value} (B:Two w g X h Y) (hb:Below w.heap.size w w'):Two w' g X h Y:=⟨B.1.later hb,B.2.later hb⟩
theorem Two.alloc {w:World} {g h:Nat} {X Y:List Value} (B:Two w g X h Y) (o:Obj):Two (w.alloc o) g X h Y:=⟨B.1.alloc o,B.2.alloc o⟩
theorem Two.grown {w w':World} {row:Option Nat} {g h:Nat} {X Y:List Value} (B:Two w g X h Y) (hg:w.grownBy w' row) (hr:∀ k,row=some k→¬ (k=g∨k=h)):Two w' g X h Y:=⟨B.1.grown hg (fun k hk e=>hr k hk (.inl e)),B.2.grown hg (fun k hk e=>hr k hk (.inr e))⟩
theorem Two.other {w:World} {g h:Nat} {X Y:List Value} (B:Two w g X h Y) (a:Addr) (v:Value) (hne:¬ (g=a.block∨h=a.block)):Two (w.setCell a v) g X h Y:=⟨B.1.other a v (fun e=>hne (.inl e)),B.2.other a v (fun e=>hne (.inr e))⟩
theorem part_say {p:Pn} (h:partN p=true):(0≤p.1∧p.1 < 256)∧p.2.length≤64:=by
 unfold partN kindN textP at h
 simp only [Bool.and_eq_true,Bool.or_eq_true,decide_eq_true_eq] at h
 refine ⟨by omega,?_⟩
 by_cases h64:64 < p.2.length
 ·rw [if_pos h64] at h
  exact absurd h.2 (by simp)
 ·omega
theorem may_say {n:List Pn} (h:mayN n=true):n.length≤8∧∀ p∈n,partN p=true:=by
 unfold mayN at h
 rw [Bool.and_eq_true,List.all_eq_true] at h
 exact ⟨of_decide_eq_true h.1,h.2⟩
theorem lenB_le (n:Nat):(lenB n).length≤4:=by
 unfold lenB
 split
 ·simp
 ·split
  ·simp
  ·split<;>simp
theorem bytes_mk (c t:Int) (m:Bool) (b:List Int) (ks:List Tl):(bytesT (.mk c t m b ks)).length≤5 + b.length + (bytesL ks).length:=by
 rw [bytesT]
 have:=lenB_le (b++bytesL ks).length
 simp only [List.length_cons,List.length_append] at this ⊢
 omega
theorem bytes_set {p:Pn} (h:p.2.length≤64):(bytesT (setN p)).length≤100:=by
 unfold setN
 have e0:bytesL []=[]:=by rw [bytesL]
 have h1:=bytes_mk 0 17 true [] [.mk 0 16 true [] [.mk 0 6 false [85,4,p.1] [],.mk 0 12 false p.2 []]]
 have h2:=bytes_mk 0 16 true [] [.mk 0 6 false [85,4,p.1] [],.mk 0 12 false p.2 []]
 have h3:=bytes_mk 0 6 false [85,4,p.1] []
 have h4:=bytes_mk 0 12 false p.2 []
 rw [bytesL,bytesL,List.append_nil] at h1
 rw [bytesL,bytesL,bytesL,List.append_nil,List.length_append] at h2
 rw [e0] at h3 h4
 simp only [List.length_cons,List.length_nil] at h1 h2 h3 h4
 omega
theorem bytesL_set:∀ {n:List Pn},(∀ p∈n,partN p=true)→(bytesL (n.map setN)).length≤100 * n.length
 | [],_=>by rw [List.map_nil,bytesL];simp
 | p :: n,h=>by
  have h1:=bytesL_set (n:=n) (fun q hq=>h q (List.mem_cons_of_mem _ hq))
  have h2:=bytes_set (part_say (h p (List.mem_cons_self ..))).2
  rw [List.map_cons,bytesL,List.length_append,List.length_cons]
  omega
theorem fine_set (p:Pn):fineT (setN p)=true:=by
 unfold setN
 simp [fineT,fineL,fine1]
theorem fineL_set:∀ n:List Pn,fineL (n.map setN)=true
 | []=>by rw [List.map_nil,fineL]
 | p :: n=>by rw [List.map_cons,fineL,fine_set,fineL_set n];rfl
theorem dep_set (p:Pn):depT (setN p)=3:=by
 unfold setN
 simp [depT,depL]
theorem depL_set:∀ n:List Pn,depL (n.map setN)≤3
 | []=>by rw [List.map_nil,depL];omega
 | p :: n=>by
  have:=depL_set n
  rw [List.map_cons,depL,dep_set]
  omega
theorem sz_set (p:Pn):szT (setN p)=4:=by
 unfold setN
 simp [szT,szL]
theorem szL_set:∀ n:List Pn,szL (n.map setN)=4 * n.length
 | []=>by rw [List.map_nil,szL];rfl
 | p :: n=>by rw [List.map_cons,szL,sz_set,szL_set n,List.length_cons];omega
theorem sz_elem (n:List Pn):szT (elemN n)=1 + 4 * n.length:=by
 unfold elemN
 rw [szT,szL_set]
/-- neither more bytes nor more elements than so many -/
def Sm (B:Nat) (T:Tl):Prop:=(bytesT T).length≤B∧szT T≤B
def SzmL (B:Nat) (ks:List Tl):Prop:=(bytesL ks).length≤B∧szL ks≤B
theorem Sm.le {A B:Nat} {T:Tl} (h:Sm A T) (k:A≤B):Sm B T:=⟨Nat.le_trans h.1 k,Nat.le_trans h.2 k⟩
theorem SzmL.le {A B:Nat} {ks:List Tl} (h:SzmL A ks) (k:A≤B):SzmL B ks:=⟨Nat.le_trans h.1 k,Nat.le_trans h.2 k⟩
theorem SzmL.nil:SzmL 0 []:=⟨by simp [bytesL],by simp [szL]⟩
theorem SzmL.cons {A B:Nat} {k:Tl} {ks:List Tl} (h:Sm A k) (hs:SzmL B ks):SzmL (A + B) (k :: ks):=by
 refine ⟨?_,?_⟩
 ·rw [bytesL,List.length_append]
  exact Nat.add_le_add h.1 hs.1
 ·rw [szL]
  exact Nat.add_le_add h.2 hs.2
theorem SzmL.one {A:Nat} {k:Tl} (h:Sm A k):SzmL A [k]:=h.1 |> fun _=>SzmL.le (SzmL.cons h SzmL.nil) (by omega)
theorem SzmL.app {A B:Nat}:∀ {ks ls:List Tl},SzmL A ks→SzmL B ls→SzmL (A + B) (ks++ls)
 | [],ls,_,h2=>h2.le (by omega)
 | k :: ks,ls,h1,h2=>by
  have hb:(bytesT k).length + (bytesL ks).length≤A:=by have:=h1.1;rwa [bytesL,List.length_append] at this
  have hz:szT k + szL ks≤A:=by have:=h1.2;rwa [szL] at this
  have ih:=SzmL.app (A:=A - min (bytesT k).length (szT k)) (ks:=ks) (ls:=ls) ⟨by omega,by omega⟩ h2
  refine ⟨?_,?_⟩
  ·rw [List.cons_append,bytesL,List.length_append]
   have e:∀ ks ls:List Tl,(bytesL (ks++ls)).length=(bytesL ks).length + (bytesL ls).length:=by
    intro ks ls
    induction ks with
    | nil=>simp [bytesL]
    | cons k ks ih=>rw [List.cons_append,bytesL,bytesL,List.length_append,List.length_append,ih];omega
   rw [e]
   have:=h2.1
   omega
  ·rw [List.cons_append,szL]
   have e:∀ ks ls:List Tl,szL (ks++ls)=szL ks + szL ls:=by
    intro ks ls
    induction ks with
    | nil=>simp [szL]
    | cons k ks ih=>rw [List.cons_append,szL,szL,ih];omega
   rw [e]
   have:=h2.2
   omega
theorem SzmL.map {α:Type} {A:Nat} {f:α→Tl}:∀ {L:List α},(∀ x∈L,Sm A (f x))→SzmL (A * L.length) (L.map f)
 | [],_=>SzmL.nil.le (Nat.zero_le _)
 | x :: L,h=>by
  rw [List.map_cons]
  refine (SzmL.cons (h x (List.mem_cons_self)) (SzmL.map (fun y hy=>h y (List.mem_cons_of_mem _ hy)))).le ?_
  rw [List.length_cons,Nat.mul_succ]
  omega
theorem sm_mk {B n:Nat} {c t:Int} {m:Bool} {b:List Int} {ks:List Tl} (h:SzmL B ks) (hb:b.length≤n):Sm (5 + n + B) (.mk c t m b ks):=by
 refine ⟨?_,?_⟩
 ·have:=bytes_mk c t m b ks
  have:=h.1
  omega
 ·rw [szT]
  have:=h.2
  omega
theorem sm_leaf {n:Nat} {c t:Int} {m:Bool} {b:List Int} (hb:b.length≤n):Sm (5 + n) (.mk c t m b []):=sm_mk SzmL.nil hb
theorem sm_list {B:Nat} {ks:List Tl} (h:SzmL B ks):Sm (5 + B) (listT ks):=sm_mk (n:=0) h (by simp)
theorem oid_small {l b:List Int} (h:oidOf l=.ok b):b.length≤150:=by
 unfold oidOf at h
 split at h
 ·cases h
 ·rename_i k
  split at h
  ·cases h
  ·cases h
   have h1:=b7s_len (valsO l)
   have h2:=vals_len (L:=l) (by omega)
   omega
theorem sm_oid (l:List Int):Sm 155 (oidT l):=by
 refine sm_leaf (n:=150) ?_
 cases h:oidOf l with
 | ok b=>exact oid_small h
 | error c=>simp [orNil]
theorem sm_elem {n:List Pn} (h:mayN n=true):Sm 805 (elemN n):=by
 obtain ⟨h1,h2⟩:=may_say h
 refine ⟨?_,?_⟩
 ·have h3:=bytes_mk 0 16 true [] (n.map setN)
  have h4:=bytesL_set h2
  have:(bytesT (elemN n)).length≤5 + 0 + (bytesL (n.map setN)).length:=h3
  omega
 ·rw [sz_elem];omega
theorem numOf_len {n b:List Int} (h:numOf n=.ok b):b.length≤n.length + 1:=by
 have hz:∀ X:List Int,(lessZ X).length≤X.length:=by
  intro X
  induction X with
  | nil=>simp [lessZ]
  | cons x X ih =>
   rw [lessZ]
   split
   ·rw [List.length_cons];omega
   ·exact Nat.le_refl _
 have:=hz n
 unfold numOf at h
 split at h
 ·cases h
 ·split at h
  ·cases h
   rw [List.length_cons];omega
  ·cases h
   omega
theorem sm_ser {n:List Int} {T:Tl} (h:serT n=some T):Sm 26 T:=by
 unfold serT at h
 split at h
 ·cases h
 ·rename_i k
  cases h
  refine sm_leaf (n:=21) ?_
  cases hn:numOf n with
  | ok b=>have:=numOf_len hn;simp only [orNil];omega
  | error c=>simp [orNil]
theorem sm_tim {t:Int} {T:Tl} (h:timT t=some T):Sm 20 T:=by
 unfold timT at h
 cases ht:timeOf t with
 | error c=>rw [ht] at h;cases h
 | ok q =>
  obtain ⟨a,b⟩:=q
  rw [ht] at h
  cases h
  refine sm_leaf (n:=15) ?_
  unfold timeOf at ht
  split at ht
  ·cases ht
  ·cases ht
   unfold bodyT twoN
   split<;>simp
end Go.Proofs.YtkgjlcdefnpkpaaGreatDoor
