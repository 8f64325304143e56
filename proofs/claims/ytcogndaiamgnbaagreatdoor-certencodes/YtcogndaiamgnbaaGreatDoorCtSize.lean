/- Names' elements: plain facts. How great certificates' elements are. Plain facts. -/
import Derived.Test.YtcogndaiamgnbaaGreatDoorNmConvT
import Derived.Test.YtcogndaiamgnbaaGreatDoorClOpt
namespace Go.Proofs.YtcogndaiamgnbaaGreatDoor
open Go.RowKit
theorem lenB_le (n:Nat):(lenB n).length≤4:=by
 unfold lenB
 split
 ·simp
 ·split
  ·simp
  ·split<;>simp
theorem bytes_mk (c t:Int) (m:Bool) (b:List Int) (ks:List Tl):(bytesT (.mk c t m b ks)).length≤5 + b.length + (bytesL ks).length:=by
 rw [bytesT]
 have:=lenB_le (b++bytesL ks).length
 simp only [List.length_cons,List.length_append] at this ⊢
 omega
/-- neither more bytes nor more elements than so many -/
def Sm (B:Nat) (T:Tl):Prop:=(bytesT T).length≤B∧szT T≤B
def SzmL (B:Nat) (ks:List Tl):Prop:=(bytesL ks).length≤B∧szL ks≤B
theorem Sm.le {A B:Nat} {T:Tl} (h:Sm A T) (k:A≤B):Sm B T:=⟨Nat.le_trans h.1 k,Nat.le_trans h.2 k⟩
theorem SzmL.le {A B:Nat} {ks:List Tl} (h:SzmL A ks) (k:A≤B):SzmL B ks:=⟨Nat.le_trans h.1 k,Nat.le_trans h.2 k⟩
theorem SzmL.nil:SzmL 0 []:=⟨by simp [bytesL],by simp [szL]⟩
theorem SzmL.cons {A B:Nat} {k:Tl} {ks:List Tl} (h:Sm A k) (hs:SzmL B ks):SzmL (A + B) (k :: ks):=by
 refine ⟨?_,?_⟩
 ·rw [bytesL,List.length_append]
  exact Nat.add_le_add h.1 hs.1
 ·rw [szL]
  exact Nat.add_le_add h.2 hs.2
theorem SzmL.one {A:Nat} {k:Tl} (h:Sm A k):SzmL A [k]:=h.1 |> fun _=>SzmL.le (SzmL.cons h SzmL.nil) (by omega)
theorem SzmL.app {A B:Nat}:∀ {ks ls:List Tl},SzmL A ks→SzmL B ls→SzmL (A + B) (ks++ls)
 | [],ls,_,h2=>h2.le (by omega)
 | k :: ks,ls,h1,h2=>by
  have hb:(bytesT k).length + (bytesL ks).length≤A:=by have:=h1.1;rwa [bytesL,List.length_append] at this
  have hz:szT k + szL ks≤A:=by have:=h1.2;rwa [szL] at this
  have ih:=SzmL.app (A:=A - min (bytesT k).length (szT k)) (ks:=ks) (ls:=ls) ⟨by omega,by omega⟩ h2
  refine ⟨?_,?_⟩
  ·rw [List.cons_append,bytesL,List.length_append]
   have e:∀ ks ls:List Tl,(bytesL (ks++ls)).length=(bytesL ks).length + (bytesL ls).length:=by
    intro ks ls
    induction ks with
    | nil=>simp [bytesL]
    | cons k ks ih=>rw [List.cons_append,bytesL,bytesL,List.length_append,List.length_append,ih];omega
   rw [e]
   have:=h2.1
   omega
  ·rw [List.cons_append,szL]
   have e:∀ ks ls:List Tl,szL (ks++ls)=szL ks + szL ls:=by
    intro ks ls
    induction ks with
    | nil=>simp [szL]
    | cons k ks ih=>rw [List.cons_append,szL,szL,ih];omega
   rw [e]
   have:=h2.2
   omega
theorem SzmL.map {α:Type} {A:Nat} {f:α→Tl}:∀ {L:List α},(∀ x∈L,Sm A (f x))→SzmL (A * L.length) (L.map f)
 | [],_=>SzmL.nil.le (Nat.zero_le _)
 | x :: L,h=>by
  rw [List.map_cons]
  refine (SzmL.cons (h x (List.mem_cons_self)) (SzmL.map (fun y hy=>h y (List.mem_cons_of_mem _ hy)))).le ?_
  rw [List.length_cons,Nat.mul_succ]
  omega
theorem sm_mk {B n:Nat} {c t:Int} {m:Bool} {b:List Int} {ks:List Tl} (h:SzmL B ks) (hb:b.length≤n):Sm (5 + n + B) (.mk c t m b ks):=by
 refine ⟨?_,?_⟩
 ·have:=bytes_mk c t m b ks
  have:=h.1
  omega
 ·rw [szT]
  have:=h.2
  omega
theorem sm_leaf {n:Nat} {c t:Int} {m:Bool} {b:List Int} (hb:b.length≤n):Sm (5 + n) (.mk c t m b []):=sm_mk SzmL.nil hb
theorem sm_list {B:Nat} {ks:List Tl} (h:SzmL B ks):Sm (5 + B) (listT ks):=sm_mk (n:=0) h (by simp)
theorem oid_small {l b:List Int} (h:oidOf l=.ok b):b.length≤150:=by
 unfold oidOf at h
 split at h
 ·cases h
 ·rename_i k
  split at h
  ·cases h
  ·cases h
   have h1:=b7s_len (valsO l)
   have h2:=vals_len (L:=l) (by omega)
   omega
theorem sm_oid (l:List Int):Sm 155 (oidT l):=by
 refine sm_leaf (n:=150) ?_
 cases h:oidOf l with
 | ok b=>exact oid_small h
 | error c=>simp [orNil]
end Go.Proofs.YtcogndaiamgnbaaGreatDoor
