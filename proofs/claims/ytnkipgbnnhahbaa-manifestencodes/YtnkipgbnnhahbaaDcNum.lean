/- What the program's own reckoning of lengths and depths comes to. Plain facts. -/
import Derived.Test.YtnkipgbnnhahbaaDrPar
namespace Go.Proofs.Ytnkipgbnnhahbaa
mutual
/-- every body in it is one that a machine bears -/
def SmT:Tl→Prop
 | .mk _ _ _ b ks=>b.length≤140737488355328∧SmL ks
def SmL:List Tl→Prop
 | []=>True
 | k :: ks=>SmT k∧SmL ks
end
theorem SmL.get:∀ {ks:List Tl} {i:Nat} {k:Tl},SmL ks→ks[i]?=some k→SmT k
 | [],i,k,_,h=>by simp at h
 | x :: xs,0,k,h,e=>by
  rw [SmL] at h
  simp at e
  subst e
  exact h.1
 | x :: xs,i + 1,k,h,e=>by
  rw [SmL] at h
  rw [List.getElem?_cons_succ] at e
  exact SmL.get h.2 e
mutual
theorem smT_of_len:∀ {T:Tl},(bytesT T).length≤1099511627776→SmT T
 | .mk c t m b ks,h=>by
  rw [bytesT_len,List.length_append] at h
  rw [SmT]
  exact ⟨by omega,smL_of_len (by omega)⟩
theorem smL_of_len:∀ {ks:List Tl},(bytesL ks).length≤1099511627776→SmL ks
 | [],_=>by rw [SmL];trivial
 | k :: ks,h=>by
  rw [bytesL,List.length_append] at h
  rw [SmL]
  exact ⟨smT_of_len (by omega),smL_of_len (by omega)⟩
end
theorem depL_get:∀ {ks:List Tl} {i:Nat} {k:Tl},ks[i]?=some k→depT k≤depL ks
 | [],i,k,h=>by simp at h
 | x :: xs,0,k,h=>by
  simp at h
  subst h
  rw [depL]
  omega
 | x :: xs,i + 1,k,h=>by
  rw [List.getElem?_cons_succ] at h
  have:=depL_get h
  rw [depL]
  omega
/-- how many bytes of its own a length has, as the program tells it -/
def LongOk (n l:Nat):Prop:=l≤8∧(n < 128→l=0)∧(128≤n→n < 256→l=1)∧(256≤n→n < 65536→l=2)∧(65536≤n→n < 16777216→l=3)
theorem LongOk.len {n l:Nat} (h:LongOk n l) (hn:n < 16777216):(lenB n).length=1 + l:=by
 obtain ⟨_,h0,h1,h2,h3⟩:=h
 unfold lenB
 split
 ·rw [h0 (by assumption)];rfl
 ·split
  ·rw [h1 (by omega) (by assumption)];rfl
  ·split
   ·rw [h2 (by omega) (by assumption)];rfl
   ·rw [h3 (by omega) hn];rfl
/-- so many binary digits -/
def BitLen (n l:Nat):Prop:=n < 2 ^ l∧(0 < n→2 ^ (l - 1)≤n)∧l≤64∧(n=0→l=0)
theorem BitLen.long {n l:Nat} (h:BitLen n l) (hn:128≤n):LongOk n ((l + 7) / 8):=by
 obtain ⟨h1,h2,h3,_⟩:=h
 have h2:=h2 (by omega)
 have up:∀ k,n < 2 ^ k→l≤k:=fun k hk=>by
  by_cases c:l≤k
  ·exact c
  ·have:=Nat.pow_le_pow_right (n:=2) (by omega) (show k≤l - 1 by omega)
   omega
 have dn:∀ k,2 ^ k≤n→k < l:=fun k hk=>by
  by_cases c:k < l
  ·exact c
  ·have:=Nat.pow_le_pow_right (n:=2) (by omega) (show l≤k by omega)
   omega
 refine ⟨by omega,fun h=>by omega,fun a b=>?_,fun a b=>?_,fun a b=>?_⟩
 ·have:=up 8 (by simpa using b);have:=dn 7 (by simpa using a);omega
 ·have:=up 16 (by simpa using b);have:=dn 8 (by simpa using a);omega
 ·have:=up 24 (by simpa using b);have:=dn 16 (by simpa using a);omega
/-- how many bytes an element has, as the program tells it: exactly, as far as it may have so many -/
def SizeOk (T:Tl) (n:Nat):Prop:=((bytesT T).length≤1048576→n=(bytesT T).length)∧(1048576 < (bytesT T).length→1048576 < n)∧n≤depT T * 281474976710656
theorem SizeOk.end {c t:Int} {m:Bool} {b:List Int} {ks:List Tl} {N l:Nat} (hN:b.length + (bytesL ks).length=N) (hl:LongOk N l) (hb:N≤140737488355328):SizeOk (.mk c t m b ks) (2 + l + N):=by
 have e:=bytesT_len c t m b ks
 rw [List.length_append,hN] at e
 have hl8:=hl.1
 have hB:=lenB_len N
 refine ⟨fun h=>?_,fun h=>?_,by rw [depT];omega⟩
 ·rw [e] at h ⊢
  have:=hl.len (by omega)
  omega
 ·rw [e] at h
  by_cases c:N < 16777216
  ·have:=hl.len c
   omega
  ·omega
theorem SizeOk.over {c t:Int} {m:Bool} {b:List Int} {ks:List Tl} {i x y:Nat} {k:Tl} (hk:ks[i]?=some k) (hx:x=b.length + (bytesL (ks.take i)).length) (hx2:x≤140737488355328) (hy:SizeOk k y) (h:1048576 < x + y):SizeOk (.mk c t m b ks) (x + y):=by
 have e:=bytesT_len c t m b ks
 rw [List.length_append] at e
 have hkl:=bytesL_kid hk
 have hd:=depL_get hk
 obtain ⟨h1,h2,h3⟩:=hy
 have h4:depT k * 281474976710656 + 281474976710656≤(depL ks + 1) * 281474976710656:=by omega
 refine ⟨fun hh=>?_,fun _=>h,by rw [depT];omega⟩
 rw [e] at hh
 have:=h1 (by omega)
 omega
theorem SizeOk.next {b:List Int} {ks:List Tl} {i x y:Nat} {k:Tl} (hk:ks[i]?=some k) (hx:x=b.length + (bytesL (ks.take i)).length) (hy:SizeOk k y) (h:¬ 1048576 < x + y):x + y=b.length + (bytesL (ks.take (i + 1))).length:=by
 rw [bytesL_next hk,List.length_append]
 obtain ⟨h1,h2,_⟩:=hy
 by_cases c:1048576 < (bytesT k).length
 ·have:=h2 c
  omega
 ·have:=h1 (by omega)
  omega
/-- an element, and what is in it, that is in so many others: is it too deep? -/
theorem deep_kid {ks:List Tl} {i d:Nat} {k:Tl} (h:ks[i]?=some k) (hk:16 < depT k + d):16 < depL ks + d:=by
 have:=depL_get h
 omega
theorem deep_none:∀ {ks:List Tl} {d:Nat},d≤16→(∀ (i:Nat) (k:Tl),ks[i]?=some k→depT k + d≤16)→depL ks + d≤16
 | [],d,hd,_=>by rw [depL];omega
 | k :: ks,d,hd,h=>by
  have h0:=h 0 k rfl
  have h1:=deep_none hd (fun i x hx=>h (i + 1) x (by rw [List.getElem?_cons_succ];exact hx))
  rw [depL]
  omega
end Go.Proofs.Ytnkipgbnnhahbaa
