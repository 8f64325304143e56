/- Names' elements: plain facts. How great certificates' elements are. Plain facts. A certificate's body can be written. Plain facts. Lists of revoked ones, and their elements, as functions. -/
import Derived.Test.YtohcdbifhnfcbaaGreatDoorClWr
namespace Go.Proofs.YtohcdbifhnfcbaaGreatDoor
open Go.RowKit
theorem part_say {p:Pn} (h:partN p=true):(0≤p.1∧p.1 < 256)∧p.2.length≤64:=by
 unfold partN kindN textP at h
 simp only [Bool.and_eq_true,Bool.or_eq_true,decide_eq_true_eq] at h
 refine ⟨by omega,?_⟩
 by_cases h64:64 < p.2.length
 ·rw [if_pos h64] at h
  exact absurd h.2 (by simp)
 ·omega
theorem may_say {n:List Pn} (h:mayN n=true):n.length≤8∧∀ p∈n,partN p=true:=by
 unfold mayN at h
 rw [Bool.and_eq_true,List.all_eq_true] at h
 exact ⟨of_decide_eq_true h.1,h.2⟩
theorem lenB_le (n:Nat):(lenB n).length≤4:=by
 unfold lenB
 split
 ·simp
 ·split
  ·simp
  ·split<;>simp
theorem bytes_mk (c t:Int) (m:Bool) (b:List Int) (ks:List Tl):(bytesT (.mk c t m b ks)).length≤5 + b.length + (bytesL ks).length:=by
 rw [bytesT]
 have:=lenB_le (b++bytesL ks).length
 simp only [List.length_cons,List.length_append] at this ⊢
 omega
theorem bytes_set {p:Pn} (h:p.2.length≤64):(bytesT (setN p)).length≤100:=by
 unfold setN
 have e0:bytesL []=[]:=by rw [bytesL]
 have h1:=bytes_mk 0 17 true [] [.mk 0 16 true [] [.mk 0 6 false [85,4,p.1] [],.mk 0 12 false p.2 []]]
 have h2:=bytes_mk 0 16 true [] [.mk 0 6 false [85,4,p.1] [],.mk 0 12 false p.2 []]
 have h3:=bytes_mk 0 6 false [85,4,p.1] []
 have h4:=bytes_mk 0 12 false p.2 []
 rw [bytesL,bytesL,List.append_nil] at h1
 rw [bytesL,bytesL,bytesL,List.append_nil,List.length_append] at h2
 rw [e0] at h3 h4
 simp only [List.length_cons,List.length_nil] at h1 h2 h3 h4
 omega
theorem bytesL_set:∀ {n:List Pn},(∀ p∈n,partN p=true)→(bytesL (n.map setN)).length≤100 * n.length
 | [],_=>by rw [List.map_nil,bytesL];simp
 | p :: n,h=>by
  have h1:=bytesL_set (n:=n) (fun q hq=>h q (List.mem_cons_of_mem _ hq))
  have h2:=bytes_set (part_say (h p (List.mem_cons_self ..))).2
  rw [List.map_cons,bytesL,List.length_append,List.length_cons]
  omega
theorem fine_set (p:Pn):fineT (setN p)=true:=by
 unfold setN
 simp [fineT,fineL,fine1]
theorem fineL_set:∀ n:List Pn,fineL (n.map setN)=true
 | []=>by rw [List.map_nil,fineL]
 | p :: n=>by rw [List.map_cons,fineL,fine_set,fineL_set n];rfl
theorem dep_set (p:Pn):depT (setN p)=3:=by
 unfold setN
 simp [depT,depL]
theorem depL_set:∀ n:List Pn,depL (n.map setN)≤3
 | []=>by rw [List.map_nil,depL];omega
 | p :: n=>by
  have:=depL_set n
  rw [List.map_cons,depL,dep_set]
  omega
theorem sz_set (p:Pn):szT (setN p)=4:=by
 unfold setN
 simp [szT,szL]
theorem szL_set:∀ n:List Pn,szL (n.map setN)=4 * n.length
 | []=>by rw [List.map_nil,szL];rfl
 | p :: n=>by rw [List.map_cons,szL,sz_set,szL_set n,List.length_cons];omega
theorem sz_elem (n:List Pn):szT (elemN n)=1 + 4 * n.length:=by
 unfold elemN
 rw [szT,szL_set]
theorem byt_set {k:Int} (h:0≤k∧k < 256):byt [85,4,k]:=fun j=>by
 match j with
 | 0=>exact ⟨by show (0:Int)≤85;decide,by show (85:Int) < 256;decide⟩
 | 1=>exact ⟨by show (0:Int)≤4;decide,by show (4:Int) < 256;decide⟩
 | 2=>exact h
 | j + 3=>simp
theorem byt_nilN:byt []:=fun j=>by simp
theorem wf_set {p:Pn} (h:0≤p.1∧p.1 < 256) (hb:byt p.2):WfT (setN p):=by
 unfold setN
 rw [WfT,WfL,WfL,WfT,WfL,WfL,WfL,WfT,WfT,WfL]
 exact ⟨by decide,by decide,byt_nilN,⟨by decide,by decide,byt_nilN,⟨by decide,by decide,byt_set h,trivial⟩,⟨by decide,by decide,hb,trivial⟩,trivial⟩,trivial⟩
theorem wfL_set:∀ {n:List Pn},(∀ p∈n,partN p=true)→(∀ p∈n,byt p.2)→WfL (n.map setN)
 | [],_,_=>by rw [List.map_nil,WfL];trivial
 | p :: n,h,hb=>by
  rw [List.map_cons,WfL]
  exact ⟨wf_set (part_say (h p (List.mem_cons_self ..))).1 (hb p (List.mem_cons_self ..)),wfL_set (fun q hq=>h q (List.mem_cons_of_mem _ hq)) (fun q hq=>hb q (List.mem_cons_of_mem _ hq))⟩
theorem WfN.byts {n:List Pn} (wn:WfN n):∀ p∈n,byt p.2:=fun p hp=>by
 obtain ⟨i,hi⟩:=List.mem_iff_getElem?.1 hp
 exact (wn i p hi).2.1
theorem wf_elem {n:List Pn} (h:mayN n=true) (wn:WfN n):WfT (elemN n):=by
 unfold elemN
 rw [WfT]
 exact ⟨by decide,by decide,byt_nilN,wfL_set (may_say h).2 wn.byts⟩
theorem of_setN {p:Pn} (h:partN p=true):ofSet (setN p)=some p:=by
 unfold setN ofSet
 dsimp only
 rw [if_pos ⟨rfl,rfl,rfl,rfl,rfl,rfl,rfl,rfl,rfl,rfl,rfl,rfl,rfl,rfl,h⟩]
theorem mapM_set:∀ {n:List Pn},(∀ p∈n,partN p=true)→(n.map setN).mapM ofSet=some n
 | [],_=>by simp
 | p :: n,h=>by
  rw [List.map_cons,List.mapM_cons,of_setN (h p (List.mem_cons_self ..)),mapM_set (n:=n) (fun q hq=>h q (List.mem_cons_of_mem _ hq))]
  rfl
theorem read_elem {n:List Pn} (h:mayN n=true):readN (elemN n)=.ok n:=by
 obtain ⟨hl,hp⟩:=may_say h
 unfold readN elemN
 simp only [and_self,if_true,mapM_set hp]
 rw [if_neg (by omega)]
/-- neither more bytes nor more elements than so many -/
def Sm (B:Nat) (T:Tl):Prop:=(bytesT T).length≤B∧szT T≤B
def SzmL (B:Nat) (ks:List Tl):Prop:=(bytesL ks).length≤B∧szL ks≤B
theorem Sm.le {A B:Nat} {T:Tl} (h:Sm A T) (k:A≤B):Sm B T:=⟨Nat.le_trans h.1 k,Nat.le_trans h.2 k⟩
theorem SzmL.le {A B:Nat} {ks:List Tl} (h:SzmL A ks) (k:A≤B):SzmL B ks:=⟨Nat.le_trans h.1 k,Nat.le_trans h.2 k⟩
theorem SzmL.nil:SzmL 0 []:=⟨by simp [bytesL],by simp [szL]⟩
theorem SzmL.cons {A B:Nat} {k:Tl} {ks:List Tl} (h:Sm A k) (hs:SzmL B ks):SzmL (A + B) (k :: ks):=by
 refine ⟨?_,?_⟩
 ·rw [bytesL,List.length_append]
  exact Nat.add_le_add h.1 hs.1
 ·rw [szL]
  exact Nat.add_le_add h.2 hs.2
theorem SzmL.one {A:Nat} {k:Tl} (h:Sm A k):SzmL A [k]:=h.1 |> fun _=>SzmL.le (SzmL.cons h SzmL.nil) (by omega)
theorem SzmL.app {A B:Nat}:∀ {ks ls:List Tl},SzmL A ks→SzmL B ls→SzmL (A + B) (ks++ls)
 | [],ls,_,h2=>h2.le (by omega)
 | k :: ks,ls,h1,h2=>by
  have hb:(bytesT k).length + (bytesL ks).length≤A:=by have:=h1.1;rwa [bytesL,List.length_append] at this
  have hz:szT k + szL ks≤A:=by have:=h1.2;rwa [szL] at this
  have ih:=SzmL.app (A:=A - min (bytesT k).length (szT k)) (ks:=ks) (ls:=ls) ⟨by omega,by omega⟩ h2
  refine ⟨?_,?_⟩
  ·rw [List.cons_append,bytesL,List.length_append]
   have e:∀ ks ls:List Tl,(bytesL (ks++ls)).length=(bytesL ks).length + (bytesL ls).length:=by
    intro ks ls
    induction ks with
    | nil=>simp [bytesL]
    | cons k ks ih=>rw [List.cons_append,bytesL,bytesL,List.length_append,List.length_append,ih];omega
   rw [e]
   have:=h2.1
   omega
  ·rw [List.cons_append,szL]
   have e:∀ ks ls:List Tl,szL (ks++ls)=szL ks + szL ls:=by
    intro ks ls
    induction ks with
    | nil=>simp [szL]
    | cons k ks ih=>rw [List.cons_append,szL,szL,ih];omega
   rw [e]
   have:=h2.2
   omega
theorem SzmL.map {α:Type} {A:Nat} {f:α→Tl}:∀ {L:List α},(∀ x∈L,Sm A (f x))→SzmL (A * L.length) (L.map f)
 | [],_=>SzmL.nil.le (Nat.zero_le _)
 | x :: L,h=>by
  rw [List.map_cons]
  refine (SzmL.cons (h x (List.mem_cons_self)) (SzmL.map (fun y hy=>h y (List.mem_cons_of_mem _ hy)))).le ?_
  rw [List.length_cons,Nat.mul_succ]
  omega
theorem sm_mk {B n:Nat} {c t:Int} {m:Bool} {b:List Int} {ks:List Tl} (h:SzmL B ks) (hb:b.length≤n):Sm (5 + n + B) (.mk c t m b ks):=by
 refine ⟨?_,?_⟩
 ·have:=bytes_mk c t m b ks
  have:=h.1
  omega
 ·rw [szT]
  have:=h.2
  omega
theorem sm_leaf {n:Nat} {c t:Int} {m:Bool} {b:List Int} (hb:b.length≤n):Sm (5 + n) (.mk c t m b []):=sm_mk SzmL.nil hb
theorem sm_list {B:Nat} {ks:List Tl} (h:SzmL B ks):Sm (5 + B) (listT ks):=sm_mk (n:=0) h (by simp)
theorem oid_small {l b:List Int} (h:oidOf l=.ok b):b.length≤150:=by
 unfold oidOf at h
 split at h
 ·cases h
 ·rename_i k
  split at h
  ·cases h
  ·cases h
   have h1:=b7s_len (valsO l)
   have h2:=vals_len (L:=l) (by omega)
   omega
theorem sm_oid (l:List Int):Sm 155 (oidT l):=by
 refine sm_leaf (n:=150) ?_
 cases h:oidOf l with
 | ok b=>exact oid_small h
 | error c=>simp [orNil]
theorem sm_elem {n:List Pn} (h:mayN n=true):Sm 805 (elemN n):=by
 obtain ⟨h1,h2⟩:=may_say h
 refine ⟨?_,?_⟩
 ·have h3:=bytes_mk 0 16 true [] (n.map setN)
  have h4:=bytesL_set h2
  have:(bytesT (elemN n)).length≤5 + 0 + (bytesL (n.map setN)).length:=h3
  omega
 ·rw [sz_elem];omega
theorem numOf_len {n b:List Int} (h:numOf n=.ok b):b.length≤n.length + 1:=by
 have hz:∀ X:List Int,(lessZ X).length≤X.length:=by
  intro X
  induction X with
  | nil=>simp [lessZ]
  | cons x X ih =>
   rw [lessZ]
   split
   ·rw [List.length_cons];omega
   ·exact Nat.le_refl _
 have:=hz n
 unfold numOf at h
 split at h
 ·cases h
 ·split at h
  ·cases h
   rw [List.length_cons];omega
  ·cases h
   omega
theorem sm_ser {n:List Int} {T:Tl} (h:serT n=some T):Sm 26 T:=by
 unfold serT at h
 split at h
 ·cases h
 ·rename_i k
  cases h
  refine sm_leaf (n:=21) ?_
  cases hn:numOf n with
  | ok b=>have:=numOf_len hn;simp only [orNil];omega
  | error c=>simp [orNil]
theorem sm_tim {t:Int} {T:Tl} (h:timT t=some T):Sm 20 T:=by
 unfold timT at h
 cases ht:timeOf t with
 | error c=>rw [ht] at h;cases h
 | ok q =>
  obtain ⟨a,b⟩:=q
  rw [ht] at h
  cases h
  refine sm_leaf (n:=15) ?_
  unfold timeOf at ht
  split at ht
  ·cases ht
  ·cases ht
   unfold bodyT twoN
   split<;>simp
/-- fine, and not deeper than so many -/
def Fd (d:Nat) (T:Tl):Prop:=fineT T=true∧depT T≤d
def FdL (d:Nat) (ks:List Tl):Prop:=fineL ks=true∧depL ks≤d
theorem Fd.le {d e:Nat} {T:Tl} (h:Fd d T) (k:d≤e):Fd e T:=⟨h.1,Nat.le_trans h.2 k⟩
theorem FdL.nil {d:Nat}:FdL d []:=⟨by rw [fineL],by rw [depL];omega⟩
theorem FdL.cons {d:Nat} {k:Tl} {ks:List Tl} (h:Fd d k) (hs:FdL d ks):FdL d (k :: ks) :=
 ⟨by rw [fineL,h.1,hs.1];rfl,by rw [depL];exact Nat.max_le.2 ⟨h.2,hs.2⟩⟩
theorem FdL.one {d:Nat} {k:Tl} (h:Fd d k):FdL d [k]:=FdL.cons h FdL.nil
theorem FdL.app {d:Nat}:∀ {ks ls:List Tl},FdL d ks→FdL d ls→FdL d (ks++ls)
 | [],_,_,h=>h
 | k :: ks,ls,h1,h2=>by
  have a:fineT k=true∧fineL ks=true:=by have:=h1.1;rw [fineL,Bool.and_eq_true] at this;exact this
  have b:depT k≤d∧depL ks≤d:=by have:=h1.2;rw [depL] at this;exact Nat.max_le.1 this
  exact FdL.cons ⟨a.1,b.1⟩ (FdL.app ⟨a.2,b.2⟩ h2)
theorem FdL.map {α:Type} {d:Nat} {f:α→Tl}:∀ {L:List α},(∀ x∈L,Fd d (f x))→FdL d (L.map f)
 | [],_=>FdL.nil
 | _ :: _,h=>FdL.cons (h _ List.mem_cons_self) (FdL.map (fun y hy=>h y (List.mem_cons_of_mem _ hy)))
theorem fd_made {d:Nat} {c t:Int} {ks:List Tl} (hc:0≤c∧c≤3) (ht:0≤t∧t≤30) (h:FdL d ks):Fd (d + 1) (.mk c t true [] ks):=by
 refine ⟨?_,?_⟩
 ·rw [fineT,h.1]
  unfold fine1
  simp [hc.1,hc.2,ht.1,ht.2]
 ·rw [depT]
  have:=h.2
  omega
theorem fd_leaf {c t:Int} {b:List Int} (hc:0≤c∧c≤3) (ht:0≤t∧t≤30):Fd 1 (.mk c t false b []):=by
 refine ⟨?_,?_⟩
 ·rw [fineT,fineL]
  unfold fine1
  simp [hc.1,hc.2,ht.1,ht.2]
 ·rw [depT,depL];omega
theorem fd_list {d:Nat} {ks:List Tl} (h:FdL d ks):Fd (d + 1) (listT ks):=fd_made (by decide) (by decide) h
theorem fd_elem (n:List Pn):Fd 4 (elemN n):=⟨by unfold elemN;rw [fineT,fineL_set];rfl,by unfold elemN;rw [depT];have:=depL_set n;omega⟩
theorem fd_oid (l:List Int):Fd 1 (oidT l):=fd_leaf (by decide) (by decide)
theorem fd_ser {n:List Int} {T:Tl} (h:serT n=some T):Fd 1 T:=by
 unfold serT at h
 split at h
 ·cases h
 ·cases h
  exact fd_leaf (by decide) (by decide)
theorem fd_tim {t:Int} {T:Tl} (h:timT t=some T):Fd 1 T:=by
 unfold timT at h
 cases ht:timeOf t with
 | error c=>rw [ht] at h;cases h
 | ok q =>
  obtain ⟨a,b⟩:=q
  rw [ht] at h
  cases h
  have ha:a=23∨a=24:=by
   unfold timeOf at ht
   split at ht
   ·cases ht
   ·simp only [Except.ok.injEq,Prod.mk.injEq] at ht
    rw [← ht.1]
    unfold tagT
    split
    ·exact .inr rfl
    ·exact .inl rfl
  exact fd_leaf (by decide) (by omega)
/-- one that is revoked: its serial number, since when -/
abbrev Gn:=List Int × Int
/-- those that are revoked, as they lie -/
def GnAt (w:World) (v:Value) (L:List Gn):Prop:=∃ ao cap,v=.slice ao L.length cap∧L.length≤cap∧cap≤maxLen∧(0 < L.length→∃ b o,ao=some ⟨b,o,none⟩∧b < w.heap.size∧∀ i g,L[i]?=some g→∃ u,w.cell? ⟨b,o + i * 2,none⟩=some u∧Bs w u g.1∧w.cell? ⟨b,o + i * 2 + 1,none⟩=some (.int .i64 g.2))
theorem GnAt.later {w w':World} {v:Value} {L:List Gn} (h:GnAt w v L) (hb:Below w.heap.size w w'):GnAt w' v L:=by
 obtain ⟨ao,cap,e,h1,h2,h3⟩:=h
 refine ⟨ao,cap,e,h1,h2,fun h0=>?_⟩
 obtain ⟨b,o,e2,hl,hc⟩:=h3 h0
 refine ⟨b,o,e2,Nat.lt_of_lt_of_le hl hb.size,fun i g hg=>?_⟩
 obtain ⟨u,k1,k2,k3⟩:=hc i g hg
 exact ⟨u,(hb.cell (p:=⟨b,o + i * 2,none⟩) hl).trans k1,k2.later hb,(hb.cell (p:=⟨b,o + i * 2 + 1,none⟩) hl).trans k3⟩
theorem GnAt.nil0 (w:World):GnAt w (.slice none 0 0) []:=⟨_,_,rfl,Nat.le_refl _,by decide,fun h=>absurd h (by decide)⟩
/-- a list of revoked ones -/
structure Cr where
 issuer:List Pn
 frm:Int
 til:Int
 gone:List Gn
 body:List Int
 sr:Int
 ss:Int
/-- its 17 cells -/
def crRow (iv:Value) (frm til:Int) (gv bv:Value) (rs zs:List Value):List Value:=[iv,.int .i64 frm,.int .i64 til,gv,bv]++(rs++zs)
def CrAt (w:World) (c:Cr) (cs:List Value):Prop:=∃ iv gv bv rs zs,cs=crRow iv c.frm c.til gv bv rs zs∧NmAt w iv c.issuer∧GnAt w gv c.gone∧Bs w bv c.body∧U6 rs c.sr∧U6 zs c.ss
theorem CrAt.later {w w':World} {c:Cr} {cs:List Value} (h:CrAt w c cs) (hb:Below w.heap.size w w'):CrAt w' c cs:=by
 obtain ⟨iv,gv,bv,rs,zs,e,h1,h2,h3,h4,h5⟩:=h
 exact ⟨iv,gv,bv,rs,zs,e,h1.later hb,h2.later hb,h3.later hb,h4,h5⟩
theorem CrAt.len {w:World} {c:Cr} {cs:List Value} (h:CrAt w c cs):cs.length=17:=by
 obtain ⟨iv,gv,bv,rs,zs,rfl,-,-,-,h4,h5⟩:=h
 simp [crRow,h4.len,h5.len]
/-- numbers that are ints, bytes that are bytes -/
def WfG (L:List Gn):Prop:=∀ g∈L,byt g.1∧(-9223372036854775808≤g.2∧g.2 < 9223372036854775808)
def WfCr (c:Cr):Prop:=WfN c.issuer∧(-9223372036854775808≤c.frm∧c.frm < 9223372036854775808)∧(-9223372036854775808≤c.til∧c.til < 9223372036854775808)∧WfG c.gone∧byt c.body
/-- the cells, one by one -/
theorem CrAt.open {w:World} {c:Cr} {cs:List Value} (h:CrAt w c cs):∃ iv gv bv rs zs,cs.length=17∧cs[0]?=some iv∧cs[1]?=some (.int .i64 c.frm)∧cs[2]?=some (.int .i64 c.til)∧cs[3]?=some gv∧cs[4]?=some bv∧(∀ j v,(rs++zs)[j]?=some v→cs[5 + j]?=some v)∧NmAt w iv c.issuer∧GnAt w gv c.gone∧Bs w bv c.body∧U6 rs c.sr∧U6 zs c.ss:=by
 obtain ⟨iv,gv,bv,rs,zs,rfl,h1,h2,h3,h4,h5⟩:=h
 refine ⟨iv,gv,bv,rs,zs,by simp [crRow,h4.len,h5.len],rfl,rfl,rfl,rfl,rfl,fun j v hj=>?_,h1,h2,h3,h4,h5⟩
 show ([iv,Value.int .i64 c.frm,.int .i64 c.til,gv,bv]++(rs++zs))[5 + j]?=some v
 rw [List.getElem?_append_right (by simp)]
 simpa using hj
theorem CrAt.ones {w:World} {c:Cr} {cs:List Value} (h:CrAt w c cs):OneC cs:=by
 obtain ⟨iv,gv,bv,rs,zs,rfl,h1,h2,h3,h4,h5⟩:=h
 obtain ⟨x0,x1,x2,x3,x4,x5,rfl,-,-⟩:=h4
 obtain ⟨y0,y1,y2,y3,y4,y5,rfl,-,-⟩:=h5
 obtain ⟨_,_,rfl,-⟩:=h1
 obtain ⟨_,_,rfl,-⟩:=h2
 obtain ⟨_,_,rfl,-⟩:=h3
 simp [crRow,OneC,Value.oneCell']
def intT (n:Int):Tl:=.mk 0 2 false [n] []
/-- one that is revoked, as an element; or none -/
def goneO (g:Gn):Option Tl:=match serT g.1,timT g.2 with|some a,some b=>some (listT [a,b])|_,_=>none
theorem goneO_no {g:Gn} (h:serT g.1=none∨timT g.2=none):goneO g=none:=by
 unfold goneO
 rcases h with h|h
 ·rw [h]
 ·rw [h]
  cases serT g.1<;>rfl
theorem goneO_yes {g:Gn} {a b:Tl} (h:serT g.1=some a) (k:timT g.2=some b):goneO g=some (listT [a,b]):=by
 unfold goneO
 rw [h,k]
theorem goneO_some {g:Gn} {T:Tl} (h:goneO g=some T):∃ a b,serT g.1=some a∧timT g.2=some b∧T=listT [a,b]:=by
 unfold goneO at h
 cases h1:serT g.1 with
 | none=>rw [h1] at h;cases h
 | some a =>
  cases h2:timT g.2 with
  | none=>rw [h1,h2] at h;cases h
  | some b=>rw [h1,h2] at h;cases h;exact ⟨a,b,rfl,rfl,rfl⟩
/-- may it be a list of revoked ones? -/
def MayR8 (c:Cr):Prop:=mayN c.issuer=true∧(∃ T,timT c.frm=some T)∧(∃ T,timT c.til=some T)∧c.gone.length≤64∧∀ g∈c.gone,∃ T,goneO g=some T
noncomputable def goneL (c:Cr):List Tl:=if 0 < c.gone.length then [listT (c.gone.map fun g=>orT (goneO g))] else []
/-- its body -/
noncomputable def crBody (c:Cr):Tl:=listT ([intT 1,algT,elemN c.issuer,orT (timT c.frm),orT (timT c.til)]++goneL c)
theorem sm_gone {g:Gn}:Sm 60 (orT (goneO g)):=by
 cases h:goneO g with
 | none=>exact (sm_leaf (n:=0) (by simp)).le (by omega)
 | some T =>
  obtain ⟨a,b,h1,h2,rfl⟩:=goneO_some h
  exact (sm_list (SzmL.cons (sm_ser h1) (SzmL.one (sm_tim h2)))).le (by omega)
theorem sm_crBody {c:Cr} (h:MayR8 c):Sm 6000 (crBody c):=by
 obtain ⟨h1,⟨F,hF⟩,⟨T,hT⟩,h4,-⟩:=h
 unfold crBody
 rw [hF,hT]
 have k0:Sm 6 (intT 1):=sm_leaf (n:=1) (by decide)
 have k1:Sm 160 algT:=sm_list (SzmL.one (sm_oid _))
 have k5:SzmL 3845 (goneL c):=by
  unfold goneL
  split
  ·have:SzmL (60 * c.gone.length) (c.gone.map fun g=>orT (goneO g)):=SzmL.map (fun g _=>sm_gone)
   exact SzmL.one ((sm_list this).le (by omega))
  ·exact SzmL.nil.le (by omega)
 exact (sm_list (SzmL.app (SzmL.cons k0 (SzmL.cons k1 (SzmL.cons (sm_elem h1) (SzmL.cons (sm_tim hF) (SzmL.one (sm_tim hT)))))) k5)).le (by omega)
theorem fd_gone {g:Gn} {T:Tl} (h:goneO g=some T):Fd 2 T:=by
 obtain ⟨a,b,h1,h2,rfl⟩:=goneO_some h
 exact fd_list (FdL.cons (fd_ser h1) (FdL.one (fd_tim h2)))
theorem fd_crBody {c:Cr} (h:MayR8 c):Fd 16 (crBody c):=by
 obtain ⟨-,⟨F,hF⟩,⟨T,hT⟩,-,h5⟩:=h
 unfold crBody
 rw [hF,hT]
 have k0:Fd 4 (intT 1):=(fd_leaf (by decide) (by decide)).le (by omega)
 have k1:Fd 4 algT:=(fd_list (FdL.one (fd_oid _))).le (by omega)
 have k5:FdL 4 (goneL c):=by
  unfold goneL
  split
  ·refine FdL.one ((fd_list (d:=2) (FdL.map (fun g hg=>?_))).le (by omega))
   obtain ⟨U,hU⟩:=h5 g hg
   rw [hU]
   exact fd_gone hU
  ·exact FdL.nil
 exact (fd_list (FdL.app (FdL.cons k0 (FdL.cons k1 (FdL.cons (fd_elem _) (FdL.cons ((fd_tim hF).le (by omega)) (FdL.one ((fd_tim hT).le (by omega))))))) k5)).le (by omega)
theorem wr_crBody {c:Cr} (h:MayR8 c):wrN (crBody c)=0:=by
 have h1:=fd_crBody h
 have h2:=(sm_crBody h).1
 unfold wrN
 rw [if_pos h1.1,if_neg (by have:=h1.2;omega),if_neg (by omega)]
end Go.Proofs.YtohcdbifhnfcbaaGreatDoor
