/- A certificate's body can be written. Plain facts. Manifests in memory. Manifests, and their elements, as functions. Elements that are good. manifestOf: what the program answers. -/
import Derived.Test.YtnkipgbnnhahbaaGreatDoorCtSig
import Derived.Test.YtnkipgbnnhahbaaGreatDoorCtPl
import Derived.Test.YtnkipgbnnhahbaaGreatDoorDcOut
import Derived.Test.YtnkipgbnnhahbaaGreatDoorDrDep
import Derived.Test.YtnkipgbnnhahbaaGreatDoorClWr
import Derived.Test.YtnkipgbnnhahbaaGreatDoorCtSeal
import Derived.Test.YtnkipgbnnhahbaaGreatDoorDrPar
import Derived.Test.YtnkipgbnnhahbaaGreatDoorMfPln
import Derived.Test.YtnkipgbnnhahbaaGreatDoorEdDecode
import Derived.Test.YtnkipgbnnhahbaaGreatDoorRows
import Derived.ChangeArms
import Derived.ChangeOld
import Derived.Lib.ConvBytes
import Derived.Laws.AppendOwn
import Derived.Deep.WholeRow
import Derived.Deep.RegionHeld3
import Derived.Deep.DeepCutAuto
import Derived.Deep.DeepFit
import Derived.Deep.OwnRows
import Derived.Deep.AppendLies
import Derived.Great.BuildSlice
import Derived.Laws.Rows
import Derived.BigQuiet
namespace Go.Proofs.YtnkipgbnnhahbaaGreatDoor
open Go.RowKit
/-- fine, and not deeper than so many -/
def Fd (d:Nat) (T:Tl):Prop:=fineT T=true∧depT T≤d
def FdL (d:Nat) (ks:List Tl):Prop:=fineL ks=true∧depL ks≤d
theorem Fd.le {d e:Nat} {T:Tl} (h:Fd d T) (k:d≤e):Fd e T:=⟨h.1,Nat.le_trans h.2 k⟩
theorem FdL.le {d e:Nat} {ks:List Tl} (h:FdL d ks) (k:d≤e):FdL e ks:=⟨h.1,Nat.le_trans h.2 k⟩
theorem FdL.nil {d:Nat}:FdL d []:=⟨by rw [fineL],by rw [depL];omega⟩
theorem FdL.cons {d:Nat} {k:Tl} {ks:List Tl} (h:Fd d k) (hs:FdL d ks):FdL d (k :: ks) :=
 ⟨by rw [fineL,h.1,hs.1];rfl,by rw [depL];exact Nat.max_le.2 ⟨h.2,hs.2⟩⟩
theorem FdL.one {d:Nat} {k:Tl} (h:Fd d k):FdL d [k]:=FdL.cons h FdL.nil
theorem FdL.app {d:Nat}:∀ {ks ls:List Tl},FdL d ks→FdL d ls→FdL d (ks++ls)
 | [],_,_,h=>h
 | k :: ks,ls,h1,h2=>by
  have a:fineT k=true∧fineL ks=true:=by have:=h1.1;rw [fineL,Bool.and_eq_true] at this;exact this
  have b:depT k≤d∧depL ks≤d:=by have:=h1.2;rw [depL] at this;exact Nat.max_le.1 this
  exact FdL.cons ⟨a.1,b.1⟩ (FdL.app ⟨a.2,b.2⟩ h2)
theorem FdL.map {α:Type} {d:Nat} {f:α→Tl}:∀ {L:List α},(∀ x∈L,Fd d (f x))→FdL d (L.map f)
 | [],_=>FdL.nil
 | _ :: _,h=>FdL.cons (h _ List.mem_cons_self) (FdL.map (fun y hy=>h y (List.mem_cons_of_mem _ hy)))
structure Mf where
 ver:Int
 cls:Int
 ld:Int
 ln:Int
 nonce:List Int
 wrapped:List Int
 digest:List Int
/-- as it lies: seven cells -/
def MfAt (w:World) (m:Mf) (cs:List Value):Prop:=∃ nv wv dv,cs=[.int .i64 m.ver,.int .i64 m.cls,.int .i64 m.ld,.int .i64 m.ln,nv,wv,dv]∧Bs w nv m.nonce∧Bs w wv m.wrapped∧Bs w dv m.digest
theorem MfAt.later {w w':World} {m:Mf} {cs:List Value} (h:MfAt w m cs) (hb:Below w.heap.size w w'):MfAt w' m cs:=by
 obtain ⟨nv,wv,dv,e,h1,h2,h3⟩:=h
 exact ⟨nv,wv,dv,e,h1.later hb,h2.later hb,h3.later hb⟩
theorem MfAt.len {w:World} {m:Mf} {cs:List Value} (h:MfAt w m cs):cs.length=7:=by
 obtain ⟨nv,wv,dv,rfl,-,-,-⟩:=h
 rfl
def i64B (x:Int):Prop:=-9223372036854775808≤x∧x≤9223372036854775807
/-- numbers that are ints, bytes that are bytes -/
def WfM (m:Mf):Prop:=(i64B m.ver∧i64B m.cls∧i64B m.ld∧i64B m.ln)∧byt m.nonce∧byt m.wrapped∧byt m.digest
def bytD:Tl→Option (List Int)
 | .mk c t m b _=>if c=0∧t=4∧m=false then some b else none
def mfOf (a b c d:Int) (x y z:List Int):Option Mf:=if x.length=12∧y.length=145∧z.length=48 then some ⟨a,b,c,d,x,y,z⟩ else none
/-- what is read of seven elements -/
def mfL:List Tl→Option Mf
 | [k0,k1,k2,k3,k4,k5,k6]=>(smlD k0).bind fun a=>(smlD k1).bind fun b=>(smlD k2).bind fun c=>(smlD k3).bind fun d=>(bytD k4).bind fun x=>(bytD k5).bind fun y=>(bytD k6).bind fun z=>mfOf a b c d x y z
 | _=>none
/-- an element's manifest, or none -/
def mfD:Tl→Option Mf
 | .mk c t m _ ks=>if c=0∧t=16∧m=true then mfL ks else none
/-- bytes, as many -/
def abP:Tl→Int→Prop
 | .mk c t m b _,n=>c=0∧t=4∧m=false∧(b.length:Int)=n
def bodyF:Tl→List Int
 | .mk _ _ _ b _=>b
theorem mf_yes {k4 k5 k6:Tl} {a b c d:Int} (h4:abP k4 12) (h5:abP k5 145) (h6:abP k6 48):((bytD k4).bind fun x=>(bytD k5).bind fun y=>(bytD k6).bind fun z=>mfOf a b c d x y z)=some ⟨a,b,c,d,bodyF k4,bodyF k5,bodyF k6⟩:=by
 obtain ⟨c4,t4,m4,b4,s4⟩:=k4
 obtain ⟨c5,t5,m5,b5,s5⟩:=k5
 obtain ⟨c6,t6,m6,b6,s6⟩:=k6
 obtain ⟨rfl,rfl,rfl,l4⟩:=h4
 obtain ⟨rfl,rfl,rfl,l5⟩:=h5
 obtain ⟨rfl,rfl,rfl,l6⟩:=h6
 show ((if (0:Int)=0∧(4:Int)=4∧false=false then some b4 else none).bind fun x=>(if (0:Int)=0∧(4:Int)=4∧false=false then some b5 else none).bind fun y=>(if (0:Int)=0∧(4:Int)=4∧false=false then some b6 else none).bind fun z=>mfOf a b c d x y z)=some ⟨a,b,c,d,b4,b5,b6⟩
 rw [if_pos ⟨rfl,rfl,rfl⟩,if_pos ⟨rfl,rfl,rfl⟩,if_pos ⟨rfl,rfl,rfl⟩]
 simp only [Option.bind_some]
 exact if_pos ⟨by omega,by omega,by omega⟩
theorem mf_no {k4 k5 k6:Tl} {a b c d:Int} (h:¬ (abP k4 12∧abP k5 145∧abP k6 48)):((bytD k4).bind fun x=>(bytD k5).bind fun y=>(bytD k6).bind fun z=>mfOf a b c d x y z)=none:=by
 obtain ⟨c4,t4,m4,b4,s4⟩:=k4
 obtain ⟨c5,t5,m5,b5,s5⟩:=k5
 obtain ⟨c6,t6,m6,b6,s6⟩:=k6
 show (((if c4=0∧t4=4∧m4=false then some b4 else none).bind fun x=>(if c5=0∧t5=4∧m5=false then some b5 else none).bind fun y=>(if c6=0∧t6=4∧m6=false then some b6 else none).bind fun z=>mfOf a b c d x y z))=none
 by_cases h4:c4=0∧t4=4∧m4=false
 ·rw [if_pos h4,Option.bind_some]
  by_cases h5:c5=0∧t5=4∧m5=false
  ·rw [if_pos h5,Option.bind_some]
   by_cases h6:c6=0∧t6=4∧m6=false
   ·rw [if_pos h6,Option.bind_some]
    exact if_neg (fun k=>h ⟨⟨h4.1,h4.2.1,h4.2.2,by omega⟩,⟨h5.1,h5.2.1,h5.2.2,by omega⟩,⟨h6.1,h6.2.1,h6.2.2,by omega⟩⟩)
   ·rw [if_neg h6]
    rfl
  ·rw [if_neg h5]
   rfl
 ·rw [if_neg h4]
  rfl
theorem mfL_7 {k0 k1 k2 k3 k4 k5 k6:Tl}:mfL [k0,k1,k2,k3,k4,k5,k6]=(smlD k0).bind fun a=>(smlD k1).bind fun b=>(smlD k2).bind fun c=>(smlD k3).bind fun d=>(bytD k4).bind fun x=>(bytD k5).bind fun y=>(bytD k6).bind fun z=>mfOf a b c d x y z:=rfl
theorem mfD_mk {c t:Int} {m:Bool} {b:List Int} {ks:List Tl}:mfD (.mk c t m b ks)=if c=0∧t=16∧m=true then mfL ks else none:=rfl
theorem mfL_len {ks:List Tl} (h:¬ ks.length=7):mfL ks=none:=by
 match ks,h with
 | [],_=>rfl
 | [_],_=>rfl
 | [_,_],_=>rfl
 | [_,_,_],_=>rfl
 | [_,_,_,_],_=>rfl
 | [_,_,_,_,_],_=>rfl
 | [_,_,_,_,_,_],_=>rfl
 | [_,_,_,_,_,_,_],h=>exact absurd rfl h
 | _ :: _ :: _ :: _ :: _ :: _ :: _ :: _ :: _,_=>rfl
theorem bind_no20 {α β:Type} (o:Option α) {f:α→Option β} (h:∀ a,f a=none):o.bind f=none:=by
 cases o with
 | none=>rfl
 | some a=>exact h a
theorem list7 {α:Type} {ks:List α} (h:ks.length=7):∃ k0 k1 k2 k3 k4 k5 k6,ks=[k0,k1,k2,k3,k4,k5,k6]:=by
 match ks,h with
 | [k0,k1,k2,k3,k4,k5,k6],_=>exact ⟨k0,k1,k2,k3,k4,k5,k6,rfl⟩
theorem mfL_bad {ks:List Tl} {k:Tl} {i:Nat} (hl:ks.length=7) (hi:i < 4) (hk:ks[i]?=some k) (h:smlD k=none):mfL ks=none:=by
 obtain ⟨k0,k1,k2,k3,k4,k5,k6,rfl⟩:=list7 hl
 rw [mfL_7]
 match i,hi with
 | 0,_=>cases hk;rw [h];rfl
 | 1,_=>cases hk;exact bind_no20 _ (fun a=>by rw [h];rfl)
 | 2,_=>cases hk;exact bind_no20 _ (fun a=>bind_no20 _ (fun b=>by rw [h];rfl))
 | 3,_=>cases hk;exact bind_no20 _ (fun a=>bind_no20 _ (fun b=>bind_no20 _ (fun c=>by rw [h];rfl)))
theorem mfL_yes {k0 k1 k2 k3 k4 k5 k6:Tl} {a b c d:Int} (h0:smlD k0=some a) (h1:smlD k1=some b) (h2:smlD k2=some c) (h3:smlD k3=some d) (h4:abP k4 12) (h5:abP k5 145) (h6:abP k6 48):mfL [k0,k1,k2,k3,k4,k5,k6]=some ⟨a,b,c,d,bodyF k4,bodyF k5,bodyF k6⟩:=by
 rw [mfL_7,h0,Option.bind_some,h1,Option.bind_some,h2,Option.bind_some,h3,Option.bind_some]
 exact mf_yes h4 h5 h6
theorem mfL_no {k0 k1 k2 k3 k4 k5 k6:Tl} {a b c d:Int} (h0:smlD k0=some a) (h1:smlD k1=some b) (h2:smlD k2=some c) (h3:smlD k3=some d) (h:¬ (abP k4 12∧abP k5 145∧abP k6 48)):mfL [k0,k1,k2,k3,k4,k5,k6]=none:=by
 rw [mfL_7,h0,Option.bind_some,h1,Option.bind_some,h2,Option.bind_some,h3,Option.bind_some]
 exact mf_no h
/-- a manifest's cells while it is being read: i of its numbers stand -/
def MsI (ks:List Tl) (i:Nat) (ms:List Value):Prop:=ms.length=7∧(∀ j,j < 4→∃ x,ms[j]?=some (.int .i64 x)∧(j < i→∃ k,ks[j]?=some k∧smlD k=some x))∧∀ j,4≤j→j < 7→ms[j]?=some (.slice none 0 0)
theorem MsI.zero {ks:List Tl}:MsI ks 0 [.int .i64 0,.int .i64 0,.int .i64 0,.int .i64 0,.slice none 0 0,.slice none 0 0,.slice none 0 0]:=by
 refine ⟨rfl,fun j hj=>⟨0,?_,fun h=>absurd h (by omega)⟩,fun j h1 h2=>?_⟩
 ·match j,hj with
  | 0,_=>rfl
  | 1,_=>rfl
  | 2,_=>rfl
  | 3,_=>rfl
 ·match j,h1,h2 with
  | 4,_,_=>rfl
  | 5,_,_=>rfl
  | 6,_,_=>rfl
theorem MsI.set {ks:List Tl} {i:Nat} {ms:List Value} {k:Tl} {x:Int} (h:MsI ks i ms) (hi:i < 4) (hk:ks[i]?=some k) (hs:smlD k=some x):MsI ks (i + 1) (ms.set i (.int .i64 x)):=by
 obtain ⟨h1,h2,h3⟩:=h
 refine ⟨by rw [List.length_set];exact h1,fun j hj=>?_,fun j g1 g2=>?_⟩
 ·by_cases e:i=j
  ·subst e
   exact ⟨x,by rw [List.getElem?_set_self (by omega)],fun _=>⟨k,hk,hs⟩⟩
  ·rw [List.getElem?_set_ne e]
   obtain ⟨y,y1,y2⟩:=h2 j hj
   exact ⟨y,y1,fun hj2=>y2 (by omega)⟩
 ·rw [List.getElem?_set_ne (by omega)]
  exact h3 j g1 g2
theorem MsI.all {k0 k1 k2 k3 k4 k5 k6:Tl} {ms:List Value} (h:MsI [k0,k1,k2,k3,k4,k5,k6] 4 ms):∃ a b c d,ms=[.int .i64 a,.int .i64 b,.int .i64 c,.int .i64 d,.slice none 0 0,.slice none 0 0,.slice none 0 0]∧smlD k0=some a∧smlD k1=some b∧smlD k2=some c∧smlD k3=some d:=by
 obtain ⟨h1,h2,h3⟩:=h
 obtain ⟨v0,v1,v2,v3,v4,v5,v6,rfl⟩:=list7 h1
 obtain ⟨a,a1,a2⟩:=h2 0 (by omega)
 obtain ⟨b,b1,b2⟩:=h2 1 (by omega)
 obtain ⟨c,c1,c2⟩:=h2 2 (by omega)
 obtain ⟨d,d1,d2⟩:=h2 3 (by omega)
 have e4:=h3 4 (by omega) (by omega)
 have e5:=h3 5 (by omega) (by omega)
 have e6:=h3 6 (by omega) (by omega)
 cases a1;cases b1;cases c1;cases d1;cases e4;cases e5;cases e6
 obtain ⟨_,ha,ha2⟩:=a2 (by omega)
 obtain ⟨_,hb,hb2⟩:=b2 (by omega)
 obtain ⟨_,hc,hc2⟩:=c2 (by omega)
 obtain ⟨_,hd,hd2⟩:=d2 (by omega)
 cases ha;cases hb;cases hc;cases hd
 exact ⟨a,b,c,d,rfl,ha2,hb2,hc2,hd2⟩
/-- an element that was read, or lies in one -/
def GdT (T:Tl):Prop:=fineT T=true∧depT T≤16∧(bytesT T).length≤1048576∧WfT T
theorem GdT.of {B:List Int} {T:Tl} (b:byt B) (h:parseP B=.ok T):GdT T:=by
 obtain ⟨e,h1,h2,h3,h4⟩:=parse_ok b h
 exact ⟨h1,h2,by rw [e];exact h4,h3⟩
theorem bytesL_get8:∀ {ks:List Tl} {i:Nat} {k:Tl},ks[i]?=some k→(bytesT k).length≤(bytesL ks).length
 | [],i,k,h=>by simp at h
 | x :: xs,0,k,h=>by
  simp at h
  subst h
  rw [bytesL,List.length_append]
  omega
 | x :: xs,i + 1,k,h=>by
  rw [List.getElem?_cons_succ] at h
  have:=bytesL_get8 h
  rw [bytesL,List.length_append]
  omega
theorem fineL_get8:∀ {ks:List Tl} {i:Nat} {k:Tl},fineL ks=true→ks[i]?=some k→fineT k=true
 | [],i,k,_,h=>by simp at h
 | x :: xs,0,k,f,h=>by
  simp at h
  subst h
  rw [fineL,Bool.and_eq_true] at f
  exact f.1
 | x :: xs,i + 1,k,f,h=>by
  rw [List.getElem?_cons_succ] at h
  rw [fineL,Bool.and_eq_true] at f
  exact fineL_get8 f.2 h
theorem depL_get8:∀ {ks:List Tl} {i:Nat} {k:Tl},ks[i]?=some k→depT k≤depL ks
 | [],i,k,h=>by simp at h
 | x :: xs,0,k,h=>by
  simp at h
  subst h
  rw [depL]
  omega
 | x :: xs,i + 1,k,h=>by
  rw [List.getElem?_cons_succ] at h
  have:=depL_get8 h
  rw [depL]
  omega
theorem GdT.kid {c t:Int} {m:Bool} {b:List Int} {ks:List Tl} {i:Nat} {k:Tl} (h:GdT (.mk c t m b ks)) (hk:ks[i]?=some k):GdT k:=by
 obtain ⟨h1,h2,h3,h4⟩:=h
 rw [fineT,Bool.and_eq_true] at h1
 rw [depT] at h2
 rw [bytesT_len] at h3
 rw [WfT] at h4
 have:=depL_get8 hk
 have:=bytesL_get8 hk
 exact ⟨fineL_get8 h1.2 hk,by omega,by rw [List.length_append] at h3;omega,h4.2.2.2.get hk⟩
theorem GdT.body {c t:Int} {m:Bool} {b:List Int} {ks:List Tl} (h:GdT (.mk c t m b ks)):b.length≤1048576:=by
 have h3:=h.2.2.1
 rw [bytesT_len,List.length_append] at h3
 omega
theorem GdT.wf {T:Tl} (h:GdT T):WfT T:=h.2.2.2
theorem GdT.wr {T:Tl} (h:GdT T):wrN T=0:=by
 unfold wrN
 rw [if_pos h.1,if_neg (by have:=h.2.1;omega),if_neg (by have:=h.2.2.1;omega)]
mutual
theorem sz2_le:∀ T:Tl,2 * szT T≤(bytesT T).length
 | .mk c t m b ks=>by
  have hz:=sz2L_le ks
  have hp:=lenB_pos (b++bytesL ks).length
  rw [szT,bytesT_len,List.length_append]
  rw [List.length_append] at hp
  omega
theorem sz2L_le:∀ ks:List Tl,2 * szL ks≤(bytesL ks).length
 | []=>by rw [szL];omega
 | k :: ks=>by
  have h1:=sz2_le k
  have h2:=sz2L_le ks
  rw [szL,bytesL,List.length_append]
  omega
end
theorem GdT.sz {T:Tl} (h:GdT T):szT T≤1000000:=by
 have:=sz2_le T
 have:=h.2.2.1
 omega
theorem isL_decM {c t:Int} {m:Bool} {b:List Int} {ks:List Tl}:isList (.mk c t m b ks)=decide (c=0∧t=16∧m=true):=rfl
theorem size_mf:(Tryz.prog.info? 49).map (·.size)=some 7:=by kernel_rfl
theorem zero_mf:Hid (∀ w:World,(zeroValue 49).run Tryz.prog w=.ok (.agg #[.int .i64 0,.int .i64 0,.int .i64 0,.int .i64 0,.slice none 0 0,.slice none 0 0,.slice none 0 0]) w):=fun w=>by kernel_rfl
/-- a manifest, or an error -/
def MfO (w:World) (r:Option Mf) (e:Ending) (w':World):Prop:=Below w.heap.size w w'∧(r=none→∃ er,ErrV er∧e=.returned (.tuple #[.agg #[.int .i64 0,.int .i64 0,.int .i64 0,.int .i64 0,.slice none 0 0,.slice none 0 0,.slice none 0 0],er]))∧(∀ m,r=some m→∃ cs:List Value,e=.returned (.tuple #[.agg cs.toArray,.nilIface])∧MfAt w' m cs)
theorem MfO.bad {w w':World} {r:Option Mf} {er:Value} (h:r=none) (k:ErrV er) (hb:Below w.heap.size w w'):MfO w r (.returned (.tuple #[.agg #[.int .i64 0,.int .i64 0,.int .i64 0,.int .i64 0,.slice none 0 0,.slice none 0 0,.slice none 0 0],er])) w':=⟨hb,fun _=>⟨er,k,rfl⟩,fun n q=>(by rw [h] at q;cases q)⟩
theorem MfO.ok {w w':World} {r:Option Mf} {m:Mf} {cs:List Value} (h:r=some m) (hv:MfAt w' m cs) (hb:Below w.heap.size w w'):MfO w r (.returned (.tuple #[.agg cs.toArray,.nilIface])) w':=⟨hb,fun q=>(by rw [h] at q;cases q),fun m' q=>(by rw [h] at q;cases q;exact ⟨cs,rfl,hv⟩)⟩
theorem u_smallOf {T:Tl} {cs:List Value} {w:World} (h:TlAt w T cs) (gd:GdT T):Calls Tryz.prog 58 #[.agg cs.toArray] w (IntO w (smlD T)):=by
 obtain ⟨c,t,m,b,ks⟩:=T
 exact c20_smallOf h gd.wf (by have:=gd.body;omega)
theorem u_areB {T:Tl} {sz:Int} {cs:List Value} {w:World} (h:TlAt w T cs):Calls Tryz.prog 59 #[.agg cs.toArray,.int .i64 sz] w fun e w'=>∃ b:Bool,e=.returned (.bool b)∧(b=true↔abP T sz)∧Below w.heap.size w w':=by
 obtain ⟨c,t,m,b,ks⟩:=T
 refine (c20_areBytes h).mono ?_
 rintro e w' ⟨rfl,hb⟩
 exact ⟨_,rfl,decide_eq_true_iff,hb⟩
theorem tl_bodyF {T:Tl} {cs:List Value} {w:World} (h:TlAt w T cs):∃ a n c,cs[3]?=some (.slice a n c)∧Bs w (.slice a n c) (bodyF T):=by
 obtain ⟨c,t,m,b,ks⟩:=T
 rw [TlAt] at h
 obtain ⟨bv,ao,kc,rfl,hbv,-,-,-⟩:=h
 have h9:=hbv
 obtain ⟨a,n,rfl,-,-,-⟩:=h9
 exact ⟨_,_,_,rfl,hbv⟩
theorem MfO.okB {w w':World} {r:Option Mf} {x0 x1 x2 x3:Int} {A B C:List Int} {v4 v5 v6:Value} (h:r=some ⟨x0,x1,x2,x3,A,B,C⟩) (h1:Bs w v4 A) (h2:Bs w v5 B) (h3:Bs w v6 C) (hb:Below w.heap.size w w'):MfO w r (.returned (.tuple #[.agg #[.int .i64 x0,.int .i64 x1,.int .i64 x2,.int .i64 x3,v4,v5,v6],.nilIface])) w':=MfO.ok (cs:=[.int .i64 x0,.int .i64 x1,.int .i64 x2,.int .i64 x3,v4,v5,v6]) h ⟨_,_,_,rfl,h1.later hb,h2.later hb,h3.later hb⟩ hb
theorem with_keyM {T G:Prop} (main:T→G) (kp:T):G:=main kp
set_option linter.unusedSimpArgs false in
set_option maxRecDepth 100000 in
set_option maxHeartbeats 4000000 in
theorem c20_manifestOf {c t:Int} {m:Bool} {b:List Int} {ks:List Tl} {cs:List Value} {w:World} (h:TlAt w (.mk c t m b ks) cs) (gd:GdT (.mk c t m b ks)):Calls Tryz.prog 31 #[.agg cs.toArray] w (MfO w (mfD (.mk c t m b ks))):=by
 have HGd:Hid (GdT (.mk c t m b ks)):=gd
 clear gd
 have hz:=zero_mf.out
 have HT9:Hid (TlAt w (.mk c t m b ks) cs):=h
 rw [TlAt] at h
 obtain ⟨bv,ao,kc,hcs,hbv,-,hkm,hkk⟩:=h
 have HBv:Hid (Bs w bv b):=hbv
 obtain ⟨ba,bc,rfl,-,-,-⟩:=hbv
 have HK:Hid (0 < ks.length→∃ g o,ao=some ⟨g,o,none⟩∧KidsAt w ks g o):=hkk
 obtain ⟨BL,hBL⟩:∃ z,b.length=z:=⟨_,rfl⟩
 obtain ⟨KL,hKL⟩:∃ z,ks.length=z:=⟨_,rfl⟩
 have HBL:Hid (b.length=BL):=hBL
 have HKL:Hid (ks.length=KL):=hKL
 have HKM:Hid (kc≤maxLen):=hkm
 rw [hBL] at hcs HBv
 rw [hKL] at hcs HK
 clear hBL hKL hkk hkm
 subst hcs
 have B0:=(Blk.new w [.int .i64 c,.int .i64 t,.bool m,.slice ba BL bc,.slice ao KL kc] 41 w.heap.size rfl).alloc (.cells #[.int .i64 0,.int .i64 0,.int .i64 0,.int .i64 0,.slice none 0 0,.slice none 0 0,.slice none 0 0] 49)
 have R0:=Blk.new (w.alloc (.cells #[.int .i64 c,.int .i64 t,.bool m,.slice ba BL bc,.slice ao KL kc] 41)) [.int .i64 0,.int .i64 0,.int .i64 0,.int .i64 0,.slice none 0 0,.slice none 0 0,.slice none 0 0] 49 (w.heap.size + 1) (by simp)
 have bel:Below w.heap.size w ((w.alloc (.cells #[.int .i64 c,.int .i64 t,.bool m,.slice ba BL bc,.slice ao KL kc] 41)).alloc (.cells #[.int .i64 0,.int .i64 0,.int .i64 0,.int .i64 0,.slice none 0 0,.slice none 0 0,.slice none 0 0] 49)):=((Below.refl _ _).alloc (Nat.le_refl _) _).alloc (by simp) _
 go_enter Tryz.func31,Tryz.ntmps31
 go_upto_region 1 with fail
 generalize (w.alloc (.cells #[.int .i64 c,.int .i64 t,.bool m,.slice ba BL bc,.slice ao KL kc] 41)).alloc (.cells #[.int .i64 0,.int .i64 0,.int .i64 0,.int .i64 0,.slice none 0 0,.slice none 0 0,.slice none 0 0] 49)=W at *
 clear hz
 have hld:(loadVar 41 ⟨w.heap.size,0,none⟩).run Tryz.prog W=.ok (.agg #[.int .i64 c,.int .i64 t,.bool m,.slice ba BL bc,.slice ao KL kc]) W:=B0.load Tryz.underlying41 rfl size_tlv rfl
 have l0:=B0.lt
 have e4:=B0.cell 4 _ rfl
 go_wp2_with (first|((with_reducible show wpList _ _ _ ({ dst:=_,op:=.load _ _,type:=_,pos:=_,after:=_,guard:=_ } :: _) _ _);refine wpList_load_run (by rfl) (by rfl) (by rfl) hld ?_)|fail)
 refine (c20_isList (HT9.out.later bel)).mono ?_
 rintro e w1 ⟨rfl,hb⟩
 replace B0:=B0.later hb
 replace R0:=R0.later hb
 replace bel:=below_step bel hb
 clear hb hld l0 e4
 have e4:=B0.cell 4 _ rfl
 have l0:=B0.lt
 by_cases hp:c=0∧t=16∧m=true
 rotate_left
 ·have H:Hid (mfD (.mk c t m b ks)=none):=by show _=_;rw [mfD_mk,if_neg hp]
  rw [isL_decM,decide_eq_false hp]
  clear hp
  have hz:=zero_mf.out
  obtain ⟨tR,hR⟩:=R0
  have HR1:Hid _:=hR
  clear hR
  go_wp2_with (first|((with_reducible show wpList _ _ _ ({ dst:=_,op:=.store _ _ _,type:=_,pos:=_,after:=_,guard:=_ } :: _) _ _);refine wpList_store_row rfl 49 _ _ rfl (w.heap.size + 1) #[.int .i64 0,.int .i64 0,.int .i64 0,.int .i64 0,.slice none 0 0,.slice none 0 0,.slice none 0 0] rfl rfl tR _ HR1.out (by rw [size_mf];rfl) rfl (by simp [Value.oneCell']) ?_)|fail)
  refine bodyPost_ret (results_row_tmp rfl _ _ (w.heap.size + 1) tR #[.int .i64 0,.int .i64 0,.int .i64 0,.int .i64 0,.slice none 0 0,.slice none 0 0,.slice none 0 0] (0,0) _ rfl (setRow_heap _ _ _ _ _ _ HR1.out) Tryz.underlying49 rfl (by rw [size_mf];rfl)) rfl ?_
  exact MfO.bad H.out (errV_code 7) (below_setRow bel (by omega) _)
 have HD:Hid (mfD (.mk c t m b ks)=mfL ks):=by show _=_;rw [mfD_mk,if_pos hp]
 rw [isL_decM,decide_eq_true hp]
 clear hp
 by_cases k7:KL=7
 rotate_left
 ·have H:Hid (mfD (.mk c t m b ks)=none):=by show _=_;rw [HD.out];exact mfL_len (by rw [HKL.out];exact k7)
  have d1:((KL:Int) == 7)=false:=by rw [beq_eq_false_iff_ne];omega
  have d2:((KL:Int) != 7)=true:=by rw [bne,d1];rfl
  clear k7
  have hz:=zero_mf.out
  obtain ⟨tR,hR⟩:=R0
  have HR1:Hid _:=hR
  clear hR
  go_wp2_with (first|((with_reducible show wpList _ _ _ ({ dst:=_,op:=.store _ _ _,type:=_,pos:=_,after:=_,guard:=_ } :: _) _ _);refine wpList_store_row rfl 49 _ _ rfl (w.heap.size + 1) #[.int .i64 0,.int .i64 0,.int .i64 0,.int .i64 0,.slice none 0 0,.slice none 0 0,.slice none 0 0] rfl rfl tR _ HR1.out (by rw [size_mf];rfl) rfl (by simp [Value.oneCell']) ?_)|fail)
  refine bodyPost_ret (results_row_tmp rfl _ _ (w.heap.size + 1) tR #[.int .i64 0,.int .i64 0,.int .i64 0,.int .i64 0,.slice none 0 0,.slice none 0 0,.slice none 0 0] (0,0) _ rfl (setRow_heap _ _ _ _ _ _ HR1.out) Tryz.underlying49 rfl (by rw [size_mf];rfl)) rfl ?_
  exact MfO.bad H.out (errV_code 7) (below_setRow bel (by omega) _)
 subst k7
 have d1:(((7:Nat):Int) != 7)=false:=by rfl
 obtain ⟨k0,k1,k2,k3,k4,k5,k6,hk7⟩:=list7 HKL.out
 subst hk7
 obtain ⟨g,o,hao,hks⟩:=HK.out (by omega)
 subst hao
 obtain ⟨cs4,hcs4,ht4⟩:=hks.get (i:=4) (k:=k4) rfl
 rw [show 5 * 4=20 from rfl] at hcs4
 have HT4:Hid (TlAt w k4 cs4):=ht4
 have HC4:Hid (CsAt w g (o + 20) cs4):=hcs4
 have H54:Hid (cs4.length=5):=ht4.five
 have HO4:Hid (OneC cs4):=ht4.ones
 clear hcs4 ht4
 obtain ⟨cs5,hcs5,ht5⟩:=hks.get (i:=5) (k:=k5) rfl
 rw [show 5 * 5=25 from rfl] at hcs5
 have HT5:Hid (TlAt w k5 cs5):=ht5
 have HC5:Hid (CsAt w g (o + 25) cs5):=hcs5
 have H55:Hid (cs5.length=5):=ht5.five
 have HO5:Hid (OneC cs5):=ht5.ones
 clear hcs5 ht5
 obtain ⟨cs6,hcs6,ht6⟩:=hks.get (i:=6) (k:=k6) rfl
 rw [show 5 * 6=30 from rfl] at hcs6
 have HT6:Hid (TlAt w k6 cs6):=ht6
 have HC6:Hid (CsAt w g (o + 30) cs6):=hcs6
 have H56:Hid (cs6.length=5):=ht6.five
 have HO6:Hid (OneC cs6):=ht6.ones
 clear hcs6 ht6
 have HKs:Hid (KidsAt w [k0,k1,k2,k3,k4,k5,k6] g o):=hks
 clear hks
 go_upto_region 3 with fail
 clear d1 e4 l0
 have hz:=zero_mf.out
 have Bm:=Blk.new w1 [.int .i64 0,.int .i64 0,.int .i64 0,.int .i64 0,.slice none 0 0,.slice none 0 0,.slice none 0 0] 49 w1.heap.size rfl
 have lt1:w.heap.size + 1 < w1.heap.size:=R0.lt
 replace B0:=B0.alloc (.cells #[.int .i64 0,.int .i64 0,.int .i64 0,.int .i64 0,.slice none 0 0,.slice none 0 0,.slice none 0 0] 49)
 replace R0:=R0.alloc (.cells #[.int .i64 0,.int .i64 0,.int .i64 0,.int .i64 0,.slice none 0 0,.slice none 0 0,.slice none 0 0] 49)
 replace bel:=below_alloc (o:=.cells #[.int .i64 0,.int .i64 0,.int .i64 0,.int .i64 0,.slice none 0 0,.slice none 0 0,.slice none 0 0] 49) bel
 go_upto_region 4 with fail
 clear hz
 obtain ⟨gm,hgm⟩:∃ g,g=w1.heap.size:=⟨_,rfl⟩
 rw [← hgm] at Bm lt1 ⊢
 generalize w1.alloc (.cells #[.int .i64 0,.int .i64 0,.int .i64 0,.int .i64 0,.slice none 0 0,.slice none 0 0,.slice none 0 0] 49)=V1 at *
 clear hgm
 have lm:=Bm.lt
 have Ba:=Blk.new V1 [.pointer (some ⟨gm,0,none⟩),.pointer (some ⟨gm,1,none⟩),.pointer (some ⟨gm,2,none⟩),.pointer (some ⟨gm,3,none⟩)] 112 V1.heap.size rfl
 replace B0:=B0.alloc (.cells #[.pointer (some ⟨gm,0,none⟩),.pointer (some ⟨gm,1,none⟩),.pointer (some ⟨gm,2,none⟩),.pointer (some ⟨gm,3,none⟩)] 112)
 replace R0:=R0.alloc (.cells #[.pointer (some ⟨gm,0,none⟩),.pointer (some ⟨gm,1,none⟩),.pointer (some ⟨gm,2,none⟩),.pointer (some ⟨gm,3,none⟩)] 112)
 replace Bm:=Bm.alloc (.cells #[.pointer (some ⟨gm,0,none⟩),.pointer (some ⟨gm,1,none⟩),.pointer (some ⟨gm,2,none⟩),.pointer (some ⟨gm,3,none⟩)] 112)
 replace bel:=below_alloc (o:=.cells #[.pointer (some ⟨gm,0,none⟩),.pointer (some ⟨gm,1,none⟩),.pointer (some ⟨gm,2,none⟩),.pointer (some ⟨gm,3,none⟩)] 112) bel
 go_wp2_with fail
 obtain ⟨ga,hga⟩:∃ g,g=V1.heap.size:=⟨_,rfl⟩
 rw [← hga] at Ba lm ⊢
 generalize V1.alloc (.cells #[.pointer (some ⟨gm,0,none⟩),.pointer (some ⟨gm,1,none⟩),.pointer (some ⟨gm,2,none⟩),.pointer (some ⟨gm,3,none⟩)] 112)=V2 at *
 clear hga
 go_loopw [28] (fun iv wx=>∃ (i:Nat) (ms:List Value),i≤4∧iv=.int .i64 (i:Int)∧Blk wx gm ms∧Hid (MsI [k0,k1,k2,k3,k4,k5,k6] i ms)∧Blk wx ga [.pointer (some ⟨gm,0,none⟩),.pointer (some ⟨gm,1,none⟩),.pointer (some ⟨gm,2,none⟩),.pointer (some ⟨gm,3,none⟩)]∧Blk wx w.heap.size [.int .i64 c,.int .i64 t,.bool m,.slice ba BL bc,.slice (some ⟨g,o,none⟩) 7 kc]∧Blk wx (w.heap.size + 1) [.int .i64 0,.int .i64 0,.int .i64 0,.int .i64 0,.slice none 0 0,.slice none 0 0,.slice none 0 0]∧Below w.heap.size w wx) (fun iv _=>4 - (intOf iv).toNat)
 case atStart=>exact ⟨0,_,by omega,rfl,Bm,MsI.zero,Ba,B0,R0,bel⟩
 have HNe:Hid (gm < ga∧w.heap.size + 1 < gm):=⟨lm,lt1⟩
 clear lm
 case round =>
  clear Bm Ba B0 R0 bel
  obtain ⟨i,ms,hi,rfl,Bm,HM,Ba,B0,R0,bel⟩:=hrel
  by_cases hil:i < 4
  rotate_left
  ·obtain rfl:i=4:=by omega
   clear hil hi
   have g1:¬ ((4:Nat):Int) < 4:=by omega
   obtain ⟨x0,x1,x2,x3,hms,s0,s1,s2,s3⟩:=HM.out.all
   subst hms
   have HS0:Hid (smlD k0=some x0∧smlD k1=some x1∧smlD k2=some x2∧smlD k3=some x3):=⟨s0,s1,s2,s3⟩
   clear HM s0 s1 s2 s3 Ba
   go_upto_region 12 with fail
   clear g1
   obtain ⟨S1,hS1,KB1,KI1,KD1,KL1,KA1⟩:∃ S:World→Prop,Hd S wr∧Hid (∀ wx,Hd S wx→Below wr.heap.size wr wx)∧Hid (∀ wx,Below wr.heap.size wr wx→Hd S wx)∧Hid (∀ wx,Hd S wx→Hd S wx.drew)∧Hid (∀ w1 w2,Hd S w1→Below w1.heap.size w1 w2→Hd S w2)∧Hid (∀ w1 o,Hd S w1→Hd S (w1.alloc o)):=⟨fun wx=>Below wr.heap.size wr wx,Below.refl _ _,fun _ h=>h,fun _ h=>h,fun wx h=>Below.drew h,fun w1 w2 h hb=>below_step h hb,fun w1 o h=>Below.alloc h h.size o⟩
   have HB0:Hid (Blk wr w.heap.size [.int .i64 c,.int .i64 t,.bool m,.slice ba BL bc,.slice (some ⟨g,o,none⟩) 7 kc]):=B0
   have HR0:Hid (Blk wr (w.heap.size + 1) [.int .i64 0,.int .i64 0,.int .i64 0,.int .i64 0,.slice none 0 0,.slice none 0 0,.slice none 0 0]):=R0
   have HBm:Hid (Blk wr gm [.int .i64 x0,.int .i64 x1,.int .i64 x2,.int .i64 x3,.slice none 0 0,.slice none 0 0,.slice none 0 0]):=Bm
   have HBel:Hid (Below w.heap.size w wr):=bel
   have ra:∀ wx,Hd S1 wx→wx.cell? ⟨w.heap.size,4,none⟩=some (.slice (some ⟨g,o,none⟩) 7 kc):=fun wx h=>(HB0.out.later (KB1.out wx h)).cell 4 _ rfl
   have rl:∀ wx,Hd S1 wx→w.heap.size < wx.heap.size:=fun wx h=>(HB0.out.later (KB1.out wx h)).lt
   have rk4:Hid (∀ wx,Hd S1 wx→(loadVar 41 ⟨g,o + 20,none⟩).run Tryz.prog wx=.ok (.agg cs4.toArray) wx):=fun wx h=>tlv_load (HC4.out.later (below_step HBel.out (KB1.out wx h))) H54.out
   have rk5:Hid (∀ wx,Hd S1 wx→(loadVar 41 ⟨g,o + 25,none⟩).run Tryz.prog wx=.ok (.agg cs5.toArray) wx):=fun wx h=>tlv_load (HC5.out.later (below_step HBel.out (KB1.out wx h))) H55.out
   have rk6:Hid (∀ wx,Hd S1 wx→(loadVar 41 ⟨g,o + 30,none⟩).run Tryz.prog wx=.ok (.agg cs6.toArray) wx):=fun wx h=>tlv_load (HC6.out.later (below_step HBel.out (KB1.out wx h))) H56.out
   clear B0 R0 Bm bel
   refine wp_region_noPanic ?_
   refine wp_region_held_drew (S:=Hd S1) (by kernel_rfl) (KD1.out _ hS1) (fun hHeld=>?_)
   clear hS1
   generalize World.drew _=wd1 at *
   refine wpAnyH_take (i:=0) (v:=?_) rfl (by kernel_rfl) (by kernel_rfl) (by kernel_rfl) (fun _ _ _ h=>h) (Or.inl ⟨by rfl,?_⟩) (by assumption) ?_
   rotate_left
   ·intro w hSw
    go_simp
    with_reducible rfl
   try simp only [Act.put,List.getElem_toArray,List.getElem_cons_zero,List.getElem_cons_succ,List.setIfInBounds_toArray,List.set_cons_zero,List.set_cons_succ]
   refine wpAnyH_take (i:=1) (v:=?_) rfl (by kernel_rfl) (by kernel_rfl) (by kernel_rfl) (fun _ _ _ h=>h) (Or.inl ⟨by rfl,?_⟩) (by assumption) ?_
   rotate_left
   ·intro w hSw
    go_simp
    with_reducible rfl
   try simp only [Act.put,List.getElem_toArray,List.getElem_cons_zero,List.getElem_cons_succ,List.setIfInBounds_toArray,List.set_cons_zero,List.set_cons_succ]
   refine wpAnyH_take (i:=2) (v:=?_) rfl (by kernel_rfl) (by kernel_rfl) (by kernel_rfl) (fun _ _ _ h=>h) (Or.inl ⟨by rfl,?_⟩) (by assumption) ?_
   rotate_left
   ·intro w hSw
    go_simp
    with_reducible rfl
   try simp only [Act.put,List.getElem_toArray,List.getElem_cons_zero,List.getElem_cons_succ,List.setIfInBounds_toArray,List.set_cons_zero,List.set_cons_succ]
   refine wpAnyH_take (i:=3) (v:=.agg cs4.toArray) rfl (by kernel_rfl) (by kernel_rfl) (by kernel_rfl) (fun _ _ _ h=>h) (Or.inl ⟨by rfl,fun wx h=>exec_load rfl rfl (rk4.out wx h)⟩) (by assumption) ?_
   try simp only [Act.put,List.getElem_toArray,List.getElem_cons_zero,List.getElem_cons_succ,List.setIfInBounds_toArray,List.set_cons_zero,List.set_cons_succ]
   refine wpAnyH_take (i:=4) (v:=?_) rfl (by kernel_rfl) (by kernel_rfl) (by kernel_rfl) (fun _ _ _ h=>h) (Or.inl ⟨by rfl,?_⟩) (by assumption) ?_
   rotate_left
   ·intro w hSw
    go_simp
    with_reducible rfl
   try simp only [Act.put,List.getElem_toArray,List.getElem_cons_zero,List.getElem_cons_succ,List.setIfInBounds_toArray,List.set_cons_zero,List.set_cons_succ]
   refine wpAnyH_take (i:=5) (v:=?_) rfl (by kernel_rfl) (by kernel_rfl) (by kernel_rfl) (fun _ _ _ h=>h) (Or.inl ⟨by rfl,?_⟩) (by assumption) ?_
   rotate_left
   ·intro w hSw
    go_simp
    with_reducible rfl
   try simp only [Act.put,List.getElem_toArray,List.getElem_cons_zero,List.getElem_cons_succ,List.setIfInBounds_toArray,List.set_cons_zero,List.set_cons_succ]
   refine wpAnyH_take (i:=6) (v:=?_) rfl (by kernel_rfl) (by kernel_rfl) (by kernel_rfl) (fun _ _ _ h=>h) (Or.inl ⟨by rfl,?_⟩) (by assumption) ?_
   rotate_left
   ·intro w hSw
    go_simp
    with_reducible rfl
   try simp only [Act.put,List.getElem_toArray,List.getElem_cons_zero,List.getElem_cons_succ,List.setIfInBounds_toArray,List.set_cons_zero,List.set_cons_succ]
   refine wpAnyH_take (i:=7) (v:=.agg cs5.toArray) rfl (by kernel_rfl) (by kernel_rfl) (by kernel_rfl) (fun _ _ _ h=>h) (Or.inl ⟨by rfl,fun wx h=>exec_load rfl rfl (rk5.out wx h)⟩) (by assumption) ?_
   try simp only [Act.put,List.getElem_toArray,List.getElem_cons_zero,List.getElem_cons_succ,List.setIfInBounds_toArray,List.set_cons_zero,List.set_cons_succ]
   refine wpAnyH_take (i:=8) (v:=?_) rfl (by kernel_rfl) (by kernel_rfl) (by kernel_rfl) (fun _ _ _ h=>h) (Or.inl ⟨by rfl,?_⟩) (by assumption) ?_
   rotate_left
   ·intro w hSw
    go_simp
    with_reducible rfl
   try simp only [Act.put,List.getElem_toArray,List.getElem_cons_zero,List.getElem_cons_succ,List.setIfInBounds_toArray,List.set_cons_zero,List.set_cons_succ]
   refine wpAnyH_take (i:=9) (v:=?_) rfl (by kernel_rfl) (by kernel_rfl) (by kernel_rfl) (fun _ _ _ h=>h) (Or.inl ⟨by rfl,?_⟩) (by assumption) ?_
   rotate_left
   ·intro w hSw
    go_simp
    with_reducible rfl
   try simp only [Act.put,List.getElem_toArray,List.getElem_cons_zero,List.getElem_cons_succ,List.setIfInBounds_toArray,List.set_cons_zero,List.set_cons_succ]
   refine wpAnyH_take (i:=10) (v:=?_) rfl (by kernel_rfl) (by kernel_rfl) (by kernel_rfl) (fun _ _ _ h=>h) (Or.inl ⟨by rfl,?_⟩) (by assumption) ?_
   rotate_left
   ·intro w hSw
    go_simp
    with_reducible rfl
   try simp only [Act.put,List.getElem_toArray,List.getElem_cons_zero,List.getElem_cons_succ,List.setIfInBounds_toArray,List.set_cons_zero,List.set_cons_succ]
   refine wpAnyH_take (i:=11) (v:=.agg cs6.toArray) rfl (by kernel_rfl) (by kernel_rfl) (by kernel_rfl) (fun _ _ _ h=>h) (Or.inl ⟨by rfl,fun wx h=>exec_load rfl rfl (rk6.out wx h)⟩) (by assumption) ?_
   try simp only [Act.put,List.getElem_toArray,List.getElem_cons_zero,List.getElem_cons_succ,List.setIfInBounds_toArray,List.set_cons_zero,List.set_cons_succ]
   apply with_keyM (T:=∀ (wz:World) (g4 g5 g6:Nat),Hd S1 wz→Blk wz g4 [.int .i64 0,.int .i64 0,.bool false,.slice none 0 0,.slice none 0 0]→Blk wz g5 [.int .i64 0,.int .i64 0,.bool false,.slice none 0 0,.slice none 0 0]→Blk wz g6 [.int .i64 0,.int .i64 0,.bool false,.slice none 0 0,.slice none 0 0]→wr.heap.size≤g4→wr.heap.size≤g5→wr.heap.size≤g6→g4≠g5→g4≠g6→g5≠g6→wpAnyH _ _ _ _ _ _ _ _ wz)
   case main =>
    intro k9
    refine wpAnyH_ready (rs:=[12,13,14]) (by kernel_rfl) (by simp) ?_
    refine AllReadyH.cons rfl (fun K hK=>?_) ?_
    ·have HHa:Hid (Hd S1 wd1):=hHeld
     have hz:=zero_tlv.out
     go_simp
     refine hK.out _ _ ?_ (fun hHeld2=>?_)
     ·exact KA1.out _ _ hHeld
     ·clear hK K
      try clear hHeld
      have hHeld:=hHeld2
      clear hHeld2
      try simp only [Act.put,List.getElem_toArray,List.getElem_cons_zero,List.getElem_cons_succ,List.setIfInBounds_toArray,List.set_cons_zero,List.set_cons_succ]
      clear hz
      have Z4:=Blk.new wd1 [.int .i64 0,.int .i64 0,.bool false,.slice none 0 0,.slice none 0 0] 41 wd1.heap.size rfl
      obtain ⟨g4,hg4⟩:∃ g,g=wd1.heap.size:=⟨_,rfl⟩
      have lg4:wr.heap.size≤g4:=by rw [hg4];exact (KB1.out _ HHa.out).size
      rw [← hg4] at Z4 ⊢
      clear hg4 HHa
      generalize wd1.alloc (.cells #[.int .i64 0,.int .i64 0,.bool false,.slice none 0 0,.slice none 0 0] 41)=wa12 at *
      refine wpAnyH_ready (rs:=[13,14]) (by kernel_rfl) (by simp) ?_
      refine AllReadyH.cons rfl (fun K hK=>?_) ?_
      ·have HHa:Hid (Hd S1 wa12):=hHeld
       have hz:=zero_tlv.out
       go_simp
       refine hK.out _ _ ?_ (fun hHeld2=>?_)
       ·exact KA1.out _ _ hHeld
       ·clear hK K
        try clear hHeld
        have hHeld:=hHeld2
        clear hHeld2
        try simp only [Act.put,List.getElem_toArray,List.getElem_cons_zero,List.getElem_cons_succ,List.setIfInBounds_toArray,List.set_cons_zero,List.set_cons_succ]
        clear hz
        have Z5:=Blk.new wa12 [.int .i64 0,.int .i64 0,.bool false,.slice none 0 0,.slice none 0 0] 41 wa12.heap.size rfl
        obtain ⟨g5,hg5⟩:∃ g,g=wa12.heap.size:=⟨_,rfl⟩
        have lg5:wr.heap.size≤g5:=by rw [hg5];exact (KB1.out _ HHa.out).size
        have n45:g4≠g5:=by have:=Z4.lt;omega
        replace Z4:=Z4.alloc (.cells #[.int .i64 0,.int .i64 0,.bool false,.slice none 0 0,.slice none 0 0] 41)
        rw [← hg5] at Z5 ⊢
        clear hg5 HHa
        generalize wa12.alloc (.cells #[.int .i64 0,.int .i64 0,.bool false,.slice none 0 0,.slice none 0 0] 41)=wa13 at *
        refine wpAnyH_ready (rs:=[14]) (by kernel_rfl) (by simp) ?_
        refine AllReadyH.cons rfl (fun K hK=>?_) ?_
        ·have HHa:Hid (Hd S1 wa13):=hHeld
         have hz:=zero_tlv.out
         go_simp
         refine hK.out _ _ ?_ (fun hHeld2=>?_)
         ·exact KA1.out _ _ hHeld
         ·clear hK K
          try clear hHeld
          have hHeld:=hHeld2
          clear hHeld2
          try simp only [Act.put,List.getElem_toArray,List.getElem_cons_zero,List.getElem_cons_succ,List.setIfInBounds_toArray,List.set_cons_zero,List.set_cons_succ]
          clear hz
          have Z6:=Blk.new wa13 [.int .i64 0,.int .i64 0,.bool false,.slice none 0 0,.slice none 0 0] 41 wa13.heap.size rfl
          obtain ⟨g6,hg6⟩:∃ g,g=wa13.heap.size:=⟨_,rfl⟩
          have lg6:wr.heap.size≤g6:=by rw [hg6];exact (KB1.out _ HHa.out).size
          have n46:g4≠g6:=by have:=Z4.lt;omega
          replace Z4:=Z4.alloc (.cells #[.int .i64 0,.int .i64 0,.bool false,.slice none 0 0,.slice none 0 0] 41)
          have n56:g5≠g6:=by have:=Z5.lt;omega
          replace Z5:=Z5.alloc (.cells #[.int .i64 0,.int .i64 0,.bool false,.slice none 0 0,.slice none 0 0] 41)
          rw [← hg6] at Z6 ⊢
          clear hg6 HHa
          generalize wa13.alloc (.cells #[.int .i64 0,.int .i64 0,.bool false,.slice none 0 0,.slice none 0 0] 41)=wa14 at *
          exact k9 wa14 g4 g5 g6 hHeld Z4 Z5 Z6 lg4 lg5 lg6 n45 n46 n56
        exact AllReadyH.nil
      refine AllReadyH.cons rfl (fun K hK=>?_) ?_
      ·have HHa:Hid (Hd S1 wa12):=hHeld
       have hz:=zero_tlv.out
       go_simp
       refine hK.out _ _ ?_ (fun hHeld2=>?_)
       ·exact KA1.out _ _ hHeld
       ·clear hK K
        try clear hHeld
        have hHeld:=hHeld2
        clear hHeld2
        try simp only [Act.put,List.getElem_toArray,List.getElem_cons_zero,List.getElem_cons_succ,List.setIfInBounds_toArray,List.set_cons_zero,List.set_cons_succ]
        clear hz
        have Z6:=Blk.new wa12 [.int .i64 0,.int .i64 0,.bool false,.slice none 0 0,.slice none 0 0] 41 wa12.heap.size rfl
        obtain ⟨g6,hg6⟩:∃ g,g=wa12.heap.size:=⟨_,rfl⟩
        have lg6:wr.heap.size≤g6:=by rw [hg6];exact (KB1.out _ HHa.out).size
        have n46:g4≠g6:=by have:=Z4.lt;omega
        replace Z4:=Z4.alloc (.cells #[.int .i64 0,.int .i64 0,.bool false,.slice none 0 0,.slice none 0 0] 41)
        rw [← hg6] at Z6 ⊢
        clear hg6 HHa
        generalize wa12.alloc (.cells #[.int .i64 0,.int .i64 0,.bool false,.slice none 0 0,.slice none 0 0] 41)=wa14 at *
        refine wpAnyH_ready (rs:=[13]) (by kernel_rfl) (by simp) ?_
        refine AllReadyH.cons rfl (fun K hK=>?_) ?_
        ·have HHa:Hid (Hd S1 wa14):=hHeld
         have hz:=zero_tlv.out
         go_simp
         refine hK.out _ _ ?_ (fun hHeld2=>?_)
         ·exact KA1.out _ _ hHeld
         ·clear hK K
          try clear hHeld
          have hHeld:=hHeld2
          clear hHeld2
          try simp only [Act.put,List.getElem_toArray,List.getElem_cons_zero,List.getElem_cons_succ,List.setIfInBounds_toArray,List.set_cons_zero,List.set_cons_succ]
          clear hz
          have Z5:=Blk.new wa14 [.int .i64 0,.int .i64 0,.bool false,.slice none 0 0,.slice none 0 0] 41 wa14.heap.size rfl
          obtain ⟨g5,hg5⟩:∃ g,g=wa14.heap.size:=⟨_,rfl⟩
          have lg5:wr.heap.size≤g5:=by rw [hg5];exact (KB1.out _ HHa.out).size
          have n45:g4≠g5:=by have:=Z4.lt;omega
          replace Z4:=Z4.alloc (.cells #[.int .i64 0,.int .i64 0,.bool false,.slice none 0 0,.slice none 0 0] 41)
          have n56:g5≠g6:=by have:=Z6.lt;omega
          replace Z6:=Z6.alloc (.cells #[.int .i64 0,.int .i64 0,.bool false,.slice none 0 0,.slice none 0 0] 41)
          rw [← hg5] at Z5 ⊢
          clear hg5 HHa
          generalize wa14.alloc (.cells #[.int .i64 0,.int .i64 0,.bool false,.slice none 0 0,.slice none 0 0] 41)=wa13 at *
          exact k9 wa13 g4 g5 g6 hHeld Z4 Z5 Z6 lg4 lg5 lg6 n45 n46 n56
        exact AllReadyH.nil
      exact AllReadyH.nil
    refine AllReadyH.cons rfl (fun K hK=>?_) ?_
    ·have HHa:Hid (Hd S1 wd1):=hHeld
     have hz:=zero_tlv.out
     go_simp
     refine hK.out _ _ ?_ (fun hHeld2=>?_)
     ·exact KA1.out _ _ hHeld
     ·clear hK K
      try clear hHeld
      have hHeld:=hHeld2
      clear hHeld2
      try simp only [Act.put,List.getElem_toArray,List.getElem_cons_zero,List.getElem_cons_succ,List.setIfInBounds_toArray,List.set_cons_zero,List.set_cons_succ]
      clear hz
      have Z5:=Blk.new wd1 [.int .i64 0,.int .i64 0,.bool false,.slice none 0 0,.slice none 0 0] 41 wd1.heap.size rfl
      obtain ⟨g5,hg5⟩:∃ g,g=wd1.heap.size:=⟨_,rfl⟩
      have lg5:wr.heap.size≤g5:=by rw [hg5];exact (KB1.out _ HHa.out).size
      rw [← hg5] at Z5 ⊢
      clear hg5 HHa
      generalize wd1.alloc (.cells #[.int .i64 0,.int .i64 0,.bool false,.slice none 0 0,.slice none 0 0] 41)=wa13 at *
      refine wpAnyH_ready (rs:=[12,14]) (by kernel_rfl) (by simp) ?_
      refine AllReadyH.cons rfl (fun K hK=>?_) ?_
      ·have HHa:Hid (Hd S1 wa13):=hHeld
       have hz:=zero_tlv.out
       go_simp
       refine hK.out _ _ ?_ (fun hHeld2=>?_)
       ·exact KA1.out _ _ hHeld
       ·clear hK K
        try clear hHeld
        have hHeld:=hHeld2
        clear hHeld2
        try simp only [Act.put,List.getElem_toArray,List.getElem_cons_zero,List.getElem_cons_succ,List.setIfInBounds_toArray,List.set_cons_zero,List.set_cons_succ]
        clear hz
        have Z4:=Blk.new wa13 [.int .i64 0,.int .i64 0,.bool false,.slice none 0 0,.slice none 0 0] 41 wa13.heap.size rfl
        obtain ⟨g4,hg4⟩:∃ g,g=wa13.heap.size:=⟨_,rfl⟩
        have lg4:wr.heap.size≤g4:=by rw [hg4];exact (KB1.out _ HHa.out).size
        have n45:g4≠g5:=by have:=Z5.lt;omega
        replace Z5:=Z5.alloc (.cells #[.int .i64 0,.int .i64 0,.bool false,.slice none 0 0,.slice none 0 0] 41)
        rw [← hg4] at Z4 ⊢
        clear hg4 HHa
        generalize wa13.alloc (.cells #[.int .i64 0,.int .i64 0,.bool false,.slice none 0 0,.slice none 0 0] 41)=wa12 at *
        refine wpAnyH_ready (rs:=[14]) (by kernel_rfl) (by simp) ?_
        refine AllReadyH.cons rfl (fun K hK=>?_) ?_
        ·have HHa:Hid (Hd S1 wa12):=hHeld
         have hz:=zero_tlv.out
         go_simp
         refine hK.out _ _ ?_ (fun hHeld2=>?_)
         ·exact KA1.out _ _ hHeld
         ·clear hK K
          try clear hHeld
          have hHeld:=hHeld2
          clear hHeld2
          try simp only [Act.put,List.getElem_toArray,List.getElem_cons_zero,List.getElem_cons_succ,List.setIfInBounds_toArray,List.set_cons_zero,List.set_cons_succ]
          clear hz
          have Z6:=Blk.new wa12 [.int .i64 0,.int .i64 0,.bool false,.slice none 0 0,.slice none 0 0] 41 wa12.heap.size rfl
          obtain ⟨g6,hg6⟩:∃ g,g=wa12.heap.size:=⟨_,rfl⟩
          have lg6:wr.heap.size≤g6:=by rw [hg6];exact (KB1.out _ HHa.out).size
          have n46:g4≠g6:=by have:=Z4.lt;omega
          replace Z4:=Z4.alloc (.cells #[.int .i64 0,.int .i64 0,.bool false,.slice none 0 0,.slice none 0 0] 41)
          have n56:g5≠g6:=by have:=Z5.lt;omega
          replace Z5:=Z5.alloc (.cells #[.int .i64 0,.int .i64 0,.bool false,.slice none 0 0,.slice none 0 0] 41)
          rw [← hg6] at Z6 ⊢
          clear hg6 HHa
          generalize wa12.alloc (.cells #[.int .i64 0,.int .i64 0,.bool false,.slice none 0 0,.slice none 0 0] 41)=wa14 at *
          exact k9 wa14 g4 g5 g6 hHeld Z4 Z5 Z6 lg4 lg5 lg6 n45 n46 n56
        exact AllReadyH.nil
      refine AllReadyH.cons rfl (fun K hK=>?_) ?_
      ·have HHa:Hid (Hd S1 wa13):=hHeld
       have hz:=zero_tlv.out
       go_simp
       refine hK.out _ _ ?_ (fun hHeld2=>?_)
       ·exact KA1.out _ _ hHeld
       ·clear hK K
        try clear hHeld
        have hHeld:=hHeld2
        clear hHeld2
        try simp only [Act.put,List.getElem_toArray,List.getElem_cons_zero,List.getElem_cons_succ,List.setIfInBounds_toArray,List.set_cons_zero,List.set_cons_succ]
        clear hz
        have Z6:=Blk.new wa13 [.int .i64 0,.int .i64 0,.bool false,.slice none 0 0,.slice none 0 0] 41 wa13.heap.size rfl
        obtain ⟨g6,hg6⟩:∃ g,g=wa13.heap.size:=⟨_,rfl⟩
        have lg6:wr.heap.size≤g6:=by rw [hg6];exact (KB1.out _ HHa.out).size
        have n56:g5≠g6:=by have:=Z5.lt;omega
        replace Z5:=Z5.alloc (.cells #[.int .i64 0,.int .i64 0,.bool false,.slice none 0 0,.slice none 0 0] 41)
        rw [← hg6] at Z6 ⊢
        clear hg6 HHa
        generalize wa13.alloc (.cells #[.int .i64 0,.int .i64 0,.bool false,.slice none 0 0,.slice none 0 0] 41)=wa14 at *
        refine wpAnyH_ready (rs:=[12]) (by kernel_rfl) (by simp) ?_
        refine AllReadyH.cons rfl (fun K hK=>?_) ?_
        ·have HHa:Hid (Hd S1 wa14):=hHeld
         have hz:=zero_tlv.out
         go_simp
         refine hK.out _ _ ?_ (fun hHeld2=>?_)
         ·exact KA1.out _ _ hHeld
         ·clear hK K
          try clear hHeld
          have hHeld:=hHeld2
          clear hHeld2
          try simp only [Act.put,List.getElem_toArray,List.getElem_cons_zero,List.getElem_cons_succ,List.setIfInBounds_toArray,List.set_cons_zero,List.set_cons_succ]
          clear hz
          have Z4:=Blk.new wa14 [.int .i64 0,.int .i64 0,.bool false,.slice none 0 0,.slice none 0 0] 41 wa14.heap.size rfl
          obtain ⟨g4,hg4⟩:∃ g,g=wa14.heap.size:=⟨_,rfl⟩
          have lg4:wr.heap.size≤g4:=by rw [hg4];exact (KB1.out _ HHa.out).size
          have n45:g4≠g5:=by have:=Z5.lt;omega
          replace Z5:=Z5.alloc (.cells #[.int .i64 0,.int .i64 0,.bool false,.slice none 0 0,.slice none 0 0] 41)
          have n46:g4≠g6:=by have:=Z6.lt;omega
          replace Z6:=Z6.alloc (.cells #[.int .i64 0,.int .i64 0,.bool false,.slice none 0 0,.slice none 0 0] 41)
          rw [← hg4] at Z4 ⊢
          clear hg4 HHa
          generalize wa14.alloc (.cells #[.int .i64 0,.int .i64 0,.bool false,.slice none 0 0,.slice none 0 0] 41)=wa12 at *
          exact k9 wa12 g4 g5 g6 hHeld Z4 Z5 Z6 lg4 lg5 lg6 n45 n46 n56
        exact AllReadyH.nil
      exact AllReadyH.nil
    refine AllReadyH.cons rfl (fun K hK=>?_) ?_
    ·have HHa:Hid (Hd S1 wd1):=hHeld
     have hz:=zero_tlv.out
     go_simp
     refine hK.out _ _ ?_ (fun hHeld2=>?_)
     ·exact KA1.out _ _ hHeld
     ·clear hK K
      try clear hHeld
      have hHeld:=hHeld2
      clear hHeld2
      try simp only [Act.put,List.getElem_toArray,List.getElem_cons_zero,List.getElem_cons_succ,List.setIfInBounds_toArray,List.set_cons_zero,List.set_cons_succ]
      clear hz
      have Z6:=Blk.new wd1 [.int .i64 0,.int .i64 0,.bool false,.slice none 0 0,.slice none 0 0] 41 wd1.heap.size rfl
      obtain ⟨g6,hg6⟩:∃ g,g=wd1.heap.size:=⟨_,rfl⟩
      have lg6:wr.heap.size≤g6:=by rw [hg6];exact (KB1.out _ HHa.out).size
      rw [← hg6] at Z6 ⊢
      clear hg6 HHa
      generalize wd1.alloc (.cells #[.int .i64 0,.int .i64 0,.bool false,.slice none 0 0,.slice none 0 0] 41)=wa14 at *
      refine wpAnyH_ready (rs:=[12,13]) (by kernel_rfl) (by simp) ?_
      refine AllReadyH.cons rfl (fun K hK=>?_) ?_
      ·have HHa:Hid (Hd S1 wa14):=hHeld
       have hz:=zero_tlv.out
       go_simp
       refine hK.out _ _ ?_ (fun hHeld2=>?_)
       ·exact KA1.out _ _ hHeld
       ·clear hK K
        try clear hHeld
        have hHeld:=hHeld2
        clear hHeld2
        try simp only [Act.put,List.getElem_toArray,List.getElem_cons_zero,List.getElem_cons_succ,List.setIfInBounds_toArray,List.set_cons_zero,List.set_cons_succ]
        clear hz
        have Z4:=Blk.new wa14 [.int .i64 0,.int .i64 0,.bool false,.slice none 0 0,.slice none 0 0] 41 wa14.heap.size rfl
        obtain ⟨g4,hg4⟩:∃ g,g=wa14.heap.size:=⟨_,rfl⟩
        have lg4:wr.heap.size≤g4:=by rw [hg4];exact (KB1.out _ HHa.out).size
        have n46:g4≠g6:=by have:=Z6.lt;omega
        replace Z6:=Z6.alloc (.cells #[.int .i64 0,.int .i64 0,.bool false,.slice none 0 0,.slice none 0 0] 41)
        rw [← hg4] at Z4 ⊢
        clear hg4 HHa
        generalize wa14.alloc (.cells #[.int .i64 0,.int .i64 0,.bool false,.slice none 0 0,.slice none 0 0] 41)=wa12 at *
        refine wpAnyH_ready (rs:=[13]) (by kernel_rfl) (by simp) ?_
        refine AllReadyH.cons rfl (fun K hK=>?_) ?_
        ·have HHa:Hid (Hd S1 wa12):=hHeld
         have hz:=zero_tlv.out
         go_simp
         refine hK.out _ _ ?_ (fun hHeld2=>?_)
         ·exact KA1.out _ _ hHeld
         ·clear hK K
          try clear hHeld
          have hHeld:=hHeld2
          clear hHeld2
          try simp only [Act.put,List.getElem_toArray,List.getElem_cons_zero,List.getElem_cons_succ,List.setIfInBounds_toArray,List.set_cons_zero,List.set_cons_succ]
          clear hz
          have Z5:=Blk.new wa12 [.int .i64 0,.int .i64 0,.bool false,.slice none 0 0,.slice none 0 0] 41 wa12.heap.size rfl
          obtain ⟨g5,hg5⟩:∃ g,g=wa12.heap.size:=⟨_,rfl⟩
          have lg5:wr.heap.size≤g5:=by rw [hg5];exact (KB1.out _ HHa.out).size
          have n45:g4≠g5:=by have:=Z4.lt;omega
          replace Z4:=Z4.alloc (.cells #[.int .i64 0,.int .i64 0,.bool false,.slice none 0 0,.slice none 0 0] 41)
          have n56:g5≠g6:=by have:=Z6.lt;omega
          replace Z6:=Z6.alloc (.cells #[.int .i64 0,.int .i64 0,.bool false,.slice none 0 0,.slice none 0 0] 41)
          rw [← hg5] at Z5 ⊢
          clear hg5 HHa
          generalize wa12.alloc (.cells #[.int .i64 0,.int .i64 0,.bool false,.slice none 0 0,.slice none 0 0] 41)=wa13 at *
          exact k9 wa13 g4 g5 g6 hHeld Z4 Z5 Z6 lg4 lg5 lg6 n45 n46 n56
        exact AllReadyH.nil
      refine AllReadyH.cons rfl (fun K hK=>?_) ?_
      ·have HHa:Hid (Hd S1 wa14):=hHeld
       have hz:=zero_tlv.out
       go_simp
       refine hK.out _ _ ?_ (fun hHeld2=>?_)
       ·exact KA1.out _ _ hHeld
       ·clear hK K
        try clear hHeld
        have hHeld:=hHeld2
        clear hHeld2
        try simp only [Act.put,List.getElem_toArray,List.getElem_cons_zero,List.getElem_cons_succ,List.setIfInBounds_toArray,List.set_cons_zero,List.set_cons_succ]
        clear hz
        have Z5:=Blk.new wa14 [.int .i64 0,.int .i64 0,.bool false,.slice none 0 0,.slice none 0 0] 41 wa14.heap.size rfl
        obtain ⟨g5,hg5⟩:∃ g,g=wa14.heap.size:=⟨_,rfl⟩
        have lg5:wr.heap.size≤g5:=by rw [hg5];exact (KB1.out _ HHa.out).size
        have n56:g5≠g6:=by have:=Z6.lt;omega
        replace Z6:=Z6.alloc (.cells #[.int .i64 0,.int .i64 0,.bool false,.slice none 0 0,.slice none 0 0] 41)
        rw [← hg5] at Z5 ⊢
        clear hg5 HHa
        generalize wa14.alloc (.cells #[.int .i64 0,.int .i64 0,.bool false,.slice none 0 0,.slice none 0 0] 41)=wa13 at *
        refine wpAnyH_ready (rs:=[12]) (by kernel_rfl) (by simp) ?_
        refine AllReadyH.cons rfl (fun K hK=>?_) ?_
        ·have HHa:Hid (Hd S1 wa13):=hHeld
         have hz:=zero_tlv.out
         go_simp
         refine hK.out _ _ ?_ (fun hHeld2=>?_)
         ·exact KA1.out _ _ hHeld
         ·clear hK K
          try clear hHeld
          have hHeld:=hHeld2
          clear hHeld2
          try simp only [Act.put,List.getElem_toArray,List.getElem_cons_zero,List.getElem_cons_succ,List.setIfInBounds_toArray,List.set_cons_zero,List.set_cons_succ]
          clear hz
          have Z4:=Blk.new wa13 [.int .i64 0,.int .i64 0,.bool false,.slice none 0 0,.slice none 0 0] 41 wa13.heap.size rfl
          obtain ⟨g4,hg4⟩:∃ g,g=wa13.heap.size:=⟨_,rfl⟩
          have lg4:wr.heap.size≤g4:=by rw [hg4];exact (KB1.out _ HHa.out).size
          have n45:g4≠g5:=by have:=Z5.lt;omega
          replace Z5:=Z5.alloc (.cells #[.int .i64 0,.int .i64 0,.bool false,.slice none 0 0,.slice none 0 0] 41)
          have n46:g4≠g6:=by have:=Z6.lt;omega
          replace Z6:=Z6.alloc (.cells #[.int .i64 0,.int .i64 0,.bool false,.slice none 0 0,.slice none 0 0] 41)
          rw [← hg4] at Z4 ⊢
          clear hg4 HHa
          generalize wa13.alloc (.cells #[.int .i64 0,.int .i64 0,.bool false,.slice none 0 0,.slice none 0 0] 41)=wa12 at *
          exact k9 wa12 g4 g5 g6 hHeld Z4 Z5 Z6 lg4 lg5 lg6 n45 n46 n56
        exact AllReadyH.nil
      exact AllReadyH.nil
    exact AllReadyH.nil
   case kp =>
    intro wz g4 g5 g6 hHeld Z4 Z5 Z6 lg4 lg5 lg6 n45 n46 n56
    refine wpAnyH_ready (rs:=[15]) (by kernel_rfl) (by simp) ?_
    refine AllReadyH.cons rfl (fun K hK=>?_) ?_
    ·have HS4:Hid (cs4.toArray.size=5):=by show _=_;rw [List.size_toArray];exact H54.out
     have Y4:Blk (wz.setRow g4 cs4.toArray) g4 cs4:=Z4.put
     obtain ⟨tz4,htz4⟩:=Z4
     rw [if_pos (by rfl)]
     refine wp_store_row 41 _ _ rfl g4 cs4.toArray rfl rfl tz4 _ htz4 (by rw [size_tlv,HS4.out]) (by rw [HS4.out];rfl) HO4.out ?_
     refine hK.out _ _ ?_ (fun hHeld2=>?_)
     ·exact KI1.out _ (below_setRow (KB1.out _ hHeld) lg4 _)
     ·clear hK K hHeld htz4
      have hHeld:=hHeld2
      clear hHeld2
      try simp only [Act.put,List.getElem_toArray,List.getElem_cons_zero,List.getElem_cons_succ,List.setIfInBounds_toArray,List.set_cons_zero,List.set_cons_succ]
      replace Z5:=Z5.row (cs:=cs4.toArray) (c:=g4) (Ne.symm n45)
      replace Z6:=Z6.row (cs:=cs4.toArray) (c:=g4) (Ne.symm n46)
      have Z4:=Y4
      clear Y4 HS4
      refine wpAnyH_ready (rs:=[16]) (by kernel_rfl) (by simp) ?_
      refine AllReadyH.cons rfl (fun K hK=>?_) ?_
      ·have HS5:Hid (cs5.toArray.size=5):=by show _=_;rw [List.size_toArray];exact H55.out
       have Y5:Blk ((wz.setRow g4 cs4.toArray).setRow g5 cs5.toArray) g5 cs5:=Z5.put
       obtain ⟨tz5,htz5⟩:=Z5
       rw [if_pos (by rfl)]
       refine wp_store_row 41 _ _ rfl g5 cs5.toArray rfl rfl tz5 _ htz5 (by rw [size_tlv,HS5.out]) (by rw [HS5.out];rfl) HO5.out ?_
       refine hK.out _ _ ?_ (fun hHeld2=>?_)
       ·exact KI1.out _ (below_setRow (KB1.out _ hHeld) lg5 _)
       ·clear hK K hHeld htz5
        have hHeld:=hHeld2
        clear hHeld2
        try simp only [Act.put,List.getElem_toArray,List.getElem_cons_zero,List.getElem_cons_succ,List.setIfInBounds_toArray,List.set_cons_zero,List.set_cons_succ]
        replace Z4:=Z4.row (cs:=cs5.toArray) (c:=g5) n45
        replace Z6:=Z6.row (cs:=cs5.toArray) (c:=g5) (Ne.symm n56)
        have Z5:=Y5
        clear Y5 HS5
        refine wpAnyH_ready (rs:=[17]) (by kernel_rfl) (by simp) ?_
        refine AllReadyH.cons rfl (fun K hK=>?_) ?_
        ·have HS6:Hid (cs6.toArray.size=5):=by show _=_;rw [List.size_toArray];exact H56.out
         have Y6:Blk (((wz.setRow g4 cs4.toArray).setRow g5 cs5.toArray).setRow g6 cs6.toArray) g6 cs6:=Z6.put
         obtain ⟨tz6,htz6⟩:=Z6
         rw [if_pos (by rfl)]
         refine wp_store_row 41 _ _ rfl g6 cs6.toArray rfl rfl tz6 _ htz6 (by rw [size_tlv,HS6.out]) (by rw [HS6.out];rfl) HO6.out ?_
         refine hK.out _ _ ?_ (fun hHeld2=>?_)
         ·exact KI1.out _ (below_setRow (KB1.out _ hHeld) lg6 _)
         ·clear hK K hHeld htz6
          have hHeld:=hHeld2
          clear hHeld2
          try simp only [Act.put,List.getElem_toArray,List.getElem_cons_zero,List.getElem_cons_succ,List.setIfInBounds_toArray,List.set_cons_zero,List.set_cons_succ]
          replace Z4:=Z4.row (cs:=cs6.toArray) (c:=g6) n46
          replace Z5:=Z5.row (cs:=cs6.toArray) (c:=g6) n56
          have Z6:=Y6
          clear Y6 HS6
          refine wpAnyH_done (by kernel_rfl) ?_ _
          refine NoPanic.normal ?_
          have st:=KB1.out _ hHeld
          have B0:=HB0.out.later st
          have R0:=HR0.out.later st
          have Bm:=HBm.out.later st
          have bel:=below_step HBel.out st
          clear hHeld ra rl rk4 rk5 rk6 st
          generalize ((wz.setRow g4 cs4.toArray).setRow g5 cs5.toArray).setRow g6 cs6.toArray=V at *
          have HLg:Hid (gm < g4∧gm < g5∧gm < g6):=⟨Nat.lt_of_lt_of_le HBm.out.lt lg4,Nat.lt_of_lt_of_le HBm.out.lt lg5,Nat.lt_of_lt_of_le HBm.out.lt lg6⟩
          clear lg4 lg5 lg6 n45 n46 n56 HB0 HR0 HBm HBel
          have hld:(loadVar 41 ⟨g4,0,none⟩).run Tryz.prog V=.ok (.agg cs4.toArray) V:=Z4.load Tryz.underlying41 rfl size_tlv H54.out
          have l0:=Z4.lt
          go_wp2_with (first|((with_reducible show wpList _ _ _ ({ dst:=_,op:=.load _ _,type:=_,pos:=_,after:=_,guard:=_ } :: _) _ _);refine wpList_load_run (by rfl) (by rfl) (by rfl) hld ?_)|fail)
          refine (u_areB (HT4.out.later bel)).mono ?_
          rintro e v4 ⟨bb,rfl,hbb,hb⟩
          clear hld l0
          replace Z4:=Z4.later hb
          replace Z5:=Z5.later hb
          replace Z6:=Z6.later hb
          replace B0:=B0.later hb
          replace R0:=R0.later hb
          replace Bm:=Bm.later hb
          replace bel:=below_step bel hb
          clear hb
          cases bb with
          | false =>
           have HN:Hid (¬ abP k4 12):=fun h=>by have:=hbb.2 h;cases this
           clear hbb
           have H:Hid (mfD (.mk c t m b [k0,k1,k2,k3,k4,k5,k6])=none):=by show _=_;rw [HD.out];exact mfL_no HS0.out.1 HS0.out.2.1 HS0.out.2.2.1 HS0.out.2.2.2 (fun h=>by exact HN.out h.1)
           have hz:=zero_mf.out
           obtain ⟨tR,hR⟩:=R0
           have HR1:Hid _:=hR
           clear hR
           go_wp2_with (first|((with_reducible show wpList _ _ _ ({ dst:=_,op:=.store _ _ _,type:=_,pos:=_,after:=_,guard:=_ } :: _) _ _);refine wpList_store_row rfl 49 _ _ rfl (w.heap.size + 1) #[.int .i64 0,.int .i64 0,.int .i64 0,.int .i64 0,.slice none 0 0,.slice none 0 0,.slice none 0 0] rfl rfl tR _ HR1.out (by rw [size_mf];rfl) rfl (by simp [Value.oneCell']) ?_)|fail)
           refine bodyPost_ret (results_row_tmp rfl _ _ (w.heap.size + 1) tR #[.int .i64 0,.int .i64 0,.int .i64 0,.int .i64 0,.slice none 0 0,.slice none 0 0,.slice none 0 0] (0,0) _ rfl (setRow_heap _ _ _ _ _ _ HR1.out) Tryz.underlying49 rfl (by rw [size_mf];rfl)) rfl ?_
           exact MfO.bad H.out (errV_code 7) (below_setRow bel (by omega) _)
          | true =>
          have HA4:Hid (abP k4 12):=hbb.1 rfl
          clear hbb
          have hld:(loadVar 41 ⟨g5,0,none⟩).run Tryz.prog v4=.ok (.agg cs5.toArray) v4:=Z5.load Tryz.underlying41 rfl size_tlv H55.out
          have l0:=Z5.lt
          go_wp2_with (first|((with_reducible show wpList _ _ _ ({ dst:=_,op:=.load _ _,type:=_,pos:=_,after:=_,guard:=_ } :: _) _ _);refine wpList_load_run (by rfl) (by rfl) (by rfl) hld ?_)|fail)
          refine (u_areB (HT5.out.later bel)).mono ?_
          rintro e v5 ⟨bb,rfl,hbb,hb⟩
          clear hld l0
          replace Z4:=Z4.later hb
          replace Z5:=Z5.later hb
          replace Z6:=Z6.later hb
          replace B0:=B0.later hb
          replace R0:=R0.later hb
          replace Bm:=Bm.later hb
          replace bel:=below_step bel hb
          clear hb
          cases bb with
          | false =>
           have HN:Hid (¬ abP k5 145):=fun h=>by have:=hbb.2 h;cases this
           clear hbb
           have H:Hid (mfD (.mk c t m b [k0,k1,k2,k3,k4,k5,k6])=none):=by show _=_;rw [HD.out];exact mfL_no HS0.out.1 HS0.out.2.1 HS0.out.2.2.1 HS0.out.2.2.2 (fun h=>by exact HN.out h.2.1)
           have hz:=zero_mf.out
           obtain ⟨tR,hR⟩:=R0
           have HR1:Hid _:=hR
           clear hR
           go_wp2_with (first|((with_reducible show wpList _ _ _ ({ dst:=_,op:=.store _ _ _,type:=_,pos:=_,after:=_,guard:=_ } :: _) _ _);refine wpList_store_row rfl 49 _ _ rfl (w.heap.size + 1) #[.int .i64 0,.int .i64 0,.int .i64 0,.int .i64 0,.slice none 0 0,.slice none 0 0,.slice none 0 0] rfl rfl tR _ HR1.out (by rw [size_mf];rfl) rfl (by simp [Value.oneCell']) ?_)|fail)
           refine bodyPost_ret (results_row_tmp rfl _ _ (w.heap.size + 1) tR #[.int .i64 0,.int .i64 0,.int .i64 0,.int .i64 0,.slice none 0 0,.slice none 0 0,.slice none 0 0] (0,0) _ rfl (setRow_heap _ _ _ _ _ _ HR1.out) Tryz.underlying49 rfl (by rw [size_mf];rfl)) rfl ?_
           exact MfO.bad H.out (errV_code 7) (below_setRow bel (by omega) _)
          | true =>
          have HA5:Hid (abP k5 145):=hbb.1 rfl
          clear hbb
          have hld:(loadVar 41 ⟨g6,0,none⟩).run Tryz.prog v5=.ok (.agg cs6.toArray) v5:=Z6.load Tryz.underlying41 rfl size_tlv H56.out
          have l0:=Z6.lt
          go_wp2_with (first|((with_reducible show wpList _ _ _ ({ dst:=_,op:=.load _ _,type:=_,pos:=_,after:=_,guard:=_ } :: _) _ _);refine wpList_load_run (by rfl) (by rfl) (by rfl) hld ?_)|fail)
          refine (u_areB (HT6.out.later bel)).mono ?_
          rintro e v6 ⟨bb,rfl,hbb,hb⟩
          clear hld l0
          replace Z4:=Z4.later hb
          replace Z5:=Z5.later hb
          replace Z6:=Z6.later hb
          replace B0:=B0.later hb
          replace R0:=R0.later hb
          replace Bm:=Bm.later hb
          replace bel:=below_step bel hb
          clear hb
          cases bb with
          | false =>
           have HN:Hid (¬ abP k6 48):=fun h=>by have:=hbb.2 h;cases this
           clear hbb
           have H:Hid (mfD (.mk c t m b [k0,k1,k2,k3,k4,k5,k6])=none):=by show _=_;rw [HD.out];exact mfL_no HS0.out.1 HS0.out.2.1 HS0.out.2.2.1 HS0.out.2.2.2 (fun h=>by exact HN.out h.2.2)
           have hz:=zero_mf.out
           obtain ⟨tR,hR⟩:=R0
           have HR1:Hid _:=hR
           clear hR
           go_wp2_with (first|((with_reducible show wpList _ _ _ ({ dst:=_,op:=.store _ _ _,type:=_,pos:=_,after:=_,guard:=_ } :: _) _ _);refine wpList_store_row rfl 49 _ _ rfl (w.heap.size + 1) #[.int .i64 0,.int .i64 0,.int .i64 0,.int .i64 0,.slice none 0 0,.slice none 0 0,.slice none 0 0] rfl rfl tR _ HR1.out (by rw [size_mf];rfl) rfl (by simp [Value.oneCell']) ?_)|fail)
           refine bodyPost_ret (results_row_tmp rfl _ _ (w.heap.size + 1) tR #[.int .i64 0,.int .i64 0,.int .i64 0,.int .i64 0,.slice none 0 0,.slice none 0 0,.slice none 0 0] (0,0) _ rfl (setRow_heap _ _ _ _ _ _ HR1.out) Tryz.underlying49 rfl (by rw [size_mf];rfl)) rfl ?_
           exact MfO.bad H.out (errV_code 7) (below_setRow bel (by omega) _)
          | true =>
          have HA6:Hid (abP k6 48):=hbb.1 rfl
          clear hbb
          obtain ⟨a4,m4,c4,hc4,hb4⟩:=tl_bodyF HT4.out
          obtain ⟨a5,m5,c5,hc5,hb5⟩:=tl_bodyF HT5.out
          obtain ⟨a6,m6,c6,hc6,hb6⟩:=tl_bodyF HT6.out
          have HBs:Hid (Bs w (.slice a4 m4 c4) (bodyF k4)∧Bs w (.slice a5 m5 c5) (bodyF k5)∧Bs w (.slice a6 m6 c6) (bodyF k6)):=⟨hb4,hb5,hb6⟩
          have HCc:Hid (cs4[3]?=some (.slice a4 m4 c4)∧cs5[3]?=some (.slice a5 m5 c5)∧cs6[3]?=some (.slice a6 m6 c6)):=⟨hc4,hc5,hc6⟩
          have H:Hid (mfD (.mk c t m b [k0,k1,k2,k3,k4,k5,k6])=some ⟨x0,x1,x2,x3,bodyF k4,bodyF k5,bodyF k6⟩):=by show _=_;rw [HD.out];exact mfL_yes HS0.out.1 HS0.out.2.1 HS0.out.2.2.1 HS0.out.2.2.2 HA4.out HA5.out HA6.out
          clear hb4 hb5 hb6 hc4 hc5 hc6
          go_upto_region 15 with fail
          have hdr:Below v6.heap.size v6 v6.drew:=Below.drew (Below.refl _ _)
          replace Z4:=Z4.later hdr
          replace Z5:=Z5.later hdr
          replace Z6:=Z6.later hdr
          replace Bm:=Bm.later hdr
          replace R0:=R0.later hdr
          replace bel:=below_step bel hdr
          clear hdr B0
          obtain ⟨S2,hS2,KB2,KI2⟩:∃ S:World→Prop,Hd S v6.drew∧Hid (∀ wx,Hd S wx→Blk wx g4 cs4∧Blk wx g5 cs5∧Blk wx g6 cs6)∧Hid (∀ wx,Blk wx g4 cs4∧Blk wx g5 cs5∧Blk wx g6 cs6→Hd S wx):=⟨fun wx=>Blk wx g4 cs4∧Blk wx g5 cs5∧Blk wx g6 cs6,⟨Z4,Z5,Z6⟩,fun _ h=>h,fun _ h=>h⟩
          have r4:∀ wx,Hd S2 wx→wx.cell? ⟨g4,3,none⟩=some (.slice a4 m4 c4):=fun wx h=>(KB2.out wx h).1.cell 3 _ HCc.out.1
          have l4:∀ wx,Hd S2 wx→g4 < wx.heap.size:=fun wx h=>(KB2.out wx h).1.lt
          have r5:∀ wx,Hd S2 wx→wx.cell? ⟨g5,3,none⟩=some (.slice a5 m5 c5):=fun wx h=>(KB2.out wx h).2.1.cell 3 _ HCc.out.2.1
          have l5:∀ wx,Hd S2 wx→g5 < wx.heap.size:=fun wx h=>(KB2.out wx h).2.1.lt
          have r6:∀ wx,Hd S2 wx→wx.cell? ⟨g6,3,none⟩=some (.slice a6 m6 c6):=fun wx h=>(KB2.out wx h).2.2.cell 3 _ HCc.out.2.2
          have l6:∀ wx,Hd S2 wx→g6 < wx.heap.size:=fun wx h=>(KB2.out wx h).2.2.lt
          refine wp_region_noPanic ?_
          refine wp_region_held_drew (S:=Hd S2) (by kernel_rfl) hS2 (fun hHeld=>?_)
          clear hS2 Z4 Z5 Z6
          have HLm:=HLg.out
          generalize World.drew _=wd2 at *
          refine wpAnyH_take (i:=0) (v:=?_) rfl (by kernel_rfl) (by kernel_rfl) (by kernel_rfl) (fun _ _ _ h=>h) (Or.inl ⟨by rfl,?_⟩) (by assumption) ?_
          rotate_left
          ·intro w hSw
           go_simp
           with_reducible rfl
          try simp only [Act.put,List.getElem_toArray,List.getElem_cons_zero,List.getElem_cons_succ,List.setIfInBounds_toArray,List.set_cons_zero,List.set_cons_succ]
          refine wpAnyH_take (i:=1) (v:=?_) rfl (by kernel_rfl) (by kernel_rfl) (by kernel_rfl) (fun _ _ _ h=>h) (Or.inl ⟨by rfl,?_⟩) (by assumption) ?_
          rotate_left
          ·intro w hSw
           go_simp
           with_reducible rfl
          try simp only [Act.put,List.getElem_toArray,List.getElem_cons_zero,List.getElem_cons_succ,List.setIfInBounds_toArray,List.set_cons_zero,List.set_cons_succ]
          refine wpAnyH_take (i:=2) (v:=?_) rfl (by kernel_rfl) (by kernel_rfl) (by kernel_rfl) (fun _ _ _ h=>h) (Or.inl ⟨by rfl,?_⟩) (by assumption) ?_
          rotate_left
          ·intro w hSw
           go_simp
           with_reducible rfl
          try simp only [Act.put,List.getElem_toArray,List.getElem_cons_zero,List.getElem_cons_succ,List.setIfInBounds_toArray,List.set_cons_zero,List.set_cons_succ]
          refine wpAnyH_take (i:=3) (v:=?_) rfl (by kernel_rfl) (by kernel_rfl) (by kernel_rfl) (fun _ _ _ h=>h) (Or.inl ⟨by rfl,?_⟩) (by assumption) ?_
          rotate_left
          ·intro w hSw
           go_simp
           with_reducible rfl
          try simp only [Act.put,List.getElem_toArray,List.getElem_cons_zero,List.getElem_cons_succ,List.setIfInBounds_toArray,List.set_cons_zero,List.set_cons_succ]
          refine wpAnyH_take (i:=4) (v:=?_) rfl (by kernel_rfl) (by kernel_rfl) (by kernel_rfl) (fun _ _ _ h=>h) (Or.inl ⟨by rfl,?_⟩) (by assumption) ?_
          rotate_left
          ·intro w hSw
           go_simp
           with_reducible rfl
          try simp only [Act.put,List.getElem_toArray,List.getElem_cons_zero,List.getElem_cons_succ,List.setIfInBounds_toArray,List.set_cons_zero,List.set_cons_succ]
          refine wpAnyH_take (i:=5) (v:=?_) rfl (by kernel_rfl) (by kernel_rfl) (by kernel_rfl) (fun _ _ _ h=>h) (Or.inl ⟨by rfl,?_⟩) (by assumption) ?_
          rotate_left
          ·intro w hSw
           go_simp
           with_reducible rfl
          try simp only [Act.put,List.getElem_toArray,List.getElem_cons_zero,List.getElem_cons_succ,List.setIfInBounds_toArray,List.set_cons_zero,List.set_cons_succ]
          refine wpAnyH_take (i:=6) (v:=?_) rfl (by kernel_rfl) (by kernel_rfl) (by kernel_rfl) (fun _ _ _ h=>h) (Or.inl ⟨by rfl,?_⟩) (by assumption) ?_
          rotate_left
          ·intro w hSw
           go_simp
           with_reducible rfl
          try simp only [Act.put,List.getElem_toArray,List.getElem_cons_zero,List.getElem_cons_succ,List.setIfInBounds_toArray,List.set_cons_zero,List.set_cons_succ]
          refine wpAnyH_ready (rs:=[7]) (by kernel_rfl) (by simp) ?_
          refine AllReadyH.cons rfl (fun K hK=>?_) ?_
          ·have em:=Bm.cell 4 _ rfl
           have lm:=Bm.lt
           have fm:=Bm.frozen 4
           go_simp
           refine hK.out _ _ ?_ (fun hHeld2=>?_)
           ·exact KI2.out _ ⟨(KB2.out _ hHeld).1.other _ _ (by show _≠gm;omega),(KB2.out _ hHeld).2.1.other _ _ (by show _≠gm;omega),(KB2.out _ hHeld).2.2.other _ _ (by show _≠gm;omega)⟩
           ·clear hK K
            try clear hHeld
            have hHeld:=hHeld2
            clear hHeld2
            try simp only [Act.put,List.getElem_toArray,List.getElem_cons_zero,List.getElem_cons_succ,List.setIfInBounds_toArray,List.set_cons_zero,List.set_cons_succ]
            clear em lm fm
            replace Bm:Blk (wd2.setCell ⟨gm,4,none⟩ (.slice a4 m4 c4)) gm [.int .i64 x0,.int .i64 x1,.int .i64 x2,.int .i64 x3,.slice a4 m4 c4,.slice none 0 0,.slice none 0 0]:=Bm.set 4 _
            replace R0:=R0.other ⟨gm,4,none⟩ (.slice a4 m4 c4) (by show _≠gm;have:=HNe.out;omega)
            replace bel:Below w.heap.size w (wd2.setCell ⟨gm,4,none⟩ (.slice a4 m4 c4)):=bel.setCell (by show _≤gm;have:=HNe.out;omega) _
            generalize (wd2.setCell ⟨gm,4,none⟩ (.slice a4 m4 c4))=y4 at *
            refine wpAnyH_take (i:=8) (v:=?_) rfl (by kernel_rfl) (by kernel_rfl) (by kernel_rfl) (fun _ _ _ h=>h) (Or.inl ⟨by rfl,?_⟩) (by assumption) ?_
            rotate_left
            ·intro w hSw
             go_simp
             with_reducible rfl
            try simp only [Act.put,List.getElem_toArray,List.getElem_cons_zero,List.getElem_cons_succ,List.setIfInBounds_toArray,List.set_cons_zero,List.set_cons_succ]
            refine wpAnyH_ready (rs:=[9]) (by kernel_rfl) (by simp) ?_
            refine AllReadyH.cons rfl (fun K hK=>?_) ?_
            ·have em:=Bm.cell 5 _ rfl
             have lm:=Bm.lt
             have fm:=Bm.frozen 5
             go_simp
             refine hK.out _ _ ?_ (fun hHeld2=>?_)
             ·exact KI2.out _ ⟨(KB2.out _ hHeld).1.other _ _ (by show _≠gm;omega),(KB2.out _ hHeld).2.1.other _ _ (by show _≠gm;omega),(KB2.out _ hHeld).2.2.other _ _ (by show _≠gm;omega)⟩
             ·clear hK K
              try clear hHeld
              have hHeld:=hHeld2
              clear hHeld2
              try simp only [Act.put,List.getElem_toArray,List.getElem_cons_zero,List.getElem_cons_succ,List.setIfInBounds_toArray,List.set_cons_zero,List.set_cons_succ]
              clear em lm fm
              replace Bm:Blk (y4.setCell ⟨gm,5,none⟩ (.slice a5 m5 c5)) gm [.int .i64 x0,.int .i64 x1,.int .i64 x2,.int .i64 x3,.slice a4 m4 c4,.slice a5 m5 c5,.slice none 0 0]:=Bm.set 5 _
              replace R0:=R0.other ⟨gm,5,none⟩ (.slice a5 m5 c5) (by show _≠gm;have:=HNe.out;omega)
              replace bel:Below w.heap.size w (y4.setCell ⟨gm,5,none⟩ (.slice a5 m5 c5)):=bel.setCell (by show _≤gm;have:=HNe.out;omega) _
              generalize (y4.setCell ⟨gm,5,none⟩ (.slice a5 m5 c5))=y5 at *
              refine wpAnyH_take (i:=10) (v:=?_) rfl (by kernel_rfl) (by kernel_rfl) (by kernel_rfl) (fun _ _ _ h=>h) (Or.inl ⟨by rfl,?_⟩) (by assumption) ?_
              rotate_left
              ·intro w hSw
               go_simp
               with_reducible rfl
              try simp only [Act.put,List.getElem_toArray,List.getElem_cons_zero,List.getElem_cons_succ,List.setIfInBounds_toArray,List.set_cons_zero,List.set_cons_succ]
              refine wpAnyH_ready (rs:=[11]) (by kernel_rfl) (by simp) ?_
              refine AllReadyH.cons rfl (fun K hK=>?_) ?_
              ·have em:=Bm.cell 6 _ rfl
               have lm:=Bm.lt
               have fm:=Bm.frozen 6
               go_simp
               refine hK.out _ _ ?_ (fun hHeld2=>?_)
               ·exact KI2.out _ ⟨(KB2.out _ hHeld).1.other _ _ (by show _≠gm;omega),(KB2.out _ hHeld).2.1.other _ _ (by show _≠gm;omega),(KB2.out _ hHeld).2.2.other _ _ (by show _≠gm;omega)⟩
               ·clear hK K
                try clear hHeld
                have hHeld:=hHeld2
                clear hHeld2
                try simp only [Act.put,List.getElem_toArray,List.getElem_cons_zero,List.getElem_cons_succ,List.setIfInBounds_toArray,List.set_cons_zero,List.set_cons_succ]
                clear em lm fm
                replace Bm:Blk (y5.setCell ⟨gm,6,none⟩ (.slice a6 m6 c6)) gm [.int .i64 x0,.int .i64 x1,.int .i64 x2,.int .i64 x3,.slice a4 m4 c4,.slice a5 m5 c5,.slice a6 m6 c6]:=Bm.set 6 _
                replace R0:=R0.other ⟨gm,6,none⟩ (.slice a6 m6 c6) (by show _≠gm;have:=HNe.out;omega)
                replace bel:Below w.heap.size w (y5.setCell ⟨gm,6,none⟩ (.slice a6 m6 c6)):=bel.setCell (by show _≤gm;have:=HNe.out;omega) _
                generalize (y5.setCell ⟨gm,6,none⟩ (.slice a6 m6 c6))=y6 at *
                refine wpAnyH_done (by kernel_rfl) ?_ _
                refine NoPanic.normal ?_
                clear hHeld r4 r5 r6 l4 l5 l6
                have hld:(loadVar 49 ⟨gm,0,none⟩).run Tryz.prog y6=.ok (.agg #[.int .i64 x0,.int .i64 x1,.int .i64 x2,.int .i64 x3,.slice a4 m4 c4,.slice a5 m5 c5,.slice a6 m6 c6]) y6:=Bm.load Tryz.underlying49 rfl size_mf rfl
                have lm:=Bm.lt
                obtain ⟨tR,hR⟩:=R0
                have HR1:Hid _:=hR
                clear hR
                go_wp2_with (first|((with_reducible show wpList _ _ _ ({ dst:=_,op:=.load _ _,type:=_,pos:=_,after:=_,guard:=_ } :: _) _ _);refine wpList_load_run (by rfl) (by rfl) (by rfl) hld ?_)|((with_reducible show wpList _ _ _ ({ dst:=_,op:=.store _ _ _,type:=_,pos:=_,after:=_,guard:=_ } :: _) _ _);refine wpList_store_row rfl 49 _ _ rfl (w.heap.size + 1) #[.int .i64 x0,.int .i64 x1,.int .i64 x2,.int .i64 x3,.slice a4 m4 c4,.slice a5 m5 c5,.slice a6 m6 c6] rfl rfl tR _ HR1.out (by rw [size_mf];rfl) rfl (by simp [Value.oneCell']) ?_)|fail)
                refine bodyPost_ret (results_row_tmp rfl _ _ (w.heap.size + 1) tR #[.int .i64 x0,.int .i64 x1,.int .i64 x2,.int .i64 x3,.slice a4 m4 c4,.slice a5 m5 c5,.slice a6 m6 c6] (0,0) _ rfl (setRow_heap _ _ _ _ _ _ HR1.out) Tryz.underlying49 rfl (by rw [size_mf];rfl)) rfl ?_
                exact MfO.okB H.out HBs.out.1 HBs.out.2.1 HBs.out.2.2 (below_setRow bel (by omega) _)
              exact AllReadyH.nil
            exact AllReadyH.nil
          exact AllReadyH.nil
        exact AllReadyH.nil
      exact AllReadyH.nil
    exact AllReadyH.nil
  obtain ⟨k,hkk⟩:∃ k,[k0,k1,k2,k3,k4,k5,k6][i]?=some k:=⟨_,List.getElem?_eq_getElem (by simp;omega)⟩
  obtain ⟨cs1,hcs1,ht1⟩:=HKs.out.get hkk
  have HKK:Hid ([k0,k1,k2,k3,k4,k5,k6][i]?=some k):=hkk
  have HGk:Hid (GdT k):=HGd.out.kid hkk
  have HT1:Hid (TlAt w k cs1):=ht1
  have hld:(loadVar 41 ⟨g,o + i * 5,none⟩).run Tryz.prog wr=.ok (.agg cs1.toArray) wr:=tlv_load (by rw [Nat.mul_comm];exact hcs1.later bel) ht1.five
  have lg:g < wr.heap.size:=(hcs1.later bel).1
  obtain ⟨xo,hxo,-⟩:=HM.out.2.1 i hil
  have HXo:Hid (ms[i]?=some (.int .i64 xo)):=hxo
  clear hkk hcs1 ht1 hxo
  have ei:=Ba.cell i (.pointer (some ⟨gm,i,none⟩)) (by match i,hil with|0,_=>rfl|1,_=>rfl|2,_=>rfl|3,_=>rfl)
  have la:=Ba.lt
  have e4:=B0.cell 4 _ rfl
  have l0:=B0.lt
  have g1:(i:Int) < 4:=by omega
  have g2:(0:Int)≤(i:Int):=by omega
  have g3:(i:Int) < 7:=by omega
  have gi:IntKind.i64.wrap ((i:Int) + 1)=(i:Int) + 1:=by rw [IntKind.wrap_i64];omega
  go_wp2_with (first|((with_reducible show wpList _ _ _ ({ dst:=_,op:=.load _ _,type:=_,pos:=_,after:=_,guard:=_ } :: _) _ _);refine wpList_load_run (by rfl) (by rfl) (by rfl) hld ?_)|fail)
  refine (u_smallOf (HT1.out.later bel) HGk.out).mono ?_
  rintro e w2 ⟨hb,hbad,hok⟩
  clear hld lg ei la e4 l0
  replace Bm:=Bm.later hb
  replace Ba:=Ba.later hb
  replace B0:=B0.later hb
  replace R0:=R0.later hb
  replace bel:=below_step bel hb
  clear hb
  have em:=Bm.cell i _ HXo.out
  have lm:=Bm.lt
  have fm:=Bm.frozen i
  cases hs:smlD k with
  | none =>
   obtain ⟨er,her,rfl⟩:=hbad hs
   have H:Hid (mfD (.mk c t m b [k0,k1,k2,k3,k4,k5,k6])=none):=by show _=_;rw [HD.out];exact mfL_bad rfl hil HKK.out hs
   have HEr:Hid (ErrV er):=her
   have q:=her.2
   obtain ⟨ty,pv,rfl⟩:=her.1
   clear hok hbad hs her HM
   go_upto_region 9 with fail
   clear em lm fm
   replace Bm:Blk (w2.setCell ⟨gm,i,none⟩ (.int .i64 0)) gm (ms.set i (.int .i64 0)):=Bm.set i _
   replace Ba:=Ba.other ⟨gm,i,none⟩ (.int .i64 0) (by show _≠gm;have:=HNe.out;omega)
   replace B0:=B0.other ⟨gm,i,none⟩ (.int .i64 0) (by show _≠gm;omega)
   replace R0:=R0.other ⟨gm,i,none⟩ (.int .i64 0) (by show _≠gm;omega)
   replace bel:Below w.heap.size w (w2.setCell ⟨gm,i,none⟩ (.int .i64 0)):=bel.setCell (by show _≤gm;omega) _
   generalize (w2.setCell ⟨gm,i,none⟩ (.int .i64 0))=w3 at *
   have hz:=zero_mf.out
   obtain ⟨tR,hR⟩:=R0
   have HR1:Hid _:=hR
   clear hR
   go_wp2_with (first|((with_reducible show wpList _ _ _ ({ dst:=_,op:=.store _ _ _,type:=_,pos:=_,after:=_,guard:=_ } :: _) _ _);refine wpList_store_row rfl 49 _ _ rfl (w.heap.size + 1) #[.int .i64 0,.int .i64 0,.int .i64 0,.int .i64 0,.slice none 0 0,.slice none 0 0,.slice none 0 0] rfl rfl tR _ HR1.out (by rw [size_mf];rfl) rfl (by simp [Value.oneCell']) ?_)|fail)
   refine bodyPost_ret (results_row_tmp rfl _ _ (w.heap.size + 1) tR #[.int .i64 0,.int .i64 0,.int .i64 0,.int .i64 0,.slice none 0 0,.slice none 0 0,.slice none 0 0] (0,0) _ rfl (setRow_heap _ _ _ _ _ _ HR1.out) Tryz.underlying49 rfl (by rw [size_mf];rfl)) rfl ?_
   exact MfO.bad H.out HEr.out (below_setRow bel (by omega) _)
  | some x =>
   obtain rfl:=hok x hs
   have HMn:Hid (MsI [k0,k1,k2,k3,k4,k5,k6] (i + 1) (ms.set i (.int .i64 x))):=HM.out.set hil HKK.out hs
   have q:=ne_nilL
   clear hok hbad hs HM
   go_upto_region 9 with fail
   clear em lm fm
   replace Bm:Blk (w2.setCell ⟨gm,i,none⟩ (.int .i64 x)) gm (ms.set i (.int .i64 x)):=Bm.set i _
   replace Ba:=Ba.other ⟨gm,i,none⟩ (.int .i64 x) (by show _≠gm;have:=HNe.out;omega)
   replace B0:=B0.other ⟨gm,i,none⟩ (.int .i64 x) (by show _≠gm;omega)
   replace R0:=R0.other ⟨gm,i,none⟩ (.int .i64 x) (by show _≠gm;omega)
   replace bel:Below w.heap.size w (w2.setCell ⟨gm,i,none⟩ (.int .i64 x)):=bel.setCell (by show _≤gm;omega) _
   generalize (w2.setCell ⟨gm,i,none⟩ (.int .i64 x))=w3 at *
   go_wp2_with fail
   go_roundw
   case rel=>exact ⟨i + 1,_,by omega,by go_num,Bm,HMn,Ba,B0,R0,bel⟩
   case measure=>simp [intOf];omega
end Go.Proofs.YtnkipgbnnhahbaaGreatDoor
