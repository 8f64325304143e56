/- Manifests in memory. How great certificates' elements are. Plain facts. A certificate's body can be written. Plain facts. Manifests, and their elements, as functions. -/
import Derived.Test.YtnkipgbnnhahbaaDoorRwT
import Derived.Test.YtnkipgbnnhahbaaDoorNlSet
import Derived.Test.YtnkipgbnnhahbaaDoorNmBase
import Derived.Test.YtnkipgbnnhahbaaDoorCtBase
import Derived.Test.YtnkipgbnnhahbaaDoorPmNum
import Derived.Test.YtnkipgbnnhahbaaDoorPrOidOf
import Derived.Test.YtnkipgbnnhahbaaDoorPut
import Derived.Test.YtnkipgbnnhahbaaDoorDrPar
import Derived.Test.YtnkipgbnnhahbaaDoorByt
import Derived.Test.YtnkipgbnnhahbaaDoorCPt
import Derived.Test.YtnkipgbnnhahbaaDoorRdSpec
import Derived.Test.YtnkipgbnnhahbaaDoorRows
import Derived.ChangeArms
import Derived.ChangeOld
import Derived.Lib.ConvBytes
import Derived.Laws.AppendOwn
import Derived.Deep.WholeRow
import Derived.Deep.RegionHeld3
import Derived.Deep.DeepCutAuto
import Derived.Deep.DeepFit
import Derived.Deep.OwnRows
import Derived.Deep.AppendLies
namespace Go.Proofs.YtnkipgbnnhahbaaDoor
open Go.RowKit
structure Mf where
 ver:Int
 cls:Int
 ld:Int
 ln:Int
 nonce:List Int
 wrapped:List Int
 digest:List Int
/-- as it lies: seven cells -/
def MfAt (w:World) (m:Mf) (cs:List Value):Prop:=∃ nv wv dv,cs=[.int .i64 m.ver,.int .i64 m.cls,.int .i64 m.ld,.int .i64 m.ln,nv,wv,dv]∧Bs w nv m.nonce∧Bs w wv m.wrapped∧Bs w dv m.digest
theorem MfAt.later {w w':World} {m:Mf} {cs:List Value} (h:MfAt w m cs) (hb:Below w.heap.size w w'):MfAt w' m cs:=by
 obtain ⟨nv,wv,dv,e,h1,h2,h3⟩:=h
 exact ⟨nv,wv,dv,e,h1.later hb,h2.later hb,h3.later hb⟩
theorem MfAt.len {w:World} {m:Mf} {cs:List Value} (h:MfAt w m cs):cs.length=7:=by
 obtain ⟨nv,wv,dv,rfl,-,-,-⟩:=h
 rfl
def i64B (x:Int):Prop:=-9223372036854775808≤x∧x≤9223372036854775807
/-- numbers that are ints, bytes that are bytes -/
def WfM (m:Mf):Prop:=(i64B m.ver∧i64B m.cls∧i64B m.ld∧i64B m.ln)∧byt m.nonce∧byt m.wrapped∧byt m.digest
theorem MfAt.open {w:World} {m:Mf} {cs:List Value} (h:MfAt w m cs):∃ na nc wa wc da dc,(cs[0]?=some (.int .i64 m.ver)∧cs[1]?=some (.int .i64 m.cls)∧cs[2]?=some (.int .i64 m.ld)∧cs[3]?=some (.int .i64 m.ln))∧(cs[4]?=some (.slice na m.nonce.length nc)∧cs[5]?=some (.slice wa m.wrapped.length wc)∧cs[6]?=some (.slice da m.digest.length dc))∧Bs w (.slice na m.nonce.length nc) m.nonce∧Bs w (.slice wa m.wrapped.length wc) m.wrapped∧Bs w (.slice da m.digest.length dc) m.digest:=by
 obtain ⟨nv,wv,dv,rfl,h1,h2,h3⟩:=h
 have k1:=h1
 have k2:=h2
 have k3:=h3
 obtain ⟨na,nc,rfl,-⟩:=h1
 obtain ⟨wa,wc,rfl,-⟩:=h2
 obtain ⟨da,dc,rfl,-⟩:=h3
 exact ⟨na,nc,wa,wc,da,dc,⟨rfl,rfl,rfl,rfl⟩,⟨rfl,rfl,rfl⟩,k1,k2,k3⟩
/-- neither more bytes nor more elements than so many -/
def Sm (B:Nat) (T:Tl):Prop:=(bytesT T).length≤B∧szT T≤B
def SzmL (B:Nat) (ks:List Tl):Prop:=(bytesL ks).length≤B∧szL ks≤B
theorem Sm.le {A B:Nat} {T:Tl} (h:Sm A T) (k:A≤B):Sm B T:=⟨Nat.le_trans h.1 k,Nat.le_trans h.2 k⟩
theorem SzmL.le {A B:Nat} {ks:List Tl} (h:SzmL A ks) (k:A≤B):SzmL B ks:=⟨Nat.le_trans h.1 k,Nat.le_trans h.2 k⟩
theorem SzmL.nil:SzmL 0 []:=⟨by simp [bytesL],by simp [szL]⟩
theorem SzmL.cons {A B:Nat} {k:Tl} {ks:List Tl} (h:Sm A k) (hs:SzmL B ks):SzmL (A + B) (k :: ks):=by
 refine ⟨?_,?_⟩
 ·rw [bytesL,List.length_append]
  exact Nat.add_le_add h.1 hs.1
 ·rw [szL]
  exact Nat.add_le_add h.2 hs.2
theorem SzmL.one {A:Nat} {k:Tl} (h:Sm A k):SzmL A [k]:=h.1 |> fun _=>SzmL.le (SzmL.cons h SzmL.nil) (by omega)
theorem SzmL.map {α:Type} {A:Nat} {f:α→Tl}:∀ {L:List α},(∀ x∈L,Sm A (f x))→SzmL (A * L.length) (L.map f)
 | [],_=>SzmL.nil.le (Nat.zero_le _)
 | x :: L,h=>by
  rw [List.map_cons]
  refine (SzmL.cons (h x (List.mem_cons_self)) (SzmL.map (fun y hy=>h y (List.mem_cons_of_mem _ hy)))).le ?_
  rw [List.length_cons,Nat.mul_succ]
  omega
/-- fine, and not deeper than so many -/
def Fd (d:Nat) (T:Tl):Prop:=fineT T=true∧depT T≤d
def FdL (d:Nat) (ks:List Tl):Prop:=fineL ks=true∧depL ks≤d
theorem Fd.le {d e:Nat} {T:Tl} (h:Fd d T) (k:d≤e):Fd e T:=⟨h.1,Nat.le_trans h.2 k⟩
theorem FdL.le {d e:Nat} {ks:List Tl} (h:FdL d ks) (k:d≤e):FdL e ks:=⟨h.1,Nat.le_trans h.2 k⟩
theorem FdL.nil {d:Nat}:FdL d []:=⟨by rw [fineL],by rw [depL];omega⟩
theorem FdL.cons {d:Nat} {k:Tl} {ks:List Tl} (h:Fd d k) (hs:FdL d ks):FdL d (k :: ks) :=
 ⟨by rw [fineL,h.1,hs.1];rfl,by rw [depL];exact Nat.max_le.2 ⟨h.2,hs.2⟩⟩
theorem FdL.one {d:Nat} {k:Tl} (h:Fd d k):FdL d [k]:=FdL.cons h FdL.nil
theorem FdL.map {α:Type} {d:Nat} {f:α→Tl}:∀ {L:List α},(∀ x∈L,Fd d (f x))→FdL d (L.map f)
 | [],_=>FdL.nil
 | _ :: _,h=>FdL.cons (h _ List.mem_cons_self) (FdL.map (fun y hy=>h y (List.mem_cons_of_mem _ hy)))
def bytD:Tl→Option (List Int)
 | .mk c t m b _=>if c=0∧t=4∧m=false then some b else none
def mfOf (a b c d:Int) (x y z:List Int):Option Mf:=if x.length=12∧y.length=145∧z.length=48 then some ⟨a,b,c,d,x,y,z⟩ else none
/-- what is read of seven elements -/
def mfL:List Tl→Option Mf
 | [k0,k1,k2,k3,k4,k5,k6]=>(smlD k0).bind fun a=>(smlD k1).bind fun b=>(smlD k2).bind fun c=>(smlD k3).bind fun d=>(bytD k4).bind fun x=>(bytD k5).bind fun y=>(bytD k6).bind fun z=>mfOf a b c d x y z
 | _=>none
/-- an element's manifest, or none -/
def mfD:Tl→Option Mf
 | .mk c t m _ ks=>if c=0∧t=16∧m=true then mfL ks else none
/-- bytes, as many -/
def abP:Tl→Int→Prop
 | .mk c t m b _,n=>c=0∧t=4∧m=false∧(b.length:Int)=n
def bodyF:Tl→List Int
 | .mk _ _ _ b _=>b
theorem mf_yes {k4 k5 k6:Tl} {a b c d:Int} (h4:abP k4 12) (h5:abP k5 145) (h6:abP k6 48):((bytD k4).bind fun x=>(bytD k5).bind fun y=>(bytD k6).bind fun z=>mfOf a b c d x y z)=some ⟨a,b,c,d,bodyF k4,bodyF k5,bodyF k6⟩:=by
 obtain ⟨c4,t4,m4,b4,s4⟩:=k4
 obtain ⟨c5,t5,m5,b5,s5⟩:=k5
 obtain ⟨c6,t6,m6,b6,s6⟩:=k6
 obtain ⟨rfl,rfl,rfl,l4⟩:=h4
 obtain ⟨rfl,rfl,rfl,l5⟩:=h5
 obtain ⟨rfl,rfl,rfl,l6⟩:=h6
 show ((if (0:Int)=0∧(4:Int)=4∧false=false then some b4 else none).bind fun x=>(if (0:Int)=0∧(4:Int)=4∧false=false then some b5 else none).bind fun y=>(if (0:Int)=0∧(4:Int)=4∧false=false then some b6 else none).bind fun z=>mfOf a b c d x y z)=some ⟨a,b,c,d,b4,b5,b6⟩
 rw [if_pos ⟨rfl,rfl,rfl⟩,if_pos ⟨rfl,rfl,rfl⟩,if_pos ⟨rfl,rfl,rfl⟩]
 simp only [Option.bind_some]
 exact if_pos ⟨by omega,by omega,by omega⟩
theorem mf_no {k4 k5 k6:Tl} {a b c d:Int} (h:¬ (abP k4 12∧abP k5 145∧abP k6 48)):((bytD k4).bind fun x=>(bytD k5).bind fun y=>(bytD k6).bind fun z=>mfOf a b c d x y z)=none:=by
 obtain ⟨c4,t4,m4,b4,s4⟩:=k4
 obtain ⟨c5,t5,m5,b5,s5⟩:=k5
 obtain ⟨c6,t6,m6,b6,s6⟩:=k6
 show (((if c4=0∧t4=4∧m4=false then some b4 else none).bind fun x=>(if c5=0∧t5=4∧m5=false then some b5 else none).bind fun y=>(if c6=0∧t6=4∧m6=false then some b6 else none).bind fun z=>mfOf a b c d x y z))=none
 by_cases h4:c4=0∧t4=4∧m4=false
 ·rw [if_pos h4,Option.bind_some]
  by_cases h5:c5=0∧t5=4∧m5=false
  ·rw [if_pos h5,Option.bind_some]
   by_cases h6:c6=0∧t6=4∧m6=false
   ·rw [if_pos h6,Option.bind_some]
    exact if_neg (fun k=>h ⟨⟨h4.1,h4.2.1,h4.2.2,by omega⟩,⟨h5.1,h5.2.1,h5.2.2,by omega⟩,⟨h6.1,h6.2.1,h6.2.2,by omega⟩⟩)
   ·rw [if_neg h6]
    rfl
  ·rw [if_neg h5]
   rfl
 ·rw [if_neg h4]
  rfl
theorem mfL_7 {k0 k1 k2 k3 k4 k5 k6:Tl}:mfL [k0,k1,k2,k3,k4,k5,k6]=(smlD k0).bind fun a=>(smlD k1).bind fun b=>(smlD k2).bind fun c=>(smlD k3).bind fun d=>(bytD k4).bind fun x=>(bytD k5).bind fun y=>(bytD k6).bind fun z=>mfOf a b c d x y z:=rfl
theorem mfD_mk {c t:Int} {m:Bool} {b:List Int} {ks:List Tl}:mfD (.mk c t m b ks)=if c=0∧t=16∧m=true then mfL ks else none:=rfl
theorem mfL_len {ks:List Tl} (h:¬ ks.length=7):mfL ks=none:=by
 match ks,h with
 | [],_=>rfl
 | [_],_=>rfl
 | [_,_],_=>rfl
 | [_,_,_],_=>rfl
 | [_,_,_,_],_=>rfl
 | [_,_,_,_,_],_=>rfl
 | [_,_,_,_,_,_],_=>rfl
 | [_,_,_,_,_,_,_],h=>exact absurd rfl h
 | _ :: _ :: _ :: _ :: _ :: _ :: _ :: _ :: _,_=>rfl
theorem bind_no20 {α β:Type} (o:Option α) {f:α→Option β} (h:∀ a,f a=none):o.bind f=none:=by
 cases o with
 | none=>rfl
 | some a=>exact h a
theorem list7 {α:Type} {ks:List α} (h:ks.length=7):∃ k0 k1 k2 k3 k4 k5 k6,ks=[k0,k1,k2,k3,k4,k5,k6]:=by
 match ks,h with
 | [k0,k1,k2,k3,k4,k5,k6],_=>exact ⟨k0,k1,k2,k3,k4,k5,k6,rfl⟩
theorem mfL_bad {ks:List Tl} {k:Tl} {i:Nat} (hl:ks.length=7) (hi:i < 4) (hk:ks[i]?=some k) (h:smlD k=none):mfL ks=none:=by
 obtain ⟨k0,k1,k2,k3,k4,k5,k6,rfl⟩:=list7 hl
 rw [mfL_7]
 match i,hi with
 | 0,_=>cases hk;rw [h];rfl
 | 1,_=>cases hk;exact bind_no20 _ (fun a=>by rw [h];rfl)
 | 2,_=>cases hk;exact bind_no20 _ (fun a=>bind_no20 _ (fun b=>by rw [h];rfl))
 | 3,_=>cases hk;exact bind_no20 _ (fun a=>bind_no20 _ (fun b=>bind_no20 _ (fun c=>by rw [h];rfl)))
theorem mfL_yes {k0 k1 k2 k3 k4 k5 k6:Tl} {a b c d:Int} (h0:smlD k0=some a) (h1:smlD k1=some b) (h2:smlD k2=some c) (h3:smlD k3=some d) (h4:abP k4 12) (h5:abP k5 145) (h6:abP k6 48):mfL [k0,k1,k2,k3,k4,k5,k6]=some ⟨a,b,c,d,bodyF k4,bodyF k5,bodyF k6⟩:=by
 rw [mfL_7,h0,Option.bind_some,h1,Option.bind_some,h2,Option.bind_some,h3,Option.bind_some]
 exact mf_yes h4 h5 h6
theorem mfL_no {k0 k1 k2 k3 k4 k5 k6:Tl} {a b c d:Int} (h0:smlD k0=some a) (h1:smlD k1=some b) (h2:smlD k2=some c) (h3:smlD k3=some d) (h:¬ (abP k4 12∧abP k5 145∧abP k6 48)):mfL [k0,k1,k2,k3,k4,k5,k6]=none:=by
 rw [mfL_7,h0,Option.bind_some,h1,Option.bind_some,h2,Option.bind_some,h3,Option.bind_some]
 exact mf_no h
/-- a manifest's cells while it is being read: i of its numbers stand -/
def MsI (ks:List Tl) (i:Nat) (ms:List Value):Prop:=ms.length=7∧(∀ j,j < 4→∃ x,ms[j]?=some (.int .i64 x)∧(j < i→∃ k,ks[j]?=some k∧smlD k=some x))∧∀ j,4≤j→j < 7→ms[j]?=some (.slice none 0 0)
theorem MsI.zero {ks:List Tl}:MsI ks 0 [.int .i64 0,.int .i64 0,.int .i64 0,.int .i64 0,.slice none 0 0,.slice none 0 0,.slice none 0 0]:=by
 refine ⟨rfl,fun j hj=>⟨0,?_,fun h=>absurd h (by omega)⟩,fun j h1 h2=>?_⟩
 ·match j,hj with
  | 0,_=>rfl
  | 1,_=>rfl
  | 2,_=>rfl
  | 3,_=>rfl
 ·match j,h1,h2 with
  | 4,_,_=>rfl
  | 5,_,_=>rfl
  | 6,_,_=>rfl
theorem MsI.set {ks:List Tl} {i:Nat} {ms:List Value} {k:Tl} {x:Int} (h:MsI ks i ms) (hi:i < 4) (hk:ks[i]?=some k) (hs:smlD k=some x):MsI ks (i + 1) (ms.set i (.int .i64 x)):=by
 obtain ⟨h1,h2,h3⟩:=h
 refine ⟨by rw [List.length_set];exact h1,fun j hj=>?_,fun j g1 g2=>?_⟩
 ·by_cases e:i=j
  ·subst e
   exact ⟨x,by rw [List.getElem?_set_self (by omega)],fun _=>⟨k,hk,hs⟩⟩
  ·rw [List.getElem?_set_ne e]
   obtain ⟨y,y1,y2⟩:=h2 j hj
   exact ⟨y,y1,fun hj2=>y2 (by omega)⟩
 ·rw [List.getElem?_set_ne (by omega)]
  exact h3 j g1 g2
theorem MsI.all {k0 k1 k2 k3 k4 k5 k6:Tl} {ms:List Value} (h:MsI [k0,k1,k2,k3,k4,k5,k6] 4 ms):∃ a b c d,ms=[.int .i64 a,.int .i64 b,.int .i64 c,.int .i64 d,.slice none 0 0,.slice none 0 0,.slice none 0 0]∧smlD k0=some a∧smlD k1=some b∧smlD k2=some c∧smlD k3=some d:=by
 obtain ⟨h1,h2,h3⟩:=h
 obtain ⟨v0,v1,v2,v3,v4,v5,v6,rfl⟩:=list7 h1
 obtain ⟨a,a1,a2⟩:=h2 0 (by omega)
 obtain ⟨b,b1,b2⟩:=h2 1 (by omega)
 obtain ⟨c,c1,c2⟩:=h2 2 (by omega)
 obtain ⟨d,d1,d2⟩:=h2 3 (by omega)
 have e4:=h3 4 (by omega) (by omega)
 have e5:=h3 5 (by omega) (by omega)
 have e6:=h3 6 (by omega) (by omega)
 cases a1;cases b1;cases c1;cases d1;cases e4;cases e5;cases e6
 obtain ⟨_,ha,ha2⟩:=a2 (by omega)
 obtain ⟨_,hb,hb2⟩:=b2 (by omega)
 obtain ⟨_,hc,hc2⟩:=c2 (by omega)
 obtain ⟨_,hd,hd2⟩:=d2 (by omega)
 cases ha;cases hb;cases hc;cases hd
 exact ⟨a,b,c,d,rfl,ha2,hb2,hc2,hd2⟩
end Go.Proofs.YtnkipgbnnhahbaaDoor
