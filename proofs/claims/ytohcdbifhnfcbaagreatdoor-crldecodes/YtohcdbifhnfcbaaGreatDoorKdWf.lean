import Derived.Test.YtohcdbifhnfcbaaGreatDoorKdRead
import Derived.Test.YtohcdbifhnfcbaaGreatDoorKrRg
import Derived.Test.YtohcdbifhnfcbaaGreatDoorRdRef
import Derived.Test.YtohcdbifhnfcbaaGreatDoorRdSgn
import Derived.Test.YtohcdbifhnfcbaaGreatDoorRows
import Derived.Deep.WholeRow
import Derived.Deep.RegionHeld3
import Derived.Deep.DeepCutAuto
import Derived.Deep.DeepFit
namespace Go.Proofs.YtohcdbifhnfcbaaGreatDoor
open Go.RowKit
theorem opn_gd {T U:Tl} {x y:Int} (g:GdT T) (h:Zg1 false T=some (U,x,y)):GdT U:=by
 obtain⟨c,t,m,b,ks⟩:=T
 by_cases k:c=0∧t=16∧m=true
 ·obtain ⟨rfl,rfl,rfl⟩:=k
  by_cases k3:ks.length=3
  ·obtain ⟨p,a,s,rfl⟩:∃ p a s,ks=[p,a,s]:=by
    match ks,k3 with
    | [p,a,s],_=>exact ⟨p,a,s,rfl⟩
   rw[ZkK] at h
   split at h
   ·cases e:(ZdZ s).bind ZcX with
    | none=>rw[e] at h;cases h
    | some q =>
     rw[e] at h
     cases h
     exact g.kid (i:=0) rfl
   ·cases h
  ·rw[ZqX k3] at h
   cases h
 ·rw[ZmA k] at h
  cases h
theorem ZjS {T:Tl} {n:List Pn} (h:Zcz T=.ok n) (g:GdT T):WfN n:=by
 obtain⟨e,hm⟩:=Zh5 h g.1;exact Zrz hm (by rw[← e];exact g.wf)
theorem Zqc {B:List Int} {T:Tl} {C:Cr} (hB:byt B) (hp:Zaq B=.ok T) (h:crD T=some C):WfN C.issuer:=by
 have g:=GdT.of hB hp;rw[Za4] at h
 cases e1:Zg1 false T with
 | none=>rw[e1] at h;cases h
 | some q =>
  obtain⟨U,x,y⟩:=q;rw[e1,Option.bind_some] at h;have gU:GdT U:=opn_gd g e1
  cases e2:Zas U with
  | none=>simp[e2] at h
  | some D =>
   simp only[e2,Option.bind_some,Option.some.injEq] at h;subst h;obtain ⟨c,t,m,b,ks⟩:=U
   by_cases k5:ks.length<5
   ·rw[Zc5 k5] at e2
    cases e2
   ·obtain ⟨v,a,i,f,u,rest,rfl⟩:∃ v a i f u r,ks=v::a::i::f::u::r:=by
     match ks,k5 with
     | x0::x1::x2::x3::x4::r,_=>exact ⟨x0,x1,x2,x3,x4,r,rfl⟩
     | [],h=>simp at h
     | [_],h=>simp at h
     | [_,_],h=>simp at h
     | [_,_,_],h=>simp at h
     | [_,_,_,_],h=>simp at h
    rw[Zay] at e2
    split at e2
    ·have gi:GdT i:=gU.kid (i:=2) rfl
     cases a1:Zcz i with
     | error z=>rw[a1] at e2;cases e2
     | ok I =>
      cases a2:ZdW f with
      | none=>rw[a1,a2] at e2;cases e2
      | some F =>
       cases a3:ZdW u with
       | none=>rw[a1,a2,a3] at e2;cases e2
       | some V =>
        rw[a1,a2,a3] at e2;simp only[okO,Option.bind_some] at e2
        cases rest with
        | nil =>
         simp only[Option.bind_some,Option.some.injEq] at e2;subst e2;exact ZjS a1 gi
        | cons r rs =>
         cases a4:Za5 r with
         | none=>simp[a4] at e2
         | some L =>
          simp only[a4,Option.bind_some,Option.some.injEq] at e2;subst e2;exact ZjS a1 gi
    ·cases e2
end Go.Proofs.YtohcdbifhnfcbaaGreatDoor
