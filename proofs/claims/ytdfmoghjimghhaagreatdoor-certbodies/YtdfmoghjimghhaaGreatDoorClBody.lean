import Derived.Test.YtdfmoghjimghhaaGreatDoorCtSize
import Derived.Test.YtdfmoghjimghhaaGreatDoorClBdy
import Derived.Test.YtdfmoghjimghhaaGreatDoorRows
import Derived.Deep.OwnRows
import Derived.Deep.AppendLies
import Derived.Great.BuildSlice
import Derived.Laws.Rows
import Derived.BigQuiet
import Derived.Deep.WholeRow
import Derived.Deep.RegionHeld3
import Derived.Deep.DeepCutAuto
import Derived.Deep.DeepFit
namespace Go.Proofs.YtdfmoghjimghhaaGreatDoor
open Go.RowKit
def Fd (d:Nat) (T:Tl):Prop:=Za1 T=true∧Zc1 T≤d
def FdL (d:Nat) (ks:List Tl):Prop:=ZaU ks=true∧Zb7 ks≤d
theorem Fd.le {d e:Nat} {T:Tl} (h:Fd d T) (k:d≤e):Fd e T:=⟨h.1,Nat.le_trans h.2 k⟩
theorem FdL.nil {d:Nat}:FdL d []:=⟨by rw[ZaU],by rw[Zb7];omega⟩
theorem FdL.cons {d:Nat} {k:Tl} {ks:List Tl} (h:Fd d k) (hs:FdL d ks):FdL d (k::ks) :=
 ⟨by rw[ZaU,h.1,hs.1];rfl,by rw[Zb7];exact Nat.max_le.2 ⟨h.2,hs.2⟩⟩
theorem FdL.one {d:Nat} {k:Tl} (h:Fd d k):FdL d [k]:=FdL.cons h FdL.nil
theorem FdL.app {d:Nat}:∀ {ks ls:List Tl},FdL d ks→FdL d ls→FdL d (ks++ls)
 | [],_,_,h=>h
 | k::ks,ls,h1,h2=>by
  have a:Za1 k=true∧ZaU ks=true:=by have:=h1.1;rw[ZaU,Bool.and_eq_true] at this;exact this
  have b:Zc1 k≤d∧Zb7 ks≤d:=by have:=h1.2;rw[Zb7] at this;exact Nat.max_le.1 this
  exact FdL.cons ⟨a.1,b.1⟩ (FdL.app ⟨a.2,b.2⟩ h2)
theorem FdL.map {α:Type} {d:Nat} {f:α→Tl}:∀ {L:List α},(∀ x∈L,Fd d (f x))→FdL d (L.map f)
 | [],_=>FdL.nil
 | _::_,h=>FdL.cons (h _ List.mem_cons_self) (FdL.map (fun y hy=>h y (List.mem_cons_of_mem _ hy)))
theorem Zkr {d:Nat} {c t:Int} {ks:List Tl} (hc:0≤c∧c≤3) (ht:0≤t∧t≤30) (h:FdL d ks):Fd (d+1) (.mk c t true [] ks):=by
 refine⟨?_,?_⟩
 ·rw[Za1,h.1]
  unfold Zbu;simp[hc.1,hc.2,ht.1,ht.2]
 ·rw[Zc1]
  have:=h.2;omega
theorem Zcs {c t:Int} {b:List Int} (hc:0≤c∧c≤3) (ht:0≤t∧t≤30):Fd 1 (.mk c t false b []):=by
 refine⟨?_,?_⟩
 ·rw[Za1,ZaU]
  unfold Zbu;simp[hc.1,hc.2,ht.1,ht.2]
 ·rw[Zc1,Zb7];omega
theorem Zcg {d:Nat} {ks:List Tl} (h:FdL d ks):Fd (d+1) (Zak ks):=Zkr (by decide) (by decide) h
theorem Zih {d:Nat} {t:Int} {ks:List Tl} (ht:0≤t∧t≤30) (h:FdL d ks):Fd (d+1) (Zbf t ks):=Zkr (by decide) ht h
theorem ZhF (n:List Pn):Fd 4 (ZaH n):=⟨by unfold ZaH;rw[Za1,ZgL];rfl,by unfold ZaH;rw[Zc1];have:=Zia n;omega⟩
theorem ZgJ (l:List Int):Fd 1 (ZaV l):=Zcs (by decide) (by decide)
theorem Zig {t:Int} (ht:0≤t∧t≤30) (l:List (List Pn)):Fd 7 (ZaA t l):=Zih ht (FdL.map (fun n _=>Zcg (FdL.one (Zih (by decide) (FdL.one (ZhF n))))))
theorem Zif (k:Int) (m:Bool) (T:Tl):Fd 2 (Zcf k m T):=by
 have h1:FdL 1 (if m then [Zcm] else []):=by
  cases m
  ·exact FdL.nil
  ·exact FdL.one (Zcs (by decide) (by decide))
 exact Zcg (FdL.app (FdL.app (FdL.one (ZgJ _)) h1) (FdL.one (Zcs (by decide) (by decide))))
theorem fd_ser {n:List Int} {T:Tl} (h:Zd0 n=some T):Fd 1 T:=by
 unfold Zd0 at h
 split at h
 ·cases h
 ·cases h
  exact Zcs (by decide) (by decide)
theorem ZnT {t:Int} {T:Tl} (h:ZcI t=some T):Fd 1 T:=by
 unfold ZcI at h
 cases ht:ZaQ t with
 | error c=>rw[ht] at h;cases h
 | ok q =>
  obtain⟨a,b⟩:=q;rw[ht] at h
  cases h
  have ha:a=23∨a=24:=by
   unfold ZaQ at ht
   split at ht
   ·cases ht
   ·simp only[Except.ok.injEq,Prod.mk.injEq] at ht
    rw[← ht.1];unfold ZlX
    split
    ·exact .inr rfl
    ·exact .inl rfl
  exact Zcs (by decide) (by omega)
theorem Zop (c:Ct):FdL 2 (Zbl c):=by
 have b:FdL 2 (if 0<c.usage then [Zcf 15 true (ZeA c.usage.toNat)] else []):=by
  split
  ·exact FdL.one (Zif _ _ _)
  ·exact FdL.nil
 have d:FdL 2 (if 0<c.uses.length then [Zcf 37 false (Zak (c.uses.map ZaV))] else []):=by
  split
  ·exact FdL.one (Zif _ _ _)
  ·exact FdL.nil
 have e:FdL 2 (if 0<(ZaT c).length then [Zcf 30 true (Zak (ZaT c))] else []):=by
  split
  ·exact FdL.one (Zif _ _ _)
  ·exact FdL.nil
 exact FdL.app (FdL.app (FdL.app (FdL.one (Zif _ _ _)) b) d) e
theorem Zoo {c:Ct} {p:List Int} (h:Zcn c):Fd 16 (ZaX c p):=by
 obtain⟨S,hS⟩:=h.2.2.2.2.2.2.2.2.2.2.2.2.1;obtain ⟨F,hF⟩:=h.2.2.2.2.2.2.2.2.2.2.2.2.2.1;obtain ⟨T,hT⟩:=h.2.2.2.2.2.2.2.2.2.2.2.2.2.2.1;unfold ZaX;rw[hS,hF,hT];have k0:Fd 4 (Zbf 0 [Tl.mk 0 2 false [2] []]):=(Zih (by decide) (FdL.one (Zcs (by decide) (by decide)))).le (by omega);have k2:Fd 4 Zc0:=(Zcg (FdL.one (ZgJ _))).le (by omega);have k4:Fd 4 (Zak [F,T]):=(Zcg (FdL.cons (ZnT hF) (FdL.one (ZnT hT)))).le (by omega);have kc:Fd 2 Zbe:=Zcg (FdL.cons (ZgJ _) (FdL.one (ZgJ _)));have k6:Fd 4 (Zak [Zbe,Tl.mk 0 3 false (0::p) []]):=(Zcg (FdL.cons kc (FdL.one ((Zcs (by decide) (by decide)).le (by omega))))).le (by omega);have k7:Fd 4 (Zbf 3 [Zak (Zbl c)]):=Zih (by decide) (FdL.one (Zcg (Zop c)));exact (Zcg (FdL.cons k0 (FdL.cons ((fd_ser hS).le (by omega)) (FdL.cons k2 (FdL.cons (ZhF _) (FdL.cons k4 (FdL.cons (ZhF _) (FdL.cons k6 (FdL.one k7))))))))).le (by omega)
theorem ZlS {c:Ct} {p:List Int} (h:Zcn c) (hp:p.length=97):wrN (ZaX c p)=0:=by
 have h1:=Zoo (p:=p) h;have h2:=(ZhR h hp).1;unfold wrN;rw[if_pos h1.1,if_neg (by have:=h1.2;omega),if_neg (by omega)]
theorem ZnN {d B:Nat} {T:Tl} (h:Fd d T) (k:Sm B T) (hd:d≤16) (hB:B≤1048576):wrN T=0:=by
 have h2:=h.2;have k1:=k.1;unfold wrN;rw[if_pos h.1,if_neg (by omega),if_neg (by omega)]
theorem ZlB {n:Int} (h:0≤n) (h2:¬ 2147483647<n):∃ b,Zau n=.ok b∧b.length≤5:=by
 have hl:(Za4 (ZeW 4 n.toNat [])).length≤4:=by
  have hz:∀ X:List Int,(Za4 X).length≤X.length:=by
   intro X
   induction X with
   | nil=>simp[Za4]
   | cons x X ih =>
    rw[Za4]
    split
    ·rw[List.length_cons];omega
    ·exact Nat.le_refl _
  have h1:=hz (ZeW 4 n.toNat []);have h3:=ZdT 4 n.toNat [];rw[List.length_nil] at h3;omega
 unfold Zau;rw[if_neg (by omega)];unfold ZaK;rw[if_neg (by omega)]
 split
 ·exact ⟨_,rfl,by rw[List.length_cons];omega⟩
 ·exact ⟨_,rfl,by omega⟩
theorem Znz {n:Int} {b:List Int} (h:Zau n=.ok b):0≤n∧n≤2147483647:=by
 unfold Zau at h
 split at h
 ·cases h
 ·omega
theorem ext_19 (T:Tl):exT [85,29,19] true (wrB T)=Zcf 19 true T:=rfl
theorem ext_15 (T:Tl):exT [85,29,15] true (wrB T)=Zcf 15 true T:=rfl
theorem ext_37 (T:Tl):exT [85,29,37] false (wrB T)=Zcf 37 false T:=rfl
theorem ext_30 (T:Tl):exT [85,29,30] true (wrB T)=Zcf 30 true T:=rfl
theorem Zmu (c:Ct):FdL 1 (ZbD c):=by
 have h1:FdL 1 (if c.ca=true then [Zcm] else []):=by
  split
  ·exact FdL.one (Zcs (by decide) (by decide))
  ·exact FdL.nil
 have h2:FdL 1 (if 0≤c.path then [Tl.mk 0 2 false (ZdE (Zau c.path)) []] else []):=by
  split
  ·exact FdL.one (Zcs (by decide) (by decide))
  ·exact FdL.nil
 exact FdL.app h1 h2
theorem Zmv (c:Ct):FdL 7 (ZaT c):=by
 have h1:FdL 7 (if 0<c.permit.length then [ZaA 0 c.permit] else []):=by
  split
  ·exact FdL.one (Zig (by decide) _)
  ·exact FdL.nil
 have h2:FdL 7 (if 0<c.exclude.length then [ZaA 1 c.exclude] else []):=by
  split
  ·exact FdL.one (Zig (by decide) _)
  ·exact FdL.nil
 exact FdL.app h1 h2
theorem ZgP (c:Ct):0<(ZaT c).length↔0<c.permit.length∨0<c.exclude.length:=by
 unfold ZaT
 by_cases a:0<c.permit.length<;>by_cases b:0<c.exclude.length<;>simp[a,b]
theorem ca_may {c:Ct} (h:Zcn c):caO c=some (Zak (ZbD c)):=by
 have h1:=h.2.1;have h2:=h.2.2.1;have h3:=h.2.2.2.1;unfold caO ZbD
 cases hca:c.ca with
 | false =>
  have hp:c.path=-1:=by
   by_cases k:-1<c.path
   ·exact absurd ⟨k,hca⟩ h2
   ·omega
  rw[if_pos rfl,if_pos hp,if_neg (by decide),if_neg (by omega)]
  rfl
 | true =>
  rw[if_neg (by decide),if_pos rfl]
  by_cases hp:c.path=-1
  ·rw[if_pos hp,if_neg (by omega)]
   rfl
  ·obtain ⟨b,hb,-⟩:=ZlB (n:=c.path) (by omega) h3
   rw[if_neg hp,hb,if_pos (by omega)]
   rfl
theorem ex_may {c:Ct} (h:Zcn c):ex4 c=some (Zbl c):=by
 have hlim:=h.lims;obtain ⟨-,-,nP,nE⟩:=h.nm;have u1:=h.2.2.2.2.1;have u2:=h.2.2.2.2.2.1;have u3:=h.2.2.2.2.2.2.1;have uo:=h.2.2.2.2.2.2.2.2.2.2.1;have e1:ex1 c=some ([]++[Zcf 19 true (Zak (ZbD c))]):=by
  unfold ex1;rw[ca_may h,ZfA (ZnN (Zcg (Zmu c)) (ZaZ (Zgj c)) (by omega) (by omega)),ext_19]
  rfl
 have e2:ex2 c=some (([]++[Zcf 19 true (Zak (ZbD c))])++(if 0<c.usage then [Zcf 15 true (ZeA c.usage.toNat)] else [])):=by
  unfold ex2
  by_cases k:c.usage=-1
  ·rw[if_pos k,e1,if_neg (by omega),List.append_nil]
  ·rw[if_neg k,e1,if_pos (by omega)]
   have hu:Zcj c=some (ZeA c.usage.toNat):=by
    unfold Zcj;rw[if_neg (by omega)]
   have hf:Fd 1 (ZeA c.usage.toNat):=Zcs (by decide) (by decide);rw[hu,ZfA (ZnN hf (Zg7 _) (by omega) (by omega)),ext_15]
   rfl
 have e3:ex3 c=some ((([]++[Zcf 19 true (Zak (ZbD c))])++(if 0<c.usage then [Zcf 15 true (ZeA c.usage.toNat)] else []))++(if 0<c.uses.length then [Zcf 37 false (Zak (c.uses.map ZaV))] else [])):=by
  unfold ex3
  by_cases k:0<c.uses.length
  ·rw[if_pos k,if_pos k,e2,Zhe hlim.1 uo,ZfA (ZnN (Zcg (FdL.map (fun l _=>ZgJ l))) (ZaZ (ZhT h)) (by omega) (by omega)),ext_37]
   rfl
  ·rw[if_neg k,if_neg k,e2,List.append_nil]
 have hm:Zbl c=((([]++[Zcf 19 true (Zak (ZbD c))])++(if 0<c.usage then [Zcf 15 true (ZeA c.usage.toNat)] else []))++(if 0<c.uses.length then [Zcf 37 false (Zak (c.uses.map ZaV))] else []))++(if 0<(ZaT c).length then [Zcf 30 true (Zak (ZaT c))] else []):=rfl;rw[hm];unfold ex4
 by_cases k:0<c.permit.length∨0<c.exclude.length
 ·rw[if_pos k,if_pos ((ZgP c).2 k),e3,ZfC ⟨hlim.2.1,nP⟩ ⟨hlim.2.2.1,nE⟩,ZfA (ZnN (Zcg (Zmv c)) (ZaZ (Ze8 h)) (by omega) (by omega)),ext_30]
  rfl
 ·rw[if_neg k,if_neg (fun q=>k ((ZgP c).1 q)),e3,List.append_nil]
theorem Zl9 {c:Ct} (h:Zcn c):Zcz c=some (ZaX c (Zf9 c.kx c.ky)):=by
 obtain⟨S,hS⟩:=h.2.2.2.2.2.2.2.2.2.2.2.2.1;obtain ⟨F,hF⟩:=h.2.2.2.2.2.2.2.2.2.2.2.2.2.1;obtain ⟨T,hT⟩:=h.2.2.2.2.2.2.2.2.2.2.2.2.2.2.1;have hK:=h.2.2.2.2.2.2.2.2.2.2.2.2.2.2.2;obtain ⟨nI,nJ,-,-⟩:=h.nm;have e1:ZcZ c.issuer=some (ZaH c.issuer):=by unfold ZcZ;rw[if_pos nI]
 have e2:ZcZ c.subject=some (ZaH c.subject):=by unfold ZcZ;rw[if_pos nJ]
 have e3:Zji c.kn c.kx c.ky=some (Zak [Zbe,.mk 0 3 false (0::Zf9 c.kx c.ky) []]):=by unfold Zji;rw[if_pos hK]
 have e4:Zco c=some (Zak (Zbl c)):=by
  unfold Zco;rw[if_neg (by rw[h.1];decide),ex_may h]
  rfl
 unfold Zcz ZaX;rw[hS,hF,hT,e1,e2,e3,e4,ZiL hF hT]
 rfl
theorem Zd1 {x:Option (List Tl)} {y:Option Tl} {l:List Tl} (h:Zfl x y=some l):(∃ a,x=some a)∧∃ T,y=some T:=by
 cases x with
 | none=>cases h
 | some a =>
  cases y with
  | none=>cases h
  | some T=>exact ⟨⟨a,rfl⟩,T,rfl⟩
theorem ZeD {s:List Int} {m:Bool} {o:Option Tl} {T:Tl} (h:Zik s m o=some T):∃ U,o=some U:=by
 cases o with
 | none=>cases h
 | some U=>exact ⟨U,rfl⟩
theorem ZmQ {c:Ct} {T:Tl} (h:Zcz c=some T):Zcn c:=by
 unfold Zcz at h
 cases h1:Zd0 c.serial with
 | none=>rw[h1] at h;cases h
 | some S =>
 cases h2:ZcZ c.issuer with
 | none=>rw[h1,h2] at h;cases h
 | some I =>
 cases h3:ZjA c.frm c.til with
 | none=>rw[h1,h2,h3] at h;cases h
 | some M =>
 cases h4:ZcZ c.subject with
 | none=>rw[h1,h2,h3,h4] at h;cases h
 | some J =>
 cases h5:Zji c.kn c.kx c.ky with
 | none=>rw[h1,h2,h3,h4,h5] at h;cases h
 | some K =>
 cases h6:Zco c with
 | none=>rw[h1,h2,h3,h4,h5,h6] at h;cases h
 | some E =>
 clear h;have nI:Zcl c.issuer=true:=by
  unfold ZcZ at h2
  split at h2
  ·assumption
  ·cases h2
 have nJ:Zcl c.subject=true:=by
  unfold ZcZ at h4
  split at h4
  ·assumption
  ·cases h4
 have nK:Zd5 c.kn c.kx c.ky∧c.kn=false:=by
  unfold Zji at h5
  split at h5
  ·assumption
  ·cases h5
 have nT:(∃ T,ZcI c.frm=some T)∧∃ T,ZcI c.til=some T:=by
  unfold ZjA at h3
  cases a:ZcI c.frm with
  | none=>rw[a] at h3;cases h3
  | some F =>
   cases b:ZcI c.til with
   | none=>rw[a,b] at h3;cases h3
   | some G=>exact ⟨⟨F,rfl⟩,G,rfl⟩
 unfold Zco at h6
 split at h6
 ·cases h6
 ·rename_i hodd
  have hodd2:c.odd=false:=by simpa using hodd
  cases h7:ex4 c with
  | none=>rw[h7] at h6;cases h6
  | some l4 =>
   have n4:(∃ l3,ex3 c=some l3)∧((0<c.permit.length∨0<c.exclude.length)→∃ U,Zci c=some U):=by
    unfold ex4 at h7
    split at h7
    ·obtain ⟨a,T,hb⟩:=Zd1 h7
     exact⟨a,fun _=>ZeD hb⟩
    ·exact ⟨⟨_,h7⟩,fun k=>absurd k (by assumption)⟩
   obtain⟨⟨l3,h8⟩,hN⟩:=n4;have n3:(∃ l2,ex2 c=some l2)∧(0<c.uses.length→∃ U,Zd4 c=some U):=by
    unfold ex3 at h8
    split at h8
    ·obtain ⟨a,T,hb⟩:=Zd1 h8
     exact⟨a,fun _=>ZeD hb⟩
    ·exact ⟨⟨_,h8⟩,fun k=>absurd k (by assumption)⟩
   obtain⟨⟨l2,h9⟩,hU⟩:=n3;have n2:(∃ l1,ex1 c=some l1)∧(¬ c.usage=-1→∃ U,Zcj c=some U):=by
    unfold ex2 at h9
    split at h9
    ·exact ⟨⟨_,h9⟩,fun k=>absurd (by assumption) k⟩
    ·obtain ⟨a,T,hb⟩:=Zd1 h9
     exact⟨a,fun _=>ZeD hb⟩
   obtain⟨⟨l1,h10⟩,hG⟩:=n2;obtain ⟨-,T1,hb1⟩:=Zd1 h10;obtain ⟨U1,hca⟩:=ZeD hb1;have hpath:¬ c.path < -1∧¬ (-1<c.path∧c.ca=false)∧¬ 2147483647<c.path:=by
    unfold caO at hca
    split at hca
    ·rename_i k
     split at hca
     ·rename_i k2
      rw[k2];exact ⟨by omega,fun q=>by have:=q.1;omega,by omega⟩
     ·cases hca
    ·rename_i k
     split at hca
     ·rename_i k2
      rw[k2];exact ⟨by omega,fun q=>by have:=q.1;omega,by omega⟩
     ·cases hs:Zau c.path with
      | error e=>rw[hs] at hca;cases hca
      | ok b =>
       have:=Znz hs;exact ⟨by omega,fun q=>k q.2,by omega⟩
   have huse:¬ c.usage=0∧¬ c.usage < -1∧¬ 65535<c.usage:=by
    by_cases k:c.usage=-1
    ·omega
    ·obtain ⟨U,hU2⟩:=hG k
     unfold Zcj at hU2
     split at hU2
     ·cases hU2
     ·omega
   have huses:c.uses.length≤8∧∀ l∈c.uses,∃ b,ZaD l=.ok b:=by
    by_cases k:0<c.uses.length
    ·obtain ⟨U,hU2⟩:=hU k
     unfold Zd4 at hU2
     split at hU2
     ·assumption
     ·cases hU2
    ·have e:c.uses=[]:=List.eq_nil_of_length_eq_zero (by omega)
     rw[e];exact ⟨by simp,fun l hl=>by cases hl⟩
   have hnames:okN c.permit∧okN c.exclude:=by
    by_cases k:0<c.permit.length∨0<c.exclude.length
    ·obtain ⟨U,hU2⟩:=hN k
     unfold Zci at hU2
     split at hU2
     ·assumption
     ·cases hU2
    ·have e:c.permit=[]:=List.eq_nil_of_length_eq_zero (by omega)
     have e2:c.exclude=[]:=List.eq_nil_of_length_eq_zero (by omega);rw[e,e2];exact ⟨⟨by simp,fun l hl=>by cases hl⟩,by simp,fun l hl=>by cases hl⟩
   refine⟨hodd2,hpath.1,hpath.2.1,hpath.2.2,huse.1,huse.2.1,huse.2.2,huses.1,hnames.1.1,hnames.2.1,huses.2,fun n hn=>?_,⟨S,h1⟩,nT.1,nT.2,nK.1,nK.2⟩;simp only[List.cons_append,List.nil_append,List.mem_cons,List.mem_append] at hn;rcases hn with rfl|rfl|hn|hn
   ·exact nI
   ·exact nJ
   ·exact hnames.1.2 n hn
   ·exact hnames.2.2 n hn
theorem Zil:∀ (k:Nat) (n:Int),0≤n→n<256 ^ k→∃ X:List Int,X.length=k∧(∀ x∈X,0≤x∧x<256)∧pv 256 X=n
 | 0,n,h0,h1=>⟨[],rfl,by simp,by rw[pv];simp at h1;omega⟩
 | k+1,n,h0,h1=>by
  obtain⟨X,l,b,e⟩:=Zil k (n/256) (by omega) (by rw[Int.pow_succ] at h1;omega);refine ⟨n%256::X,by rw[List.length_cons,l],fun x hx=>?_,by rw[pv,e];omega⟩;rcases List.mem_cons.1 hx with rfl|hx
  ·omega
  ·exact b x hx
theorem Zgt {n:Int} (h0:0≤n) (h1:n<18446744073709551616 ^ 6):∃ X:List Int,X.length=48∧byt X∧beN X=n:=by
 obtain⟨X,l,b,e⟩:=Zil 48 n h0 (by rw[show (256:Int) ^ 48=18446744073709551616 ^ 6 by decide];exact h1);exact ⟨X.reverse,by rw[List.length_reverse,l],ZdN (fun x hx=>b x (List.mem_reverse.1 hx)),by unfold beN;rw[List.reverse_reverse,e]⟩
theorem Zk2 {xs ys:List Value} {X Y:Int} (hX:U6 xs X) (hY:U6 ys Y):Ziv X Y (Zf9 X Y):=by
 obtain⟨A,a1,a2,a3⟩:=Zgt hX.bd.1 hX.bd.2;obtain ⟨B,b1,b2,b3⟩:=Zgt hY.bd.1 hY.bd.2;have h:Ziv X Y (4::(A++B)):=⟨A,B,a1,a2,a3,b1,b2,b3,rfl⟩;rw[ZhK h];exact h
def ZeJ (w:World) (c:Ct) (e:Ending) (w':World):Prop:=Below w.heap.size w w'∧(¬ Zcn c→e=.returned (.tuple #[.slice none 0 0,.iface 53 (.int .i64 1)]))∧(Zcn c→∃ v:Value,e=.returned (.tuple #[v,.nilIface])∧Bs w' v (Zao (ZaX c (Zf9 c.kx c.ky)))∧ZbR w v)
theorem ZeJ.no {w w':World} {c:Ct} (h:¬ Zcn c) (hb:Below w.heap.size w w'):ZeJ w c (.returned (.tuple #[.slice none 0 0,.iface 53 (.int .i64 1)])) w':=⟨hb,fun _=>rfl,fun k=>absurd k h⟩
theorem ZeJ.yes {w w':World} {c:Ct} {v:Value} (h:Zcn c) (hv:Bs w' v (Zao (ZaX c (Zf9 c.kx c.ky)))) (hn:ZbR w v) (hb:Below w.heap.size w w'):ZeJ w c (.returned (.tuple #[v,.nilIface])) w':=⟨hb,fun k=>absurd h k,fun _=>⟨v,rfl,hv,hn⟩⟩
set_option linter.unusedSimpArgs false in
set_option maxRecDepth 100000 in
set_option maxHeartbeats 2000000 in
theorem Zka {c:Ct} {cs:List Value} {w:World} (G:Zel w) (h:Zds w c cs) (wf:WfC c) (hsl:c.serial.length≤140737488351232):Calls Tryz.prog 9 #[.agg cs.toArray] w (ZeJ w c):=by
 have HWf:Hid (WfC c):=wf;have HG:Hid (Zel w):=G;have HC:Hid (Zds w c cs):=h;have HL38:Hid (cs.length=38):=h.len;have HSl:Hid (c.serial.length≤140737488351232):=hsl;have HPn:Hid (Ziv c.kx c.ky (Zf9 c.kx c.ky)):=by
  obtain⟨sv,iv,jv,xs,ys,uv,pv,ev,bv,rs,zs,-,-,-,-,h4,h5,-⟩:=h;exact Zk2 h4 h5
 clear wf G h hsl;have B0:=Blk.new w cs 35 w.heap.size rfl;have bel:=bal w (.cells cs.toArray 35);go_enter Tryz.func9,Tryz.ntmps9;go_upto_region 1 with fail;generalize w.alloc (.cells cs.toArray 35)=W at *;have l0:=B0.lt;have hld:(loadVar 35 ⟨w.heap.size,0,none⟩).run Tryz.prog W=.ok (.agg cs.toArray) W:=B0.load Tryz.underlying35 rfl ZeG HL38.out;go_wp2_with (first|((with_reducible show wpList _ _ _ ({ dst:=_,op:=.load _ _,type:=_,pos:=_,after:=_,guard:=_ } :: _) _ _);refine Zae (by rfl) (by rfl) (by rfl) hld ?_)|fail);refine (ZeP (HG.out.below bel) (HC.out.later bel) HWf.out HSl.out).mono ?_;rintro e w1 ⟨hb,hbad,hok⟩;replace bel:=Zaa bel hb;clear hb hld l0 B0;have hz:=Zad.out
 by_cases hm:Zcn c
 rotate_left
 ·obtain ⟨c9,rfl⟩:=hbad (by cases hx:Zcz c with|none=>rfl|some T=>exact absurd (ZmQ hx) hm)
  have H:Hid (¬ Zcn c):=hm;clear hbad hok hm;have q:=ZaE c9;replace bel:=Zaf (o:=.cells #[.int .i64 0,.int .i64 0,.bool false,.slice none 0 0,.slice none 0 0] 57) bel;go_wp2_with (first|((with_reducible show wpList _ _ _ ({ dst:=_,op:=.store _ _ _,type:=_,pos:=_,after:=_,guard:=_ } :: _) _ _);refine wpList_store_row rfl 57 _ _ rfl w1.heap.size #[.int .i64 0,.int .i64 0,.bool false,.slice none 0 0,.slice none 0 0] rfl rfl 57 _ (heap_alloc_last _ _) (by rw[Zab];rfl) rfl (by simp[Value.oneCell']) ?_;rw[World.setRow_alloc_new])|fail);refine bodyPost_ret (results_tmp2 rfl _ _ _) rfl ?_;exact ZeJ.no H.out bel
 obtain⟨es,rfl,hd⟩:=hok _ (Zl9 hm);have H:Hid (Zcn c):=hm;have HLe:Hid (es.length=5):=hd.now.five;have HOe:Hid (Zbp es):=hd.now.ones;have HT:Hid (Zbg w1 (ZaX c (Zf9 c.kx c.ky)) es):=hd.now;clear hbad hok hm hd;have HS5:Hid (es.toArray.size=5):=by show _=_;rw[List.size_toArray];exact HLe.out
 have hb:=bal w1 (.cells es.toArray 57);replace HT:=Zhi HT hb;replace bel:=Zaa bel hb;clear hb;have BE:=Blk.new w1 es 57 w1.heap.size rfl;go_upto_region 2 with (first|((with_reducible show wpList _ _ _ ({ dst:=_,op:=.store _ _ _,type:=_,pos:=_,after:=_,guard:=_ } :: _) _ _);refine wpList_store_row rfl 57 _ _ rfl w1.heap.size es.toArray rfl rfl 57 _ (heap_alloc_last _ _) (by rw[Zab,HS5.out]) (by rw[HS5.out];rfl) HOe.out ?_;rw[World.setRow_alloc_new])|fail);clear hz;obtain ⟨gt,hgt⟩:∃ g,g=w1.heap.size:=⟨_,rfl⟩;rw[← hgt] at BE ⊢;generalize w1.alloc (.cells es.toArray 57)=V1 at *;clear hgt;have q:=ZaS;have l1:=BE.lt;have hldt:(loadVar 57 ⟨gt,0,none⟩).run Tryz.prog V1=.ok (.agg es.toArray) V1:=BE.load Tryz.underlying57 rfl Zab HLe.out;have HZ:Hid (Sm 30000 (ZaX c (Zf9 c.kx c.ky))):=ZhR H.out (ZeE HPn.out);have HW0:Hid (wrN (ZaX c (Zf9 c.kx c.ky))=0):=ZlS H.out (ZeE HPn.out);go_wp2_with (first|((with_reducible show wpList _ _ _ ({ dst:=_,op:=.load _ _,type:=_,pos:=_,after:=_,guard:=_ } :: _) _ _);refine Zae (by rfl) (by rfl) (by rfl) hldt ?_)|fail);refine (Zgz HT.out (by have:=HZ.out.1;omega)).mono ?_;rintro e w2 ⟨v2,rfl,hv2,hn2,hb⟩;have HB2:Hid (Bs w2 v2 (Zao (ZaX c (Zf9 c.kx c.ky)))):=by have h:=hv2;unfold wrB at h;rw[if_pos HW0.out] at h;exact h
 have HNv:Hid (ZbR w v2):=hn2.upN bel.size;rw[HW0.out,Zon];replace bel:=Zaa bel hb;clear hb hv2 hn2 hldt l1 q BE;go_wp2_with fail;refine bodyPost_ret (results_tmp2 rfl _ _ _) rfl ?_;exact ZeJ.yes H.out HB2.out HNv.out bel
end Go.Proofs.YtdfmoghjimghhaaGreatDoor
