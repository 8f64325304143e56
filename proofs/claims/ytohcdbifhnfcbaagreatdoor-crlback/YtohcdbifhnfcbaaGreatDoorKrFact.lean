/- What was told of a time is read as it. Plain facts. Lists of revoked ones: what was made is read as it was. -/
import Derived.Test.YtohcdbifhnfcbaaGreatDoorClWr
import Derived.Test.YtohcdbifhnfcbaaGreatDoorKrOf
import Derived.Test.YtohcdbifhnfcbaaGreatDoorEdDecG
import Derived.Test.YtohcdbifhnfcbaaGreatDoorKrSpec
import Derived.Test.YtohcdbifhnfcbaaGreatDoorDrTG
import Derived.Test.YtohcdbifhnfcbaaGreatDoorKrEnc
import Derived.Test.YtohcdbifhnfcbaaGreatDoorKrGone
import Derived.Test.YtohcdbifhnfcbaaGreatDoorRows
import Derived.Deep.OwnRows
namespace Go.Proofs.YtohcdbifhnfcbaaGreatDoor
open Go.RowKit
theorem dig_two (n:Nat) (h:n < 100):digV (twoN n) 0=(n:Int):=by
 unfold twoN
 rw [digV_two (by omega) (by omega)]
 omega
theorem two_byt (n:Nat) (h:n < 100):byt (twoN n):=fun j=>by
 unfold twoN
 match j with
 | 0=>show 0≤((48 + n / 10:Nat):Int)∧((48 + n / 10:Nat):Int) < 256;omega
 | 1=>show 0≤((48 + n % 10:Nat):Int)∧((48 + n % 10:Nat):Int) < 256;omega
 | j + 2=>exact ⟨by simp,by simp⟩
theorem digV_app:∀ (A B:List Int) (v:Int),allD A→digV (A++B) v=digV B (digV A v)
 | [],B,v,_=>by rw [digV];rfl
 | a :: A,B,v,h=>by
  have ha:=h a (List.Mem.head _)
  rw [List.cons_append,digV,if_neg (by omega),digV_app A B _ (fun x hx=>h x (List.Mem.tail _ hx)),digV,if_neg (by omega)]
theorem two_all (n:Nat) (h:n < 100):allD (twoN n):=fun x hx=>by
 unfold twoN at hx
 simp only [List.mem_cons,List.not_mem_nil,or_false] at hx
 rcases hx with rfl|rfl<;>omega
theorem allD_app {A B:List Int} (ha:allD A) (hb:allD B):allD (A++B):=fun x hx=>by
 rcases List.mem_append.1 hx with h|h
 ·exact ha x h
 ·exact hb x h
theorem digV_pos:∀ (A:List Int) (v:Int),allD A→0≤v→0≤digV A v
 | [],v,_,hv=>by rw [digV];exact hv
 | a :: A,v,h,hv=>by
  have ha:=h a (List.Mem.head _)
  rw [digV,if_neg (by omega)]
  exact digV_pos A _ (fun x hx=>h x (List.Mem.tail _ hx)) (by omega)
theorem time_parts {y m r:Nat} {t:Int} (h:MonIs t y m) (hr:(t - secN y m 1).toNat=r):1≤m∧m≤12∧r < 86400 * daysN y m∧r < 2678400∧t=secN y m (1 + r / 86400) + (3600 * ((r / 3600 % 24:Nat):Int) + 60 * ((r / 60 % 60:Nat):Int) + ((r % 60:Nat):Int)):=by
 obtain ⟨h1,h2,h3,h4,h5,h6⟩:=h
 have hd:=days_le (y:=y) (m:=m)
 have e:t=secN y m 1 + (r:Int):=by omega
 refine ⟨h3,h4,by omega,by omega,?_⟩
 have s1:secN y m (1 + r / 86400)=secN y m 1 + 86400 * ((r / 86400:Nat):Int):=by
  rw [sec_year,sec_year]
  generalize msum y (m - 1)=u
  generalize dayY y=v
  omega
 rw [s1,e]
 omega
theorem time_back {t:Int} {y m:Nat} (h:MonIs t y m):timeP (tagT y) (bodyT y m (t - secN y m 1).toNat)=.ok t:=by
 obtain ⟨r,hr⟩:∃ r,(t - secN y m 1).toNat=r:=⟨_,rfl⟩
 obtain ⟨m1,m2,r1,r2,et⟩:=time_parts h hr
 obtain ⟨y1,y2,-,-,-,-⟩:=h
 rw [hr]
 have b1:r / 86400 < 31:=by omega
 have b2:1 + r / 86400≤daysN y m:=by omega
 have b3:r / 3600 % 24 < 24:=by omega
 have b4:r / 60 % 60 < 60:=by omega
 have b5:r % 60 < 60:=by omega
 have G:∀ n:Nat,¬ (n=4∧(y:Int) < 2050)→timeG n (y:Int) (m:Int) ((1 + r / 86400:Nat):Int) ((r / 3600 % 24:Nat):Int) ((r / 60 % 60:Nat):Int) ((r % 60:Nat):Int)=.ok t:=fun n hn=>by
  unfold timeG
  rw [if_neg (by omega),Int.toNat_natCast,Int.toNat_natCast,Int.toNat_natCast,if_neg (by omega),← et]
 unfold tagT bodyT timeP
 by_cases c:2049 < y
 ·rw [if_pos c,if_pos c,if_neg (by decide),if_pos rfl]
  unfold timeF
  have q1:=two_all (y / 100) (by omega)
  have q2:=two_all (y % 100) (by omega)
  have q3:=two_all m (by omega)
  have q4:=two_all (1 + r / 86400) (by omega)
  have q5:=two_all (r / 3600 % 24) (by omega)
  have q6:=two_all (r / 60 % 60) (by omega)
  have q7:=two_all (r % 60) (by omega)
  have all:=allD_app (allD_app (allD_app (allD_app (allD_app (allD_app q1 q2) q3) q4) q5) q6) q7
  have pos:=digV_pos _ 0 all (by omega)
  have ey:digV (twoN (y / 100)++twoN (y % 100)) 0=(y:Int):=by
   rw [digV_app _ _ _ q1,dig_two _ (by omega)]
   unfold twoN
   rw [digV,if_neg (by omega),digV,if_neg (by omega),digV]
   omega
  have e2:=dig_two m (by omega)
  have e3:=dig_two (1 + r / 86400) (by omega)
  have e4:=dig_two (r / 3600 % 24) (by omega)
  have e5:=dig_two (r / 60 % 60) (by omega)
  have e6:=dig_two (r % 60) (by omega)
  rw [if_neg]
  ·have g:=G 4 (by omega)
   rw [← e2,← e3,← e4,← e5,← e6] at g
   have yy:yearN 4 (digV (twoN (y / 100)++twoN (y % 100)) 0)=(y:Int):=by rw [ey];rfl
   rw [← yy] at g
   exact g
  ·rintro (k|k|k)
   ·exact k rfl
   ·exact k rfl
   ·exact absurd pos (by show ¬ _;exact Int.not_le.2 k)
 ·rw [if_neg c,if_neg c,if_pos rfl]
  unfold timeF
  have q2:=two_all (y % 100) (by omega)
  have q3:=two_all m (by omega)
  have q4:=two_all (1 + r / 86400) (by omega)
  have q5:=two_all (r / 3600 % 24) (by omega)
  have q6:=two_all (r / 60 % 60) (by omega)
  have q7:=two_all (r % 60) (by omega)
  have all:=allD_app (allD_app (allD_app (allD_app (allD_app q2 q3) q4) q5) q6) q7
  have pos:=digV_pos _ 0 all (by omega)
  have e1:=dig_two (y % 100) (by omega)
  have e2:=dig_two m (by omega)
  have e3:=dig_two (1 + r / 86400) (by omega)
  have e4:=dig_two (r / 3600 % 24) (by omega)
  have e5:=dig_two (r / 60 % 60) (by omega)
  have e6:=dig_two (r % 60) (by omega)
  rw [if_neg]
  ·have g:=G 2 (by omega)
   rw [← e2,← e3,← e4,← e5,← e6] at g
   have yy:yearN 2 (digV (twoN (y % 100)) 0)=(y:Int):=by
    rw [e1]
    unfold yearN
    rw [if_pos rfl]
    split<;>omega
   rw [← yy] at g
   exact g
  ·rintro (k|k|k)
   ·exact k rfl
   ·exact k rfl
   ·exact absurd pos (by show ¬ _;exact Int.not_le.2 k)
theorem body_byt {y m r:Nat} (hy:y≤9999) (hm:m≤12) (hr:r < 2678400):byt (bodyT y m r):=by
 have A:∀ {X Y:List Int},byt X→byt Y→byt (X++Y):=fun {X Y} ha hb j=>by
  by_cases k:j < X.length
  ·have e:(X++Y).getD j 0=X.getD j 0:=by simp [List.getD_eq_getElem?_getD,List.getElem?_append_left k]
   rw [e];exact ha j
  ·have e:(X++Y).getD j 0=Y.getD (j - X.length) 0:=by rw [List.getD_eq_getElem?_getD,List.getD_eq_getElem?_getD,List.getElem?_append_right (by omega)]
   rw [e];exact hb _
 unfold bodyT
 refine A (A (A (A (A (A (A ?_ (two_byt _ (by omega))) (two_byt _ (by omega))) (two_byt _ (by omega))) (two_byt _ (by omega))) (two_byt _ (by omega))) (two_byt _ (by omega))) ?_
 ·split
  ·exact two_byt _ (by omega)
  ·exact fun j=>by simp
 ·intro j
  match j with
  | 0=>exact ⟨by decide,by decide⟩
  | j + 1=>exact ⟨by simp,by simp⟩
/-- every time of these years lies in a month -/
theorem yS_ge (t:Int):∀ f z,z≤yS t f z∧yS t f z≤z + f
 | 0,z=>by rw [yS];omega
 | f + 1,z=>by
  rw [yS]
  split
  ·have:=yS_ge t f (z + 1);omega
  ·omega
theorem yS_in {t:Int} (f:Nat):∀ z n,n=z + f + 1→secN z 1 1≤t→t < secN n 1 1→secN (yS t f z) 1 1≤t∧t < secN (yS t f z + 1) 1 1:=by
 induction f with
 | zero =>
  intro z n e h k
  have e2:n=z + 1:=by omega
  rw [e2] at k
  rw [yS]
  exact ⟨h,k⟩
 | succ f ih =>
  intro z n e h k
  rw [yS]
  by_cases c:secN (z + 1) 1 1≤t
  ·rw [if_pos c]
   have e2:n=z + 1 + f + 1:=by omega
   exact ih (z + 1) n e2 c k
  ·rw [if_neg c]
   exact ⟨h,by omega⟩
theorem mS_in {t:Int} {y:Nat}:∀ f z,z≤12→12≤z + f→secN y z 1≤t→z≤mS t y f z∧mS t y f z≤12∧secN y (mS t y f z) 1≤t∧(mS t y f z=12∨t < secN y (mS t y f z + 1) 1)
 | 0,z,h,k,s=>by rw [mS];exact ⟨Nat.le_refl _,h,s,.inl (by omega)⟩
 | f + 1,z,h,k,s=>by
  rw [mS]
  by_cases c:z < 12∧secN y (z + 1) 1≤t
  ·rw [if_pos c]
   have:=mS_in f (z + 1) (by omega) (by omega) c.2
   exact ⟨by omega,this.2⟩
  ·rw [if_neg c]
   refine ⟨Nat.le_refl _,h,s,?_⟩
   by_cases e:z=12
   ·exact .inl e
   ·exact .inr (by have:¬ secN y (z + 1) 1≤t:=fun k=>c ⟨by omega,k⟩;omega)
theorem sec_10001:253402300799 < secN 10001 1 1:=by rw [sec_year];decide
theorem sec_10000T:secN 10000 1 1=253402300800:=by rw [sec_year];decide
theorem mon_any {t:Int} (h1:-631152000≤t) (h2:t≤253402300799):MonIs t (yOf t) (mOf t (yOf t)):=by
 have a:=yS_ge t 8050 1950
 have b:=yS_in (t:=t) 8050 1950 10001 (by omega) (by rw [sec_1950];exact h1) (by have:=sec_10001;omega)
 have y2:yS t 8050 1950≤9999:=by
  by_cases e:yS t 8050 1950=10000
  ·have:=b.1
   rw [e,sec_10000T] at this
   omega
  ·omega
 have c:=mS_in (t:=t) (y:=yS t 8050 1950) 12 1 (by decide) (by decide) b.1
 exact mon_found (by unfold yOf;omega) (by unfold yOf;exact y2) (by unfold mOf yOf;exact c.1) (by unfold mOf yOf;exact c.2.1) (by unfold mOf yOf;exact c.2.2.1) (by unfold yOf;exact b.2) (by unfold mOf yOf;exact c.2.2.2)
/-- what was told is read as it was -/
theorem timeOf_back {t a:Int} {X:List Int} (h:timeOf t=.ok (a,X)):timeP a X=.ok t∧byt X∧X.length≤15:=by
 by_cases c:t < -631152000∨253402300799 < t
 ·unfold timeOf at h;rw [if_pos c] at h;cases h
 have M:=mon_any (t:=t) (by omega) (by omega)
 rw [timeOf_is M (by omega) (by omega)] at h
 cases h
 obtain ⟨m1,m2,r1,r2,et⟩:=time_parts M rfl
 refine ⟨time_back M,body_byt M.2.1 m2 r2,?_⟩
 unfold bodyT
 simp only [List.length_append]
 have:∀ n,(twoN n).length=2:=fun _=>rfl
 simp only [this,List.length_cons,List.length_nil]
 split
 ·simp only [this];omega
 ·simp
theorem serD_serT {n:List Int} {T:Tl} (b:byt n) (h:serT n=some T):serD T=some n:=by
 unfold serT at h
 split at h
 ·cases h
 rename_i k
 cases h
 have h1:¬ (n.length < 1∨20 < n.length∨n.getD 0 0=0):=k
 have hs:lessZ n=n:=lessZ_self (fun _=>by omega)
 obtain ⟨y,hy⟩:∃ y,numOf n=.ok y:=by
  unfold numOf
  rw [hs,if_neg (by omega)]
  split
  ·exact ⟨_,rfl⟩
  ·exact ⟨_,rfl⟩
 rw [hy]
 have h2:=(num_back b hy).1
 rw [hs] at h2
 show serD (.mk 0 2 false y [])=_
 rw [serD_plain h2,if_pos (by unfold serB;exact decide_eq_true h1)]
theorem timD_timT {v:Int} {T:Tl} (h:timT v=some T):timD T=some v:=by
 unfold timT at h
 cases ht:timeOf v with
 | error c=>rw [ht] at h;cases h
 | ok q =>
  obtain ⟨a,X⟩:=q
  rw [ht] at h
  cases h
  exact timD_plain (timeOf_back ht).1
theorem goneD_goneO {g:Gn} {T:Tl} (b:byt g.1) (h:goneO g=some T):goneD T=some g:=by
 obtain ⟨x,y,h1,h2,rfl⟩:=goneO_some h
 show goneD (.mk 0 16 true [] [x,y])=_
 rw [goneD_mk,if_pos ⟨rfl,rfl,rfl⟩,serD_serT b h1,timD_timT h2]
 rfl
theorem gonesD_made {L:List Gn} (h:∀ g∈L,byt g.1∧∃ T,goneO g=some T) (h1:0 < L.length) (h2:L.length≤64):gonesD (listT (L.map fun g=>orT (goneO g)))=some L:=by
 show gonesD (.mk 0 16 true [] (L.map fun g=>orT (goneO g)))=_
 rw [gonesD_mk,if_pos ⟨⟨rfl,rfl,rfl⟩,by rw [List.length_map];exact h1,by rw [List.length_map];exact h2⟩]
 refine mapM_all (by rw [List.length_map]) (fun i x y hx hy=>?_)
 rw [List.getElem?_map,hy] at hx
 simp only [Option.map_some,Option.some.injEq] at hx
 obtain ⟨k,T,hT⟩:=h y (List.mem_of_getElem? hy)
 rw [hT] at hx
 rw [← hx]
 exact goneD_goneO k hT
theorem bodyCrD_made {c:Cr} (h:MayR8 c) (b:∀ g∈c.gone,byt g.1):bodyCrD (crBody c)=some ⟨c.issuer,c.frm,c.til,c.gone,[],0,0⟩:=by
 obtain ⟨h1,⟨F,hF⟩,⟨T,hT⟩,h4,h5⟩:=h
 unfold crBody goneL
 rw [hF,hT]
 by_cases k:0 < c.gone.length
 ·rw [if_pos k]
  show bodyCrD (.mk 0 16 true [] (intT 1 :: algT :: elemN c.issuer :: F :: T :: [listT (c.gone.map fun g=>orT (goneO g))]))=_
  rw [bodyCrD_mk,if_pos ⟨⟨rfl,rfl,rfl⟩,Nat.le_refl _,rfl,rfl⟩,read_elem h1,timD_timT hF,timD_timT hT]
  simp only [okO,Option.bind_some]
  rw [gonesD_made (fun g hg=>⟨b g hg,h5 g hg⟩) k h4]
  rfl
 ·rw [if_neg k]
  have e:c.gone=[]:=List.eq_nil_of_length_eq_zero (by omega)
  show bodyCrD (.mk 0 16 true [] (intT 1 :: algT :: elemN c.issuer :: F :: T :: []))=_
  rw [bodyCrD_mk,if_pos ⟨⟨rfl,rfl,rfl⟩,Nat.zero_le _,rfl,rfl⟩,read_elem h1,timD_timT hF,timD_timT hT,e]
  rfl
theorem bits_made (sig:List Int):bitD (.mk 0 3 false (0 :: sig) [])=some sig:=by
 have h:bitsP (0 :: sig)=.ok (sig,0):=by
  have e0:((0:Int) :: sig).getD 0 0=0:=rfl
  have e1:(2:Int) ^ (0:Int).toNat=1:=rfl
  unfold bitsP
  rw [e0,e1,if_neg (by
   rintro (h|h|⟨-,h⟩)
   ·simp at h
   ·omega
   ·exact h rfl),if_pos (by omega)]
  rfl
 rw [bitD_plain h,if_pos rfl]
theorem sig_made {r s:Int} {X Y x y:List Int} (h:SigB r s X Y x y) (hr:isSc r) (hs:isSc s):sigD (bytesT (sigT x y))=some (r,s):=by
 obtain ⟨⟨l1,b1,e1⟩,⟨l2,b2,e2⟩,n1,n2⟩:=h
 have k1:=numOf_len n1
 have k2:=numOf_len n2
 rw [sigD_s (sig_parse (by omega) (by omega)) (sigP_back b1 b2 n1 n2) (by rw [beN_less,beN_less,e1,e2];exact ⟨hr,hs⟩),beN_less,beN_less,e1,e2]
/-- what was made is read as it was -/
theorem crD_made {c:Cr} {r s:Int} {X Y x y:List Int} (h:MayR8 c) (b:∀ g∈c.gone,byt g.1) (hS:SigB r s X Y x y) (hr:isSc r) (hs:isSc s):crD (sealP false (crBody c) (bytesT (sigT x y)))=some { c with body:=bytesT (crBody c),sr:=r,ss:=s }:=by
 show crD (.mk 0 16 true [] [crBody c,algT,.mk 0 3 false (0 :: bytesT (sigT x y)) []])=_
 rw [crD_mk,if_pos ⟨⟨rfl,rfl,rfl⟩,rfl⟩,bodyCrD_made h b,bits_made]
 simp only [Option.bind_some]
 rw [sig_made hS hr hs]
 rfl
theorem fd_crBody15 {c:Cr} (h:MayR8 c):Fd 15 (crBody c):=by
 obtain ⟨-,⟨F,hF⟩,⟨T,hT⟩,-,h5⟩:=h
 unfold crBody
 rw [hF,hT]
 have k0:Fd 4 (intT 1):=(fd_leaf (by decide) (by decide)).le (by omega)
 have k1:Fd 4 algT:=(fd_list (FdL.one (fd_oid _))).le (by omega)
 have k5:FdL 4 (goneL c):=by
  unfold goneL
  split
  ·refine FdL.one ((fd_list (d:=2) (FdL.map (fun g hg=>?_))).le (by omega))
   obtain ⟨U,hU⟩:=h5 g hg
   rw [hU]
   exact fd_gone hU
  ·exact FdL.nil
 exact (fd_list (FdL.app (FdL.cons k0 (FdL.cons k1 (FdL.cons (fd_elem _) (FdL.cons ((fd_tim hF).le (by omega)) (FdL.one ((fd_tim hT).le (by omega))))))) k5)).le (by omega)
/-- a list is no longer, and no deeper, than may be -/
theorem crSeal_parse {c:Cr} {r s:Int} {X Y x y:List Int} (h:MayR8 c) (hS:SigB r s X Y x y):wrN (sealP false (crBody c) (bytesT (sigT x y)))=0∧parseP (bytesT (sealP false (crBody c) (bytesT (sigT x y))))=.ok (sealP false (crBody c) (bytesT (sigT x y))):=by
 obtain ⟨⟨l1,-,-⟩,⟨l2,-,-⟩,n1,n2⟩:=hS
 have k1:=numOf_len n1
 have k2:=numOf_len n2
 obtain ⟨sg,hsg⟩:∃ z,bytesT (sigT x y)=z:=⟨_,rfl⟩
 have hl:sg.length≤200:=by
  rw [← hsg]
  exact Nat.le_trans (sm_list (SzmL.cons (sm_leaf (n:=49) (by omega)) (SzmL.one (sm_leaf (n:=49) (by omega))))).1 (by omega)
 rw [hsg]
 have f:Fd 16 (sealP false (crBody c) sg):=(fd_list (d:=15) (FdL.app (FdL.app (FdL.one (fd_crBody15 h)) (FdL.one ((fd_list (FdL.one (fd_oid _))).le (by omega)))) (FdL.one ((fd_leaf (by decide) (by decide)).le (by omega))))).le (by omega)
 have z:Sm 10000 (sealP false (crBody c) sg):=(sm_list (SzmL.app (SzmL.app (SzmL.one (sm_crBody h)) (SzmL.one sm_alg)) (SzmL.one (sm_leaf (n:=201) (by simp;omega))))).le (by omega)
 refine ⟨?_,?_⟩
 ·unfold wrN
  rw [if_pos f.1,if_neg (by have:=f.2;omega),if_neg (by have:=z.1;omega)]
 ·have:=parse_of (T:=sealP false (crBody c) sg) (Y:=[]) f.1 f.2 (by rw [List.append_nil];have:=z.1;omega)
  rw [List.append_nil] at this
  rw [this]
  rfl
theorem wf_ser8 {n:List Int} {T:Tl} (b:byt n) (h:serT n=some T):WfT T:=by
 unfold serT at h
 split at h
 ·cases h
 cases h
 simp only [WfT,WfL]
 refine ⟨by omega,by omega,?_,trivial⟩
 cases hn:numOf n with
 | ok y=>exact numOf_byt b hn
 | error c=>exact byt_nilP
theorem wf_tim8 {v:Int} {T:Tl} (h:timT v=some T):WfT T:=by
 unfold timT at h
 cases ht:timeOf v with
 | error c=>rw [ht] at h;cases h
 | ok q =>
  obtain ⟨a,X⟩:=q
  rw [ht] at h
  cases h
  have ha:a=23∨a=24:=by
   unfold timeOf at ht
   split at ht
   ·cases ht
   ·cases ht
    unfold tagT
    split<;>omega
  simp only [WfT,WfL]
  exact ⟨by omega,by omega,(timeOf_back ht).2.1,trivial⟩
theorem wfL_app8:∀ {a b:List Tl},WfL a→WfL b→WfL (a++b)
 | [],_,_,h=>h
 | _ :: _,_,h,k=>by
  rw [WfL] at h
  rw [List.cons_append,WfL]
  exact ⟨h.1,wfL_app8 h.2 k⟩
theorem wfL_map8 {f:Gn→Tl}:∀ {L:List Gn},(∀ g∈L,WfT (f g))→WfL (L.map f)
 | [],_=>by rw [List.map_nil,WfL];trivial
 | g :: L,h=>by
  rw [List.map_cons,WfL]
  exact ⟨h g (List.mem_cons_self ..),wfL_map8 (fun x hx=>h x (List.mem_cons_of_mem _ hx))⟩
theorem wf_list8 {ks:List Tl} (h:WfL ks):WfT (listT ks):=by
 unfold listT
 rw [WfT]
 exact ⟨by omega,by omega,byt_nilP,h⟩
theorem wf_crBody {c:Cr} (h:MayR8 c) (wf:WfCr c):WfT (crBody c):=by
 obtain ⟨h1,⟨F,hF⟩,⟨T,hT⟩,-,h5⟩:=h
 unfold crBody
 rw [hF,hT]
 refine wf_list8 (wfL_app8 ?_ ?_)
 ·simp only [WfL]
  exact ⟨wf_int1,wf_alg8,wf_elem h1 wf.1,wf_tim8 hF,wf_tim8 hT,trivial⟩
 ·unfold goneL
  split
  ·simp only [WfL]
   refine ⟨wf_list8 (wfL_map8 (fun g hg=>?_)),trivial⟩
   obtain ⟨U,hU⟩:=h5 g hg
   obtain ⟨x,y,k1,k2,rfl⟩:=goneO_some hU
   rw [hU]
   refine wf_list8 ?_
   simp only [WfL]
   exact ⟨wf_ser8 (wf.2.2.2.1 g hg).1 k1,wf_tim8 k2,trivial⟩
  ·rw [WfL]
   trivial
theorem byt_crBody {c:Cr} (h:MayR8 c) (wf:WfCr c):byt (bytesT (crBody c)):=bytesT_byt (fd_crBody h).1 (wf_crBody h wf)
theorem parse_crBody {c:Cr} (h:MayR8 c):parseP (bytesT (crBody c))=.ok (crBody c):=by
 have:=parse_of (T:=crBody c) (Y:=[]) (fd_crBody h).1 (fd_crBody h).2 (by rw [List.append_nil];have:=(sm_crBody h).1;omega)
 rw [List.append_nil] at this
 rw [this]
 rfl
theorem byt_crSeal {c:Cr} {r s:Int} {X Y x y:List Int} (h:MayR8 c) (wf:WfCr c) (hS:SigB r s X Y x y):byt (bytesT (sealP false (crBody c) (bytesT (sigT x y)))):=by
 obtain ⟨⟨-,b1,-⟩,⟨-,b2,-⟩,n1,n2⟩:=hS
 have bs:=sig_byt (numOf_byt b1 n1) (numOf_byt b2 n2)
 refine bytesT_byt ?_ ?_
 ·exact (fd_list (d:=15) (FdL.app (FdL.app (FdL.one (fd_crBody15 h)) (FdL.one ((fd_list (FdL.one (fd_oid _))).le (by omega)))) (FdL.one ((fd_leaf (by decide) (by decide)).le (by omega))))).1
 ·refine wf_list8 (wfL_app8 (wfL_app8 ?_ ?_) ?_)
  ·simp only [WfL]
   exact ⟨wf_crBody h wf,trivial⟩
  ·show WfL [algT]
   simp only [WfL]
   exact ⟨wf_alg8,trivial⟩
  ·simp only [WfL,WfT]
   refine ⟨⟨by omega,by omega,fun j=>?_,trivial⟩,trivial⟩
   cases j with
   | zero=>show (0:Int)≤0∧(0:Int) < 256;omega
   | succ j=>exact bs j
end Go.Proofs.YtohcdbifhnfcbaaGreatDoor
