import Derived.Test.YtdfmoghjimghhaaGreatDoorBase
import Derived.Test.YtdfmoghjimghhaaGreatDoorRefA
import Derived.Test.YtdfmoghjimghhaaGreatDoorRows
import Derived.Deep.RegionHeld3
import Derived.Deep.OwnRows
import Derived.ArgAppend
namespace Go.Proofs.YtdfmoghjimghhaaGreatDoor
open Go.RowKit
set_option linter.unusedSimpArgs false
set_option maxRecDepth 100000
set_option maxHeartbeats 2000000
theorem Zjm (n:Nat):madeCells #[.int .u64 0] n=(us (List.replicate n 0)).toArray:=by
 apply Array.ext
 ·simp[madeCells]
 ·intro i h1 h2
  simp[madeCells,Nat.mod_one]
theorem ZmD:(Tryz.prog.info? 25).map (fun i=>(i.zero,i.size,i.bytes))=some (some (.int .u64 0),1,8):=by kernel_rfl
theorem Zn3 (b:Int):∀ (P:List Int) (k:Nat) (s:Int),k<P.length→pv b (P.set k s)=pv b P+(s-P.getD k 0)*b ^ k
 | [],k,s,h=>absurd h (by simp)
 | p::P,0,s,_=>by simp[pv];omega
 | p::P,k+1,s,h=>by
  have ih:=Zn3 b P k s (by simpa using h);rw[List.set_cons_succ,pv,pv,ih,List.getD_cons_succ,Int.pow_succ]
  grind
theorem Zn2 (S:List Int) (k j:Nat) (s:Int) (h:k≠j):(S.set k s).getD j 0=S.getD j 0:=by simp[List.getD_eq_getElem?_getD,h]
theorem Zom {S:List Int} (h:dig S) (k:Nat) (s:Int) (h0:0≤s) (h1:s<4294967296):dig (S.set k s):=by
 intro j
 by_cases hj:k=j
 ·subst hj
  by_cases hl:k<S.length
  ·rw[Za7 S k s hl];exact ⟨h0,h1⟩
  ·rw[List.set_eq_of_length_le (by omega)];exact h k
 ·rw[Zn2 _ _ _ _ hj];exact h j
theorem pvm (D:List Int) (k:Nat):v32 (D.take (k+1))=v32 (D.take k)+4294967296 ^ k*D.getD k 0:=by
 by_cases h:k<D.length
 ·exact ZbC _ D k h
 ·rw[List.take_of_length_le (by omega),List.take_of_length_le (by omega),Zbj D k (by omega)];simp
theorem Zln (R E:List Int) (k q:Nat) (V a b p r c:Int) (lR:k+q<R.length) (hp:a*b=p) (hr:R.getD (k+q) 0=r) (hb:E.getD q 0=b)
  (h:v32 R+c*4294967296 ^ (k+q)=V+a*4294967296 ^ k*v32 (E.take q)) :
  v32 (R.set (k+q) ((r+p+c)%4294967296))+(r+p+c)/4294967296*4294967296 ^ (k+(q+1))=V+a*4294967296 ^ k*v32 (E.take (q+1)):=by
 have e:=Int.mul_ediv_add_emod (r+p+c) 4294967296;rw[pvm];simp only[v32] at *;rw[Zn3 _ R _ _ lR,hr,hb,← Nat.add_assoc,Int.pow_succ];rw[Int.pow_add] at *;generalize (r+p+c)/4294967296=x at *;generalize (r+p+c)%4294967296=y at *;generalize (4294967296:Int) ^ k=u at *;generalize (4294967296:Int) ^ q=z at *;generalize pv 4294967296 R=X at *;generalize pv 4294967296 (E.take q)=Y at *;have e2:y=r+p+c-4294967296*x:=by omega
 subst e2;have e3:X=V+a*u*Y-c*(u*z):=by omega
 subst e3;subst hp
 grind
theorem Znq (R D E:List Int) (k q:Nat) (V a:Int) (hq:E.length≤q) (ha:D.getD k 0=a) (hV:V=v32 (D.take k)*v32 E)
  (h:v32 R+0*4294967296 ^ (k+q)=V+a*4294967296 ^ k*v32 (E.take q)):v32 R=v32 (D.take (k+1))*v32 E:=by
 rw[List.take_of_length_le hq] at h;rw[pvm,ha];subst hV;generalize (4294967296:Int) ^ k=z at *;generalize v32 (D.take k)=X at *;generalize v32 E=Y at *
 grind
theorem Zmr (a b:Int) (ha0:0≤a) (ha:a<4294967296) (hb0:0≤b) (hb:b<4294967296):0≤a*b∧a*b≤18446744065119617025:=by
 refine⟨Int.mul_nonneg ha0 hb0,?_⟩;have:=Int.mul_le_mul (show a≤4294967295 by omega) (show b≤4294967295 by omega) hb0 (by decide);omega
theorem Ziz (u v:Value) (X Y:Int) (w:World) (hu:ZaG w u X) (hv:ZaG w v Y) (hX:X<4294967296 ^ 30) (hY:Y<4294967296 ^ 30) :
  Calls Tryz.prog 181 #[u,v] w fun e w'=>∃ v',e=.returned v'∧ZaG w' v' (X*Y)∧Below w.heap.size w w':=by
 obtain⟨D,sD,dD,tD,rfl⟩:=hu;obtain ⟨E,sE,dE,tE,rfl⟩:=hv;have lD:D.length≤30:=ZdL D dD tD 30 hX;have lE:E.length≤30:=ZdL E dE tE 30 hY;clear hX hY tD tE;obtain ⟨Z,hZ⟩:∃ Z,v32 D*v32 E=Z:=⟨_,rfl⟩;rw[hZ];have hZ':Hid (v32 D*v32 E=Z):=hZ;clear hZ;obtain ⟨ao,c1,rfl,m1,k1,f1⟩:=sD.form;obtain ⟨bo,c2,rfl,-,k2,-⟩:=sE.form;obtain ⟨l,hl⟩:∃ l,D.length=l:=⟨_,rfl⟩;obtain ⟨m,hm⟩:∃ m,E.length=m:=⟨_,rfl⟩;rw[hl] at f1 lD ⊢;rw[hm] at sE lE ⊢;have HL:Hid (D.length=l∧E.length=m):=⟨hl,hm⟩;unfold maxLen at m1;clear k1 k2 hl hm sD;have hmk:=run_make_row' 118 25 (.int .u64 0) 8 Tryz.underlying118 ZmD rfl .i64 .i64 (l+m+1) (by omega) (by omega);rw[Zjm] at hmk;have ec:((l+m+1:Nat):Int)=(l:Int)+(m:Int)+1:=by omega
 rw[ec] at hmk;have B0:=Blk.new w (us (List.replicate (l+m+1) 0)) 25 w.heap.size rfl;have bel0:=bal w (.cells (us (List.replicate (l+m+1) 0)).toArray 25);generalize (us (List.replicate (l+m+1) 0)).toArray=cs at hmk B0 bel0;go_enter Tryz.func181,Tryz.ntmps181;go_wp2;clear hmk ec;generalize w.alloc (.cells cs 25)=W at *;go_loopw [6] (fun i wr=>∃ (k:Nat) (P:List Int),k≤l∧i=.int .i64 k∧P.length=l+m+1∧dig P∧Hid (v32 P=v32 (D.take k)*v32 E)∧Hid (∀ j,k+m≤j→P.getD j 0=0)∧Blk wr w.heap.size (us P)∧Below w.heap.size w wr)
  (fun i _=>l-(intOf i).toNat)
 case atStart=>exact ⟨0,List.replicate (l+m+1) 0,by omega,rfl,by simp,fun j=>(by rw[ZeC];decide),by show _=_;rw[v32,ZhM _ _ (ZeC _)];simp[pv],fun j _=>ZeC _ _,B0,bel0⟩
 case round =>
  obtain⟨k,P,hk,rfl,lP,dP,hv,hz,hSP,hbel⟩:=hrel;clear B0 bel0
  by_cases hlt:k<l
  ·obtain ⟨b1,rfl,hb1,hc1⟩:=f1 (by omega)
   clear f1;obtain ⟨a,hA⟩:∃ a,D.getD k 0=a:=⟨_,rfl⟩;have hax:0≤a∧a<4294967296:=hA ▸ dD k;have xa0:=hc1 k hlt;rw[hA] at xa0;obtain ⟨V,hV⟩:∃ V,V=v32 (D.take k)*v32 E:=⟨_,rfl⟩;have HV:Hid _:=hV;have HA:Hid _:=hA;rw[← hV] at hv;clear hV hA hc1;have h1:(k:Int)<(l:Int):=by omega
   go_wp2;obtain ⟨wo,hwo⟩:∃ wo:World,wo=wr:=⟨_,rfl⟩;go_loopw [7,8] (fun cv j wq=>∃ (q:Nat) (c:Int) (R:List Int),j=.int .i64 q∧cv=.int .u64 c∧0≤c∧c<4294967296∧R.length=l+m+1∧dig R∧Hid (v32 R+c*4294967296 ^ (k+q)=V+a*4294967296 ^ k*v32 (E.take q))∧(q≤m∨(q=m+1∧c=0))∧Hid (∀ j,k+m≤j→k+q≤j→R.getD j 0=0)∧Blk wq w.heap.size (us R)∧Below w.heap.size w wq)
    (fun _ j _=>m+2-(intOf j).toNat)
   case atStart=>exact ⟨0,0,P,rfl,rfl,by omega,by omega,lP,dP,by show _=_;rw[hv.out];simp[v32,pv],by omega,fun j hj _=>hz.out j hj,hSP,hbel⟩
   case round =>
    obtain⟨q,c,R,rfl,rfl,hc0,hc1,lR,dR,hr,hqc,hzr,hTP,hbelr⟩:=hrel;clear hSP hbel hwo hv
    by_cases hgo:q<m∨0<c
    ·obtain ⟨b,hB⟩:∃ b,E.getD q 0=b:=⟨_,rfl⟩
     have hbx:0≤b∧b<4294967296:=hB ▸ dE q;have hqm:q≤m:=by omega
     obtain⟨r,hR⟩:∃ r,R.getD (k+q) 0=r:=⟨_,rfl⟩;have hrx:0≤r∧r<4294967296:=hR ▸ dR (k+q);have pb:=Zmr a b hax.1 hax.2 hbx.1 hbx.2;obtain ⟨p,hp⟩:∃ p,a*b=p:=⟨_,rfl⟩;rw[hp] at pb;have st:Hid _:=Zln R E k q V a b p r c (by omega) hp hR hB hr.out;have xr:=hTP.cell (k+q) _ (ZaO R (k+q) (by omega));rw[hR] at xr;have hf:=hTP.frozen (k+q);have xa:=(hbelr.cell (p:=⟨b1,k,none⟩) hb1).trans xa0;have sE':Sl wr.drew (.slice bo m c2) E:=sE.later hbelr.drew;have hN0:¬ q<m→b=0:=fun h=>by rw[← hB];exact Zbj E q (by rw[HL.out.2];omega)
     have hN1:¬ q<m→r=0:=fun h=>by rw[← hR];exact hzr.out _ (by omega) (by omega)
     have hp0:¬ q<m→p=0:=fun h=>by rw[← hp,hN0 h];simp
     have nx:Hid (q+1≤m∨(q+1=m+1∧(r+p+c)/4294967296=0)):=by
      show _∨_
      by_cases h:q<m
      ·exact .inl h
      ·have:=hN1 h
       have:=hp0 h;omega
     have p0:=pb.1;have p1:=pb.2;have r0:=hrx.1;have r1:=hrx.2;have w1:IntKind.u64.wrap p=p:=by rw[IntKind.wrap_u64];omega
     have w2:IntKind.u64.wrap (r+p)=r+p:=by rw[IntKind.wrap_u64];omega
     have w3:IntKind.u64.wrap (r+p+c)=r+p+c:=by rw[IntKind.wrap_u64];omega
     have g3:(0:Int)≤(k:Int):=by omega
     have g4:IntKind.i64.wrap ((k:Int)+(q:Int))=(k:Int)+(q:Int):=by rw[IntKind.wrap_i64];omega
     have g5:(0:Int)≤(k:Int)+(q:Int):=by omega
     have g6:(k:Int)+(q:Int)<(l:Int)+(m:Int)+1:=by omega
     have g7:((k:Int)+(q:Int)).toNat=k+q:=by omega
     have g8:(k:Int)+(q:Int)<((l+m+1:Nat):Int):=by omega
     have gd:(q:Int)<(m:Int)∨(¬ (q:Int)<(m:Int)∧0<c):=by omega
     clear hR hN0 hN1 hp0 hr pb hrx hgo;rcases gd with g1|⟨g1,g2⟩
     all_goals
      go_wp2;go_region_held3 (fun w'=>w'.cell? ⟨w.heap.size,k+q,none⟩=some (.int .u64 r)∧w'.cell? ⟨b1,k,none⟩=some (.int .u64 a)) (first|exact ⟨xr,xa⟩|(go_split_ands;refine ⟨?_,?_⟩<;>assumption))
       ((go_at_call 131;refine (Zfm _ E q _ (sE')).mono ?_;rintro e w' ⟨rfl,hw⟩;obtain rfl:=hw.symm;rw[hB]))
      go_wp2;go_roundw
      case rel=>exact ⟨q+1,_,R.set (k+q) ((r+p+c)%4294967296),by go_num,rfl,by omega,by omega,by simpa using lR,Zom dR _ _ (by omega) (by omega),st,nx.out,fun j hj hj2=>(by rw[Zn2 _ _ _ _ (by omega)];exact hzr.out j hj (by omega)),(hTP.setu _ _).drew,(hbelr.setCell (by simp) _).drew⟩
      case measure=>simp[intOf];omega
    ·have hq:m≤q:=by omega
     have hc:c=0:=by omega
     have g1:¬ (q:Int)<(m:Int):=by omega
     have g2:¬ 0<c:=by omega
     have st:Hid (v32 R=v32 (D.take (k+1))*v32 E):=by
      have:=hr.out;rw[hc] at this;exact Znq R D E k q V a (by rw[HL.out.2];exact hq) HA.out HV.out this
     clear hr;go_wp2;go_roundw
     case rel=>exact ⟨k+1,R,by omega,by go_num,lR,dR,st,fun j hj=>hzr.out j (by omega) (by omega),hTP,hbelr⟩
     case measure=>simp[intOf];omega
  ·have h6:(l:Int)≤(k:Int):=by omega
   have hN:Hid (v32 P=Z):=by
    have:=hv.out;rw[List.take_of_length_le (by rw[HL.out.1];omega),hZ'.out] at this;exact this
   clear hv;have hSl:Sl wr (.slice (some ⟨w.heap.size,0,none⟩) (l+m+1) (l+m+1)) P:=.inr ⟨w.heap.size,l+m+1,by rw[lP],by omega,by unfold maxLen;omega,hSP.lt,fun j hj=>hSP.cell j _ (ZaO P j hj)⟩;go_wp2_with fail;refine (Zd3 _ P _ hSl).mono ?_;rintro e w' ⟨v',rfl,ht,hw⟩;obtain rfl:=hw.symm;have hQ:=ht.num dP;rw[hN.out] at hQ;go_wp2_with fail;go_ret;exact ⟨v',rfl,hQ,hbel⟩
theorem ZoM:(18446744073709551616:Int) ^ 6=4294967296 ^ 12:=by
 rw[show (18446744073709551616:Int)=4294967296 ^ 2 by decide,← Int.pow_mul]
theorem ZoE (w:World):ZaG w (.slice none 0 0) 0:=⟨[],.inl ⟨rfl,rfl⟩,ZfX,by simp[trd],rfl⟩
theorem Zkh {D:List Int} (hd:dig D) (h:D.length≤12):v32 D%18446744073709551616 ^ 6=v32 D∧v32 D/18446744073709551616 ^ 6=0:=by
 have b:=ZbL D hd;have p:=Zei D.length 12 h;rw[ZoM];exact ⟨Int.emod_eq_of_lt b.1 (by omega),Int.ediv_eq_zero_of_lt b.1 (by omega)⟩
theorem Zml {D:List Int} (hd:dig D) (h:12≤D.length):v32 (D.take 12)=v32 D%18446744073709551616 ^ 6∧v32 (D.drop 12)=v32 D/18446744073709551616 ^ 6:=by
 have e:v32 D=v32 (D.take 12)+4294967296 ^ 12*v32 (D.drop 12):=by
  have:=Zde 4294967296 (D.take 12) (D.drop 12);rw[List.take_append_drop,List.length_take,Nat.min_eq_left h] at this;exact this
 have b:=ZbL (D.take 12) (Zdk hd 12);rw[List.length_take,Nat.min_eq_left h] at b;rw[ZoM,e];have p:=ZcF 12;generalize (4294967296:Int) ^ 12=R at *;generalize v32 (D.take 12)=x at *;generalize v32 (D.drop 12)=y at *;constructor
 ·rw[Int.add_mul_emod_self_left,Int.emod_eq_of_lt b.1 b.2]
 ·rw[Int.add_mul_ediv_left _ _ (by omega),Int.ediv_eq_zero_of_lt b.1 b.2];omega
theorem Zms {D:List Int} (h:dig D) (n:Nat):dig (D.drop n):=by
 intro j;have:(D.drop n).getD j 0=D.getD (n+j) 0:=by simp[List.getD_eq_getElem?_getD]
 rw[this];exact h _
theorem Zmt {D:List Int} (h:trd D) (n:Nat) (hl:n<D.length):trd (D.drop n):=by
 intro h0;have e:(D.drop n).getD ((D.drop n).length-1) 0=D.getD (D.length-1) 0:=by
  simp only[List.getD_eq_getElem?_getD,List.getElem?_drop,List.length_drop]
  congr 2;omega
 rw[e];exact h (by omega)
theorem ZiJ {P:Program} {w:World} {ops:Array Oper} {o:Oper} {a:Act} {K:Act→World→Prop} {Q:Exit→Act→World→Prop} {E:Prop} (hgd:o.guard=none) (s x:Operand) (t:TypeId)
  (ho:o.op=.call { callee:=.builtin .append,args:=#[s,x],argTypes:=#[t,t] })
  (e:TypeId) (i:TypeInfo) (z:Value) (ht:P.underlying t=some (.slice e)) (hi:P.info? e=some i) (hz:i.zero=some z) (hsize:i.size=1) (hby:i.bytes=8) (hzs:z.cells.size=1)
  (b:Addr) (hs:a.eval s=.slice (some b) 0 0) (ad:Addr) (m c:Nat) (news:List Value) (hx:a.eval x=.slice (some ad) m c) (hl:news.length=m) (hnews:∀ j u,news[j]?=some u→w.cell? (ad.add j)=some u) (hm:0<m) (hm2:m≤100)
  (h:∀ v' w',w'.ownsRow w.heap.size e 1 v' m news→Below w.heap.size w w'→K (a.put o.dst v') w') :
  if Region.wanted o (yielded ops a.tmps)=true then Oper.wp P o a w K Q else E:=by
 have hw:Region.wanted o (yielded ops a.tmps)=true:=by simp[Region.wanted,hgd]
 rw[if_pos hw];obtain ⟨v',w',hrun,r1,r2⟩:=run_append_arg_grows (P:=P) w t o.type e i z 1 8 ht hi hz hsize hby hzs (by omega) b 0 0 [] rfl (by simp) ad m c news (by omega) hnews (by omega) (by unfold maxLen;omega) (by omega);unfold Oper.wp;simp[execOp,ho,resolve,invoke,builtin,hs,hx,hrun,Result.andThen];refine h v' w' (by simpa using r1) (Below.grown (Below.refl _ _) r2 (Nat.le_refl _) (fun k hk=>by cases hk))
theorem Zg8 {w wx:World} {b o m:Nat} {D N:List Int} (hc:∀ j,j<D.length→w.cell? ⟨b,j,none⟩=some (.int .u64 (D.getD j 0))) (hb:b<w.heap.size) (bel:Below w.heap.size w wx) (hm:N.length=m) (hN:∀ j,j<m→o+j<D.length∧N.getD j 0=D.getD (o+j) 0) :
  ∀ j u,(us N)[j]?=some u→wx.cell? ((⟨b,o,none⟩:Addr).add j)=some u:=by
 intro j u hu;have hj:j<N.length:=by
  have:=(List.getElem?_eq_some_iff.1 hu).1
  simpa using this
 rw[ZaO N j hj] at hu
 injection hu with hu
 rw[Addr.add_mid,bel.cell hb,hc (o+j) (hN j (by omega)).1,← hu,(hN j (by omega)).2]
theorem Zkg (v:Value) (X:Int) (w:World) (hv:ZaG w v X) (hX:X<4294967296 ^ 30) :
    Calls Tryz.prog 240 #[v] w fun e w'=>∃ lo hi,e=.returned (.tuple #[lo,hi])∧ZaG w' lo (X%18446744073709551616 ^ 6)∧ZaG w' hi (X/18446744073709551616 ^ 6)∧Below w.heap.size w w':=by
  obtain⟨D,sD,dD,tD,rfl⟩:=hv;have lD:D.length≤30:=ZdL D dD tD 30 hX;clear hX
  by_cases h12:D.length≤12
  · obtain ⟨e1,e2⟩:=Zkh dD h12
    have N1:Hid (ZaG w v (v32 D%18446744073709551616 ^ 6)):=by show ZaG _ _ _;rw[e1];exact ⟨D,sD,dD,tD,rfl⟩
    have N2:Hid (ZaG w (.slice none 0 0) (v32 D/18446744073709551616 ^ 6)):=by show ZaG _ _ _;rw[e2];exact ZoE w
    clear e1 e2;obtain ⟨ao,c1,rfl,m1,k1,-⟩:=sD.form;obtain ⟨l,hl⟩:∃ l,D.length=l:=⟨_,rfl⟩;rw[hl] at N1 h12 ⊢;clear hl k1 lD;have g1:(l:Int)≤12:=by omega
    go_enter Tryz.func240,Tryz.ntmps240;go_wp2;go_ret2;exact ⟨_,_,rfl,N1.out,N2.out,Below.refl _ _⟩
  · obtain ⟨i0,hi0,hz0,hz1,hz2⟩:=info_parts Zf0
    obtain⟨e1,e2⟩:=Zml dD (by omega);have E1:Hid _:=e1;have E2:Hid _:=e2;clear e1 e2;rcases sD with ⟨rfl,rfl⟩|⟨b,cap,rfl,h2,h3,h4,h5⟩
    · exact absurd (Nat.zero_le 12) h12
    · have HC:Hid (∀ j,j<D.length→w.cell? ⟨b,j,none⟩=some (.int .u64 (D.getD j 0))):=h5
      have h3':=h3;unfold maxLen at h3';obtain ⟨l,hl⟩:∃ l,D.length=l:=⟨_,rfl⟩;have HL:Hid _:=hl;rw[hl] at h2 h12 lD ⊢;clear hl h5;have g1:¬ (l:Int)≤12:=by omega
      have g2:(12:Int)≤(l:Int):=by omega
      have g3:(12:Int)≤(cap:Int):=by omega
      have g4:(l:Int)≤(cap:Int):=by omega
      go_enter Tryz.func240,Tryz.ntmps240;go_wp2;have d1:dig (D.take 12):=Zdk dD 12;have d2:dig (D.drop 12):=Zms dD 12;have t2:trd (D.drop 12):=Zmt tD 12 (by rw[HL.out];omega);have l1:(D.take 12).length=12:=by rw[List.length_take,HL.out];omega
      have l2:(D.drop 12).length=l-12:=by rw[List.length_drop,HL.out]
      have c1:Hid (∀ wx,Below w.heap.size w wx→∀ j u,(us (D.take 12))[j]?=some u→wx.cell? ((⟨b,0,none⟩:Addr).add j)=some u):=fun wx hx=>Zg8 HC.out h4 hx l1 (fun j hj=>⟨by rw[HL.out];omega,by simp[List.getD_eq_getElem?_getD,hj]⟩);have c2:Hid (∀ wx,Below w.heap.size w wx→∀ j u,(us (D.drop 12))[j]?=some u→wx.cell? ((⟨b,12,none⟩:Addr).add j)=some u):=fun wx hx=>Zg8 HC.out h4 hx l2 (fun j hj=>⟨by rw[HL.out];omega,by simp[List.getD_eq_getElem?_getD]⟩);have L1:Hid _:=l1;have L2:Hid _:=l2;clear l1 l2;go_region_held3 (fun wx=>Below w.heap.size w wx)
        (first
          | with_reducible exact Zaa (by assumption) hb
          | with_reducible exact Zaf (by assumption)
          | with_reducible assumption
          | exact Below.drew (Below.refl _ _)
          | exact Below.drew (Zaf (Below.refl _ _))
          | exact Below.drew (Zaf (Zaf (Below.refl _ _))))
        (first
          | (refine ZiJ (by rfl) _ _ _ (by rfl) 25 i0 _ Tryz.underlying118 hi0 hz0 hz1 hz2 (by rfl) _ (by rfl) ⟨b,0,none⟩ 12 _ (us (D.take 12)) (by rfl) (by rw[List.length_map];exact L1.out) (c1.out _ (by assumption)) (by omega) (by omega) ?_;intro vA wA hown hb;have SA:=Sl.of_own hown;clear hown;(first|replace SB:=SB.later hb|replace SB:=(SB.alloc _).later hb|skip))
          | (refine ZiJ (by rfl) _ _ _ (by rfl) 25 i0 _ Tryz.underlying118 hi0 hz0 hz1 hz2 (by rfl) _ (by rfl) ⟨b,12,none⟩ (l-12) _ (us (D.drop 12)) (by rfl) (by rw[List.length_map];exact L2.out) (c2.out _ (by assumption)) (by omega) (by omega) ?_;intro vB wB hown hb;have SB:=Sl.of_own hown;clear hown;(first|replace SA:=SA.later hb|replace SA:=(SA.alloc _).later hb|skip);(first|replace NA:=NA.later hb|replace NA:=(NA.alloc _).later hb|skip))
          | (go_at_call 185;refine (Zd3 _ (D.take 12) _ (by first|exact SA|exact SA.alloc _)).mono ?_;rintro e w' ⟨v',rfl,ht,hw⟩;obtain rfl:=hw.symm;have NA:=ht.num d1;clear ht hw))
      all_goals go_wp2
      all_goals go_ret2
      all_goals exact ⟨_,_,rfl,by rw[← E1.out];exact NA,by rw[← E2.out];exact ⟨_,SB,d2,t2,rfl⟩,by assumption⟩
def Zm1 (w:World):Value→Nat
 | .slice (some a) n _=>(v32 ((List.range n).map fun j=>intOf ((w.cell? ⟨a.block,j,none⟩).getD undef))).toNat
 | _=>0
theorem Zeh {w:World} {v:Value} {N:Int} (h:ZaG w v N):Zm1 w v=N.toNat:=by
 obtain⟨D,s,-,-,rfl⟩:=h;rcases s with ⟨rfl,rfl⟩|⟨b,cap,rfl,h2,h3,h4,h5⟩
 ·rfl
 ·show (v32 ((List.range D.length).map fun j=>intOf ((w.cell? ⟨b,j,none⟩).getD undef))).toNat=_
  congr 2
  apply List.ext_getElem?;intro j
  by_cases hj:j<D.length
  ·rw[List.getElem?_map,List.getElem?_range hj,Option.map_some,h5 j hj,List.getElem?_eq_getElem hj]
   simp[intOf,List.getD_eq_getElem?_getD,hj]
  ·rw[List.getElem?_eq_none (by simp;omega),List.getElem?_eq_none (by omega)]
theorem ZaG.nonneg {w:World} {v:Value} {N:Int} (h:ZaG w v N):0≤N:=by
 obtain⟨D,-,d,-,rfl⟩:=h;exact (ZbL D d).1
theorem Zli {R M c L H X:Int} (hc:c=R-M) (h:(L+H*R)%M=X%M):(L+H*c)%M=X%M:=by
 rw[← h,hc,show L+H*R=L+H*(R-M)+H*M by rw[Int.mul_sub];omega,Int.add_mul_emod_self_right]
theorem Zlg {R c L H:Int} (hc:c<R) (hH:0<H):L+H*c<L+H*R:=by
 have:=Int.mul_lt_mul_of_pos_left hc hH;omega
theorem ZeX (N R:Int):N%R+N/R*R=N:=by
 have:=Int.mul_ediv_add_emod N R;rw[Int.mul_comm] at this;omega
theorem Zov {R L H B:Int} (hR:1≤R) (hL:0≤L) (hH:0≤H) (h:L+H*R<B):H<B:=by
 have:=Int.mul_le_mul_of_nonneg_left hR hH;omega
theorem ZoN {R c L H B:Int} (hL:0≤L) (hH:0≤H) (hc:c≤R) (h:L+H*R<B):L+H*c<B∧H*c<B:=by
 have:=Int.mul_le_mul_of_nonneg_left hc hH;omega
theorem R_lt:(18446744073709551616:Int) ^ 6<4294967296 ^ 30:=by
 rw[ZoM]
 decide
theorem ZlZ:(1:Int)≤18446744073709551616 ^ 6:=by decide
theorem Zhx {X Y:Int} (h:X<Y):Zeq X Y<0:=by
 unfold Zeq;rw[if_pos h];decide
theorem Zhw {X Y:Int} (h:¬ X<Y):0≤Zeq X Y:=by
 unfold Zeq;rw[if_neg h];split<;>decide
theorem Zlq (u v:Value) (X M:Int) (w:World) (hu:ZaG w u X) (hv:ZaG w v M) (hX:X<4294967296 ^ 30) (hM1:0<M) (hM2:M<18446744073709551616 ^ 6) :
  Calls Tryz.prog 215 #[u,v] w fun e w'=>∃ v',e=.returned v'∧ZaG w' v' (X%M)∧Below w.heap.size w w':=by
 have HX:Hid _:=hX;have H1:Hid _:=hM1;have H2:Hid _:=hM2;obtain ⟨R,hR⟩:∃ R:Int,R=18446744073709551616 ^ 6:=⟨_,rfl⟩;have HR:Hid _:=hR;clear hX hM1 hM2 hR;go_enter Tryz.func215,Tryz.ntmps215;go_wp2_with fail;refine (Zo7 _).mono ?_;rintro e w1 ⟨vt,rfl,hNt,hb⟩;replace hu:=hu.later hb;replace hv:=hv.later hb;have bel:=hb;clear hb;go_wp2_with fail;refine (Zgf _ _ _ _ _ hNt hv R_lt (Int.le_of_lt H2.out)).mono ?_;rintro e w2 ⟨vc,rfl,hNc,hb⟩;replace hu:=hu.later hb;replace hv:=hv.later hb;replace bel:=Zaa bel hb;clear hb hNt;go_wp2_with fail;refine (Zkg _ _ _ hu HX.out).mono ?_;rintro e w3 ⟨lo,hi,rfl,hNl,hNh,hb⟩;replace hv:=hv.later hb;replace hNc:=hNc.later hb;replace bel:=Zaa bel hb;have X0:Hid _:=hu.nonneg;clear hb hu;rw[← HR.out] at hNc hNl hNh;go_wp2_with fail;go_loopw [6,7] (fun lo hi wr=>∃ L H:Int,ZaG wr lo L∧ZaG wr hi H∧Hid (0≤L∧L<R∧0≤H∧L+H*R<4294967296 ^ 30∧(L+H*R)%M=X%M)∧ZaG wr vc (R-M)∧ZaG wr v M∧Below w.heap.size w wr)
  (fun lo hi wr=>Zm1 wr lo+Zm1 wr hi*R.toNat)
 case atStart =>
  have r1:0<R:=by rw[HR.out];have:=ZlZ;omega
  have e:=ZeX X R;exact ⟨X%R,X/R,hNl,hNh,⟨Int.emod_nonneg _ (by omega),Int.emod_lt_of_pos _ r1,Int.ediv_nonneg X0.out (by omega),by rw[e];exact HX.out,by rw[e]⟩,hNc,hv,bel⟩
 case round =>
  clear hNl hNh hNc hv bel;obtain ⟨L,H,hNl,hNh,HI,hNc,hv,bel⟩:=hrel;have hNh':=hNh;obtain ⟨DH,sH,dH,tH,hH⟩:=hNh';obtain ⟨ao,cap,hf,m1,k1,-⟩:=sH.form;obtain ⟨l,hl⟩:∃ l,DH.length=l:=⟨_,rfl⟩;rw[hl] at hf;unfold maxLen at m1;have lcap:l≤9223372036854775807:=by omega
  by_cases h0:l=0
  ·have hH0:H=0:=by
    have:DH=[]:=List.eq_nil_of_length_eq_zero (by omega);rw[← hH,this];rfl
   have HI2:Hid (0≤L∧L<R∧L%M=X%M):=by
    obtain⟨a1,a2,a3,a4,a5⟩:=HI.out;rw[hH0] at a5;exact ⟨a1,a2,by simpa using a5⟩
   subst hf;subst h0;clear hH hl k1 m1 lcap hNh sH dH tH HI hH0 hNc;go_wp2_with fail;go_loopw [6] (fun lo wq=>∃ L:Int,ZaG wq lo L∧Hid (0≤L∧L<R∧L%M=X%M)∧ZaG wq v M∧Below w.heap.size w wq) (fun lo wq=>Zm1 wq lo)
   case atStart=>exact ⟨L,hNl,HI2,hv,bel⟩
   case round =>
    clear hNl hv bel HI2;obtain ⟨L2,hN2,HI3,hv2,bel2⟩:=hrel;have HM0:Hid _:=Zeh hN2;go_wp2_with fail;refine (ZfV _ _ _ _ _ hN2 hv2).mono ?_;rintro e w4 ⟨rfl,hb⟩;replace hN2:=hN2.later hb;replace hv2:=hv2.later hb;replace bel2:=Zaa bel2 hb;clear hb
    by_cases hlt:L2<M
    ·have HE:Hid (L2=X%M):=by
      obtain⟨a1,a2,a3⟩:=HI3.out;show _=_;rw[← a3,Int.emod_eq_of_lt a1 hlt]
     have hc:=Zhx hlt;obtain ⟨c,hcc⟩:∃ c,Zeq L2 M=c:=⟨_,rfl⟩;rw[hcc] at hc ⊢;have hcd:decide (0≤c)=false:=decide_eq_false (by omega);have hcn:¬ 0≤c:=by omega
     clear hcc hlt;go_wp2_with fail;go_ret;exact ⟨_,rfl,by rw[← HE.out];exact hN2,bel2⟩
    ·have hc:=Zhw hlt
     obtain⟨c,hcc⟩:∃ c,Zeq L2 M=c:=⟨_,rfl⟩;rw[hcc] at hc ⊢;have hcd:decide (0≤c)=true:=decide_eq_true hc;clear hcc;have HB:Hid (L2<4294967296 ^ 30):=by
      have:=HI3.out.2.1;have r:=R_lt;rw[← HR.out] at r;show _<_;omega
     have HLM:Hid (M≤L2):=by show _≤_;omega
     clear hlt;go_wp2_with fail;refine (Zgf _ _ _ _ _ hN2 hv2 HB.out HLM.out).mono ?_;rintro e w5 ⟨v5,rfl,hN5,hb⟩;replace hv2:=hv2.later hb;replace bel2:=Zaa bel2 hb;clear hb;go_wp2_with fail;go_roundw
     case rel=>exact ⟨L2-M,hN5,⟨by have:=HLM.out;omega,by have:=HI3.out.2.1;have:=H1.out;omega,by rw[Int.sub_emod_right];exact HI3.out.2.2⟩,hv2,bel2⟩
     case measure =>
      have h5:=Zeh hN5;have h6:=HM0.out;have:=H1.out;have:=HLM.out;simp only[h5];show (L2-M).toNat<Zm1 _ _;rw[h6];omega
  ·have H0:0<H:=by
    have:=Zfb DH dH tH (by omega);have p:=ZcF (DH.length-1);rw[← hH];omega
   subst hf;clear sH dH tH k1 m1 hl hH;have HM0:Hid _:=Zeh hNl;have HM1:Hid _:=Zeh hNh;have HP:Hid (0<H∧L+H*(R-M)<4294967296 ^ 30∧H*(R-M)<4294967296 ^ 30∧H<4294967296 ^ 30∧L<4294967296 ^ 30∧R-M<4294967296 ^ 30∧0≤R-M∧R-M<R∧(L+H*(R-M))%M=X%M):=by
    obtain⟨a1,a2,a3,a4,a5⟩:=HI.out;have r:=R_lt;have r1:=ZlZ;have m2:=H2.out;have m1:=H1.out;rw[← HR.out] at r r1 m2;have:=ZoN (c:=R-M) a1 a3 (by omega) a4;have:=Zov r1 a1 a3 a4;exact ⟨H0,by omega,by omega,by omega,by omega,by omega,by omega,by omega,Zli rfl a5⟩
   clear H0;have g1:(0:Int)<(l:Int):=by omega
   clear h0;go_wp2_with fail;refine (Ziz _ _ _ _ _ hNh hNc HP.out.2.2.2.1 HP.out.2.2.2.2.2.1).mono ?_;rintro e w4 ⟨v4,rfl,hN4,hb⟩;replace hNl:=hNl.later hb;replace hNc:=hNc.later hb;replace hv:=hv.later hb;replace bel:=Zaa bel hb;clear hb hNh;go_wp2_with fail;refine (Zge _ _ _ _ _ hNl hN4 HP.out.2.2.2.2.1 HP.out.2.2.1).mono ?_;rintro e w5 ⟨v5,rfl,hN5,hb⟩;replace hNc:=hNc.later hb;replace hv:=hv.later hb;replace bel:=Zaa bel hb;clear hb hNl hN4;go_wp2_with fail;refine (Zkg _ _ _ hN5 HP.out.2.1).mono ?_;rintro e w6 ⟨lo6,hi6,rfl,hN6,hN7,hb⟩;replace hNc:=hNc.later hb;replace hv:=hv.later hb;replace bel:=Zaa bel hb;have N0:Hid _:=hN5.nonneg;rw[← HR.out] at hN6 hN7;clear hb hN5;go_wp2_with fail;go_roundw
   case rel =>
    have r1:0<R:=by rw[HR.out];have:=ZlZ;omega
    have e:=ZeX (L+H*(R-M)) R;exact ⟨_,_,hN6,hN7,⟨Int.emod_nonneg _ (by omega),Int.emod_lt_of_pos _ r1,Int.ediv_nonneg N0.out (by omega),by rw[e];exact HP.out.2.1,by rw[e];exact HP.out.2.2.2.2.2.2.2.2⟩,hNc,hv,bel⟩
   case measure =>
    have r1:0<R:=by rw[HR.out];have:=ZlZ;omega
    have e:=ZeX (L+H*(R-M)) R;have h6:=Zeh hN6;have h7:=Zeh hN7;have h8:=HM0.out;have h9:=HM1.out;have a:=HI.out;have lt:=Zlg (L:=L) HP.out.2.2.2.2.2.2.2.1 HP.out.1;have q1:=Int.emod_nonneg (L+H*(R-M)) (show R≠0 by omega);have q2:0≤(L+H*(R-M))/R:=Int.ediv_nonneg N0.out (by omega);show Zm1 _ _+Zm1 _ _*R.toNat<Zm1 _ _+Zm1 _ _*R.toNat;rw[h6,h7,h8,h9];generalize (L+H*(R-M))%R=A at *;generalize (L+H*(R-M))/R=B at *;have k1:((A.toNat+B.toNat*R.toNat:Nat):Int)=A+B*R:=by
     rw[Int.natCast_add,Int.natCast_mul,Int.toNat_of_nonneg q1,Int.toNat_of_nonneg q2,Int.toNat_of_nonneg (by omega)]
    have k2:((L.toNat+H.toNat*R.toNat:Nat):Int)=L+H*R:=by
     rw[Int.natCast_add,Int.natCast_mul,Int.toNat_of_nonneg a.1,Int.toNat_of_nonneg a.2.2.1,Int.toNat_of_nonneg (by omega)]
    omega
end Go.Proofs.YtdfmoghjimghhaaGreatDoor
