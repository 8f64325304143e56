import Derived.Test.YtdfmoghjimghhaaGreatDoorBase
import Derived.Test.YtdfmoghjimghhaaGreatDoorRefA
import Derived.Test.YtdfmoghjimghhaaGreatDoorRefB
import Derived.Test.YtdfmoghjimghhaaGreatDoorRows
import Derived.Laws.StructEq
import Derived.Deep.FieldsWide
import Derived.Lib.LaidTab
import Derived.Stop.LaidErr
import Derived.LaidMore
import Derived.ProofKit
import Derived.Deep.WholeRow
import Derived.Deep.RegionHeld3
import Derived.Deep.DeepCutAuto
import Derived.Deep.DeepFit
namespace Go.Proofs.YtdfmoghjimghhaaGreatDoor
open Go.RowKit
open Go.ChangeShapes Go.WideShapes Go.ChangeAt Go.RowKit Go.Deep
open Go.ChangeShapes Go.WideShapes Go.ChangeAt Go.RowKit
set_option linter.unusedSimpArgs false
set_option maxRecDepth 100000
set_option maxHeartbeats 2000000
structure Zfh (M:List Int) (i:Int) (T:List Int):Prop where
 lM:M.length=6
 fM:Zaz M
 lT:T.length=6
 fT:Zaz T
 i0:0≤i
 i1:i<18446744073709551616
 inv:(i*M.getD 0 0)%18446744073709551616=18446744073709551615
 big:18446744073709551616 ^ 6≤2*v64 M
 odd:v64 M%2=1
 two:v64 T=(18446744073709551616 ^ 6*18446744073709551616 ^ 6)%v64 M
theorem ZaN (A:List Int) (l:A.length=6) (h:Zaz A):0≤v64 A∧v64 A<18446744073709551616 ^ 6:=by
 have:=Zdg A h;rw[l] at this;exact this
theorem Zm6 (X M:Int) (h0:0≤X) (h:X<2*M):(if M≤X then X-M else X)=X%M:=by
 split
 ·rename_i h1
  rw[show X=X-M+M by omega,Int.add_emod_right,Int.emod_eq_of_lt (by omega) (by omega)];omega
 ·rw[Int.emod_eq_of_lt h0 (by omega)]
theorem Zm3 (M X:Int) (ho:M%2=1) (h:(2*X)%M=0):X%M=0:=by
 obtain⟨k,hk⟩:=Int.dvd_of_emod_eq_zero h;have h2:k%2=0:=by
  have e:(M*k)%2=0:=by omega
  rw[Int.mul_emod,ho] at e;omega
 have e2:k=2*(k/2):=by omega
 refine Int.emod_eq_zero_of_dvd ⟨k/2,?_⟩;have:2*X=2*(M*(k/2)):=by
  rw[hk];conv=>lhs;rw[e2];rw[Int.mul_left_comm]
 omega
theorem ZkR (M:Int) (ho:M%2=1):∀ (n:Nat) (X:Int),(2 ^ n*X)%M=0→X%M=0
 | 0,X,h=>by simpa using h
 | n+1,X,h=>by
  rw[Int.pow_succ,Int.mul_assoc] at h;exact Zm3 M X ho (ZkR M ho n _ h)
theorem r_pow:(2:Int) ^ 384=18446744073709551616 ^ 6:=by
 rw[show (18446744073709551616:Int)=2 ^ 64 by decide,← Int.pow_mul]
theorem cut_R {M X Y:Int} (ho:M%2=1) (h:(18446744073709551616 ^ 6*X)%M=(18446744073709551616 ^ 6*Y)%M):X%M=Y%M:=by
 rw[← r_pow] at h;have h1:(2 ^ 384*(X-Y))%M=0:=by
  rw[Int.mul_sub];exact Int.emod_eq_emod_iff_emod_sub_eq_zero.1 h
 exact Int.emod_eq_emod_iff_emod_sub_eq_zero.2 (ZkR M ho 384 _ h1)
theorem ZmV {M x r1 r2 t:Int} (ho:M%2=1) (h1:(18446744073709551616 ^ 6*r1)%M=x%M) (ht:t=(18446744073709551616 ^ 6*18446744073709551616 ^ 6)%M) (h2:(18446744073709551616 ^ 6*r2)%M=(r1*t)%M):r2%M=x%M:=by
 subst ht;generalize hR:(18446744073709551616:Int) ^ 6=R at *;have h2':(r1*(R*R%M))%M=(r1*(R*R))%M:=by rw[Int.mul_emod,Int.emod_emod,← Int.mul_emod]
 have h3:(R*r2)%M=(R*(R*r1))%M:=by rw[h2,h2'];congr 1;grind
 rw[← hR] at h3;have h4:=cut_R ho h3;rw[hR] at h4;rw[h4,h1]
theorem Zk5 (b:Int):∀ (P:List Int) (k:Nat) (s:Int),k<P.length→pv b (P.set k s)=pv b P+(s-P.getD k 0)*b ^ k
 | [],k,s,h=>absurd h (by simp)
 | p::P,0,s,_=>by simp[pv];omega
 | p::P,k+1,s,h=>by
  have ih:=Zk5 b P k s (by simpa using h);rw[List.set_cons_succ,pv,pv,ih,List.getD_cons_succ,Int.pow_succ]
  grind
theorem ZeZ (S:List Int) (k j:Nat) (s:Int) (h:k≠j):(S.set k s).getD j 0=S.getD j 0:=by simp[List.getD_eq_getElem?_getD,h]
theorem Znn (P B:List Int) (k m:Nat) (V a b s c:Int) (lP:P.length=12) (lB:B.length=6) (hk:k<6) (hm:m<6) (hs:P.getD (k+m) 0=s) (hb:B.getD m 0=b)
  (h:v64 P+c*18446744073709551616 ^ (k+m)=V+a*18446744073709551616 ^ k*v64 (B.take m)) :
  v64 (P.set (k+m) ((a*b+s+c)%18446744073709551616))+(a*b+s+c)/18446744073709551616*18446744073709551616 ^ (k+(m+1))=V+a*18446744073709551616 ^ k*v64 (B.take (m+1)):=by
 have e:=Int.mul_ediv_add_emod (a*b+s+c) 18446744073709551616;simp only[v64] at *;rw[Zk5 _ P _ _ (by omega),hs,ZbC _ B m (by omega),hb,← Nat.add_assoc,Int.pow_succ];rw[Int.pow_add] at *;generalize (a*b+s+c)/18446744073709551616=q at *;generalize (a*b+s+c)%18446744073709551616=r at *;generalize (18446744073709551616:Int) ^ k=p at *;generalize (18446744073709551616:Int) ^ m=z at *;generalize pv 18446744073709551616 P=X at *;generalize pv 18446744073709551616 (B.take m)=Y at *;have e2:r=a*b+s+c-18446744073709551616*q:=by omega
 subst e2;have e3:X=V+a*p*Y-c*(p*z):=by omega
 subst e3
 grind
theorem Zle (t i m:Int) (h:(i*m)%18446744073709551616=18446744073709551615):((t*i%18446744073709551616)*m+t)%18446744073709551616=0:=by
 have h1:((t*i%18446744073709551616)*m)%18446744073709551616=(t*(i*m))%18446744073709551616:=by
  rw[Int.mul_emod,Int.emod_emod,← Int.mul_emod,Int.mul_assoc]
 have h2:(t*(i*m))%18446744073709551616=(t*18446744073709551615)%18446744073709551616:=by
  rw[Int.mul_emod,h,Int.mul_emod t 18446744073709551615]
  rfl
 have h3:=h1.trans h2;omega
theorem ZoT (P M T:List Int) (k:Nat) (V Q q c s o:Int) (lP:P.length=12) (lM:M.length=6) (hk:k<6) (hs:P.getD (k+6) 0=s) (hq0:0≤q) (hq1:q<18446744073709551616)
  (hQ0:0≤Q) (hQ1:Q<18446744073709551616 ^ k) (hV:V+o*18446744073709551616 ^ (k+6)=v64 T+Q*v64 M) (h:v64 P+c*18446744073709551616 ^ (k+6)=V+q*18446744073709551616 ^ k*v64 (M.take 6)) :
  ∃ Q',0≤Q'∧Q'<18446744073709551616 ^ (k+1)∧v64 (P.set (k+6) ((s+c+o)%18446744073709551616))+(s+c+o)/18446744073709551616*18446744073709551616 ^ (k+1+6)=v64 T+Q'*v64 M:=by
 have e:=Int.mul_ediv_add_emod (s+c+o) 18446744073709551616;rw[List.take_of_length_le (by omega)] at h;simp only[v64] at *;rw[Zk5 _ P _ _ (by omega),hs,show k+1+6=k+6+1 by omega,Int.pow_succ (18446744073709551616:Int) (k+6),Int.pow_succ (18446744073709551616:Int) k];have hp:(0:Int)<18446744073709551616 ^ k:=Int.pow_pos (by decide);generalize (18446744073709551616:Int) ^ (k+6)=z at *;generalize (18446744073709551616:Int) ^ k=p at *;generalize (s+c+o)/18446744073709551616=x at *;generalize (s+c+o)%18446744073709551616=r at *;generalize pv 18446744073709551616 P=X at *;generalize pv 18446744073709551616 T=Y at *;generalize pv 18446744073709551616 M=N at *;have m1:0≤q*p:=Int.mul_nonneg hq0 (Int.le_of_lt hp);have m2:q*p≤18446744073709551615*p:=Int.mul_le_mul_of_nonneg_right (by omega) (Int.le_of_lt hp);refine ⟨Q+q*p,by omega,by omega,?_⟩;have e2:r=s+c+o-18446744073709551616*x:=by omega
 subst e2;have e3:X=V+q*p*N-c*z:=by omega
 subst e3;have e4:V=Y+Q*N-o*z:=by omega
 subst e4
 grind
theorem ZfF (b:Int):∀ (n:Nat) (P:List Int),(∀ j,j<n→P.getD j 0=0)→n≤P.length→pv b P=b ^ n*pv b (P.drop n)
 | 0,P,_,_=>by simp
 | n+1,[],_,h=>absurd h (by simp)
 | n+1,p::P,h,hl=>by
  have h0:p=0:=h 0 (by omega);rw[pv,ZfF b n P (fun j hj=>h (j+1) (by omega)) (by simpa using hl),List.drop_succ_cons,Int.pow_succ,h0]
  grind
theorem Zku {P:List Int} (h:Zaz P) (n:Nat):Zaz (P.drop n):=by
 intro j;have:(P.drop n).getD j 0=P.getD (n+j) 0:=by simp[List.getD_eq_getElem?_getD]
 rw[this];exact h _
theorem ZoS (P M T:List Int) (Q o:Int) (lP:P.length=12) (lT:T.length=12) (fT:Zaz T) (fM:Zaz M) (hz:∀ j,j<6→P.getD j 0=0) (hQ1:Q<18446744073709551616 ^ 6)
  (h:v64 P+o*18446744073709551616 ^ (6+6)=v64 T+Q*v64 M) :
  18446744073709551616 ^ 6*(v64 (P.drop 6)+o*18446744073709551616 ^ 6)=v64 T+Q*v64 M∧v64 (P.drop 6)+o*18446744073709551616 ^ 6<18446744073709551616 ^ 6+v64 M:=by
 have bT:=Zdg T fT;rw[lT] at bT;have bM:=(Zdg M fM).1;simp only[v64] at *;rw[ZfF _ 6 P hz (by omega)] at h;rw[show (18446744073709551616:Int) ^ (6+6)=18446744073709551616 ^ 6*18446744073709551616 ^ 6 from Int.pow_add _ 6 6] at h;rw[show (12:Nat)=6+6 from rfl,Int.pow_add _ 6 6] at bT;have hp:(0:Int)<18446744073709551616 ^ 6:=Int.pow_pos (by decide);generalize (18446744073709551616:Int) ^ 6=R at *;generalize pv 18446744073709551616 (P.drop 6)=X at *;generalize pv 18446744073709551616 T=Y at *;generalize pv 18446744073709551616 M=N at *;have e:R*(X+o*R)=Y+Q*N:=by rw[← h];grind
 refine⟨e,?_⟩;have m1:Q*N≤R*N:=Int.mul_le_mul_of_nonneg_right (by omega) bM;have m2:R*(X+o*R)<R*(R+N):=by rw[e,Int.mul_add];omega
 exact Int.lt_of_mul_lt_mul_left m2 (Int.le_of_lt hp)
theorem Znm {R N Y Q M r:Int} (e:R*N=Y+Q*M) (hr:r=N%M):(R*r)%M=Y%M:=by
 subst hr;rw[Int.mul_emod,Int.emod_emod,← Int.mul_emod,e,Int.add_mul_emod_self_right]
def Zm4 (X M:Int):Int:=if M≤X then X-M else X
theorem Zm5 (X M:Int):Zm4 X M%M=X%M:=by
 unfold Zm4;split
 ·exact Int.sub_emod_right X M
 ·rfl
theorem ZgV {X M:Int} (h0:0≤X) (h:X<2*M):Zm4 X M=X%M:=Zm6 X M h0 h
theorem ZoG (A S M:List Int) (n k:Int) (lA:A.length=6) (lM:M.length=6) (lS:S.length=6) (fA:Zaz A) (fM:Zaz M) (fS:Zaz S) (hn:n=0∨n=1) (k0:0≤k) (k1:k≤1)
  (h:v64 S-k*18446744073709551616 ^ 6=v64 A-v64 M) (hb:v64 A+n*18446744073709551616 ^ 6<18446744073709551616 ^ 6+v64 M) :
  (if n=1∨k=0 then v64 S else v64 A)=Zm4 (v64 A+n*18446744073709551616 ^ 6) (v64 M):=by
 have bA:=ZaN A lA fA;have bM:=ZaN M lM fM;have bS:=ZaN S lS fS;unfold Zm4;generalize (18446744073709551616:Int) ^ 6=R at *;generalize v64 A=a at *;generalize v64 M=m at *;generalize v64 S=s at *;have hk:k=0∨k=1:=by omega
 rcases hn with rfl|rfl
 ·rcases hk with rfl|rfl
  ·rw[if_pos (.inr rfl),if_pos (by omega)];omega
  ·rw[if_neg (by omega),if_neg (by omega)];omega
 ·rw[if_pos (.inl rfl),if_pos (by omega)]
  rcases hk with rfl|rfl<;>omega
def hv:Nat→Nat→Nat
 | 0,e=>e
 | f+1,e=>hv f (e/2)
def PP:Int:=39402006196394479212279040100143613805079739270465446667948293404245721771496870329047266088258938001861606973112319
theorem PP_v:v64 [4294967295,18446744069414584320,18446744073709551614,18446744073709551615,18446744073709551615,18446744073709551615]=PP:=by decide
theorem Zgp:0<PP:=by decide
theorem PP_odd:PP%2=1:=by decide
theorem PP_lt:PP<18446744073709551616 ^ 6:=by decide
theorem PP_big:18446744073709551616 ^ 6≤2*PP:=by decide
theorem fP:Zaz [4294967295,18446744069414584320,18446744073709551614,18446744073709551615,18446744073709551615,18446744073709551615]:=Zje (by decide)
theorem fRR:Zaz [18446744065119617025,8589934592,18446744065119617024,8589934592,1,0]:=Zje (by decide)
theorem isP:Zfh [4294967295,18446744069414584320,18446744073709551614,18446744073709551615,18446744073709551615,18446744073709551615] 4294967297 [18446744065119617025,8589934592,18446744065119617024,8589934592,1,0] :=
 ⟨rfl,fP,rfl,fRR,by decide,by decide,by decide,by rw[PP_v];exact PP_big,by rw[PP_v];exact PP_odd,by decide⟩
theorem Zbb:Tryz.prog.cellsOf 27=6:=by kernel_rfl
theorem Zce:Tryz.prog.cellsOf 25=1:=by kernel_rfl
theorem ZhQ {P:Program} (w:World) (d:Nat) {t e:TypeId} {n:Nat} {i:TypeInfo} (hp:P.underlying t=some (.array n e)) (hi:P.info? e=some i) (he:P.plainKey e=true) (hu:P.underlying e=some (.int .u64)) (hc:P.cellsOf e=1) (A B:List Int) (lA:A.length=n) (lB:B.length=n) :
  (Op.equalIn (d+2) t (.agg (us A).toArray) (.agg (us B).toArray)).run P w=.ok (decide (A=B)) w:=by
 rw[run_equalIn_array w (d+1) _ _ hp hi,List.range_eq_range',Zdw w d he hu hc A B n lA lB n 0 (by omega)];simp
theorem ZmF:(Tryz.prog.info? 25).map (fun i=>(i.zero,i.size,i.bytes))=some (some (.int .u64 0),1,8):=by kernel_rfl
theorem Zid (x0 x1 x2 x3 x4 x5 y0 y1 y2 y3 y4 y5:Int):∀ w:World,(Op.equalIn 9999 27 (.agg #[.int .u64 x0,.int .u64 x1,.int .u64 x2,.int .u64 x3,.int .u64 x4,.int .u64 x5]) (.agg #[.int .u64 y0,.int .u64 y1,.int .u64 y2,.int .u64 y3,.int .u64 y4,.int .u64 y5])).run Tryz.prog w=.ok (decide ([x0,x1,x2,x3,x4,x5]=[y0,y1,y2,y3,y4,y5])) w:=fun w=>by
 cases hi:Tryz.prog.info? 25 with
 | none=>have:=ZmF;rw[hi] at this;simp at this
 | some i=>exact ZhQ (P:=Tryz.prog) w 9997 (t:=27) (e:=25) (n:=6) Tryz.underlying27 hi (by kernel_rfl) Tryz.underlying25 (by kernel_rfl) [x0,x1,x2,x3,x4,x5] [y0,y1,y2,y3,y4,y5] rfl rfl
theorem ZnY (x0 x1 x2 x3 x4 x5 y0 y1 y2 y3 y4 y5:Int) (n:Bool) (w:World):(part 27 #[.int .u64 x0,.int .u64 x1,.int .u64 x2,.int .u64 x3,.int .u64 x4,.int .u64 x5,.int .u64 y0,.int .u64 y1,.int .u64 y2,.int .u64 y3,.int .u64 y4,.int .u64 y5,.bool n] 0).run Tryz.prog w=.ok (.agg #[.int .u64 x0,.int .u64 x1,.int .u64 x2,.int .u64 x3,.int .u64 x4,.int .u64 x5]) w:=by kernel_rfl
theorem ZnZ (x0 x1 x2 x3 x4 x5 y0 y1 y2 y3 y4 y5:Int) (n:Bool) (w:World):(part 27 #[.int .u64 x0,.int .u64 x1,.int .u64 x2,.int .u64 x3,.int .u64 x4,.int .u64 x5,.int .u64 y0,.int .u64 y1,.int .u64 y2,.int .u64 y3,.int .u64 y4,.int .u64 y5,.bool n] 6).run Tryz.prog w=.ok (.agg #[.int .u64 y0,.int .u64 y1,.int .u64 y2,.int .u64 y3,.int .u64 y4,.int .u64 y5]) w:=by kernel_rfl
theorem ZnX (x0 x1 x2 x3 x4 x5 y0 y1 y2 y3 y4 y5:Int) (n:Bool) (w:World):(part 4 #[.int .u64 x0,.int .u64 x1,.int .u64 x2,.int .u64 x3,.int .u64 x4,.int .u64 x5,.int .u64 y0,.int .u64 y1,.int .u64 y2,.int .u64 y3,.int .u64 y4,.int .u64 y5,.bool n] 12).run Tryz.prog w=.ok (.bool n) w:=by kernel_rfl
theorem Zk4 : (Tryz.prog.fieldsOf 29).toList.map (fun f => (f.name == "_", f.type, f.offset)) = [(false, 27, 0), (false, 27, 6), (false, 4, 12)] := by kernel_rfl
theorem ZcN {P : Program} {w : World} {d : Nat} {xs ys : Array Value} {f : Field} {fs : List Field} {a b : Value} {r : Bool} (hn : (f.name == "_") = false) (ha : ∀ w, (part f.type xs f.offset).run P w = .ok a w) (hb : ∀ w, (part f.type ys f.offset).run P w = .ok b w) (hr : ∀ w, (Op.equalIn d f.type a b).run P w = .ok r w) :
  (Op.eqFields d xs ys (f::fs)).run P w=if r then (Op.eqFields d xs ys fs).run P w else .ok false w:=by
 have : f.name ≠ "_" := by simpa using hn
 rw[Op.eqFields,if_pos this];simp only[Sem.run_bind,ha,hb,hr,Result.andThen_ok]
 cases r<;>simp
theorem eql_pt (x0 x1 x2 x3 x4 x5 y0 y1 y2 y3 y4 y5 p0 p1 p2 p3 p4 p5 q0 q1 q2 q3 q4 q5:Int) (n m:Bool):∀ w:World,(Op.equalIn 10000 29 (.agg #[.int .u64 x0,.int .u64 x1,.int .u64 x2,.int .u64 x3,.int .u64 x4,.int .u64 x5,.int .u64 y0,.int .u64 y1,.int .u64 y2,.int .u64 y3,.int .u64 y4,.int .u64 y5,.bool n]) (.agg #[.int .u64 p0,.int .u64 p1,.int .u64 p2,.int .u64 p3,.int .u64 p4,.int .u64 p5,.int .u64 q0,.int .u64 q1,.int .u64 q2,.int .u64 q3,.int .u64 q4,.int .u64 q5,.bool m])).run Tryz.prog w=.ok (decide ([x0,x1,x2,x3,x4,x5]=[p0,p1,p2,p3,p4,p5]∧[y0,y1,y2,y3,y4,y5]=[q0,q1,q2,q3,q4,q5]∧n=m)) w:=fun w=>by
 rw[run_equalIn_struct w 9999 29 _ _ (by kernel_rfl) (by kernel_rfl)];have hf:=Zk4;generalize (Tryz.prog.fieldsOf 29).toList=fs at *;have hl:fs.length=3:=by simpa using congrArg List.length hf
 match fs,hl,hf with
 | [f0,f1,f2],_,hf =>
  simp only[List.map_cons,List.map_nil,List.cons.injEq,and_true,Prod.mk.injEq] at hf;obtain ⟨⟨n0,t0,o0⟩,⟨n1,t1,o1⟩,⟨n2,t2,o2⟩⟩:=hf;have e0:=Zid x0 x1 x2 x3 x4 x5 p0 p1 p2 p3 p4 p5;have e1:=Zid y0 y1 y2 y3 y4 y5 q0 q1 q2 q3 q4 q5;rw[ZcN n0 (by rw[t0,o0];exact ZnY x0 x1 x2 x3 x4 x5 y0 y1 y2 y3 y4 y5 n) (by rw[t0,o0];exact ZnY p0 p1 p2 p3 p4 p5 q0 q1 q2 q3 q4 q5 m) (by rw[t0];exact e0)];rw[ZcN n1 (by rw[t1,o1];exact ZnZ x0 x1 x2 x3 x4 x5 y0 y1 y2 y3 y4 y5 n) (by rw[t1,o1];exact ZnZ p0 p1 p2 p3 p4 p5 q0 q1 q2 q3 q4 q5 m) (by rw[t1];exact e1)];rw[ZcN (r:=n == m) n2 (by rw[t2,o2];exact ZnX x0 x1 x2 x3 x4 x5 y0 y1 y2 y3 y4 y5 n) (by rw[t2,o2];exact ZnX p0 p1 p2 p3 p4 p5 q0 q1 q2 q3 q4 q5 m) (by rw[t2];intro w;exact run_equalIn_bool w 9998 _ n m Tryz.underlying4)];simp only[Op.eqFields,Sem.run_pure];clear e0 e1;generalize [x0,x1,x2,x3,x4,x5]=X;generalize [y0,y1,y2,y3,y4,y5]=Y;generalize [p0,p1,p2,p3,p4,p5]=P;generalize [q0,q1,q2,q3,q4,q5]=Q
  by_cases h1:X=P<;>by_cases h2:Y=Q<;>cases n<;>cases m<;>simp[h1,h2]
theorem Zjg {w0 W:World} (bs:List (Nat × List Value)) (hB:∀ b X,(b,X)∈bs→Blk W b X) (bel:Below w0.heap.size w0 W) :
  ∃ S:World→Prop,Hd S W∧Hid (∀ w1 w2,Hd S w1→Below w1.heap.size w1 w2→Hd S w2)∧Hid (∀ w1 o,Hd S w1→Hd S (w1.alloc o))∧Hid (∀ w1,Hd S w1→Hd S w1.drew)∧Hid (∀ (w1:World) (o o':Obj),W.heap.size≤w1.heap.size→Hd S (w1.alloc o)→Hd S (w1.alloc o')) ∧
   Hid (∀ w1 b j y,Hd S w1→(W.heap.size≤b∨∀ c X,(c,X)∈bs→c≠b)→w0.heap.size≤b→Hd S (w1.setCell ⟨b,j,none⟩ y)) ∧
   Hid (∀ w1,Hd S w1→W.heap.size≤w1.heap.size)∧Hid (∀ w1,Hd S w1→Below w0.heap.size w0 w1)∧Hid (∀ w1 b X,Hd S w1→(b,X)∈bs→Blk w1 b X) ∧
   Hid (∀ w1 b cs,Hd S w1→(W.heap.size≤b∨∀ c X,(c,X)∈bs→c≠b)→w0.heap.size≤b→Hd S (w1.setRow b cs)):=by
 refine⟨fun wx=>(∀ b X,(b,X)∈bs→Blk wx b X)∧W.heap.size≤wx.heap.size∧Below w0.heap.size w0 wx,⟨hB,Nat.le_refl _,bel⟩,?_,?_,?_,?_,?_,?_,?_,?_,?_⟩
 ·rintro w1 w2 ⟨h1,h3,h4⟩ hb
  exact⟨fun b X h=>(h1 b X h).later hb,Nat.le_trans h3 hb.size,Zaa h4 hb⟩
 ·rintro w1 o ⟨h1,h3,h4⟩
  exact⟨fun b X h=>(h1 b X h).alloc o,by simp;omega,Zaf h4⟩
 ·rintro w1 ⟨h1,h3,h4⟩
  exact⟨h1,h3,h4.drew⟩
 ·rintro w1 o o' hn ⟨h1,h3,h4⟩
  exact⟨fun b X h=>(h1 b X h).swap (Nat.lt_of_lt_of_le (hB b X h).lt hn),by simp;omega,Zfn h4 (Nat.le_trans bel.size hn)⟩
 ·rintro w1 b j y ⟨h1,h3,h4⟩ hn hl
  refine⟨fun c X h=>(h1 c X h).other _ _ ?_,by simpa using h3,h4.setCell hl _⟩;rcases hn with hn|hn
  ·have:=(hB c X h).lt
   exact Nat.ne_of_lt (Nat.lt_of_lt_of_le this hn)
  ·exact hn c X h
 ·rintro w1 ⟨_,h3,_⟩
  exact h3
 ·rintro w1 ⟨_,_,h4⟩
  exact h4
 ·rintro w1 b X ⟨h1,_,_⟩ h
  exact h1 b X h
 ·rintro w1 b cs ⟨h1,h3,h4⟩ hn hl
  refine⟨fun c X h=>(h1 c X h).row ?_,by simpa [World.setRow] using h3,below_setRow h4 hl _⟩;rcases hn with hn|hn
  ·have:=(hB c X h).lt
   exact Nat.ne_of_lt (Nat.lt_of_lt_of_le this hn)
  ·exact hn c X h
theorem ZnV (X:List Int) (lX:X.length=6) (fX:Zaz X):v64 X<4294967296 ^ 30:=by
 have b:=(ZaN X lX fX).2;rw[show (18446744073709551616:Int)=4294967296 ^ 2 by decide,← Int.pow_mul] at b;have:(4294967296:Int) ^ (2*6)<4294967296 ^ 30:=by decide
 omega
variable {H:Type} {enc:TypeId × Value→H} {w:World} {base:Nat} {spare:Nat→Bool} {held:Bool}
theorem Zh8:Tryz.prog.cellsOf 29=13:=by kernel_rfl
theorem Zd9:Tryz.prog.cellsOf 4=1:=by kernel_rfl
theorem Zha {l:List Value} (h:l.length=13):∃ v0 v1 v2 v3 v4 v5 v6 v7 v8 v9 v10 v11 v12,l=[v0,v1,v2,v3,v4,v5,v6,v7,v8,v9,v10,v11,v12]:=by
 match l,h with
 | [v0,v1,v2,v3,v4,v5,v6,v7,v8,v9,v10,v11,v12],_=>exact ⟨v0,v1,v2,v3,v4,v5,v6,v7,v8,v9,v10,v11,v12,rfl⟩
theorem ZoJ {cs:Array Value} {d:DataW H} {p:List MemPlace} (h:DataW.Trod enc Tryz.prog w base spare held 29 (.agg cs) d p) :
  ∃ (x0 x1 x2 x3 x4 x5 y0 y1 y2 y3 y4 y5:Int) (n:Bool),cs=#[.int .u64 x0,.int .u64 x1,.int .u64 x2,.int .u64 x3,.int .u64 x4,.int .u64 x5,.int .u64 y0,.int .u64 y1,.int .u64 y2,.int .u64 y3,.int .u64 y4,.int .u64 y5,.bool n]∧d=.agg [.agg [.lit (.int .u64 x0),.lit (.int .u64 x1),.lit (.int .u64 x2),.lit (.int .u64 x3),.lit (.int .u64 x4),.lit (.int .u64 x5)],.agg [.lit (.int .u64 y0),.lit (.int .u64 y1),.lit (.int .u64 y2),.lit (.int .u64 y3),.lit (.int .u64 y4),.lit (.int .u64 y5)],.lit (.bool n)]∧p=[]∧Zaz [x0,x1,x2,x3,x4,x5]∧Zaz [y0,y1,y2,y3,y4,y5]:=by
 obtain⟨fuel,hf⟩:=h;obtain ⟨y0,y1,y2,m,hx,hl,t0,t1,t2⟩:=trod_struct3 Tryz.underlying29 hf;obtain ⟨l⟩:=cs;simp only[Value.cells] at hl t0 t1 t2;rw[Zh8] at hl;obtain ⟨v0,v1,v2,v3,v4,v5,v6,v7,v8,v9,v10,v11,v12,rfl⟩:=Zha hl;simp only[Zbb,Zd9,List.drop_zero,List.drop_succ_cons,List.take_succ_cons,List.take_zero] at t0 t1 t2;obtain ⟨A,lA,eA,dA,pA,fA⟩:=Zf6 (n:=6) Tryz.underlying27 Zbb Tryz.underlying25 Zce (cs:=#[v0,v1,v2,v3,v4,v5]) (d:=y0.1) (p:=y0.2) ⟨m,t0⟩;obtain ⟨B,lB,eB,dB,pB,fB⟩:=Zf6 (n:=6) Tryz.underlying27 Zbb Tryz.underlying25 Zce (cs:=#[v6,v7,v8,v9,v10,v11]) (d:=y1.1) (p:=y1.2) ⟨m,t1⟩;obtain ⟨n,h2,hb⟩:=DataW.trod_bool Tryz.underlying4 t2;obtain ⟨x0,x1,x2,x3,x4,x5,rfl⟩:=six lA;obtain ⟨z0,z1,z2,z3,z4,z5,rfl⟩:=six lB;simp only[us,List.map_cons,List.map_nil,Array.mk.injEq,List.cons.injEq,and_true] at eA eB h2 dA dB;obtain ⟨rfl,rfl,rfl,rfl,rfl,rfl⟩:=eA;obtain ⟨rfl,rfl,rfl,rfl,rfl,rfl⟩:=eB;subst h2;obtain ⟨e1,e2⟩:=Prod.mk.inj hx;refine ⟨x0,x1,x2,x3,x4,x5,z0,z1,z2,z3,z4,z5,n,rfl,?_,?_,fA,fB⟩
 ·rw[e1,dA,dB,hb]
 ·rw[e2,pA,pB,hb];rfl
theorem p_num (w:World) (t:TypeId):ZaG (w.alloc (.cells (us [4294967295,0,0,4294967295,4294967294,4294967295,4294967295,4294967295,4294967295,4294967295,4294967295,4294967295]).toArray t)) (.slice (some ⟨w.heap.size,0,none⟩) 12 12) PP:=by
 have B:=Blk.new w (us [4294967295,0,0,4294967295,4294967294,4294967295,4294967295,4294967295,4294967295,4294967295,4294967295,4294967295]) t w.heap.size rfl;refine ⟨[4294967295,0,0,4294967295,4294967294,4294967295,4294967295,4294967295,4294967295,4294967295,4294967295,4294967295],.inr ⟨w.heap.size,12,rfl,Nat.le_refl _,by unfold maxLen;omega,B.lt,fun j hj=>B.cell j _ (ZaO _ j hj)⟩,?_,?_,?_⟩
 ·intro j
  match j with
  | 0=>decide
  | 1=>decide
  | 2=>decide
  | 3=>decide
  | 4=>decide
  | 5=>decide
  | 6=>decide
  | 7=>decide
  | 8=>decide
  | 9=>decide
  | 10=>decide
  | 11=>decide
  | _+12=>exact ⟨by simp,by simp⟩
 ·intro _;simp
 ·simp only[v32,pv];decide
theorem Znb {w:World} :
  Calls Tryz.prog 124 #[] w fun e w'=>∃ v',e=.returned v'∧ZaG w' v' PP∧Below w.heap.size w w':=by
 have h:=p_num w 25;go_enter Tryz.func124,Tryz.ntmps124;go_wp2;go_ret;exact ⟨_,rfl,h,(Below.refl _ _).alloc (Nat.le_refl _) _⟩
theorem Zk3 {u:Value} {X:Int} {w:World} (hu:ZaG w u X) (hX:X<4294967296 ^ 30) :
  Calls Tryz.prog 180 #[u] w fun e w'=>∃ v',e=.returned v'∧ZaG w' v' (X%PP)∧Below w.heap.size w w':=by
 go_enter Tryz.func180,Tryz.ntmps180;go_wp2_with fail;refine Znb.mono ?_;rintro e w1 ⟨v1,rfl,h1,hb1⟩;go_wp2_with fail;refine (Zlq u v1 X PP w1 (hu.later hb1) h1 hX Zgp PP_lt).mono ?_;rintro e w2 ⟨v2,rfl,h2,hb2⟩;go_wp2_with fail;go_ret;exact ⟨_,rfl,h2,Zaa hb1 hb2⟩
theorem pm_30 (X:Int):X%PP<4294967296 ^ 30:=by
 have h:=Int.emod_lt_of_pos X Zgp;have:PP<4294967296 ^ 30:=by decide
 omega
theorem pm_nn (X:Int):0≤X%PP:=Int.emod_nonneg _ (by decide)
theorem pp_30:PP<4294967296 ^ 30:=by decide
theorem dif_30 (X Y:Int):X%PP+PP<4294967296 ^ 30∧Y%PP≤X%PP+PP∧X%PP+PP-Y%PP<4294967296 ^ 30:=by
 have h:=Int.emod_lt_of_pos X Zgp;have h2:=Int.emod_lt_of_pos Y Zgp;have g:=pm_nn X;have g2:=pm_nn Y;have:PP+PP<4294967296 ^ 30:=by decide
 omega
theorem padd {u v:Value} {X Y:Int} {w:World} (hu:ZaG w u X) (hv:ZaG w v Y) (hX:X<4294967296 ^ 30) (hY:Y<4294967296 ^ 30) (hXY:X+Y<4294967296 ^ 30) :
  Calls Tryz.prog 126 #[u,v] w fun e w'=>∃ v',e=.returned v'∧ZaG w' v' ((X+Y)%PP)∧Below w.heap.size w w':=by
 go_enter Tryz.func126,Tryz.ntmps126;go_wp2_with fail;refine (Zge u v X Y w hu hv hX hY).mono ?_;rintro e w1 ⟨v1,rfl,h1,hb1⟩;go_wp2_with fail;refine (Zk3 h1 hXY).mono ?_;rintro e w2 ⟨v2,rfl,h2,hb2⟩;go_wp2_with fail;go_ret;exact ⟨_,rfl,h2,Zaa hb1 hb2⟩
theorem pmul {u v:Value} {X Y:Int} {w:World} (hu:ZaG w u X) (hv:ZaG w v Y) (hX:X<4294967296 ^ 30) (hY:Y<4294967296 ^ 30) (hXY:X*Y<4294967296 ^ 30) :
  Calls Tryz.prog 125 #[u,v] w fun e w'=>∃ v',e=.returned v'∧ZaG w' v' ((X*Y)%PP)∧Below w.heap.size w w':=by
 go_enter Tryz.func125,Tryz.ntmps125;go_wp2_with fail;refine (Ziz u v X Y w hu hv hX hY).mono ?_;rintro e w1 ⟨v1,rfl,h1,hb1⟩;go_wp2_with fail;refine (Zk3 h1 hXY).mono ?_;rintro e w2 ⟨v2,rfl,h2,hb2⟩;go_wp2_with fail;go_ret;exact ⟨_,rfl,h2,Zaa hb1 hb2⟩
theorem dif_p (X Y:Int):(X%PP+PP-Y%PP)%PP=(X-Y)%PP:=by
 rw[show X%PP+PP-Y%PP=X%PP-Y%PP+PP by omega,Int.add_emod_right,← Int.sub_emod]
theorem psub {u v:Value} {X Y:Int} {w:World} (hu:ZaG w u X) (hv:ZaG w v Y) (hX:X<4294967296 ^ 30) (hY:Y<4294967296 ^ 30) :
  Calls Tryz.prog 127 #[u,v] w fun e w'=>∃ v',e=.returned v'∧ZaG w' v' ((X-Y)%PP)∧Below w.heap.size w w':=by
 have BD:Hid _:=dif_30 X Y;have HX:Hid _:=hX;have HY:Hid _:=hY;clear hX hY;go_enter Tryz.func127,Tryz.ntmps127;go_wp2_with fail;refine (Zk3 hu HX.out).mono ?_;rintro e w1 ⟨v1,rfl,h1,hb1⟩;go_wp2_with fail;refine Znb.mono ?_;rintro e w2 ⟨v2,rfl,h2,hb2⟩;go_wp2_with fail;refine (Zge _ _ _ _ _ (h1.later hb2) h2 (pm_30 X) pp_30).mono ?_;rintro e w3 ⟨v3,rfl,h3,hb3⟩;go_wp2_with fail;refine (Zk3 (((hv.later hb1).later hb2).later hb3) HY.out).mono ?_;rintro e w4 ⟨v4,rfl,h4,hb4⟩;go_wp2_with fail;refine (Zgf _ _ _ _ _ (h3.later hb4) h4 BD.out.1 BD.out.2.1).mono ?_;rintro e w5 ⟨v5,rfl,h5,hb5⟩;go_wp2_with fail;refine (Zk3 h5 BD.out.2.2).mono ?_;rintro e w6 ⟨v6,rfl,h6,hb6⟩;rw[dif_p] at h6;go_wp2_with fail;go_ret;exact ⟨_,rfl,h6,Zaa (Zaa (Zaa (Zaa (Zaa hb1 hb2) hb3) hb4) hb5) hb6⟩
def Nu (a:Int):Prop:=PP ∣ a
theorem Nu.add {a b:Int} (h:Nu a) (k:Nu b):Nu (a+b):=Int.dvd_add h k
theorem Nu.mul {a:Int} (h:Nu a) (c:Int):Nu (c*a):=Int.dvd_mul_of_dvd_right h
theorem Zit {a0:Int} {a1:Int} {g:Int} (h0:Nu a0) (c0:Int) (h1:Nu a1) (c1:Int) (e:g=c0*a0+c1*a1):Nu g:=by rw[e];exact ((h0.mul c0).add (h1.mul c1))
theorem nu_of3 {a0:Int} {a1:Int} {a2:Int} {g:Int} (h0:Nu a0) (c0:Int) (h1:Nu a1) (c1:Int) (h2:Nu a2) (c2:Int) (e:g=c0*a0+c1*a1+c2*a2):Nu g:=by rw[e];exact (((h0.mul c0).add (h1.mul c1)).add (h2.mul c2))
theorem nu_of4 {a0:Int} {a1:Int} {a2:Int} {a3:Int} {g:Int} (h0:Nu a0) (c0:Int) (h1:Nu a1) (c1:Int) (h2:Nu a2) (c2:Int) (h3:Nu a3) (c3:Int) (e:g=c0*a0+c1*a1+c2*a2+c3*a3):Nu g:=by rw[e];exact ((((h0.mul c0).add (h1.mul c1)).add (h2.mul c2)).add (h3.mul c3))
theorem ZfD {a:Int}:Nu a↔a%PP=0:=⟨Int.emod_eq_zero_of_dvd,Int.dvd_of_emod_eq_zero⟩
theorem ZdD (a:Int):Nu (a%PP-a):=by
 rw[ZfD,Int.sub_emod,Int.emod_emod,Int.sub_self,Int.zero_emod]
theorem nu_eq {a b:Int} (h:Nu (a-b)):a%PP=b%PP:=Int.emod_eq_emod_iff_emod_sub_eq_zero.2 (ZfD.1 h)
def Lo (a:Int):Prop:=0≤a∧a<PP
theorem Zeg (a:Int):Lo (a%PP):=⟨Int.emod_nonneg _ (by decide),Int.emod_lt_of_pos _ Zgp⟩
def pinv (d:Int):Int:=d ^ 39402006196394479212279040100143613805079739270465446667948293404245721771496870329047266088258938001861606973112317%PP
def BB:Int:=27580193559959705877849011840389048093056905856361568521428707301988689241309860865136260764883745107765439761230575
structure Aff (x y:Int):Prop where
 lx:Lo x
 ly:Lo y
 cu:Nu (y*y-(x*x*x-3*x+BB))
def slope (x1 y1 x2 y2:Int):Int :=
 if x1=x2 then ((3*(x1*x1)-3)%PP*pinv ((y1+y1)%PP))%PP else ((y2-y1)%PP*pinv ((x2-x1)%PP))%PP
abbrev Tri:=Int × Int × Int
def ev (r:Int) (a:Tri):Int:=a.1+a.2.1*r+a.2.2*(r*r)
def stp (p q:Int × Int) (l:Int):Option (Int × Int) :=
 if (p.2-q.2-l*(p.1-q.1))%PP=0∧(l*(p.2+q.2)-(p.1*p.1+p.1*q.1+q.1*q.1-3))%PP=0∧¬ (p.1=q.1∧(p.2+q.2)%PP=0) then
  some ((l*l-p.1-q.1)%PP,(l*(p.1-(l*l-p.1-q.1)%PP)-p.2)%PP)
 else none
theorem Zol {D:List Int} (h:D.all (fun d=>decide (0≤d∧d<4294967296))=true):dig D:=by
 intro j
 by_cases hj:j<D.length
 ·have:=List.all_eq_true.1 h (D.getD j 0) (by rw[List.getD_eq_getElem?_getD,List.getElem?_eq_getElem hj];exact List.getElem_mem hj)
  exact of_decide_eq_true this
 ·rw[List.getD_eq_getElem?_getD,List.getElem?_eq_none (by omega)];decide
theorem ZkQ (w:World) (t:TypeId) (D:List Int) (n:Nat) (X:Int) (hl:D.length=n) (hn:n≤1000) (hd:D.all (fun d=>decide (0≤d∧d<4294967296))=true) (ht:trd D) (hX:v32 D=X) :
  ZaG (w.alloc (.cells (us D).toArray t)) (.slice (some ⟨w.heap.size,0,none⟩) n n) X:=by
 subst hl;have B:=Blk.new w (us D) t w.heap.size rfl;exact ⟨D,.inr ⟨w.heap.size,D.length,rfl,Nat.le_refl _,by unfold maxLen;omega,B.lt,fun j hj=>B.cell j _ (ZaO _ j hj)⟩,Zol hd,ht,hX⟩
theorem ZlM (w:World) (t:TypeId):ZaG (w.alloc (.cells #[.int .u64 3] t)) (.slice (some ⟨w.heap.size,0,none⟩) 1 1) 3:=ZkQ w t [3] 1 3 rfl (by decide) (by decide) (fun _=>by decide) rfl
theorem b_dig (w:World) (t:TypeId):ZaG (w.alloc (.cells (us [3555470063,713410797,2318324125,3327539597,1343457114,51644559,4269883666,404593774,3824692505,2559444331,3795773412,3006345127]).toArray t)) (.slice (some ⟨w.heap.size,0,none⟩) 12 12) BB:=ZkQ w t _ 12 BB rfl (by decide) (by decide) (fun _=>by decide) (by decide +kernel)
def Zd5 (n:Bool) (X Y:Int):Prop:=(n=true∧X=0∧Y=0)∨(n=false∧Aff X Y)
theorem Zgl {x0 x1 x2 x3 x4 x5:Int} (fX:Zaz [x0,x1,x2,x3,x4,x5]):v64 [x0,x1,x2,x3,x4,x5]=0↔[x0,x1,x2,x3,x4,x5]=[0,0,0,0,0,0] :=
 ⟨fun h=>ZhW _ _ rfl fX (ZcC 6) (by rw[h];rfl),fun h=>by rw[h];rfl⟩
theorem ZkE {X:Int} (h:Lo X):X<4294967296 ^ 30:=by
 have p30:PP<4294967296 ^ 30:=by decide
 have:=h.2;omega
theorem Zip {X Y:Int} (hX:Lo X) (hY:Lo Y):X*Y<4294967296 ^ 30:=by
 have h1:X*Y≤PP*PP:=Int.mul_le_mul (by have:=hX.2;omega) (by have:=hY.2;omega) hY.1 (by decide);have h2:PP*PP<4294967296 ^ 30:=by decide
 omega
theorem ZmO:Lo 3:=by unfold Lo;decide
theorem lo_BB:Lo BB:=by unfold Lo;decide +kernel
theorem lo_sum {X Y:Int} (hX:Lo X) (hY:Lo Y):X+Y<4294967296 ^ 30:=by
 have h2:PP+PP<4294967296 ^ 30:=by decide
 have:=hX.2;have:=hY.2;omega
theorem r5_B {w:World} :
  Calls Tryz.prog 128 #[] w fun e w'=>∃ v',e=.returned v'∧ZaG w' v' BB∧Below w.heap.size w w':=by
 have h:=b_dig w 25;go_enter Tryz.func128,Tryz.ntmps128;go_wp2;go_ret;exact ⟨_,rfl,h,(Below.refl _ _).alloc (Nat.le_refl _) _⟩
theorem ZoH {x0 x1 x2 x3 x4 x5 y0 y1 y2 y3 y4 y5:Int} {b:Bool} {w:World} (fX:Zaz [x0,x1,x2,x3,x4,x5]) (fY:Zaz [y0,y1,y2,y3,y4,y5]) (hb:b=true↔Zd5 true (v64 [x0,x1,x2,x3,x4,x5]) (v64 [y0,y1,y2,y3,y4,y5])) :
  Calls Tryz.prog 64 #[.agg #[.int .u64 x0,.int .u64 x1,.int .u64 x2,.int .u64 x3,.int .u64 x4,.int .u64 x5,.int .u64 y0,.int .u64 y1,.int .u64 y2,.int .u64 y3,.int .u64 y4,.int .u64 y5,.bool true]] w fun e w'=>e=.returned (.bool b)∧Below w.heap.size w w':=by
 have bq:(decide ([x0,x1,x2,x3,x4,x5]=[0,0,0,0,0,0]∧[y0,y1,y2,y3,y4,y5]=[0,0,0,0,0,0]∧true=true))=b:=by
  have e:([x0,x1,x2,x3,x4,x5]=[0,0,0,0,0,0]∧[y0,y1,y2,y3,y4,y5]=[0,0,0,0,0,0]∧true=true)↔Zd5 true (v64 [x0,x1,x2,x3,x4,x5]) (v64 [y0,y1,y2,y3,y4,y5]):=by
   rw[← Zgl fX,← Zgl fY];unfold Zd5;simp
  rw[← hb] at e
  cases b with
  | false=>exact decide_eq_false (fun h=>absurd (e.1 h) (by simp))
  | true=>exact decide_eq_true (e.2 rfl)
 have q1:=eql_pt x0 x1 x2 x3 x4 x5 y0 y1 y2 y3 y4 y5 0 0 0 0 0 0 0 0 0 0 0 0 true true;rw[bq] at q1;clear bq hb;have B0:=Blk.new w [.int .u64 x0,.int .u64 x1,.int .u64 x2,.int .u64 x3,.int .u64 x4,.int .u64 x5,.int .u64 y0,.int .u64 y1,.int .u64 y2,.int .u64 y3,.int .u64 y4,.int .u64 y5,.bool true] 29 w.heap.size rfl;have bel:=bal w (.cells [.int .u64 x0,.int .u64 x1,.int .u64 x2,.int .u64 x3,.int .u64 x4,.int .u64 x5,.int .u64 y0,.int .u64 y1,.int .u64 y2,.int .u64 y3,.int .u64 y4,.int .u64 y5,.bool true].toArray 29);go_enter Tryz.func64,Tryz.ntmps64;go_upto_region 1 with fail;generalize w.alloc _=W at *;have lt0:=B0.lt;have c0:=B0.cell 0 _ rfl;have f0:=B0.frozen 0;have c1:=B0.cell 1 _ rfl;have f1:=B0.frozen 1;have c2:=B0.cell 2 _ rfl;have f2:=B0.frozen 2;have c3:=B0.cell 3 _ rfl;have f3:=B0.frozen 3;have c4:=B0.cell 4 _ rfl;have f4:=B0.frozen 4;have c5:=B0.cell 5 _ rfl;have f5:=B0.frozen 5;have c6:=B0.cell 6 _ rfl;have f6:=B0.frozen 6;have c7:=B0.cell 7 _ rfl;have f7:=B0.frozen 7;have c8:=B0.cell 8 _ rfl;have f8:=B0.frozen 8;have c9:=B0.cell 9 _ rfl;have f9:=B0.frozen 9;have c10:=B0.cell 10 _ rfl;have f10:=B0.frozen 10;have c11:=B0.cell 11 _ rfl;have f11:=B0.frozen 11;have c12:=B0.cell 12 _ rfl;have f12:=B0.frozen 12;go_wp2_with fail;go_ret;exact ⟨rfl,bel⟩
theorem on_rhs (X:Int):Nu ((((X*X)%PP*X)%PP-(3*X)%PP)%PP+BB-(X*X*X-3*X+BB)):=by
 have e1:=ZdD (X*X);have e2:=ZdD (((X*X)%PP)*X);have e3:=ZdD (3*X);generalize (X*X)%PP=A at *;generalize (A*X)%PP=B at *;generalize (3*X)%PP=C at *;have e4:=ZdD (B-C);generalize (B-C)%PP=D at *;exact nu_of4 e4 1 e2 1 e3 (-1) e1 X (by grind)
theorem on_iff {X Y:Int} (hX:Lo X) (hY:Lo Y):Zeq ((Y*Y)%PP) (((((X*X)%PP*X)%PP-(3*X)%PP)%PP+BB)%PP)=0↔Zd5 false X Y:=by
 have e:=on_rhs X;generalize (((X*X)%PP*X)%PP-(3*X)%PP)%PP+BB=R at *;have c:∀ a b:Int,Zeq a b=0↔a=b:=fun a b=>by
  unfold Zeq
  by_cases h1:a<b
  ·rw[if_pos h1];constructor<;>intro h<;>omega
  ·rw[if_neg h1]
   by_cases h2:a=b
   ·rw[if_pos h2];simp[h2]
   ·rw[if_neg h2];constructor<;>intro h<;>omega
 rw[c];constructor
 ·intro h
  refine .inr ⟨rfl,hX,hY,?_⟩;have h1:Nu (Y*Y-R):=ZfD.2 (Int.emod_eq_emod_iff_emod_sub_eq_zero.1 h);exact Zit h1 1 e 1 (by grind)
 ·rintro (⟨h,_⟩|⟨_,h⟩)
  ·exact absurd h (by simp)
  ·exact nu_eq (Zit h.cu 1 e (-1) (by grind))
theorem ZoI {x0 x1 x2 x3 x4 x5 y0 y1 y2 y3 y4 y5:Int} {b:Bool} {w:World} (fX:Zaz [x0,x1,x2,x3,x4,x5]) (fY:Zaz [y0,y1,y2,y3,y4,y5]) (hb:b=true↔Zd5 false (v64 [x0,x1,x2,x3,x4,x5]) (v64 [y0,y1,y2,y3,y4,y5])) :
  Calls Tryz.prog 64 #[.agg #[.int .u64 x0,.int .u64 x1,.int .u64 x2,.int .u64 x3,.int .u64 x4,.int .u64 x5,.int .u64 y0,.int .u64 y1,.int .u64 y2,.int .u64 y3,.int .u64 y4,.int .u64 y5,.bool false]] w fun e w'=>e=.returned (.bool b)∧Below w.heap.size w w':=by
 have B0:=Blk.new w [.int .u64 x0,.int .u64 x1,.int .u64 x2,.int .u64 x3,.int .u64 x4,.int .u64 x5,.int .u64 y0,.int .u64 y1,.int .u64 y2,.int .u64 y3,.int .u64 y4,.int .u64 y5,.bool false] 29 w.heap.size rfl;have bel:=bal w (.cells [.int .u64 x0,.int .u64 x1,.int .u64 x2,.int .u64 x3,.int .u64 x4,.int .u64 x5,.int .u64 y0,.int .u64 y1,.int .u64 y2,.int .u64 y3,.int .u64 y4,.int .u64 y5,.bool false].toArray 29);have BX:=ZaN _ rfl fX;have BY:=ZaN _ rfl fY;have HX:Hid _:=BX;have HY:Hid _:=BY;have X3:Hid _:=ZnV _ rfl fX;have Y3:Hid _:=ZnV _ rfl fY;have HB:Hid _:=hb;clear hb BX BY;go_enter Tryz.func64,Tryz.ntmps64;go_upto_region 1 with fail;generalize w.alloc _=W at *;have lt0:=B0.lt;have c0:=B0.cell 0 _ rfl;have f0:=B0.frozen 0;have c1:=B0.cell 1 _ rfl;have f1:=B0.frozen 1;have c2:=B0.cell 2 _ rfl;have f2:=B0.frozen 2;have c3:=B0.cell 3 _ rfl;have f3:=B0.frozen 3;have c4:=B0.cell 4 _ rfl;have f4:=B0.frozen 4;have c5:=B0.cell 5 _ rfl;have f5:=B0.frozen 5;have c6:=B0.cell 6 _ rfl;have f6:=B0.frozen 6;have c7:=B0.cell 7 _ rfl;have f7:=B0.frozen 7;have c8:=B0.cell 8 _ rfl;have f8:=B0.frozen 8;have c9:=B0.cell 9 _ rfl;have f9:=B0.frozen 9;have c10:=B0.cell 10 _ rfl;have f10:=B0.frozen 10;have c11:=B0.cell 11 _ rfl;have f11:=B0.frozen 11;have c12:=B0.cell 12 _ rfl;have f12:=B0.frozen 12;go_wp2_with fail;refine (Zf4 [x0,x1,x2,x3,x4,x5] _ rfl fX).mono ?_;rintro e w1 ⟨vx,rfl,NX,hb⟩;replace B0:=B0.later hb;replace bel:=Zaa bel hb;clear hb lt0 c0 c1 c2 c3 c4 c5 c6 c7 c8 c9 c10 c11 c12 f0 f1 f2 f3 f4 f5 f6 f7 f8 f9 f10 f11 f12;have lt0:=B0.lt;have c0:=B0.cell 0 _ rfl;have f0:=B0.frozen 0;have c1:=B0.cell 1 _ rfl;have f1:=B0.frozen 1;have c2:=B0.cell 2 _ rfl;have f2:=B0.frozen 2;have c3:=B0.cell 3 _ rfl;have f3:=B0.frozen 3;have c4:=B0.cell 4 _ rfl;have f4:=B0.frozen 4;have c5:=B0.cell 5 _ rfl;have f5:=B0.frozen 5;have c6:=B0.cell 6 _ rfl;have f6:=B0.frozen 6;have c7:=B0.cell 7 _ rfl;have f7:=B0.frozen 7;have c8:=B0.cell 8 _ rfl;have f8:=B0.frozen 8;have c9:=B0.cell 9 _ rfl;have f9:=B0.frozen 9;have c10:=B0.cell 10 _ rfl;have f10:=B0.frozen 10;have c11:=B0.cell 11 _ rfl;have f11:=B0.frozen 11;have c12:=B0.cell 12 _ rfl;have f12:=B0.frozen 12;go_wp2_with fail;refine (Zf4 [y0,y1,y2,y3,y4,y5] _ rfl fY).mono ?_;rintro e w2 ⟨vy,rfl,NY,hb⟩;replace NX:=NX.later hb;replace bel:=Zaa bel hb;clear hb lt0 c0 c1 c2 c3 c4 c5 c6 c7 c8 c9 c10 c11 c12 f0 f1 f2 f3 f4 f5 f6 f7 f8 f9 f10 f11 f12 B0;obtain ⟨X,hX⟩:∃ X,v64 [x0,x1,x2,x3,x4,x5]=X:=⟨_,rfl⟩;obtain ⟨Y,hY⟩:∃ Y,v64 [y0,y1,y2,y3,y4,y5]=Y:=⟨_,rfl⟩;rw[hX] at NX HX X3 HB;rw[hY] at NY HY Y3 HB;clear hX hY;go_wp2_with fail;refine Znb.mono ?_;rintro e w3 ⟨v3,rfl,N3,hb⟩;replace NX:=NX.later hb;replace NY:=NY.later hb;replace bel:=Zaa bel hb;clear hb;go_wp2_with fail;refine (ZfV _ _ _ _ _ NX N3).mono ?_;rintro e w4 ⟨rfl,hb⟩;replace NX:=NX.later hb;replace NY:=NY.later hb;replace bel:=Zaa bel hb;clear hb N3
 by_cases hx:X<PP
 ·have hge:¬ 0≤Zeq X PP:=by have:=Zhx hx;omega
  have hgd:decide (0≤Zeq X PP)=false:=decide_eq_false hge;have LX:Hid (Lo X):=⟨HX.out.1,hx⟩;clear hx;go_wp2_with fail;refine Znb.mono ?_;rintro e w5 ⟨v3,rfl,N3,hb⟩;replace NX:=NX.later hb;replace NY:=NY.later hb;replace bel:=Zaa bel hb;clear hb hge hgd;go_wp2_with fail;refine (ZfV _ _ _ _ _ NY N3).mono ?_;rintro e w6 ⟨rfl,hb⟩;replace NX:=NX.later hb;replace NY:=NY.later hb;replace bel:=Zaa bel hb;clear hb N3
  by_cases hy:Y<PP
  ·have hge:¬ 0≤Zeq Y PP:=by have:=Zhx hy;omega
   have hgd:decide (0≤Zeq Y PP)=false:=decide_eq_false hge;have LY:Hid (Lo Y):=⟨HY.out.1,hy⟩;clear hy;go_wp2_with fail;refine (pmul NY NY Y3.out Y3.out (Zip LY.out LY.out)).mono ?_;rintro e w7 ⟨vl,rfl,NL,hb⟩;replace NX:=NX.later hb;replace bel:=Zaa bel hb;clear hb hge hgd NY;go_wp2_with fail;refine (pmul NX NX X3.out X3.out (Zip LX.out LX.out)).mono ?_;rintro e w8 ⟨v8,rfl,N8,hb⟩;replace NX:=NX.later hb;replace NL:=NL.later hb;replace bel:=Zaa bel hb;clear hb;go_wp2_with fail;refine (pmul N8 NX (ZkE (Zeg _)) X3.out (Zip (Zeg _) LX.out)).mono ?_;rintro e w9 ⟨v9,rfl,N9,hb⟩;replace NX:=NX.later hb;replace NL:=NL.later hb;replace bel:=Zaa bel hb;clear hb N8;have N3:=ZlM w9 25;replace NX:=NX.alloc (.cells #[.int .u64 3] 25);replace NL:=NL.alloc (.cells #[.int .u64 3] 25);replace N9:=N9.alloc (.cells #[.int .u64 3] 25);replace bel:=Zaf (o:=.cells #[.int .u64 3] 25) bel;go_wp2_with fail;generalize w9.alloc (Obj.cells #[.int .u64 3] 25)=W9 at *;refine (pmul N3 NX (by decide) X3.out (Zip ZmO LX.out)).mono ?_;rintro e w10 ⟨v10,rfl,N10,hb⟩;replace NL:=NL.later hb;replace N9:=N9.later hb;replace bel:=Zaa bel hb;clear hb N3 NX;go_wp2_with fail;refine (psub N9 N10 (ZkE (Zeg _)) (ZkE (Zeg _))).mono ?_;rintro e w11 ⟨v11,rfl,N11,hb⟩;replace NL:=NL.later hb;replace bel:=Zaa bel hb;clear hb N9 N10;go_wp2_with fail;refine r5_B.mono ?_;rintro e w12 ⟨v12,rfl,N12,hb⟩;replace NL:=NL.later hb;replace N11:=N11.later hb;replace bel:=Zaa bel hb;clear hb;go_wp2_with fail;refine (padd N11 N12 (ZkE (Zeg _)) (ZkE lo_BB) (lo_sum (Zeg _) lo_BB)).mono ?_;rintro e w13 ⟨v13,rfl,N13,hb⟩;replace NL:=NL.later hb;replace bel:=Zaa bel hb;clear hb N11 N12;go_wp2_with fail;refine (ZfV _ _ _ _ _ NL N13).mono ?_;rintro e w14 ⟨rfl,hb⟩;replace bel:=Zaa bel hb;clear hb NL N13;have hd:decide (Zeq ((Y*Y)%PP) (((((X*X)%PP*X)%PP-(3*X)%PP)%PP+BB)%PP)=0)=b:=by
    have:=on_iff LX.out LY.out;rw[← HB.out] at this
    cases b with
    | false=>exact decide_eq_false (fun h=>absurd (this.1 h) (by simp))
    | true=>exact decide_eq_true (this.2 rfl)
   generalize Zeq ((Y*Y)%PP) (((((X*X)%PP*X)%PP-(3*X)%PP)%PP+BB)%PP)=cc at *;have hq:(cc == 0)=b:=hd;clear hd HB;subst hq;go_wp2_with fail;go_ret;exact ⟨rfl,bel⟩
  ·have hge:0≤Zeq Y PP:=Zhw hy
   have hgd:decide (0≤Zeq Y PP)=true:=decide_eq_true hge;have bf:b=false:=by
    cases b with
    | false=>rfl
    | true =>
     rcases HB.out.1 rfl with ⟨h,_⟩|⟨_,h⟩
     ·exact absurd h (by simp)
     ·exact absurd h.ly.2 hy
   subst bf;go_wp2_with fail;go_ret;exact ⟨rfl,bel⟩
 ·have hge:0≤Zeq X PP:=Zhw hx
  have hgd:decide (0≤Zeq X PP)=true:=decide_eq_true hge;have bf:b=false:=by
   cases b with
   | false=>rfl
   | true =>
    rcases HB.out.1 rfl with ⟨h,_⟩|⟨_,h⟩
    ·exact absurd h (by simp)
    ·exact absurd h.lx.2 hx
  subst bf;go_wp2_with fail;go_ret;exact ⟨rfl,bel⟩
theorem r5_On {x0 x1 x2 x3 x4 x5 y0 y1 y2 y3 y4 y5:Int} {n b:Bool} {w:World} (fX:Zaz [x0,x1,x2,x3,x4,x5]) (fY:Zaz [y0,y1,y2,y3,y4,y5]) (hb:b=true↔Zd5 n (v64 [x0,x1,x2,x3,x4,x5]) (v64 [y0,y1,y2,y3,y4,y5])) :
  Calls Tryz.prog 64 #[.agg #[.int .u64 x0,.int .u64 x1,.int .u64 x2,.int .u64 x3,.int .u64 x4,.int .u64 x5,.int .u64 y0,.int .u64 y1,.int .u64 y2,.int .u64 y3,.int .u64 y4,.int .u64 y5,.bool n]] w fun e w'=>e=.returned (.bool b)∧Below w.heap.size w w':=by
 cases n with
 | true=>exact ZoH fX fY hb
 | false=>exact ZoI fX fY hb
end Go.Proofs.YtdfmoghjimghhaaGreatDoor
