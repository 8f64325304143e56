import Derived.Test.YtdfmoghjimghhaaGreatDoorCtBase
import Derived.Test.YtdfmoghjimghhaaGreatDoorDrTG
import Derived.Test.YtdfmoghjimghhaaGreatDoorCtSize
import Derived.Test.YtdfmoghjimghhaaGreatDoorPrOidB
import Derived.Test.YtdfmoghjimghhaaGreatDoorClExE
import Derived.Test.YtdfmoghjimghhaaGreatDoorClEl
import Derived.Test.YtdfmoghjimghhaaGreatDoorNlSG
import Derived.Test.YtdfmoghjimghhaaGreatDoorRows
import Derived.Deep.OwnRows
import Derived.Deep.AppendLies
import Derived.Great.BuildSlice
import Derived.Deep.WholeRow
import Derived.Deep.RegionHeld3
import Derived.Deep.DeepCutAuto
import Derived.Deep.DeepFit
import Derived.Laws.Rows
import Derived.BigQuiet
namespace Go.Proofs.YtdfmoghjimghhaaGreatDoor
open Go.RowKit
set_option linter.unusedSimpArgs false
set_option maxRecDepth 100000
set_option maxHeartbeats 2000000
theorem ZoY:(Tryz.prog.info? 35).map (·.size)=some 38:=by kernel_rfl
theorem ZiE:(Tryz.prog.info? 29).map (·.size)=some 13:=by kernel_rfl
theorem Zds.open {w:World} {c:Ct} {cs:List Value} (h:Zds w c cs):∃ sv iv jv xs ys uv pv ev bv rs zs,cs.length=38∧cs[0]?=some sv∧cs[1]?=some iv∧cs[2]?=some jv∧cs[3]?=some (.int .i64 c.frm)∧cs[4]?=some (.int .i64 c.til)∧cs[17]?=some (.bool c.kn)∧cs[18]?=some (.bool c.ca)∧cs[19]?=some (.int .i64 c.path)∧cs[20]?=some (.int .i64 c.usage)∧cs[21]?=some uv∧cs[22]?=some pv∧cs[23]?=some ev∧cs[24]?=some (.bool c.odd)∧cs[25]?=some bv∧(∀ j v,(xs++ys++[.bool c.kn])[j]?=some v→cs[5+j]?=some v)∧(∀ j v,(rs++zs)[j]?=some v→cs[26+j]?=some v)∧Bs w sv c.serial∧Zb3 w iv c.issuer∧Zb3 w jv c.subject∧U6 xs c.kx∧U6 ys c.ky∧Zgo w uv c.uses∧ZcY w pv c.permit∧ZcY w ev c.exclude∧Bs w bv c.body∧U6 rs c.sr∧U6 zs c.ss:=by
  obtain⟨sv,iv,jv,xs,ys,uv,pv,ev,bv,rs,zs,rfl,h1,h2,h3,h4,h5,h6,h7,h8,h9,h10,h11⟩:=h;refine ⟨sv,iv,jv,xs,ys,uv,pv,ev,bv,rs,zs,?_,?_,?_,?_,?_,?_,?_,?_,?_,?_,?_,?_,?_,?_,?_,?_,?_,h1,h2,h3,h4,h5,h6,h7,h8,h9,h10,h11⟩
  all_goals
    obtain⟨x0,x1,x2,x3,x4,x5,rfl,-,-⟩:=h4;obtain ⟨y0,y1,y2,y3,y4,y5,rfl,-,-⟩:=h5;obtain ⟨r0,r1,r2,r3,r4,r5,rfl,-,-⟩:=h10;obtain ⟨z0,z1,z2,z3,z4,z5,rfl,-,-⟩:=h11
    first
      | rfl
      | (intro j v hj;match j,hj with|0,h=>exact h|1,h=>exact h|2,h=>exact h|3,h=>exact h|4,h=>exact h|5,h=>exact h|6,h=>exact h|7,h=>exact h|8,h=>exact h|9,h=>exact h|10,h=>exact h|11,h=>exact h|12,h=>exact h|j+13,h=>simp at h)
      | (intro j v hj;match j,hj with|0,h=>exact h|1,h=>exact h|2,h=>exact h|3,h=>exact h|4,h=>exact h|5,h=>exact h|6,h=>exact h|7,h=>exact h|8,h=>exact h|9,h=>exact h|10,h=>exact h|11,h=>exact h|j+12,h=>simp at h)
theorem Zds.ones {w:World} {c:Ct} {cs:List Value} (h:Zds w c cs):Zbp cs:=by
 obtain⟨sv,iv,jv,xs,ys,uv,pv,ev,bv,rs,zs,rfl,h1,h2,h3,h4,h5,h6,h7,h8,h9,h10,h11⟩:=h;obtain ⟨x0,x1,x2,x3,x4,x5,rfl,-,-⟩:=h4;obtain ⟨y0,y1,y2,y3,y4,y5,rfl,-,-⟩:=h5;obtain ⟨r0,r1,r2,r3,r4,r5,rfl,-,-⟩:=h10;obtain ⟨z0,z1,z2,z3,z4,z5,rfl,-,-⟩:=h11;obtain ⟨_,_,rfl,-⟩:=h1;obtain ⟨_,_,rfl,-⟩:=h2;obtain ⟨_,_,rfl,-⟩:=h3;obtain ⟨_,_,rfl,-⟩:=h6;obtain ⟨_,_,rfl,-⟩:=h7;obtain ⟨_,_,rfl,-⟩:=h8;obtain ⟨_,_,rfl,-⟩:=h9;simp[Zkf,Zbp,Value.oneCell']
def ZiT (w:World) (v:Value) (ys:List Value):Prop:=∃ ao cap,v=.slice ao ys.length cap∧ys.length≤cap∧cap≤maxLen∧(0<ys.length→∃ b o,ao=some ⟨b,o,none⟩∧b<w.heap.size∧∀ i y,ys[i]?=some y→w.cell? ⟨b,o+i,none⟩=some y)
theorem ZiT.later {w w':World} {v:Value} {ys:List Value} (h:ZiT w v ys) (hb:Below w.heap.size w w'):ZiT w' v ys:=by
 obtain⟨ao,cap,e,h1,h2,h3⟩:=h;refine ⟨ao,cap,e,h1,h2,fun h0=>?_⟩;obtain ⟨b,o,e2,hl,hc⟩:=h3 h0;exact ⟨b,o,e2,Nat.lt_of_lt_of_le hl hb.size,fun i y hy=>(hb.cell (p:=⟨b,o+i,none⟩) hl).trans (hc i y hy)⟩
theorem Zhv {α:Type} {P:Nat→α→Value→Prop}:∀ (L:List α),(∀ i x,L[i]?=some x→∃ u,P i x u)→∃ ys:List Value,ys.length=L.length∧∀ i x y,L[i]?=some x→ys[i]?=some y→P i x y:=by
 intro L h;refine ⟨(List.range L.length).map fun i=>if hi:i<L.length then Classical.choose (h i L[i] (List.getElem?_eq_getElem hi)) else .slice none 0 0,by simp,fun i x y hx hy=>?_⟩;have hi:=(List.getElem?_eq_some_iff.1 hx).1;rw[List.getElem?_map,List.getElem?_range hi] at hy;simp only[Option.map_some,dif_pos hi,Option.some.injEq] at hy;rw[List.getElem?_eq_getElem hi,Option.some.injEq] at hx;subst hx hy;exact Classical.choose_spec (h i L[i] (List.getElem?_eq_getElem hi))
theorem ZiS.vals {α:Type} {P:World→Value→α→Prop} {w:World} {v:Value} {L:List α} (h:ZiS P w v L):∃ ys:List Value,ys.length=L.length∧ZiT w v ys∧∀ (i:Nat) (x:α) (y:Value),L[i]?=some x→ys[i]?=some y→P w y x:=by
 obtain⟨ao,cap,e,h1,h2,h3⟩:=h
 by_cases h0:0<L.length
 ·obtain ⟨b,o,e2,hl,hc⟩:=h3 h0
  obtain⟨ys,k1,k2⟩:=Zhv (P:=fun i x u=>w.cell? ⟨b,o+i,none⟩=some u∧P w u x) L hc;refine ⟨ys,k1,⟨ao,cap,by rw[e,k1],by omega,h2,fun _=>⟨b,o,e2,hl,fun i y hy=>?_⟩⟩,fun i x y hx hy=>(k2 i x y hx hy).2⟩;have hi:=(List.getElem?_eq_some_iff.1 hy).1;exact (k2 i _ y (List.getElem?_eq_getElem (by omega)) hy).1
 ·have hL:L=[]:=List.eq_nil_of_length_eq_zero (by omega)
  subst hL;exact ⟨[],rfl,⟨ao,cap,e,h1,h2,fun h=>absurd h (by simp)⟩,fun i x y hx=>by simp at hx⟩
theorem Zkw:(Tryz.prog.info? 24).map (fun i=>(i.zero,i.size,i.bytes))=some (some (.slice none 0 0),1,24):=by kernel_rfl
theorem Zej {w:World} {base ao:Option Addr} {n cap c:Nat} {ty:TypeId} (h:n≤cap) :
  (Builtin.append_ #[31,31] ty #[.slice base n cap,.slice ao 0 c]).run Tryz.prog w=.ok (.slice base n cap) w:=by
 have hu:∀ w:World,(underlying 31).run Tryz.prog w=.ok (.slice 24) w:=run_underlying Tryz.underlying31;have hs:∀ w:World,(Go.sizeOf 24).run Tryz.prog w=.ok 1 w:=fun w=>by kernel_rfl
 have hl:∀ (a:Addr) (w:World),(loadCells a 0).run Tryz.prog w=.ok #[] w:=fun _ _=>rfl
 cases base<;>cases ao<;>simp[hl,Builtin.append_,hu,hs,h,Builtin.firstCells,Builtin.lenOf,Result.andThen,storeCells]
theorem Zf7 {w:World} {base size:Nat} {e:TypeId} {v:Value} {n:Nat} {xs:List Value} (h:w.ownsRow base e size v n xs):∃ ao cap,v=.slice ao n cap∧n≤cap:=by
 rcases h.2 with ⟨h1,h2⟩|⟨g,cap,cur,h1,_,_,h4,_⟩
 ·exact ⟨none,0,by rw[h1,h2],by omega⟩
 ·exact ⟨_,cap,h1,h4⟩
theorem ZcH {ops:Array Oper} {rest:List Oper} {o:Oper} {a:Act} {w:World} {Q:Exit→Act→World→Prop} (hgd:o.guard=none) (s x:Operand)
  (ho:o.op=.call { callee:=.builtin .append,args:=#[s,x],argTypes:=#[31,31] })
  (base:Nat) (v:Value) (n:Nat) (xs:List Value) (hs:a.eval s=v) (hown:w.ownsRow base 24 1 v n xs)
  (u:Value) (B:List Value) (hx:a.eval x=u) (hB:ZiT w u B) (ones:∀ y∈B,y.oneCell'=true) (h47:(n+B.length)*24≤140737488355328) (hbase:base≤w.heap.size)
  (h:∀ v' w',w'.ownsRow base 24 1 v' (n+B.length) (xs++B)→w.grownBy w' v.ownBlock→wpList Tryz.prog ops Q rest (a.put o.dst v') w') :
  wpList Tryz.prog ops Q (o::rest) a w:=by
 obtain⟨ao,cap,rfl,c1,c2,c3⟩:=hB
 by_cases h0:B.length=0
 ·obtain rfl:B=[]:=List.eq_nil_of_length_eq_zero h0
  obtain⟨bo,cp,rfl,k1⟩:=Zf7 hown;refine Lib.wpList_append_run_sl w hgd s x 31 ho _ _ hs hx (Zej k1) ?_;exact h _ w (by simpa using hown) (Zfy _ _)
 ·obtain ⟨b,of,rfl,hb0,hc0⟩:=c3 (by omega)
  obtain⟨i0,hi0,hz0,hz1,hz2⟩:=Zap Zkw;refine wpList_append_lies _ hgd s x _ ho base 24 i0 _ 1 24 Tryz.underlying31 hi0 hz0 hz1 hz2 rfl (by omega) v n xs hs hown ⟨b,of,none⟩ B.length cap B hx (by simp) ?_ ones (by omega) (by unfold maxLen;omega) (by omega) hbase w.heap.size rfl ?_
  ·intro j z hz
   have e:(⟨b,of,none⟩:Addr).add j=⟨b,of+j,none⟩:=by unfold Addr.add;split<;>simp_all
   rw[e];exact hc0 j z hz
  ·intro g cap1 w' hown1 hgrow hat hlt
   exact h _ w' hown1 hgrow
theorem ZmK {n:Nat} (h:n<4294967296):Za4 [((n/16777216%256:Nat):Int),((n/65536%256:Nat):Int),((n/256%256:Nat):Int),((n%256:Nat):Int)]=ZeW 4 n []:=by
 simp only[Za4,ZeW];have e1:n/256/256=n/65536:=by omega
 have e2:n/65536/256=n/16777216:=by omega
 rw[e1,e2]
 by_cases c3:n/16777216=0
 ·have d3:((n/16777216%256:Nat):Int)=0:=by omega
  rw[if_pos d3,if_pos c3]
  by_cases c2:n/65536=0
  ·have d2:((n/65536%256:Nat):Int)=0:=by omega
   rw[if_pos d2,if_pos c2]
   by_cases c1:n/256=0
   ·have d1:((n/256%256:Nat):Int)=0:=by omega
    rw[if_pos d1,if_pos c1]
    by_cases c0:n=0
    ·rw[if_pos (by omega),if_pos c0]
    ·rw[if_neg (by omega),if_neg c0]
   ·rw[if_neg (by omega),if_neg (by omega),if_neg c1]
  ·rw[if_neg (by omega),if_neg (by omega),if_neg (by omega),if_neg c2]
 ·rw[if_neg (by omega),if_neg (by omega),if_neg (by omega),if_neg (by omega),if_neg c3]
theorem Zjq {X Y:List Int} (h:Za4 X=Y) (hs:Za4 Y=Y):ZaK X=ZaK Y:=by
 unfold ZaK;rw[h,hs]
theorem ZlA {n:Nat} (h:n≤2147483647):Zau (n:Int)=ZaK [((n/16777216%256:Nat):Int),((n/65536%256:Nat):Int),((n/256%256:Nat):Int),((n%256:Nat):Int)]:=by
 unfold Zau;rw[if_neg (by omega),Int.toNat_natCast];have hl:n<256 ^ 4:=by
  have:(256:Nat) ^ 4=4294967296:=by decide
  omega
 refine(Zjq (ZmK (by omega)) (Zjl (fun h0=>?_))).symm
 by_cases z:n=0
 ·rw[z,Zkl] at h0;simp at h0
 ·exact ZgG 4 n [] hl (by omega)
theorem Zma (w:World) (X:List Int) (q:Nat) (hl:X.length=q) (h:q≤maxLen):Bs (w.alloc (.cells (u8s X).toArray 5)) (.slice (some ⟨w.heap.size,0,none⟩) q q) X:=by
 have:=Bs.of_own (Zax w (u8s X) 5 q w.heap.size (by simp[hl]) (Nat.le_refl _) h);exact this
theorem Zho {x:Int} {w:World} :
  Calls Tryz.prog 175 #[.int .i64 x] w (Zgn w (Zau x)):=by
 by_cases c1:x<0
 ·have H:Hid (Zau x=.error 3):=by show _=_;unfold Zau;rw[if_pos (.inl c1)]
  go_enter Tryz.func175,Tryz.ntmps175;go_wp2_with fail;refine bodyPost_ret (results_tmp2 rfl _ _ _) rfl ?_;exact Zgn.bad H.out (Below.refl _ _)
 by_cases c2:2147483647<x
 ·have H:Hid (Zau x=.error 3):=by show _=_;unfold Zau;rw[if_pos (.inr c2)]
  go_enter Tryz.func175,Tryz.ntmps175;go_wp2_with fail;refine bodyPost_ret (results_tmp2 rfl _ _ _) rfl ?_;exact Zgn.bad H.out (Below.refl _ _)
 obtain⟨n,rfl⟩:=Int.eq_ofNat_of_zero_le (by omega:0≤x);have H0:Hid _:=ZlA (n:=n) (by omega);have y3:n/16777216%256<256:=by omega
 have y2:n/65536%256<256:=by omega
 have y1:n/256%256<256:=by omega
 have y0:n%256<256:=by omega
 have e3:IntKind.u8.wrap ((n:Int)/16777216)=((n/16777216%256:Nat):Int):=by rw[IntKind.wrap_u8];omega
 have e2:IntKind.u8.wrap ((n:Int)/65536)=((n/65536%256:Nat):Int):=by rw[IntKind.wrap_u8];omega
 have e1:IntKind.u8.wrap ((n:Int)/256)=((n/256%256:Nat):Int):=by rw[IntKind.wrap_u8];omega
 have e0:IntKind.u8.wrap (n:Int)=((n%256:Nat):Int):=by rw[IntKind.wrap_u8];omega
 obtain⟨a3,h3⟩:∃ a,n/16777216%256=a:=⟨_,rfl⟩;obtain ⟨a2,h2⟩:∃ a,n/65536%256=a:=⟨_,rfl⟩;obtain ⟨a1,h1⟩:∃ a,n/256%256=a:=⟨_,rfl⟩;obtain ⟨a0,h0⟩:∃ a,n%256=a:=⟨_,rfl⟩;rw[h3] at e3 y3 H0;rw[h2] at e2 y2 H0;rw[h1] at e1 y1 H0;rw[h0] at e0 y0 H0;clear h0 h1 h2 h3;have BN:=Zma w [(a3:Int),(a2:Int),(a1:Int),(a0:Int)] 4 rfl (by decide);have hbl:=bal w (.cells #[.int .u8 (a3:Int),.int .u8 (a2:Int),.int .u8 (a1:Int),.int .u8 (a0:Int)] 5);have hby:byt [(a3:Int),(a2:Int),(a1:Int),(a0:Int)]:=Zgu _ (fun j hj=>by
  match j,hj with
  | 0,_=>exact ⟨by show (0:Int)≤(a3:Int);omega,by show (a3:Int)<256;omega⟩
  | 1,_=>exact ⟨by show (0:Int)≤(a2:Int);omega,by show (a2:Int)<256;omega⟩
  | 2,_=>exact ⟨by show (0:Int)≤(a1:Int);omega,by show (a1:Int)<256;omega⟩
  | 3,_=>exact ⟨by show (0:Int)≤(a0:Int);omega,by show (a0:Int)<256;omega⟩)
 go_enter Tryz.func175,Tryz.ntmps175;go_wp2_with fail;refine (Zer BN hby (by show 4≤140737488351232;omega)).mono ?_;rintro e w6 ⟨hok,hbad⟩
 cases hp:ZaK [(a3:Int),(a2:Int),(a1:Int),(a0:Int)] with
 | ok k =>
  obtain⟨v6,rfl,b6,n6,hb6⟩:=hok k hp;have H:Hid (Zau (n:Int)=.ok k):=by show _=_;rw[H0.out,hp]
  have bel:=hbl.trans (hb6.mono hbl.size);have n7:ZbR w v6:=n6.up hbl.size;clear hok hbad hp;go_wp2_with fail;refine bodyPost_ret (results_tmp2 rfl _ _ _) rfl ?_;exact Zgn.ok H.out b6 n7 bel
 | error k =>
  obtain⟨ao,cap,rfl,hb6⟩:=hbad k hp;have H:Hid (Zau (n:Int)=.error k):=by show _=_;rw[H0.out,hp]
  have bel:=hbl.trans (hb6.mono hbl.size);clear hok hbad hp;go_wp2_with fail;refine bodyPost_ret (results_tmp2 rfl _ _ _) rfl ?_;exact Zgn.bad H.out (bel)
theorem ZhB {x:Int} {w:World} (_:-9223372036854775808≤x∧x≤9223372036854775807) :
  Calls Tryz.prog 175 #[.int .i64 x] w fun e w'=>(∀ n,Zau x=.ok n→∃ v':Value,e=.returned (.tuple #[v',.nilIface])∧Bs w' v' n∧ZbR w v'∧Below w.heap.size w w')∧(∀ c,Zau x=.error c→∃ (ao:Option Addr) (cap:Nat),e=.returned (.tuple #[.slice ao 0 cap,.iface 53 (.int .i64 (c:Int))])∧Below w.heap.size w w'):=(Zho ).mono (fun _ _ h=>h)
theorem ZgA {v:Value} {n:List Int} {w:World} (hv:Bs w v n):Calls Tryz.prog 104 #[v] w fun e w'=>e=.returned (.bool (Znw n))∧w'=w:=by
 obtain⟨ao,cap,rfl,h2,h1,h3⟩:=hv;obtain ⟨L,hL⟩:∃ L,n.length=L:=⟨_,rfl⟩;have HL:Hid (n.length=L):=hL;rw[hL] at h1 h3 ⊢;clear hL;go_enter Tryz.func104,Tryz.ntmps104
 by_cases c1:0<L
 rotate_left
 ·have H:Hid (Znw n=false):=decide_eq_false (fun h=>h (.inl (by rw[HL.out];omega)))
  have g1:¬ (0:Int)<(L:Int):=by omega
  clear c1 h3;go_wp2_with fail;go_ret;exact ⟨by rw[H.out];rfl,rfl⟩
 obtain⟨b,o,rfl,hb,hc⟩:=h3 c1;have g1:(0:Int)<(L:Int):=by omega
 by_cases c2:L≤20
 rotate_left
 ·have H:Hid (Znw n=false):=decide_eq_false (fun h=>h (.inr (.inl (by rw[HL.out];omega))))
  have g2:¬ (L:Int)≤20:=by omega
  clear c1 c2 hc h3;go_wp2_with fail;go_ret;exact ⟨by rw[H.out];rfl,rfl⟩
 have g2:(L:Int)≤20:=by omega
 have e0:=hc 0 c1;rw[Nat.add_zero] at e0;obtain ⟨x,hx⟩:∃ x,n.getD 0 0=x:=⟨_,rfl⟩;have HX:Hid (n.getD 0 0=x):=hx;rw[hx] at e0;clear hx hc h3
 by_cases c3:x=0
 ·have H:Hid (Znw n=false):=decide_eq_false (fun h=>h (.inr (.inr (by rw[HX.out];exact c3))))
  subst c3;clear c1 c2;go_wp2_with fail;go_ret;exact ⟨by rw[H.out];rfl,rfl⟩
 ·have H:Hid (Znw n=true):=decide_eq_true (fun h=>by rw[HL.out,HX.out] at h;omega)
  have d1:(x == 0)=false:=by rw[beq_eq_false_iff_ne];exact c3
  have d2:(x != 0)=true:=by rw[bne,d1];rfl
  clear c1 c2 c3;go_wp2_with fail;go_ret;exact ⟨by rw[H.out];rfl,rfl⟩
theorem ZcA {v:Value} {n:List Int} {w:World} (hv:Bs w v n) (b:byt n) (hl:n.length≤140737488351232):Calls Tryz.prog 53 #[v] w (ElR w (Zd0 n)):=by
 have HV:Hid (Bs w v n):=hv;have HB:Hid (byt n):=b;have HLn:Hid (n.length≤140737488351232):=hl;obtain ⟨ao,cap,rfl,-,-,-⟩:=hv;clear b hl;have R0:=Blk.new w [.int .i64 0,.int .i64 0,.bool false,.slice none 0 0,.slice none 0 0] 57 w.heap.size rfl;have bel:=bal w (.cells #[.int .i64 0,.int .i64 0,.bool false,.slice none 0 0,.slice none 0 0] 57);have hz:=Zad.out;go_enter Tryz.func53,Tryz.ntmps53;go_upto_region 1 with fail;have lW:=bel.size;generalize w.alloc (.cells #[.int .i64 0,.int .i64 0,.bool false,.slice none 0 0,.slice none 0 0] 57)=W at *;have lR:=R0.lt;obtain ⟨N0,hN0⟩:∃ n,n=W.heap.size:=⟨_,rfl⟩;rw[← hN0] at lR lW;have hs:N0≤W.heap.size:=by omega
 clear hz;go_wp2_with fail;refine (ZgA (HV.out.later bel)).mono ?_;rintro e w1 ⟨rfl,hw1⟩;rw[hw1];clear hw1 w1
 cases hsb:Znw n with
 | false =>
  have H:Hid (Zd0 n=none):=Zlx hsb;clear hsb;have hz:=Zad.out;obtain ⟨tR,hR⟩:=R0;have HR1:Hid _:=hR;clear hR;go_wp2_with (first|((with_reducible show wpList _ _ _ ({ dst:=_,op:=.store _ _ _,type:=_,pos:=_,after:=_,guard:=_ } :: _) _ _);refine wpList_store_row rfl 57 _ _ rfl (w.heap.size) #[.int .i64 0,.int .i64 0,.bool false,.slice none 0 0,.slice none 0 0] rfl rfl tR _ HR1.out (by rw[Zab];rfl) rfl (by simp[Value.oneCell']) ?_)|fail);refine bodyPost_ret (Zag rfl _ _ (w.heap.size) tR #[.int .i64 0,.int .i64 0,.bool false,.slice none 0 0,.slice none 0 0] (0,0) _ rfl (setRow_heap _ _ _ _ _ _ HR1.out) Tryz.underlying57 rfl (by rw[Zab];rfl)) rfl ?_;exact ElR.bad H.out (below_setRow bel (by omega) _)
 | true =>
  obtain⟨X,hX,hS⟩:=Znx hsb;have H:Hid (Zd0 n=some (.mk 0 2 false X [])):=hS;have HX:Hid (ZaK n=.ok X):=hX;clear hsb hX hS;go_wp2_with fail;refine (Zer (HV.out.later bel) HB.out HLn.out).mono ?_;rintro e w2 ⟨hok,-⟩;obtain ⟨v2,rfl,hv2,hn2,hb⟩:=hok X HX.out;have HB2:Hid (Bs w2 v2 X):=hv2;have HN2:Hid (ZbR W v2):=hn2;obtain ⟨va,vc,hv3,-,-,-⟩:=id hv2;obtain ⟨L2,hL2⟩:∃ z,X.length=z:=⟨_,rfl⟩;rw[hL2] at hv3;subst hv3;replace R0:=R0.later hb;replace bel:=Zaa bel hb;clear hb hok hv2 hn2 hL2;have q:=ZaS;go_wp2_with fail;refine ZbT.mono ?_;rintro e w3 ⟨rfl,hb⟩;have HT:Hid (Dep (fun g=>N0≤g) w3 (.mk 0 2 false X []) [.int .i64 0,.int .i64 2,.bool false,.slice va L2 vc,.slice none 0 0]):=by rw[hN0];exact ZbZ (HB2.out.later hb) HN2.out 0 2 false
  replace R0:=R0.later hb;replace bel:=Zaa bel hb;clear hb HB2 HN2;obtain ⟨tR,hR⟩:=R0;have HR1:Hid _:=hR;clear hR;go_wp2_with (first|((with_reducible show wpList _ _ _ ({ dst:=_,op:=.store _ _ _,type:=_,pos:=_,after:=_,guard:=_ } :: _) _ _);refine wpList_store_row rfl 57 _ _ rfl (w.heap.size) #[.int .i64 0,.int .i64 2,.bool false,.slice va L2 vc,.slice none 0 0] rfl rfl tR _ HR1.out (by rw[Zab];rfl) rfl (by simp[Value.oneCell']) ?_)|fail);refine bodyPost_ret (Zag rfl _ _ (w.heap.size) tR #[.int .i64 0,.int .i64 2,.bool false,.slice va L2 vc,.slice none 0 0] (0,0) _ rfl (setRow_heap _ _ _ _ _ _ HR1.out) Tryz.underlying57 rfl (by rw[Zab];rfl)) rfl ?_;exact ElR.ok (cs:=[.int .i64 0,.int .i64 2,.bool false,.slice va L2 vc,.slice none 0 0]) H.out (ZaB HT.out lR lW) (below_setRow bel (by omega) _)
def caO (c:Ct):Option Tl:=if c.ca=false then (if c.path=-1 then some (Zak []) else none) else if c.path=-1 then some (Zak [Zcm]) else match Zau c.path with|.ok b=>some (Zak [Zcm,.mk 0 2 false b []])|.error _=>none
theorem caO_a {c:Ct} (h:c.ca=false) (k:¬ c.path=-1):caO c=none:=by unfold caO;rw[if_pos h,if_neg k]
theorem caO_b {c:Ct} (h:c.ca=false) (k:c.path=-1):caO c=some (Zak []):=by unfold caO;rw[if_pos h,if_pos k]
theorem caO_c {c:Ct} (h:c.ca=true) (k:c.path=-1):caO c=some (Zak [Zcm]):=by unfold caO;rw[if_neg (by rw[h];decide),if_pos k]
theorem caO_d {c:Ct} {e:Nat} (h:c.ca=true) (k:¬ c.path=-1) (l:Zau c.path=.error e):caO c=none:=by unfold caO;rw[if_neg (by rw[h];decide),if_neg k,l]
theorem caO_e {c:Ct} {b:List Int} (h:c.ca=true) (k:¬ c.path=-1) (l:Zau c.path=.ok b):caO c=some (Zak [Zcm,.mk 0 2 false b []]):=by unfold caO;rw[if_neg (by rw[h];decide),if_neg k,l]
theorem ZfT {c:Ct} {cs:List Value} {w:World} (h:Zds w c cs) (wf:WfC c):Calls Tryz.prog 112 #[.agg cs.toArray] w (ElR w (caO c)):=by
 have HPr:Hid (-9223372036854775808≤c.path∧c.path<9223372036854775808):=wf.2.2.2.2.2.1;clear wf;have HC:Hid (Zds w c cs):=h;obtain ⟨sv,iv,jv,xs,ys,uv,pv,ev,bv,rs,zs,hl,q0,q1,q2,q3,q4,q17,q18,q19,q20,q21,q22,q23,q24,-,qk,-,hS,hI,hJ,hX,hY,hU,hP,hE,-,-,-⟩:=h.open;have HL38:Hid (cs.length=38):=hl;clear h hl;have B0:=(Blk.new w cs 35 w.heap.size rfl).alloc (.cells #[.int .i64 0,.int .i64 0,.bool false,.slice none 0 0,.slice none 0 0] 57);have R0:=Blk.new (w.alloc (.cells cs.toArray 35)) [.int .i64 0,.int .i64 0,.bool false,.slice none 0 0,.slice none 0 0] 57 (w.heap.size+1) (by simp);have bel:Below w.heap.size w ((w.alloc (.cells cs.toArray 35)).alloc (.cells #[.int .i64 0,.int .i64 0,.bool false,.slice none 0 0,.slice none 0 0] 57)):=((Below.refl _ _).alloc (Nat.le_refl _) _).alloc (by simp) _;have hz:=Zad.out;go_enter Tryz.func112,Tryz.ntmps112;go_upto_region 1 with fail;have lW:=bel.size;generalize (w.alloc (.cells cs.toArray 35)).alloc (.cells #[.int .i64 0,.int .i64 0,.bool false,.slice none 0 0,.slice none 0 0] 57)=W at *;have lR:=R0.lt;obtain ⟨N0,hN0⟩:∃ n,n=W.heap.size:=⟨_,rfl⟩;rw[← hN0] at lR lW;have hs:N0≤W.heap.size:=by omega
 clear hz;obtain ⟨jt,hjt,ht0,ht1,ht2⟩:=Zap ZaI

 have l0:=B0.lt;have e18:=B0.cell 18 _ q18;have e19:=B0.cell 19 _ q19;obtain ⟨ca,hca⟩:∃ z,c.ca=z:=⟨_,rfl⟩;obtain ⟨pa,hpa⟩:∃ z,c.path=z:=⟨_,rfl⟩;have Hca:Hid (c.ca=ca):=hca;have Hpa:Hid (c.path=pa):=hpa;rw[hca] at e18;rw[hpa] at e19;clear hca hpa q0 q1 q2 q3 q4 q17 q18 q19 q20 q21 q22 q23 q24 qk hS hI hJ hX hY hU hP hE
 cases ca with
 | false =>
  by_cases k:pa=-1
  rotate_left
  ·have H:Hid (caO c=none):=caO_a Hca.out (by rw[Hpa.out];exact k)
   have d1:(pa == -1)=false:=by rw[beq_eq_false_iff_ne];exact k
   have d2:(pa != -1)=true:=by rw[bne,d1];rfl
   clear k;have hz:=Zad.out;obtain ⟨tR,hR⟩:=R0;have HR1:Hid _:=hR;clear hR;go_wp2_with (first|((with_reducible show wpList _ _ _ ({ dst:=_,op:=.store _ _ _,type:=_,pos:=_,after:=_,guard:=_ } :: _) _ _);refine wpList_store_row rfl 57 _ _ rfl (w.heap.size+1) #[.int .i64 0,.int .i64 0,.bool false,.slice none 0 0,.slice none 0 0] rfl rfl tR _ HR1.out (by rw[Zab];rfl) rfl (by simp[Value.oneCell']) ?_)|fail);refine bodyPost_ret (Zag rfl _ _ (w.heap.size+1) tR #[.int .i64 0,.int .i64 0,.bool false,.slice none 0 0,.slice none 0 0] (0,0) _ rfl (setRow_heap _ _ _ _ _ _ HR1.out) Tryz.underlying57 rfl (by rw[Zab];rfl)) rfl ?_;exact ElR.bad H.out (below_setRow bel (by omega) _)
  subst k;have H:Hid (caO c=some (Zak [])):=caO_b Hca.out Hpa.out;have HT:Hid (Dep (fun g=>N0≤g) W (Zak []) [.int .i64 0,.int .i64 16,.bool true,.slice none 0 0,.slice none 0 0]):=(RwT.nil0 W N0).dep 0 16 true;go_wp2_with fail;refine Zbd.mono ?_;rintro e w1 ⟨rfl,hb⟩;replace HT:=dpl HT hb;replace R0:=R0.later hb;replace bel:=Zaa bel hb;clear hb e18 e19 l0 B0;obtain ⟨tR,hR⟩:=R0;have HR1:Hid _:=hR;clear hR;go_wp2_with (first|((with_reducible show wpList _ _ _ ({ dst:=_,op:=.store _ _ _,type:=_,pos:=_,after:=_,guard:=_ } :: _) _ _);refine wpList_store_row rfl 57 _ _ rfl (w.heap.size+1) #[.int .i64 0,.int .i64 16,.bool true,.slice none 0 0,.slice none 0 0] rfl rfl tR _ HR1.out (by rw[Zab];rfl) rfl (by simp[Value.oneCell']) ?_)|fail);refine bodyPost_ret (Zag rfl _ _ (w.heap.size+1) tR #[.int .i64 0,.int .i64 16,.bool true,.slice none 0 0,.slice none 0 0] (0,0) _ rfl (setRow_heap _ _ _ _ _ _ HR1.out) Tryz.underlying57 rfl (by rw[Zab];rfl)) rfl ?_;exact ElR.ok (cs:=[.int .i64 0,.int .i64 16,.bool true,.slice none 0 0,.slice none 0 0]) H.out (ZaB HT.out lR lW) (below_setRow bel (by omega) _)
 | true =>
  by_cases k:pa=-1
  ·subst k
   have H:Hid (caO c=some (Zak [Zcm])):=caO_c Hca.out Hpa.out;go_wp2_with fail;refine ZeQ.mono ?_;rintro e w1 ⟨cs1,rfl,hd9,hb⟩;have HD1:Hid (Dep (fun g=>N0≤g) w1 (Zcm) cs1):=hd9.next (Agr.refl _ _) (fun _ h _=>Nat.le_trans hs h);have HL1:Hid (cs1.length=5):=hd9.now.five;replace R0:=R0.later hb;replace bel:=Zaa bel hb;replace hs:=hsl hs hb;clear hb hd9;clear e18 e19 l0 B0;have HT:Hid (Dep (fun g=>N0≤g) (w1.alloc (.cells (cs1).toArray 57)) (Zak [Zcm]) [.int .i64 0,.int .i64 16,.bool true,.slice none 0 0,.slice (some ⟨w1.heap.size,0,none⟩) 1 1]):=Zav (ks:=[Zcm]) (w:=w1) (N:=N0) (xs:=cs1) HL1.out hs (show 1≤maxLen by decide) (ZaY (P:=Dep (fun g=>N0≤g) w1) HD1.out HL1.out) 0 16 true;have HF:Hid _:=Zay HL1.out;replace R0:=R0.alloc (.cells (cs1).toArray 57);replace bel:=Zaf (o:=.cells (cs1).toArray 57) bel;replace hs:N0≤(w1.alloc (.cells (cs1).toArray 57)).heap.size:=Nat.le_trans hs ((Below.refl _ _).alloc (Nat.le_refl _) _).size;have hz:=Zad.out;go_wp2_with (first|((with_reducible show wpList _ _ _ ({ dst:=_,op:=.buildSlice _ _ _,type:=_,pos:=_,after:=_,guard:=_ } :: _) _ _);refine Go.wpList_buildSlice rfl 55 57 1 _ rfl (cs1).toArray jt _ Tryz.underlying55 hjt ht0 (by rw[ht1];decide) (by rw[ht1];decide) (by rw[ht1];refine (congrArg _ (?_:_=[(0,Value.agg cs1.toArray)])).trans HF.out;kernel_rfl) ?_)|fail);clear hz HF;obtain ⟨g9,hg9⟩:∃ g,g=w1.heap.size:=⟨_,rfl⟩;rw[← hg9] at HT ⊢;generalize w1.alloc (.cells (cs1).toArray 57)=V9 at *;clear hg9;refine Zbd.mono ?_;rintro e w8 ⟨rfl,hb⟩;replace HT:=dpl HT hb;replace R0:=R0.later hb;replace bel:=Zaa bel hb;clear hb;obtain ⟨tR,hR⟩:=R0;have HR1:Hid _:=hR;clear hR;go_wp2_with (first|((with_reducible show wpList _ _ _ ({ dst:=_,op:=.store _ _ _,type:=_,pos:=_,after:=_,guard:=_ } :: _) _ _);refine wpList_store_row rfl 57 _ _ rfl (w.heap.size+1) #[.int .i64 0,.int .i64 16,.bool true,.slice none 0 0,.slice (some ⟨g9,0,none⟩) 1 1] rfl rfl tR _ HR1.out (by rw[Zab];rfl) rfl (by simp[Value.oneCell']) ?_)|fail);refine bodyPost_ret (Zag rfl _ _ (w.heap.size+1) tR #[.int .i64 0,.int .i64 16,.bool true,.slice none 0 0,.slice (some ⟨g9,0,none⟩) 1 1] (0,0) _ rfl (setRow_heap _ _ _ _ _ _ HR1.out) Tryz.underlying57 rfl (by rw[Zab];rfl)) rfl ?_;exact ElR.ok (cs:=[.int .i64 0,.int .i64 16,.bool true,.slice none 0 0,.slice (some ⟨g9,0,none⟩) 1 1]) H.out (ZaB HT.out lR lW) (below_setRow bel (by omega) _)
  have d1:(pa == -1)=false:=by rw[beq_eq_false_iff_ne];exact k
  have HK:Hid (¬ c.path=-1):=by show ¬ _;rw[Hpa.out];exact k
  clear k;go_wp2_with fail;refine (ZhB (by rw[← Hpa.out];have:=HPr.out;omega)).mono ?_;rintro e w1 ⟨hok,hbad⟩;clear d1 e18 e19 l0 B0
  cases hm:Zau pa with
  | error e9 =>
   obtain⟨va,vc,rfl,hb⟩:=hbad e9 hm;have H:Hid (caO c=none):=caO_d Hca.out HK.out (by rw[Hpa.out];exact hm);replace R0:=R0.later hb;replace bel:=Zaa bel hb;clear hok hbad hb hm;have q:=ZaE (e9:Int);have hz:=Zad.out;obtain ⟨tR,hR⟩:=R0;have HR1:Hid _:=hR;clear hR;go_wp2_with (first|((with_reducible show wpList _ _ _ ({ dst:=_,op:=.store _ _ _,type:=_,pos:=_,after:=_,guard:=_ } :: _) _ _);refine wpList_store_row rfl 57 _ _ rfl (w.heap.size+1) #[.int .i64 0,.int .i64 0,.bool false,.slice none 0 0,.slice none 0 0] rfl rfl tR _ HR1.out (by rw[Zab];rfl) rfl (by simp[Value.oneCell']) ?_)|fail);refine bodyPost_ret (Zag rfl _ _ (w.heap.size+1) tR #[.int .i64 0,.int .i64 0,.bool false,.slice none 0 0,.slice none 0 0] (0,0) _ rfl (setRow_heap _ _ _ _ _ _ HR1.out) Tryz.underlying57 rfl (by rw[Zab];rfl)) rfl ?_;exact ElR.bad H.out (below_setRow bel (by omega) _)
  | ok b =>
   obtain⟨v1,rfl,hv1,hn1,hb⟩:=hok b hm;have H:Hid (caO c=some (Zak [Zcm,.mk 0 2 false b []])):=caO_e Hca.out HK.out (by rw[Hpa.out];exact hm);have HV:Hid (Bs w1 v1 b):=hv1;have HN:Hid (∀ a m c,v1=.slice (some a) m c→0<m→N0≤a.block):=by rw[hN0];exact hn1
   obtain⟨va,vc,hv3,-,-,-⟩:=id hv1;obtain ⟨L1,hL1⟩:∃ z,b.length=z:=⟨_,rfl⟩;rw[hL1] at hv3;subst hv3;replace R0:=R0.later hb;replace bel:=Zaa bel hb;replace hs:=hsl hs hb;clear hok hbad hb hm hv1 hn1 hL1;have q:=ZaS;go_wp2_with fail;refine ZeQ.mono ?_;rintro e w2 ⟨cs2,rfl,hd9,hb⟩;have HD2:Hid (Dep (fun g=>N0≤g) w2 (Zcm) cs2):=hd9.next (Agr.refl _ _) (fun _ h _=>Nat.le_trans hs h);have HL2:Hid (cs2.length=5):=hd9.now.five;replace HV:=BsL HV hb;replace R0:=R0.later hb;replace bel:=Zaa bel hb;replace hs:=hsl hs hb;clear hb hd9;go_wp2_with fail;refine (Zb6 (N:=N0) HV.out HN.out).mono ?_;rintro e w3 ⟨cs3,rfl,hd9,hb⟩;have HD3:Hid (Dep (fun g=>N0≤g) w3 (Tl.mk 0 2 false b []) cs3):=hd9;have HL3:Hid (cs3.length=5):=hd9.now.five;replace HD2:=dpl HD2 hb;replace R0:=R0.later hb;replace bel:=Zaa bel hb;replace hs:=hsl hs hb;clear hb hd9;have HT:Hid (Dep (fun g=>N0≤g) (w3.alloc (.cells (cs2++cs3).toArray 57)) (Zak [Zcm,Tl.mk 0 2 false b []]) [.int .i64 0,.int .i64 16,.bool true,.slice none 0 0,.slice (some ⟨w3.heap.size,0,none⟩) 2 2]):=Zav (ks:=[Zcm,Tl.mk 0 2 false b []]) (w:=w3) (N:=N0) (xs:=cs2++cs3) (by rw[List.length_append,HL2.out,HL3.out];rfl) hs (show 2≤maxLen by decide) (Zbo (P:=Dep (fun g=>N0≤g) w3) HD2.out HD3.out HL2.out HL3.out) 0 16 true;have HF:Hid _:=ZbO HL2.out HL3.out;replace R0:=R0.alloc (.cells (cs2++cs3).toArray 57);replace bel:=Zaf (o:=.cells (cs2++cs3).toArray 57) bel;replace hs:N0≤(w3.alloc (.cells (cs2++cs3).toArray 57)).heap.size:=Nat.le_trans hs ((Below.refl _ _).alloc (Nat.le_refl _) _).size;have hz:=Zad.out;go_wp2_with (first|((with_reducible show wpList _ _ _ ({ dst:=_,op:=.buildSlice _ _ _,type:=_,pos:=_,after:=_,guard:=_ } :: _) _ _);refine Go.wpList_buildSlice rfl 55 57 2 _ rfl (cs2++cs3).toArray jt _ Tryz.underlying55 hjt ht0 (by rw[ht1];decide) (by rw[ht1];decide) (by rw[ht1];refine (congrArg _ (?_:_=[(0,Value.agg cs2.toArray),(1,Value.agg cs3.toArray)])).trans HF.out;kernel_rfl) ?_)|fail);clear hz HF;obtain ⟨g9,hg9⟩:∃ g,g=w3.heap.size:=⟨_,rfl⟩;rw[← hg9] at HT ⊢;generalize w3.alloc (.cells (cs2++cs3).toArray 57)=V9 at *;clear hg9;refine Zbd.mono ?_;rintro e w8 ⟨rfl,hb⟩;replace HT:=dpl HT hb;replace R0:=R0.later hb;replace bel:=Zaa bel hb;clear hb;obtain ⟨tR,hR⟩:=R0;have HR1:Hid _:=hR;clear hR;go_wp2_with (first|((with_reducible show wpList _ _ _ ({ dst:=_,op:=.store _ _ _,type:=_,pos:=_,after:=_,guard:=_ } :: _) _ _);refine wpList_store_row rfl 57 _ _ rfl (w.heap.size+1) #[.int .i64 0,.int .i64 16,.bool true,.slice none 0 0,.slice (some ⟨g9,0,none⟩) 2 2] rfl rfl tR _ HR1.out (by rw[Zab];rfl) rfl (by simp[Value.oneCell']) ?_)|fail);refine bodyPost_ret (Zag rfl _ _ (w.heap.size+1) tR #[.int .i64 0,.int .i64 16,.bool true,.slice none 0 0,.slice (some ⟨g9,0,none⟩) 2 2] (0,0) _ rfl (setRow_heap _ _ _ _ _ _ HR1.out) Tryz.underlying57 rfl (by rw[Zab];rfl)) rfl ?_;exact ElR.ok (cs:=[.int .i64 0,.int .i64 16,.bool true,.slice none 0 0,.slice (some ⟨g9,0,none⟩) 2 2]) H.out (ZaB HT.out lR lW) (below_setRow bel (by omega) _)
end Go.Proofs.YtdfmoghjimghhaaGreatDoor
