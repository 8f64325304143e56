import Derived.Test.YtdfmoghjimghhaaGreatDoorBase
import Derived.Test.YtdfmoghjimghhaaGreatDoorLimb
import Derived.Test.YtdfmoghjimghhaaGreatDoorRows
import Derived.Deep.RegionHeld3
import Derived.Lib.SlFresh
import Derived.Deep.AppendLies
import Derived.Deep.OwnRows
namespace Go.Proofs.YtdfmoghjimghhaaGreatDoor
open Go.RowKit
def Bs (w:World) (v:Value) (bs:List Int):Prop :=
 ∃ ao cap,v=.slice ao bs.length cap∧cap≤maxLen∧bs.length≤cap∧(0<bs.length→∃ b o,ao=some ⟨b,o,none⟩∧b<w.heap.size∧∀ j,j<bs.length→w.cell? ⟨b,o+j,none⟩=some (.int .u8 (bs.getD j 0)))
def byt (bs:List Int):Prop:=∀ j,0≤bs.getD j 0∧bs.getD j 0<256
theorem Bs.later {w w':World} {v:Value} {bs:List Int} (h:Bs w v bs) (hb:Below w.heap.size w w'):Bs w' v bs:=by
 obtain⟨ao,cap,h1,h2,h3,h4⟩:=h;refine ⟨ao,cap,h1,h2,h3,fun hp=>?_⟩;obtain ⟨b,o,e1,e2,e3⟩:=h4 hp;exact ⟨b,o,e1,Nat.lt_of_lt_of_le e2 hb.size,fun j hj=>(hb.cell e2).trans (e3 j hj)⟩
def beN (bs:List Int):Int:=pv 256 bs.reverse
theorem ZjP {bs:List Int} (h:byt bs) (j:Nat):0≤bs.reverse.getD j 0∧bs.reverse.getD j 0<256:=by
 by_cases hj:j<bs.length
 ·have:bs.reverse.getD j 0=bs.getD (bs.length-1-j) 0:=by
   simp[List.getD_eq_getElem?_getD,List.getElem?_reverse hj]
  rw[this];exact h _
 ·have:bs.reverse.getD j 0=0:=by rw[List.getD_eq_getElem?_getD,List.getElem?_eq_none (by simp;omega)];rfl
  rw[this];decide
theorem Zlm (bs:List Int) (j:Nat) (hj:j<bs.length):bs.reverse.getD (bs.length-1-j) 0=bs.getD j 0:=by
 have:bs.length-1-(bs.length-1-j)=j:=by omega
 simp[List.getD_eq_getElem?_getD,List.getElem?_reverse (show bs.length-1-j<bs.length by omega),this]
abbrev u8s (A:List Int):List Value:=A.map (Value.int .u8)
theorem ZdK (A:List Int) (j:Nat) (h:j<A.length):(u8s A)[j]?=some (.int .u8 (A.getD j 0)):=by
 simp[u8s,h]
theorem Zax (w:World) (cs:List Value) (e:TypeId) (n base:Nat) (hl:cs.length=n) (hb:base≤w.heap.size) (hm:n≤maxLen) :
  (w.alloc (.cells cs.toArray e)).ownsRow base e 1 (.slice (some ⟨w.heap.size,0,none⟩) n n) n cs :=
 ⟨by omega,.inr ⟨w.heap.size,n,cs.toArray,rfl,hb,by show (w.heap.push _)[w.heap.size]?=_;simp,Nat.le_refl _,hm,by simp;omega,by rw[List.take_of_length_le (by simp;omega)]⟩⟩
theorem Bs.of_own {w:World} {base:Nat} {e:TypeId} {v:Value} {n:Nat} {D:List Int} (h:w.ownsRow base e 1 v n (u8s D)):Bs w v D:=by
 obtain⟨hl,h⟩:=h;have hn:D.length=n:=by simpa using hl
 rcases h with ⟨h1,h2⟩|⟨g,cap,cur,h1,h2,h3,h4,h5,h6,h7⟩
 ·exact ⟨none,0,by rw[h1,hn,h2],Nat.zero_le _,by omega,fun h=>by omega⟩
 ·refine ⟨_,cap,by rw[hn];exact h1,h5,by omega,fun _=>⟨g,0,rfl,(Array.getElem?_eq_some_iff.1 h3).1,fun j hj=>?_⟩⟩
  have e1:(cur.toList.take (n*1))[j]?=some (.int .u8 (D.getD j 0)):=by rw[h7];exact ZdK D j hj
  rw[List.getElem?_take,if_pos (by omega)] at e1;rw[Nat.zero_add];simp only[World.cell?,h3,Option.isSome_none,Bool.false_eq_true,if_false]
  simpa using e1
theorem Zgu (A:List Int) (h:∀ j,j<A.length→0≤A.getD j 0∧A.getD j 0<256):byt A:=by
 intro j
 by_cases hj:j<A.length
 ·exact h j hj
 ·rw[Zbj A j (by omega)];decide
theorem Zow:(Tryz.prog.info? 5).map (fun i=>(i.zero,i.size,i.bytes))=some (some (.int .u8 0),1,1):=by kernel_rfl
theorem Zez {w:World} {base ao:Option Addr} {n cap c:Nat} {ty:TypeId} (h:n≤cap) :
  (Builtin.append_ #[22,22] ty #[.slice base n cap,.slice ao 0 c]).run Tryz.prog w=.ok (.slice base n cap) w:=by
 have hu:∀ w:World,(underlying 22).run Tryz.prog w=.ok (.slice 5) w:=run_underlying Tryz.underlying22;have hs:∀ w:World,(Go.sizeOf 5).run Tryz.prog w=.ok 1 w:=fun w=>by kernel_rfl
 have hl:∀ (a:Addr) (w:World),(loadCells a 0).run Tryz.prog w=.ok #[] w:=fun _ _=>rfl
 cases base<;>cases ao<;>simp[hl,Builtin.append_,hu,hs,h,Builtin.firstCells,Builtin.lenOf,Result.andThen,storeCells]
theorem ZbH {w:World} {base:Nat} {e:TypeId} {v:Value} {n:Nat} {xs:List Value} (h:w.ownsRow base e 1 v n xs):∃ ao cap,v=.slice ao n cap∧n≤cap∧cap≤maxLen:=by
 rcases h.2 with ⟨h1,h2⟩|⟨g,cap,cur,h1,h2,h3,h4,h5,h6,h7⟩
 ·subst h2;exact ⟨none,0,h1,Nat.le_refl _,Nat.zero_le _⟩
 ·exact ⟨_,cap,h1,h4,h5⟩
theorem Zfy (w:World) (row:Option Nat):w.grownBy w row:=⟨rfl,rfl,rfl,Nat.le_refl _,fun _ _ _=>rfl⟩
theorem Zac {ops:Array Oper} {rest:List Oper} {o:Oper} {a:Act} {w:World} {Q:Exit→Act→World→Prop} (hgd:o.guard=none) (s x:Operand)
  (ho:o.op=.call { callee:=.builtin .append,args:=#[s,x],argTypes:=#[22,22] })
  (base:Nat) (v:Value) (n:Nat) (xs:List Int) (hs:a.eval s=v) (hown:w.ownsRow base 5 1 v n (u8s xs))
  (u:Value) (B:List Int) (hx:a.eval x=u) (hB:Bs w u B) (h47:n+B.length≤140737488355328) (hbase:base≤w.heap.size)
  (h:∀ v' w',w'.ownsRow base 5 1 v' (n+B.length) (u8s (xs++B))→w.grownBy w' v.ownBlock→(v'.ownBlock=v.ownBlock∨v'.ownBlock=some w.heap.size)→wpList Tryz.prog ops Q rest (a.put o.dst v') w') :
  wpList Tryz.prog ops Q (o::rest) a w:=by
 obtain⟨ao,cap,rfl,c1,c2,c3⟩:=hB
 by_cases h0:B.length=0
 ·obtain rfl:B=[]:=List.eq_nil_of_length_eq_zero h0
  obtain⟨bo,cp,rfl,k1,k2⟩:=ZbH hown;refine Lib.wpList_append_run_sl w hgd s x 22 ho _ _ hs hx (Zez k1) ?_;exact h _ w (by simpa using hown) (Zfy _ _) (.inl rfl)
 ·obtain ⟨b,of,rfl,hb0,hc0⟩:=c3 (by omega)
  obtain⟨i0,hi0,hz0,hz1,hz2⟩:=info_parts Zow;refine wpList_append_lies _ hgd s x _ ho base 5 i0 _ 1 1 Tryz.underlying22 hi0 hz0 hz1 hz2 rfl (by omega) v n (u8s xs) hs hown ⟨b,of,none⟩ B.length cap (u8s B) hx (by simp[u8s]) ?_ (by simp[u8s,Value.oneCell']) (by omega) (by unfold maxLen;omega) (by omega) hbase w.heap.size rfl ?_
  ·intro j z hz
   have hj:j<B.length:=by
    have:=(List.getElem?_eq_some_iff.1 hz).1
    simpa [u8s] using this
   have e:(⟨b,of,none⟩:Addr).add j=⟨b,of+j,none⟩:=by unfold Addr.add;split<;>simp_all
   rw[ZdK B j hj] at hz;rw[e,← hz];exact hc0 j hj
  ·intro g cap1 w' hown1 hgrow hat hlt
   refine h _ w' (by simpa [u8s] using hown1) hgrow ?_;rcases hat with e|e
   ·exact .inl (by rw[e];rfl)
   ·exact .inr (by rw[← e];rfl)
theorem ZeO (w:World) (y:Int):Bs (w.alloc (.cells #[.int .u8 y] 5)) (.slice (some ⟨w.heap.size,0,none⟩) 1 1) [y]:=by
 have B:=Blk.new w [.int .u8 y] 5 w.heap.size rfl;exact ⟨_,1,rfl,by decide,Nat.le_refl _,fun _=>⟨w.heap.size,0,rfl,B.lt,fun j hj=>by
  have e:j=0:=by simp at hj;exact hj
  subst e;exact B.cell 0 _ rfl⟩⟩
theorem Zai {w w':World} {base:Nat} {row:Option Nat} {B:Nat} {a:World} (hb:Below B a w) (hg:w.grownBy w' row) (hs:B≤w.heap.size) (hr:∀ g,row=some g→base≤g) (h:B≤base):Below B a w':=Below.grown hb hg hs (fun j hj=>Nat.le_trans h (hr j hj))
theorem ZmT (a:Int) (h0:0≤a) (k:Nat):a%256 ^ k+256 ^ k*(a/256 ^ k%256)=a%256 ^ (k+1):=by
 obtain⟨n,rfl⟩:=Int.eq_ofNat_of_zero_le h0;have e:=Nat.mod_mul (x:=n) (a:=256 ^ k) (b:=256);have h1:(256:Int) ^ k=((256 ^ k:Nat):Int):=(Int.natCast_pow 256 k).symm;rw[Int.pow_succ,h1];generalize (256:Nat) ^ k=p at e;have e2:((n%p+p*(n/p%256):Nat):Int)=((n%(p*256):Nat):Int):=by rw[e]
 exact e2
theorem Zkm (a:Int) (h0:0≤a) (Q:List Int) (hQ:∀ r,r<Q.length→Q.getD r 0=a/256 ^ r%256):pv 256 Q=a%256 ^ Q.length:=by
 have key:∀ k,k≤Q.length→pv 256 (Q.take k)=a%256 ^ k:=by
  intro k
  induction k with
  | zero=>intro _;simp[pv,Int.emod_one]
  | succ k ih =>
   intro hk;rw[ZbC _ Q k (by omega),ih (by omega),hQ k (by omega),ZmT a h0 k]
 have:=key Q.length (Nat.le_refl _)
 rwa [List.take_of_length_le (Nat.le_refl _)] at this
theorem ZhL (b:Int) (D:List Int) (k:Nat):pv b (D.take (k+1))=pv b (D.take k)+b ^ k*D.getD k 0:=by
 by_cases h:k<D.length
 ·exact ZbC b D k h
 ·rw[List.take_of_length_le (by omega),List.take_of_length_le (by omega),Zbj D k (by omega)];simp
theorem Zn6 (c:Nat) (hc:0<c) (A R:List Int) (hA:∀ j,0≤A.getD j 0∧A.getD j 0<256 ^ c) (hR:∀ t,t<R.length→R.getD t 0=A.getD (t/c) 0/256 ^ (t%c)%256) :
  ∀ n,c*n≤R.length→pv 256 (R.take (c*n))=pv (256 ^ c) (A.take n):=by
 intro n
 induction n with
 | zero=>intro _;simp[pv]
 | succ n ih =>
  intro hn;have hn':c*n+c≤R.length:=by rw[Nat.mul_succ] at hn;exact hn
  have e1:R.take (c*(n+1))=R.take (c*n)++(R.take (c*n+c)).drop (c*n):=by
   rw[Nat.mul_succ];have:=List.take_append_drop (c*n) (R.take (c*n+c));rw[List.take_take,show min (c*n) (c*n+c)=c*n by omega] at this;exact this.symm
  have hl:((R.take (c*n+c)).drop (c*n)).length=c:=by simp;omega
  have hQ:∀ r,r<((R.take (c*n+c)).drop (c*n)).length→((R.take (c*n+c)).drop (c*n)).getD r 0=A.getD n 0/256 ^ r%256:=by
   intro r hr;rw[hl] at hr;have e:((R.take (c*n+c)).drop (c*n)).getD r 0=R.getD (c*n+r) 0:=by
    simp only[List.getD_eq_getElem?_getD,List.getElem?_drop,List.getElem?_take,show c*n+r<c*n+c by omega,if_true]
   rw[e,hR _ (by omega),Nat.mul_add_div hc,Nat.div_eq_of_lt hr,Nat.mul_add_mod,Nat.mod_eq_of_lt hr,Nat.add_zero]
  have e2:=Zkm (A.getD n 0) (hA n).1 _ hQ;have e3:(R.take (c*n)).length=c*n:=by simp;omega
  rw[e1,Zde,ih (by omega),e2,hl,e3,Int.emod_eq_of_lt (hA n).1 (hA n).2,ZhL,Int.pow_mul]
theorem ZgY:∀ (A B:List Int),A.length=B.length→(∀ j,0≤A.getD j 0∧A.getD j 0<256)→(∀ j,0≤B.getD j 0∧B.getD j 0<256)→pv 256 A=pv 256 B→A=B
 | [],[],_,_,_,_=>rfl
 | [],b::B,h,_,_,_=>by simp at h
 | a::A,[],h,_,_,_=>by simp at h
 | a::A,b::B,h,hA,hB,hv=>by
  have ha:0≤a∧a<256:=hA 0;have hb:0≤b∧b<256:=hB 0;simp only[pv] at hv;have h1:a=b:=by omega
  have h2:pv 256 A=pv 256 B:=by omega
  rw[h1,ZgY A B (by simpa using h) (fun j=>hA (j+1)) (fun j=>hB (j+1)) h2]
theorem ZjL (A B:List Int) (hl:A.length=B.length) (hA:byt A) (hB:byt B) (h:beN A=beN B):A=B:=by
 have:=ZgY A.reverse B.reverse (by simpa using hl) (ZjP hA) (ZjP hB) h;exact List.reverse_inj.1 this
theorem Zkx:(Tryz.prog.info? 5).map (fun i=>(i.zero,i.size,i.bytes))=some (some (.int .u8 0),1,1):=by kernel_rfl
theorem ZkG (n:Nat):madeCells #[.int .u8 0] n=(u8s (List.replicate n 0)).toArray:=by
 apply Array.ext
 ·simp[madeCells]
 ·intro i h1 h2
  simp[madeCells,Nat.mod_one]
theorem Blk.set8 {w:World} {b:Nat} {S:List Int} (h:Blk w b (u8s S)) (k:Nat) (s:Int):Blk (w.setCell ⟨b,k,none⟩ (.int .u8 s)) b (u8s (S.set k s)):=by
 have:u8s (S.set k s)=(u8s S).set k (.int .u8 s):=by simp[u8s,List.map_set]
 rw[this];exact h.set k _
def ZbG (A:List Int):List Int:=(List.range 48).map fun i=>A.getD ((47-i)/8) 0/2 ^ ((47-i)%8*8)%256
theorem ZbM (A:List Int):(ZbG A).length=48:=by simp[ZbG]
theorem Zdy (A:List Int) (i:Nat) (h:i<48):(ZbG A).getD i 0=A.getD ((47-i)/8) 0/2 ^ ((47-i)%8*8)%256:=by
 rw[List.getD_eq_getElem?_getD,ZbG,List.getElem?_map,List.getElem?_range h]
 rfl
theorem Zhl (A:List Int):byt (ZbG A):=by
 apply Zgu;intro j hj;rw[ZbM] at hj;rw[Zdy A j hj];omega
theorem Zo9 (r:Nat):(2:Int) ^ (r*8)=256 ^ r:=by
 rw[Nat.mul_comm,Int.pow_mul];rfl
theorem Zhm (A:List Int) (lA:A.length=6) (fA:Zaz A):beN (ZbG A)=v64 A:=by
 have hl:(ZbG A).reverse.length=48:=by rw[List.length_reverse,ZbM]
 have hR:∀ t,t<(ZbG A).reverse.length→(ZbG A).reverse.getD t 0=A.getD (t/8) 0/256 ^ (t%8)%256:=by
  intro t ht;rw[hl] at ht;have e:=Zlm (ZbG A) (47-t) (by rw[ZbM];omega);rw[ZbM,show 48-1-(47-t)=t by omega] at e;rw[e,Zdy A _ (by omega),show 47-(47-t)=t by omega,Zo9]
 have e1:(256:Int) ^ 8=18446744073709551616:=by decide
 have h:=Zn6 8 (by decide) A (ZbG A).reverse (fun j=>by rw[e1];exact fA j) hR 6 (by rw[hl];decide);rw[List.take_of_length_le (by rw[hl];decide),List.take_of_length_le (by omega),e1] at h;exact h
set_option maxRecDepth 100000 in
set_option maxHeartbeats 1000000 in
theorem ZjS (A:List Int) (w:World) (lA:A.length=6) (fA:Zaz A) :
  Calls Tryz.prog 95 #[.agg (us A).toArray] w fun e w'=>∃ g:Nat,e=.returned (.slice (some ⟨g,0,none⟩) 48 48)∧Blk w' g (u8s (ZbG A))∧Below w.heap.size w w':=by
 have hmk:=run_make_row' 22 5 (.int .u8 0) 1 Tryz.underlying22 Zkx rfl .i64 .i64 48 (by omega) (by omega);rw[ZkG] at hmk;have b0:=(Blk.new w (us A) 27 w.heap.size rfl).alloc (.cells (u8s (List.replicate 48 0)).toArray 5);have b1:=Blk.new (w.alloc (.cells (us A).toArray 27)) (u8s (List.replicate 48 0)) 5 (w.heap.size+1) (by simp);have bel:Below w.heap.size w ((w.alloc (.cells (us A).toArray 27)).alloc (.cells (u8s (List.replicate 48 0)).toArray 5)):=((Below.refl _ _).alloc (Nat.le_refl _) _).alloc (by simp) _;generalize (u8s (List.replicate 48 0)).toArray=cs at hmk b0 b1 bel;replace hmk:∀ w:World,(Instr.makeSlice 22 (.int .i64 48) (.int .i64 48)).run Tryz.prog w=.ok (.slice (some ⟨w.heap.size,0,none⟩) 48 48) (w.alloc (.cells cs 5)):=hmk;have gX:Hid (∀ i,i<48→(ZbG A).getD i 0=A.getD ((47-i)/8) 0/2 ^ ((47-i)%8*8)%256):=Zdy A;have lX:=ZbM A;obtain ⟨X,hX⟩:∃ X,ZbG A=X:=⟨_,rfl⟩;rw[hX] at gX lX ⊢;clear hX;go_enter Tryz.func95,Tryz.ntmps95;go_wp2;clear hmk;generalize (w.alloc (.cells (us A).toArray 27)).alloc (.cells cs 5)=W at *;go_loopw [7] (fun i wr=>∃ (k:Nat) (T:List Int),k≤48∧i=.int .i64 k∧T.length=48∧Hid (∀ j,j<k→T.getD j 0=X.getD j 0)∧Blk wr w.heap.size (us A)∧Blk wr (w.heap.size+1) (u8s T)∧Below w.heap.size w wr)
  (fun i _=>48-(intOf i).toNat)
 case atStart=>exact ⟨0,List.replicate 48 0,by omega,rfl,by simp,fun j hj=>absurd hj (by omega),b0,b1,bel⟩
 case round =>
  obtain⟨k,T,hk,rfl,lT,hJ,hS,hT,hbel⟩:=hrel;clear b0 b1 bel
  by_cases hlt:k<48
  ·obtain ⟨a,ha⟩:∃ a,A.getD ((47-k)/8) 0=a:=⟨_,rfl⟩
   have ba:0≤a∧a<18446744073709551616:=ha ▸ fA _;have x1:=hS.cell ((47-k)/8) _ (ZaO A _ (by omega));rw[ha] at x1;have gk:=gX.out k hlt;rw[ha] at gk;have GK:Hid _:=gk;have x2:=hT.cell k _ (ZdK T k (by omega));have fz:=hT.frozen k;obtain ⟨t,ht⟩:∃ t,T.getD k 0=t:=⟨_,rfl⟩;rw[ht] at x2;have a0:=ba.1;have a1:=ba.2;have g1:(k:Int)<48:=by omega
   have g2:(0:Int)≤(k:Int):=by omega
   have g3:(0:Int)≤(47-(k:Int))/8:=by omega
   have g4:(47-(k:Int))/8<6:=by omega
   have g5:((47-(k:Int))/8).toNat=(47-k)/8:=by omega
   clear ha ht gk ba;go_wp2;go_roundw
   case rel =>
    refine⟨k+1,T.set k (a/2 ^ ((47-k)%8*8)%256),by omega,by go_num,by simpa using lT,fun j hj=>?_,hS.other _ _ (by simp),hT.set8 _ _,hbel.setCell (by simp) _⟩
    by_cases hjk:k=j
    ·subst hjk
     rw[Za7 _ _ _ (by omega),GK.out]
    ·have e:(T.set k (a/2 ^ ((47-k)%8*8)%256)).getD j 0=T.getD j 0:=by simp[List.getD_eq_getElem?_getD,hjk]
     rw[e];exact hJ.out j (by omega)
   case measure=>simp[intOf];omega
  ·have h6:(48:Int)≤(k:Int):=by omega
   have hTX:T=X:=by
    apply List.ext_getElem (by omega);intro i h1 h2;have:=hJ.out i (by omega)
    simpa [List.getD_eq_getElem?_getD,h1,h2] using this
   subst hTX;clear hJ;go_wp2;go_ret;exact ⟨_,rfl,hT,hbel⟩
end Go.Proofs.YtdfmoghjimghhaaGreatDoor
