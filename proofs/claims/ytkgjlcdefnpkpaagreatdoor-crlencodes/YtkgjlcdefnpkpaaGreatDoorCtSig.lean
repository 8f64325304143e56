/- The reference's Bytes, 48 of them. A body, signed: plain facts. What Encode answers. Bytes that grow: owned rows through calls; bytes are told by their number; bytes as text. A number of 48 bytes. The document's bytes of a signature. -/
import Derived.Test.YtkgjlcdefnpkpaaGreatDoorRefA
import Derived.Test.YtkgjlcdefnpkpaaGreatDoorEdDecG
import Derived.Test.YtkgjlcdefnpkpaaGreatDoorClWr
import Derived.Test.YtkgjlcdefnpkpaaGreatDoorKrSpec
import Derived.Test.YtkgjlcdefnpkpaaGreatDoorDrTG
import Derived.Test.YtkgjlcdefnpkpaaGreatDoorDcG3
import Derived.Test.YtkgjlcdefnpkpaaGreatDoorEdEncode
import Derived.Test.YtkgjlcdefnpkpaaGreatDoorNlSG
import Derived.Test.YtkgjlcdefnpkpaaGreatDoorDrDG
import Derived.Test.YtkgjlcdefnpkpaaGreatDoorCtRG
import Derived.Test.YtkgjlcdefnpkpaaGreatDoorPmNG
import Derived.Test.YtkgjlcdefnpkpaaGreatDoorEdG
import Derived.Test.YtkgjlcdefnpkpaaGreatDoorPmNumO
import Derived.Test.YtkgjlcdefnpkpaaGreatDoorDrWrite
import Derived.Test.YtkgjlcdefnpkpaaGreatDoorRows
import Derived.Deep.WholeRow
import Derived.Deep.RegionHeld3
import Derived.Deep.DeepCutAuto
import Derived.Deep.DeepFit
import Derived.Deep.OwnRows
import Derived.Deep.AppendLies
import Derived.Great.BuildSlice
import Derived.Laws.Rows
import Derived.BigQuiet
import Derived.Laws.BytesArg
namespace Go.Proofs.YtkgjlcdefnpkpaaGreatDoor
open Go.RowKit
/-- the bytes of digits -/
def bytesIn (D:List Int):List Int:=(List.range 48).map fun i=>D.getD ((47 - i) / 4) 0 / 256 ^ ((47 - i) % 4) % 256
theorem bytesIn_len (D:List Int):(bytesIn D).length=48:=by simp [bytesIn]
theorem bytesIn_get (D:List Int) (i:Nat) (h:i < 48):(bytesIn D).getD i 0=D.getD ((47 - i) / 4) 0 / 256 ^ ((47 - i) % 4) % 256:=by
 rw [List.getD_eq_getElem?_getD,bytesIn,List.getElem?_map,List.getElem?_range h]
 rfl
theorem bytesIn_byt (D:List Int):byt (bytesIn D):=by
 apply byt_of
 intro j hj
 rw [bytesIn_len] at hj
 rw [bytesIn_get D j hj]
 omega
theorem bytesIn_num (D:List Int) (lD:D.length≤12) (dD:dig D):beN (bytesIn D)=v32 D:=by
 have hl:(bytesIn D).reverse.length=48:=by rw [List.length_reverse,bytesIn_len]
 have hR:∀ t,t < (bytesIn D).reverse.length→(bytesIn D).reverse.getD t 0=D.getD (t / 4) 0 / 256 ^ (t % 4) % 256:=by
  intro t ht
  rw [hl] at ht
  have e:=rev_get (bytesIn D) (47 - t) (by rw [bytesIn_len];omega)
  rw [bytesIn_len,show 48 - 1 - (47 - t)=t by omega] at e
  rw [e,bytesIn_get D _ (by omega),show 47 - (47 - t)=t by omega]
 have e1:(256:Int) ^ 4=4294967296:=by decide
 have h:=spread 4 (by decide) D (bytesIn D).reverse (fun j=>by rw [e1];exact dD j) hR 12 (by rw [hl];decide)
 rw [List.take_of_length_le (by rw [hl];decide),List.take_of_length_le (by omega),e1] at h
 exact h
theorem shifted (d:Int) (j:Nat):d / 256 ^ j / 256=d / 256 ^ (j + 1):=by
 rw [Int.pow_succ,Int.ediv_ediv_of_nonneg (Int.le_of_lt (Int.pow_pos (by decide)))]
theorem shifted_bd (d:Int) (j:Nat) (h0:0≤d) (h1:d < 4294967296):0≤d / 256 ^ j∧d / 256 ^ j < 4294967296:=by
 have hp:(0:Int) < 256 ^ j:=Int.pow_pos (by decide)
 exact ⟨Int.ediv_nonneg h0 (Int.le_of_lt hp),Int.lt_of_le_of_lt (Int.ediv_le_self _ h0) h1⟩
set_option maxRecDepth 100000 in
set_option maxHeartbeats 1000000 in
theorem rbytes_any (v:Value) (N:Int) (w:World) (hv:NumIs w v N) (hN:N < 4294967296 ^ 12) :
  Calls Tryz.prog 67 #[v,.int .i64 48] w fun e w'=>∃ (g:Nat) (X:List Int),e=.returned (.slice (some ⟨g,0,none⟩) 48 48)∧Blk w' g (u8s X)∧X.length=48∧byt X∧beN X=N∧Below w.heap.size w w':=by
 obtain ⟨D,sD,dD,tD,rfl⟩:=hv
 have lD:=v32_len D dD tD 12 hN
 have HQ:Hid (byt (bytesIn D)∧beN (bytesIn D)=v32 D):=⟨bytesIn_byt D,bytesIn_num D lD dD⟩
 have hmk:=run_make_row' 25 5 (.int .u8 0) 1 Tryz.underlying25 info_u8 rfl .i64 .i64 48 (by omega) (by omega)
 rw [made_u8] at hmk
 have b1:=Blk.new w (u8s (List.replicate 48 0)) 5 w.heap.size rfl
 have bel:Below w.heap.size w (w.alloc (.cells (u8s (List.replicate 48 0)).toArray 5)):=(Below.refl _ _).alloc (Nat.le_refl _) _
 generalize (u8s (List.replicate 48 0)).toArray=cs at hmk b1 bel
 replace hmk:∀ w:World,(Instr.makeSlice 25 (.int .i64 48) (.int .i64 48)).run Tryz.prog w=.ok (.slice (some ⟨w.heap.size,0,none⟩) 48 48) (w.alloc (.cells cs 5)):=hmk
 have gX:Hid (∀ i,i < 48→(bytesIn D).getD i 0=D.getD ((47 - i) / 4) 0 / 256 ^ ((47 - i) % 4) % 256):=bytesIn_get D
 have lX:=bytesIn_len D
 obtain ⟨X,hX⟩:∃ X,bytesIn D=X:=⟨_,rfl⟩
 obtain ⟨N,hNN⟩:∃ N,v32 D=N:=⟨_,rfl⟩
 rw [hX] at gX lX HQ
 rw [hNN] at HQ ⊢
 clear hX hNN hN tD
 obtain ⟨ao,c1,rfl,-,-,-⟩:=sD.form
 obtain ⟨l,hl⟩:∃ l,D.length=l:=⟨_,rfl⟩
 rw [hl] at sD ⊢
 clear hl lD
 go_enter Tryz.func67,Tryz.ntmps67
 go_wp2
 clear hmk
 generalize w.alloc (.cells cs 5)=W at *
 go_loopw [6] (fun iv wr=>∃ (i:Nat) (T:List Int),i≤48∧iv=.int .i64 i∧T.length=48∧Hid (∀ j,48 - i≤j→j < 48→T.getD j 0=X.getD j 0)∧Blk wr w.heap.size (u8s T)∧Below w.heap.size w wr)
  (fun i _=>48 - (intOf i).toNat)
 case atStart=>exact ⟨0,List.replicate 48 0,by omega,rfl,by simp,fun j hj hj2=>absurd hj (by omega),b1,bel⟩
 case round =>
  obtain ⟨i,T,hi,rfl,lT,hJ,hT,hbel⟩:=hrel
  clear b1 bel
  by_cases hlt:i < 48
  ·obtain ⟨d,hd⟩:∃ d,D.getD (i / 4) 0=d:=⟨_,rfl⟩
   have bd:0≤d∧d < 4294967296:=hd ▸ dD _
   have gk:=gX.out (47 - i) (by omega)
   rw [show 47 - (47 - i)=i by omega,hd] at gk
   have GK:Hid _:=gk
   have sD':=sD.later hbel
   have x2:=hT.cell (47 - i) _ (u8s_get T (47 - i) (by omega))
   have fz:=hT.frozen (47 - i)
   obtain ⟨t,ht⟩:∃ t,T.getD (47 - i) 0=t:=⟨_,rfl⟩
   rw [ht] at x2
   have g1:(i:Int) < 48:=by omega
   have g2:(0:Int)≤47 - (i:Int):=by omega
   have g3:47 - (i:Int) < 48:=by omega
   have g4:(47 - (i:Int)).toNat=47 - i:=by omega
   clear ht gk
   go_wp2_with fail
   have AT:=at_any _ D (i / 4) wr sD'
   have ei:((i / 4:Nat):Int)=(i:Int) / 4:=by omega
   rw [ei] at AT
   refine AT.mono ?_
   rintro e1 w' ⟨rfl,hw⟩
   obtain rfl:=hw.symm
   rw [hd]
   clear AT ei hd
   go_wp2_with fail
   go_loop [7,8] (fun vv jv=>∃ j:Nat,j≤i % 4∧jv=.int .i64 j∧vv=.int .u64 (d / 256 ^ j)) (fun _ jv=>4 - (intOf jv).toNat)
   case atStart=>exact ⟨0,by omega,rfl,by simp⟩
   case round =>
    obtain ⟨j,hj,rfl,rfl⟩:=hrel
    have bj:=shifted_bd d j bd.1 bd.2
    have bj0:=bj.1
    have bj1:=bj.2
    by_cases hjl:j < i % 4
    ·have HZ:Hid (d / 256 ^ j / 256=d / 256 ^ (j + 1)):=shifted d j
     obtain ⟨y,hy⟩:∃ y,d / 256 ^ j=y:=⟨_,rfl⟩
     rw [hy] at bj0 bj1 HZ ⊢
     have g5:(j:Int) < (i:Int) % 4:=by omega
     clear hy bj
     go_wp2
     go_round
     case rel=>exact ⟨j + 1,by omega,by go_num,by rw [HZ.out]⟩
     case measure=>simp [intOf];omega
    ·have g5:¬ (j:Int) < (i:Int) % 4:=by omega
     have hje:j=i % 4:=by omega
     have GK':Hid (X.getD (47 - i) 0=d / 256 ^ j % 256):=by rw [hje];exact GK
     obtain ⟨y,hy⟩:∃ y,d / 256 ^ j=y:=⟨_,rfl⟩
     rw [hy] at bj0 bj1 GK' ⊢
     clear hy bj hje
     go_wp2
     go_roundw
     case rel =>
      refine ⟨i + 1,T.set (47 - i) (y % 256),by omega,by go_num,by simpa using lT,fun q hq hq2=>?_,hT.set8 _ _,hbel.setCell (by simp) _⟩
      by_cases hjk:47 - i=q
      ·subst hjk
       rw [getD_set_same _ _ _ (by omega),GK'.out]
      ·have e:(T.set (47 - i) (y % 256)).getD q 0=T.getD q 0:=by simp [List.getD_eq_getElem?_getD,hjk]
       rw [e];exact hJ.out q (by omega) hq2
     case measure=>simp [intOf];omega
  ·have h6:(48:Int)≤(i:Int):=by omega
   have hTX:T=X:=by
    apply List.ext_getElem (by omega)
    intro k h1 h2
    have:=hJ.out k (by omega) (by omega)
    simpa [List.getD_eq_getElem?_getD,h1,h2] using this
   subst hTX
   clear hJ
   go_wp2
   go_ret
   exact ⟨_,T,rfl,hT,lX,HQ.out.1,HQ.out.2,hbel⟩
/-- the bodies of a signature's two numbers -/
def SigB (r s:Int) (X Y x y:List Int):Prop:=Is48 X r∧Is48 Y s∧numOf X=.ok x∧numOf Y=.ok y
mutual
theorem sz_le:∀ T:Tl,szT T≤(bytesT T).length
 | .mk c t m b ks=>by
  have hz:=szL_le ks
  rw [szT,bytesT]
  simp
  omega
theorem szL_le:∀ ks:List Tl,szL ks≤(bytesL ks).length
 | []=>by rw [szL];omega
 | k :: ks=>by
  have h1:=sz_le k
  have h2:=szL_le ks
  rw [szL,bytesL,List.length_append]
  omega
end
/-- a body, perhaps the algorithm, a signature's bytes -/
def sealP (pl:Bool) (T:Tl) (sig:List Int):Tl:=listT (([T]++(if pl then [] else [algT]))++[.mk 0 3 false (0 :: sig) []])
theorem sm_alg:Sm 160 algT:=sm_list (SzmL.one (sm_oid _))
theorem sm_seal {pl:Bool} {T:Tl} {B sig:List Int} (b:byt B) (h:parseP B=.ok T) (hs:sig.length≤200):Sm 1050000 (sealP pl T sig):=by
 obtain ⟨e,-,-,-,l⟩:=parse_ok b h
 have k1:Sm 1048576 T:=⟨by rw [e];exact l,Nat.le_trans (sz_le T) (by rw [e];exact l)⟩
 have k2:SzmL 160 (if pl then [] else [algT]):=by
  cases pl
  ·exact SzmL.one sm_alg
  ·exact SzmL.nil.le (by omega)
 have k3:Sm 206 (.mk 0 3 false (0 :: sig) []):=sm_leaf (n:=201) (by rw [List.length_cons];omega)
 exact (sm_list (SzmL.app (SzmL.app (SzmL.one k1) k2) (SzmL.one k3))).le (by omega)
theorem le_some:∀ (k:Nat) (n:Int),0≤n→n < 256 ^ k→∃ X:List Int,X.length=k∧(∀ x∈X,0≤x∧x < 256)∧pv 256 X=n
 | 0,n,h0,h1=>⟨[],rfl,by simp,by rw [pv];simp at h1;omega⟩
 | k + 1,n,h0,h1=>by
  obtain ⟨X,l,b,e⟩:=le_some k (n / 256) (by omega) (by rw [Int.pow_succ] at h1;omega)
  refine ⟨n % 256 :: X,by rw [List.length_cons,l],fun x hx=>?_,by rw [pv,e];omega⟩
  rcases List.mem_cons.1 hx with rfl|hx
  ·omega
  ·exact b x hx
theorem is48_some {r:Int} (h:isSc r):∃ X,Is48 X r:=by
 obtain ⟨X,l,b,e⟩:=le_some 48 r (by have:=h.1;omega) (by have:=h.2;have q:QQ < 256 ^ 48:=(by decide);omega)
 exact ⟨X.reverse,by rw [List.length_reverse,l],byt_in (fun x hx=>b x (List.mem_reverse.1 hx)),by unfold beN;rw [List.reverse_reverse,e]⟩
theorem sigB_some {r s:Int} (h:isSc r∧isSc s):∃ X Y x y,SigB r s X Y x y∧x.length≤49∧y.length≤49:=by
 obtain ⟨X,hX⟩:=is48_some h.1
 obtain ⟨Y,hY⟩:=is48_some h.2
 obtain ⟨x,hx,lx⟩:=num48 hX.1
 obtain ⟨y,hy,ly⟩:=num48 hY.1
 exact ⟨X,Y,x,y,⟨hX,hY,hx,hy⟩,lx,ly⟩
/-- what Encode tells -/
def EncCR (w:World) (B:List Int) (r s:Int) (e:Ending) (w':World):Prop:=Below w.heap.size w w'∧(∀ c p,parseP B=.error (c,p)→∃ er:Value,e=.returned (.tuple #[.slice none 0 0,er])∧ErAt w' c p er)∧(∀ T,parseP B=.ok T→¬ (isSc r∧isSc s)→e=.returned (.tuple #[.slice none 0 0,erN 3]))∧(∀ T,parseP B=.ok T→isSc r∧isSc s→∃ (v:Value) (X Y x y:List Int),SigB r s X Y x y∧e=.returned (.tuple #[v,erN (wrN (sealP false T (bytesT (sigT x y))))])∧Bs w' v (wrB (sealP false T (bytesT (sigT x y)))))
theorem EncCR.bad {w w':World} {B:List Int} {r s:Int} {c p:Nat} {er:Value} (h:parseP B=.error (c,p)) (k:ErAt w' c p er) (hb:Below w.heap.size w w'):EncCR w B r s (.returned (.tuple #[.slice none 0 0,er])) w':=⟨hb,fun c' p' q=>(by rw [h] at q;cases q;exact ⟨er,rfl,k⟩),fun T q=>(by rw [h] at q;cases q),fun T q=>(by rw [h] at q;cases q)⟩
theorem EncCR.no {w w':World} {B:List Int} {r s:Int} {T:Tl} (h:parseP B=.ok T) (k:¬ (isSc r∧isSc s)) (hb:Below w.heap.size w w'):EncCR w B r s (.returned (.tuple #[.slice none 0 0,.iface 56 (.int .i64 3)])) w':=⟨hb,fun c' p' q=>(by rw [h] at q;cases q),fun T q _=>rfl,fun T q q2=>absurd q2 k⟩
theorem EncCR.yes {w w':World} {B:List Int} {r s:Int} {T:Tl} {v:Value} {X Y x y:List Int} (h:parseP B=.ok T) (k:isSc r∧isSc s) (hS:SigB r s X Y x y) (hv:Bs w' v (wrB (sealP false T (bytesT (sigT x y))))) (hb:Below w.heap.size w w'):EncCR w B r s (.returned (.tuple #[v,erN (wrN (sealP false T (bytesT (sigT x y))))])) w':=⟨hb,fun c' p' q=>(by rw [h] at q;cases q),fun T q q2=>absurd k q2,fun T' q _=>(by rw [h] at q;cases q;exact ⟨v,X,Y,x,y,hS,rfl,hv⟩)⟩
theorem uEncT {rs ss ts:List Value} {r s:Int} {w:World} (G:GlsO w) (hr:U6 rs r) (hs:U6 ss s) (hT:rs++ss=ts) :
  Calls Tryz.prog 31 #[.agg ts.toArray] w (EncR w r s):=by
 subst hT
 exact c14_Encode G hr hs
theorem size_sgL:(Tryz.prog.info? 30).map (·.size)=some 12:=by kernel_rfl
theorem Bs.alloc {w:World} {v:Value} {bs:List Int} (h:Bs w v bs) (o:Obj):Bs (w.alloc o) v bs:=h.later ((Below.refl _ _).alloc (Nat.le_refl _) o)
theorem Bs.lt {w:World} {b o n cap:Nat} {bs:List Int} (h:Bs w (.slice (some ⟨b,o,none⟩) n cap) bs) (hn:0 < n):b < w.heap.size:=by
 obtain ⟨ao,c,e,-,-,h4⟩:=h
 simp only [Value.slice.injEq] at e
 obtain ⟨rfl,rfl,rfl⟩:=e
 obtain ⟨b',o',e',h5,-⟩:=h4 hn
 simp only [Option.some.injEq,Addr.mk.injEq] at e'
 rw [e'.1];exact h5
/-- a row of bytes of the call's own -/
def Own (w:World) (base:Nat) (v:Value) (n:Nat) (xs:List Int):Prop:=w.ownsRow base 5 1 v n (u8s xs)
theorem Own.later {w w':World} {base:Nat} {v:Value} {n:Nat} {xs:List Int} (h:Own w base v n xs) (hb:Below w.heap.size w w'):Own w' base v n xs:=by
 refine ⟨h.1,?_⟩
 rcases h.2 with h0|⟨g,cap,cur,hv,hg,hh,h3⟩
 ·exact .inl h0
 ·refine .inr ⟨g,cap,cur,hv,hg,?_,h3⟩
  rw [hb.block g (Array.getElem?_eq_some_iff.1 hh).1];exact hh
theorem Own.alloc {w:World} {base:Nat} {v:Value} {n:Nat} {xs:List Int} (h:Own w base v n xs) (o:Obj):Own (w.alloc o) base v n xs:=h.later ((Below.refl _ _).alloc (Nat.le_refl _) o)
theorem Own.drew {w:World} {base:Nat} {v:Value} {n:Nat} {xs:List Int} (h:Own w base v n xs):Own w.drew base v n xs:=h
theorem Bs.grown {w w':World} {b o n cap g:Nat} {bs:List Int} (h:Bs w (.slice (some ⟨b,o,none⟩) n cap) bs) (hg:w.grownBy w' (some g)) (hne:b≠g):Bs w' (.slice (some ⟨b,o,none⟩) n cap) bs:=by
 obtain ⟨ao,c,e,h2,h3,h4⟩:=h
 refine ⟨ao,c,e,h2,h3,fun hp=>?_⟩
 obtain ⟨b',o',e',h5,h6⟩:=h4 hp
 simp only [Value.slice.injEq] at e
 have eb:b'=b:=by
  have:=e.1.trans e'
  simp only [Option.some.injEq,Addr.mk.injEq] at this
  exact this.1.symm
 subst eb
 exact ⟨b',o',e',Nat.lt_of_lt_of_le h5 hg.size,fun j hj=>hg.cell (h6 j hj) (by simpa using hne)⟩
theorem size_uC:(Tryz.prog.info? 28).map (·.size)=some 6:=by kernel_rfl
theorem own_slC {w:World} {base size:Nat} {e:TypeId} {v:Value} {n:Nat} {xs:List Value} (h:w.ownsRow base e size v n xs):∃ ao cap,v=.slice ao n cap:=by
 rcases h.2 with ⟨h1,h2⟩|⟨g,cap,cur,h1,_⟩
 ·exact ⟨none,0,by rw [h1,h2]⟩
 ·exact ⟨_,cap,h1⟩
/-- what Encode tells -/
def SigR (w:World) (r s:Int) (e:Ending) (w':World):Prop:=Below w.heap.size w w'∧(¬ (isSc r∧isSc s)→e=.returned (.tuple #[.slice none 0 0,.bool false]))∧(isSc r∧isSc s→∃ (v:Value) (X Y x y:List Int),SigB r s X Y x y∧e=.returned (.tuple #[v,.bool true])∧Bs w' v (bytesT (sigT x y)))
theorem SigR.no {w w':World} {r s:Int} (h:¬ (isSc r∧isSc s)) (hb:Below w.heap.size w w'):SigR w r s (.returned (.tuple #[.slice none 0 0,.bool false])) w':=⟨hb,fun _=>rfl,fun k=>absurd k h⟩
theorem SigR.yes {w w':World} {r s:Int} {v:Value} {X Y x y:List Int} (h:isSc r∧isSc s) (hx:SigB r s X Y x y) (hv:Bs w' v (bytesT (sigT x y))) (hb:Below w.heap.size w w'):SigR w r s (.returned (.tuple #[v,.bool true])) w':=⟨hb,fun k=>absurd h k,fun _=>⟨v,X,Y,x,y,hx,rfl,hv⟩⟩
theorem u_lt {cs:List Value} {x:Int} (h:U6 cs x):x < 4294967296 ^ 12:=by
 have:=h.bd.2
 rw [show (4294967296:Int) ^ 12=18446744073709551616 ^ 6 by decide]
 exact this
set_option linter.unusedSimpArgs false in
set_option maxRecDepth 100000 in
set_option maxHeartbeats 400000 in
theorem r14_scalar {v:Value} {X:Int} {w:World} (h:NumIs w v X) (h0:0≤X) :
  Calls Tryz.prog 65 #[v] w fun e w'=>e=.returned (.bool (decide (isSc X)))∧Below w.heap.size w w':=by
 have HN:Hid (NumIs w v X):=h
 obtain ⟨ao,n,cap,rfl,hnc,hcm,hn0⟩:=num_len h
 go_enter Tryz.func65,Tryz.ntmps65
 by_cases c1:X=0
 ·have g1:¬ (0:Int) < (n:Int):=by have:=hn0.2 c1;omega
  have H:Hid (decide (isSc X)=false):=decide_eq_false (fun k=>by have:=k.1;omega)
  clear hn0 c1 h
  go_wp2_with fail
  go_ret
  exact ⟨by rw [H.out];rfl,Below.refl _ _⟩
 have g1:(0:Int) < (n:Int):=by
  have:¬ (n:Int)=0:=fun k=>c1 (hn0.1 k)
  omega
 have H1:Hid (1≤X):=by show _≤_;omega
 clear hn0 c1 h
 go_wp2_with fail
 refine n_any.mono ?_
 rintro e w1 ⟨v1,rfl,N1,hb⟩
 have HN1:Hid (NumIs w1 v1 QQ):=N1
 have bel:Below w.heap.size w w1:=hb
 replace HN:Hid (NumIs w1 (.slice ao n cap) X):=HN.out.later hb
 clear N1 hb
 go_wp2_with fail
 refine (cmp_any _ _ _ _ _ HN.out HN1.out).mono ?_
 rintro e w2 ⟨rfl,hb⟩
 replace bel:=below_step bel hb
 clear hb
 by_cases c2:X < QQ
 ·have e9:=cmpN_lt c2
  have H:Hid (decide (isSc X)=true):=decide_eq_true ⟨H1.out,c2⟩
  rw [← e9]
  clear e9 c2
  go_wp2_with fail
  go_ret
  exact ⟨by rw [H.out];rfl,bel⟩
 ·have H:Hid (decide (isSc X)=false):=decide_eq_false (fun k=>c2 k.2)
  obtain ⟨cc,hcc,hc0⟩:∃ cc,cmpN X QQ=cc∧¬ cc < 0:=by
   rcases (show X=QQ∨QQ < X by omega) with k|k
   ·exact ⟨0,(cmpN_eq k).symm,by omega⟩
   ·exact ⟨1,(cmpN_gt k).symm,by omega⟩
  rw [hcc]
  clear c2 hcc
  go_wp2_with fail
  go_ret
  exact ⟨by rw [H.out];show Ending.returned (Value.bool (decide (cc < 0)))=_;rw [decide_eq_false (by omega)],bel⟩
set_option linter.unusedSimpArgs false in
set_option maxRecDepth 100000 in
set_option maxHeartbeats 2000000 in
theorem r14_Encode {rs ss:List Value} {r s:Int} {w:World} (hr:U6 rs r) (hs:U6 ss s) :
  Calls Tryz.prog 36 #[.agg (rs++ss).toArray] w (SigR w r s):=by
 have HR:Hid (U6 rs r):=hr
 have HS:Hid (U6 ss s):=hs
 obtain ⟨ts,hts⟩:∃ ts,rs++ss=ts:=⟨_,rfl⟩
 have HT:Hid (rs++ss=ts):=hts
 rw [hts]
 have B0:=Blk.new w ts 30 w.heap.size rfl
 have bel:Below w.heap.size w (w.alloc (.cells ts.toArray 30)):=(Below.refl _ _).alloc (Nat.le_refl _) _
 go_enter Tryz.func36,Tryz.ntmps36
 go_upto_region 1 with fail
 generalize w.alloc (.cells ts.toArray 30)=W at *
 clear hts hr hs
 have hld:(loadVar 28 ⟨w.heap.size,0,none⟩).run Tryz.prog W=.ok (.agg rs.toArray) W:=load_cells (n:=6) (F:=rs) (fun j v hv=>B0.cell _ _ (by rw [← HT.out,Nat.zero_add,List.getElem?_append_left (List.getElem?_eq_some_iff.1 hv).1];exact hv)) HR.out.len Tryz.underlying28 rfl size_uC
 have l0:=B0.lt
 go_wp2_with (first|((with_reducible show wpList _ _ _ ({ dst:=_,op:=.load _ _,type:=_,pos:=_,after:=_,guard:=_ } :: _) _ _);refine wpList_load_run (by rfl) (by rfl) (by rfl) hld ?_)|fail)
 refine (uOf6 HR.out).mono ?_
 rintro e w1 ⟨v1,rfl,hn,hb⟩
 replace B0:=B0.later hb
 replace bel:=below_step bel hb
 clear hb hld l0
 go_wp2_with fail
 refine (r14_scalar hn HR.out.bd.1).mono ?_
 rintro e w2 ⟨rfl,hb⟩
 replace B0:=B0.later hb
 replace bel:=below_step bel hb
 clear hb hn
 by_cases c1:isSc r
 rotate_left
 ·rw [decide_eq_false c1]
  have H:Hid (¬ (isSc r∧isSc s)):=fun h=>c1 h.1
  go_wp2_with fail
  refine bodyPost_ret (results_tmp2 rfl _ _ _) rfl ?_
  exact SigR.no H.out bel
 rw [decide_eq_true c1]
 have HC1:Hid (isSc r):=c1
 clear c1
 have hld:(loadVar 28 ⟨w.heap.size,6,none⟩).run Tryz.prog w2=.ok (.agg ss.toArray) w2:=load_cells (n:=6) (F:=ss) (fun j v hv=>B0.cell _ _ (by rw [← HT.out,List.getElem?_append_right (by rw [HR.out.len];omega),HR.out.len,Nat.add_sub_cancel_left];exact hv)) HS.out.len Tryz.underlying28 rfl size_uC
 have l0:=B0.lt
 go_wp2_with (first|((with_reducible show wpList _ _ _ ({ dst:=_,op:=.load _ _,type:=_,pos:=_,after:=_,guard:=_ } :: _) _ _);refine wpList_load_run (by rfl) (by rfl) (by rfl) hld ?_)|fail)
 refine (uOf6 HS.out).mono ?_
 rintro e w3 ⟨v3,rfl,hn,hb⟩
 replace B0:=B0.later hb
 replace bel:=below_step bel hb
 clear hb hld l0
 go_wp2_with fail
 refine (r14_scalar hn HS.out.bd.1).mono ?_
 rintro e w4 ⟨rfl,hb⟩
 replace B0:=B0.later hb
 replace bel:=below_step bel hb
 clear hb hn
 by_cases c2:isSc s
 rotate_left
 ·rw [decide_eq_false c2]
  have H:Hid (¬ (isSc r∧isSc s)):=fun h=>c2 h.2
  go_wp2_with fail
  refine bodyPost_ret (results_tmp2 rfl _ _ _) rfl ?_
  exact SigR.no H.out bel
 rw [decide_eq_true c2]
 have HC2:Hid (isSc s):=c2
 clear c2
 have hld:(loadVar 28 ⟨w.heap.size,0,none⟩).run Tryz.prog w4=.ok (.agg rs.toArray) w4:=load_cells (n:=6) (F:=rs) (fun j v hv=>B0.cell _ _ (by rw [← HT.out,Nat.zero_add,List.getElem?_append_left (List.getElem?_eq_some_iff.1 hv).1];exact hv)) HR.out.len Tryz.underlying28 rfl size_uC
 have l0:=B0.lt
 go_wp2_with (first|((with_reducible show wpList _ _ _ ({ dst:=_,op:=.load _ _,type:=_,pos:=_,after:=_,guard:=_ } :: _) _ _);refine wpList_load_run (by rfl) (by rfl) (by rfl) hld ?_)|fail)
 refine (uOf6 HR.out).mono ?_
 rintro e w5a ⟨ua,rfl,hn,hb⟩
 replace B0:=B0.later hb
 replace bel:=below_step bel hb
 clear hb hld l0
 have hN:NumIs w5a ua r:=hn
 clear hn
 go_wp2_with fail
 refine (rbytes_any _ _ _ hN (u_lt HR.out)).mono ?_
 rintro e w5b ⟨g0,X0,rfl,hB,hX1,hX2,hX3,hb⟩
 have HX0:Hid (X0.length=48∧byt X0∧beN X0=r):=⟨hX1,hX2,hX3⟩
 have hBs:Bs w5b (.slice (some ⟨g0,0,none⟩) 48 48) X0:=Blk.bs hB hX1 (by decide)
 replace B0:=B0.later hb
 replace bel:=below_step bel hb
 clear hb hN hB hX1 hX2 hX3
 go_wp2_with fail
 refine (r13_NumberOf hBs HX0.out.2.1 (by rw [HX0.out.1];omega)).mono ?_
 rintro e w5c ⟨hok,-⟩
 obtain ⟨x0,hx0,hxl0⟩:=num48 HX0.out.1
 obtain ⟨nv0,rfl,hnv,hb⟩:=hok x0 hx0
 have HNx0:Hid (numOf X0=.ok x0∧x0.length≤49):=⟨hx0,hxl0⟩
 obtain ⟨na0,nc0,hv0,-,-,-⟩:=id hnv
 obtain ⟨nl0,hnl0⟩:∃ z,x0.length=z:=⟨_,rfl⟩
 rw [hnl0] at hv0
 subst hv0
 have HBx0:Hid (Bs w5c (.slice na0 nl0 nc0) x0):=hnv
 replace B0:=B0.later hb
 replace bel:=below_step bel hb
 clear hb hok hnv hBs hx0 hxl0 hnl0
 go_upto_region 4 with fail
 have hld:(loadVar 28 ⟨w.heap.size,6,none⟩).run Tryz.prog w5c=.ok (.agg ss.toArray) w5c:=load_cells (n:=6) (F:=ss) (fun j v hv=>B0.cell _ _ (by rw [← HT.out,List.getElem?_append_right (by rw [HR.out.len];omega),HR.out.len,Nat.add_sub_cancel_left];exact hv)) HS.out.len Tryz.underlying28 rfl size_uC
 have l0:=B0.lt
 go_wp2_with (first|((with_reducible show wpList _ _ _ ({ dst:=_,op:=.load _ _,type:=_,pos:=_,after:=_,guard:=_ } :: _) _ _);refine wpList_load_run (by rfl) (by rfl) (by rfl) hld ?_)|fail)
 refine (uOf6 HS.out).mono ?_
 rintro e w6a ⟨ub,rfl,hn,hb⟩
 replace HBx0:Hid (Bs w6a (.slice na0 nl0 nc0) x0):=HBx0.out.later hb
 replace B0:=B0.later hb
 replace bel:=below_step bel hb
 clear hb hld l0
 have hN:NumIs w6a ub s:=hn
 clear hn
 go_wp2_with fail
 refine (rbytes_any _ _ _ hN (u_lt HS.out)).mono ?_
 rintro e w6b ⟨g1,X1,rfl,hB,hX1,hX2,hX3,hb⟩
 have HX1:Hid (X1.length=48∧byt X1∧beN X1=s):=⟨hX1,hX2,hX3⟩
 have hBs:Bs w6b (.slice (some ⟨g1,0,none⟩) 48 48) X1:=Blk.bs hB hX1 (by decide)
 replace HBx0:Hid (Bs w6b (.slice na0 nl0 nc0) x0):=HBx0.out.later hb
 replace B0:=B0.later hb
 replace bel:=below_step bel hb
 clear hb hN hB hX1 hX2 hX3
 go_wp2_with fail
 refine (r13_NumberOf hBs HX1.out.2.1 (by rw [HX1.out.1];omega)).mono ?_
 rintro e w6c ⟨hok,-⟩
 obtain ⟨x1,hx1,hxl1⟩:=num48 HX1.out.1
 obtain ⟨nv1,rfl,hnv,hb⟩:=hok x1 hx1
 have HNx1:Hid (numOf X1=.ok x1∧x1.length≤49):=⟨hx1,hxl1⟩
 obtain ⟨na1,nc1,hv1,-,-,-⟩:=id hnv
 obtain ⟨nl1,hnl1⟩:∃ z,x1.length=z:=⟨_,rfl⟩
 rw [hnl1] at hv1
 subst hv1
 have HBx1:Hid (Bs w6c (.slice na1 nl1 nc1) x1):=hnv
 replace HBx0:Hid (Bs w6c (.slice na0 nl0 nc0) x0):=HBx0.out.later hb
 replace B0:=B0.later hb
 replace bel:=below_step bel hb
 clear hb hok hnv hBs hx1 hxl1 hnl1
 go_upto_region 5 with fail
 have K10:=Blk.new w6c [.int .i64 0,.int .i64 2,.bool false,.slice na0 nl0 nc0,.slice none 0 0,.int .i64 0,.int .i64 2,.bool false,.slice na1 nl1 nc1,.slice none 0 0] 60 w6c.heap.size rfl
 have hb:Below w6c.heap.size w6c (w6c.alloc (.cells #[.int .i64 0,.int .i64 2,.bool false,.slice na0 nl0 nc0,.slice none 0 0,.int .i64 0,.int .i64 2,.bool false,.slice na1 nl1 nc1,.slice none 0 0] 60)):=(Below.refl _ _).alloc (Nat.le_refl _) _
 have HTs:Hid (TlAt (w6c.alloc (.cells #[.int .i64 0,.int .i64 2,.bool false,.slice na0 nl0 nc0,.slice none 0 0,.int .i64 0,.int .i64 2,.bool false,.slice na1 nl1 nc1,.slice none 0 0] 60)) (sigT x0 x1) [.int .i64 0,.int .i64 16,.bool true,.slice none 0 0,.slice (some ⟨w6c.heap.size,0,none⟩) 2 2]):=sig_at (HBx0.out.later hb) (HBx1.out.later hb) K10
 replace bel:=below_step bel hb
 clear hb K10
 have hz:=zero_tlv.out
 go_wp2_with fail
 clear hz
 refine (r12_Write (by rw [sig_sz];omega) (fun _=>by have:=sig_len HNx0.out.2 HNx1.out.2;omega) HTs.out).mono ?_
 rintro e w7 ⟨bv,rfl,hw,-,hb⟩
 have hw0:=sig_wr HNx0.out.2 HNx1.out.2
 have HBb:Hid (Bs w7 bv (bytesT (sigT x0 x1))):=Bs.of_own (hw hw0)
 replace bel:=below_step bel hb
 rw [hw0]
 clear hw hb hw0 HTs
 go_wp2_with fail
 refine bodyPost_ret (results_tmp2 rfl _ _ _) rfl ?_
 exact SigR.yes ⟨HC1.out,HC2.out⟩ ⟨HX0.out,HX1.out,HNx0.out.1,HNx1.out.1⟩ HBb.out bel
end Go.Proofs.YtkgjlcdefnpkpaaGreatDoor
