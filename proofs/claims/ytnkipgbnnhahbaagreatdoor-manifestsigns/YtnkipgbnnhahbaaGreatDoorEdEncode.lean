/- limb.Bytes: a number's 48 bytes. (Plain part.) limb.Bytes: a number's 48 bytes. The program's NumberOf of layer 13. What limb.Bytes answers of a row of cells. What ecdsa.Encode answers. -/
import Derived.Test.YtnkipgbnnhahbaaGreatDoorClWr
import Derived.Test.YtnkipgbnnhahbaaGreatDoorPrNumber
import Derived.Test.YtnkipgbnnhahbaaGreatDoorEdFact
import Derived.Test.YtnkipgbnnhahbaaGreatDoorEcTlv
import Derived.Test.YtnkipgbnnhahbaaGreatDoorEcRange
import Derived.Test.YtnkipgbnnhahbaaGreatDoorDcOut
import Derived.Test.YtnkipgbnnhahbaaGreatDoorDcElems
import Derived.Test.YtnkipgbnnhahbaaGreatDoorDrDep
import Derived.Test.YtnkipgbnnhahbaaGreatDoorRows
import Derived.Deep.OwnRows
import Derived.Deep.AppendLies
import Derived.Great.BuildSlice
import Derived.Deep.WholeRow
import Derived.Deep.RegionHeld3
import Derived.Deep.DeepCutAuto
import Derived.Deep.DeepFit
import Derived.Laws.Rows
namespace Go.Proofs.YtnkipgbnnhahbaaGreatDoor
open Go.RowKit
theorem info_u8:(Tryz.prog.info? 5).map (fun i=>(i.zero,i.size,i.bytes))=some (some (.int .u8 0),1,1):=by kernel_rfl
theorem made_u8 (n:Nat):madeCells #[.int .u8 0] n=(u8s (List.replicate n 0)).toArray:=by
 apply Array.ext
 ·simp [madeCells]
 ·intro i h1 h2
  simp [madeCells,Nat.mod_one]
theorem Blk.set8 {w:World} {b:Nat} {S:List Int} (h:Blk w b (u8s S)) (k:Nat) (s:Int):Blk (w.setCell ⟨b,k,none⟩ (.int .u8 s)) b (u8s (S.set k s)):=by
 have:u8s (S.set k s)=(u8s S).set k (.int .u8 s):=by simp [u8s,List.map_set]
 rw [this];exact h.set k _
/-- the bytes of six limbs -/
def bytesOf (A:List Int):List Int:=(List.range 48).map fun i=>A.getD ((47 - i) / 8) 0 / 2 ^ ((47 - i) % 8 * 8) % 256
theorem bytesOf_len (A:List Int):(bytesOf A).length=48:=by simp [bytesOf]
theorem bytesOf_get (A:List Int) (i:Nat) (h:i < 48):(bytesOf A).getD i 0=A.getD ((47 - i) / 8) 0 / 2 ^ ((47 - i) % 8 * 8) % 256:=by
 rw [List.getD_eq_getElem?_getD,bytesOf,List.getElem?_map,List.getElem?_range h]
 rfl
theorem bytesOf_byt (A:List Int):byt (bytesOf A):=by
 apply byt_of
 intro j hj
 rw [bytesOf_len] at hj
 rw [bytesOf_get A j hj]
 omega
theorem two_pow (r:Nat):(2:Int) ^ (r * 8)=256 ^ r:=by
 rw [Nat.mul_comm,Int.pow_mul];rfl
theorem bytesOf_num (A:List Int) (lA:A.length=6) (fA:fits A):beN (bytesOf A)=v64 A:=by
 have hl:(bytesOf A).reverse.length=48:=by rw [List.length_reverse,bytesOf_len]
 have hR:∀ t,t < (bytesOf A).reverse.length→(bytesOf A).reverse.getD t 0=A.getD (t / 8) 0 / 256 ^ (t % 8) % 256:=by
  intro t ht
  rw [hl] at ht
  have e:=rev_get (bytesOf A) (47 - t) (by rw [bytesOf_len];omega)
  rw [bytesOf_len,show 48 - 1 - (47 - t)=t by omega] at e
  rw [e,bytesOf_get A _ (by omega),show 47 - (47 - t)=t by omega,two_pow]
 have e1:(256:Int) ^ 8=18446744073709551616:=by decide
 have h:=spread 8 (by decide) A (bytesOf A).reverse (fun j=>by rw [e1];exact fA j) hR 6 (by rw [hl];decide)
 rw [List.take_of_length_le (by rw [hl];decide),List.take_of_length_le (by omega),e1] at h
 exact h
set_option maxRecDepth 100000 in
set_option maxHeartbeats 1000000 in
theorem bytes_any (A:List Int) (w:World) (lA:A.length=6) (fA:fits A) :
  Calls Tryz.prog 36 #[.agg (us A).toArray] w fun e w'=>∃ g:Nat,e=.returned (.slice (some ⟨g,0,none⟩) 48 48)∧Blk w' g (u8s (bytesOf A))∧Below w.heap.size w w':=by
 have hmk:=run_make_row' 22 5 (.int .u8 0) 1 Tryz.underlying22 info_u8 rfl .i64 .i64 48 (by omega) (by omega)
 rw [made_u8] at hmk
 have b0:=(Blk.new w (us A) 25 w.heap.size rfl).alloc (.cells (u8s (List.replicate 48 0)).toArray 5)
 have b1:=Blk.new (w.alloc (.cells (us A).toArray 25)) (u8s (List.replicate 48 0)) 5 (w.heap.size + 1) (by simp)
 have bel:Below w.heap.size w ((w.alloc (.cells (us A).toArray 25)).alloc (.cells (u8s (List.replicate 48 0)).toArray 5)):=((Below.refl _ _).alloc (Nat.le_refl _) _).alloc (by simp) _
 generalize (u8s (List.replicate 48 0)).toArray=cs at hmk b0 b1 bel
 replace hmk:∀ w:World,(Instr.makeSlice 22 (.int .i64 48) (.int .i64 48)).run Tryz.prog w=.ok (.slice (some ⟨w.heap.size,0,none⟩) 48 48) (w.alloc (.cells cs 5)):=hmk
 have gX:Hid (∀ i,i < 48→(bytesOf A).getD i 0=A.getD ((47 - i) / 8) 0 / 2 ^ ((47 - i) % 8 * 8) % 256):=bytesOf_get A
 have lX:=bytesOf_len A
 obtain ⟨X,hX⟩:∃ X,bytesOf A=X:=⟨_,rfl⟩
 rw [hX] at gX lX ⊢
 clear hX
 go_enter Tryz.func36,Tryz.ntmps36
 go_wp2
 clear hmk
 generalize (w.alloc (.cells (us A).toArray 25)).alloc (.cells cs 5)=W at *
 go_loopw [7] (fun i wr=>∃ (k:Nat) (T:List Int),k≤48∧i=.int .i64 k∧T.length=48∧Hid (∀ j,j < k→T.getD j 0=X.getD j 0)∧Blk wr w.heap.size (us A)∧Blk wr (w.heap.size + 1) (u8s T)∧Below w.heap.size w wr)
  (fun i _=>48 - (intOf i).toNat)
 case atStart=>exact ⟨0,List.replicate 48 0,by omega,rfl,by simp,fun j hj=>absurd hj (by omega),b0,b1,bel⟩
 case round =>
  obtain ⟨k,T,hk,rfl,lT,hJ,hS,hT,hbel⟩:=hrel
  clear b0 b1 bel
  by_cases hlt:k < 48
  ·obtain ⟨a,ha⟩:∃ a,A.getD ((47 - k) / 8) 0=a:=⟨_,rfl⟩
   have ba:0≤a∧a < 18446744073709551616:=ha ▸ fA _
   have x1:=hS.cell ((47 - k) / 8) _ (us_get A _ (by omega))
   rw [ha] at x1
   have gk:=gX.out k hlt
   rw [ha] at gk
   have GK:Hid _:=gk
   have x2:=hT.cell k _ (u8s_get T k (by omega))
   have fz:=hT.frozen k
   obtain ⟨t,ht⟩:∃ t,T.getD k 0=t:=⟨_,rfl⟩
   rw [ht] at x2
   have a0:=ba.1
   have a1:=ba.2
   have g1:(k:Int) < 48:=by omega
   have g2:(0:Int)≤(k:Int):=by omega
   have g3:(0:Int)≤(47 - (k:Int)) / 8:=by omega
   have g4:(47 - (k:Int)) / 8 < 6:=by omega
   have g5:((47 - (k:Int)) / 8).toNat=(47 - k) / 8:=by omega
   clear ha ht gk ba
   go_wp2
   go_roundw
   case rel =>
    refine ⟨k + 1,T.set k (a / 2 ^ ((47 - k) % 8 * 8) % 256),by omega,by go_num,by simpa using lT,fun j hj=>?_,hS.other _ _ (by simp),hT.set8 _ _,hbel.setCell (by simp) _⟩
    by_cases hjk:k=j
    ·subst hjk
     rw [getD_set_same _ _ _ (by omega),GK.out]
    ·have e:(T.set k (a / 2 ^ ((47 - k) % 8 * 8) % 256)).getD j 0=T.getD j 0:=by simp [List.getD_eq_getElem?_getD,hjk]
     rw [e];exact hJ.out j (by omega)
   case measure=>simp [intOf];omega
  ·have h6:(48:Int)≤(k:Int):=by omega
   have hTX:T=X:=by
    apply List.ext_getElem (by omega)
    intro i h1 h2
    have:=hJ.out i (by omega)
    simpa [List.getD_eq_getElem?_getD,h1,h2] using this
   subst hTX
   clear hJ
   go_wp2
   go_ret
   exact ⟨_,rfl,hT,hbel⟩
set_option linter.unusedSimpArgs false in
set_option maxRecDepth 100000 in
set_option maxHeartbeats 2000000 in
theorem c13_NumberOf {v:Value} {B:List Int} {w:World} (hv:Bs w v B) (b:byt B) (hl:B.length≤140737488351232) :
  Calls Tryz.prog 35 #[v] w (RetB w (numOf B)):=by
 have HB:Hid (byt B):=b
 have HLl:Hid ((lessZ B).length≤B.length):=by
  show _≤_
  rw [lessZ_drop,List.length_drop]
  omega
 have HNo:Hid (numOf B=if 64 < (lessZ B).length then .error 2 else if (lessZ B).length=0∨127 < (lessZ B).getD 0 0 then .ok ((0:Int) :: lessZ B) else .ok (lessZ B)):=rfl
 have HRb:Hid (byt (lessZ B)):=by rw [lessZ_drop];exact byt_dropM b _
 clear b
 go_enter Tryz.func35,Tryz.ntmps35
 go_wp2_with fail
 refine (c13_less hv).mono ?_
 rintro e w1 ⟨v1,rfl,hR,rfl⟩
 clear hv
 obtain ⟨R,hRe⟩:∃ R,lessZ B=R:=⟨_,rfl⟩
 rw [hRe] at hR HNo HLl HRb
 clear hRe
 obtain ⟨M,hM⟩:∃ M,R.length=M:=⟨_,rfl⟩
 have HM:Hid (R.length=M):=hM
 have HR2:Hid (Bs _ _ R):=hR
 obtain ⟨ao2,cap2,rfl,q1,q2,q3⟩:=hR
 unfold maxLen at q1
 rw [hM] at HR2 q2 q3 HNo ⊢
 have hMN:M≤140737488351232:=by have:=HLl.out;rw [HM.out] at this;omega
 clear hM
 by_cases z1:64 < M
 ·have H:Hid (numOf B=.error 2):=by show _=_;rw [HNo.out,if_pos z1]
  have u1:(64:Int) < (M:Int):=by omega
  clear q3
  go_wp2_with fail
  refine bodyPost_ret (results_tmp2 rfl _ _ _) rfl ?_
  exact RetB.bad H.out (Below.refl _ _)
 have u1:¬ (64:Int) < (M:Int):=by omega
 rw [if_neg z1] at HNo
 have own4:=own_made w1 [.int .u8 0] 5 1 w1.heap.size rfl (Nat.le_refl _) (by decide)
 have hbl:Below w1.heap.size w1 (w1.alloc (.cells #[.int .u8 0] 5)):=(Below.refl _ _).alloc (Nat.le_refl _) _
 have bs4:=HR2.out.later hbl
 by_cases z2:M=0
 ·have H:Hid (numOf B=.ok ((0:Int) :: R)):=by show _=_;rw [HNo.out,if_pos (.inl z2)]
  have z3:(M:Int)=0:=by omega
  clear q3 z2
  go_wp2_with (first|(at_builtin;refine wpList_append_bs (by rfl) _ _ (by rfl) w1.heap.size _ 1 [0] (by rfl) own4 _ R (by rfl) bs4 (by rw [HM.out];omega) (by simp) ?_;intro v5 w5 own5 hgrow hat)|fail)
  have hb5:=below_own (base:=w1.heap.size) hbl hgrow (by simp) (fun g hg=>own_geM own4 hg) (Nat.le_refl _)
  have b5:=Bs.of_own own5
  have n5:=newV_own own5
  refine bodyPost_ret (results_tmp2 rfl _ _ _) rfl ?_
  exact RetB.ok H.out b5 n5 hb5
 have z3:¬ (M:Int)=0:=by omega
 obtain ⟨g3,o3,rfl,l3,d3⟩:=q3 (by omega)
 have x0:=d3 0 (by omega)
 rw [Nat.add_zero] at x0
 have y0:=HRb.out 0
 have gp:(0:Int) < (M:Int):=by omega
 obtain ⟨p,hp⟩:∃ p,R.getD 0 0=p:=⟨_,rfl⟩
 rw [hp] at x0 y0 HNo
 clear d3 hp
 by_cases z4:127 < p
 ·have H:Hid (numOf B=.ok ((0:Int) :: R)):=by show _=_;rw [HNo.out,if_pos (.inr z4)]
  have z5:(128:Int)≤p:=by omega
  go_wp2_with (first|(at_builtin;refine wpList_append_bs (by rfl) _ _ (by rfl) w1.heap.size _ 1 [0] (by rfl) own4 _ R (by rfl) bs4 (by rw [HM.out];omega) (by simp) ?_;intro v5 w5 own5 hgrow hat)|fail)
  have hb5:=below_own (base:=w1.heap.size) hbl hgrow (by simp) (fun g hg=>own_geM own4 hg) (Nat.le_refl _)
  have b5:=Bs.of_own own5
  have n5:=newV_own own5
  refine bodyPost_ret (results_tmp2 rfl _ _ _) rfl ?_
  exact RetB.ok H.out b5 n5 hb5
 ·have H:Hid (numOf B=.ok R):=by show _=_;rw [HNo.out,if_neg (by rintro (h|h);exact z2 h;exact z4 h)]
  have z5:decide ((128:Int)≤p)=false:=decide_eq_false (by omega)
  have z6:((M:Int) == 0)=false:=by rw [beq_eq_false_iff_ne];omega
  clear own4 hbl bs4
  go_wp2_with fail
  refine (c13_Clone HR2.out (by rw [HM.out];omega)).mono ?_
  rintro e w2 ⟨v2,rfl,b2,n2,bel⟩
  go_wp2_with fail
  refine bodyPost_ret (results_tmp2 rfl _ _ _) rfl ?_
  exact RetB.ok H.out b2 n2 bel
theorem con_NumberOf {v:Value} {B:List Int} {w:World} (hv:Bs w v B) (b:byt B) (hl:B.length≤140737488351232) :
  Calls Tryz.prog 35 #[v] w fun e w'=>(∀ n,numOf B=.ok n→∃ v':Value,e=.returned (.tuple #[v',.nilIface])∧Bs w' v' n∧NewV w v'∧Below w.heap.size w w')∧(∀ c,numOf B=.error c→∃ (ao:Option Addr) (cap:Nat),e=.returned (.tuple #[.slice ao 0 cap,.iface 46 (.int .i64 (c:Int))])∧Below w.heap.size w w'):=(c13_NumberOf hv b hl).mono (fun _ _ h=>h)
theorem uBytes {cs:List Value} {x:Int} {w:World} (h:U6 cs x):Calls Tryz.prog 36 #[.agg cs.toArray] w fun e w'=>∃ (g:Nat) (X:List Int),e=.returned (.slice (some ⟨g,0,none⟩) 48 48)∧Blk w' g (u8s X)∧X.length=48∧byt X∧beN X=x∧Below w.heap.size w w':=by
 obtain ⟨z0,z1,z2,z3,z4,z5,rfl,hf,rfl⟩:=h
 refine (bytes_any [z0,z1,z2,z3,z4,z5] w rfl hf).mono ?_
 rintro e w' ⟨g,rfl,B,hb⟩
 exact ⟨g,_,rfl,B,bytesOf_len _,bytesOf_byt _,bytesOf_num _ rfl hf,hb⟩
/-- what Encode tells -/
def EncR (w:World) (r s:Int) (e:Ending) (w':World):Prop:=(¬ (isSc r∧isSc s)→∃ (ao:Option Addr) (cap:Nat),e=.returned (.tuple #[.slice ao 0 cap,codeV 3])∧Below w.heap.size w w')∧(isSc r→isSc s→∃ v':Value,e=.returned (.tuple #[v',.nilIface])∧(∀ X Y x y,Is48 X r→Is48 Y s→numOf X=.ok x→numOf Y=.ok y→Bs w' v' (bytesT (sigT x y)))∧Below w.heap.size w w')
theorem EncR.no {w w':World} {r s:Int} {ao:Option Addr} {cap:Nat} (h:¬ (isSc r∧isSc s)) (bel:Below w.heap.size w w'):EncR w r s (.returned (.tuple #[.slice ao 0 cap,.iface 46 (.int .i64 3)])) w':=⟨fun _=>⟨ao,cap,rfl,bel⟩,fun a b=>absurd ⟨a,b⟩ h⟩
theorem is48_one {X Y:List Int} {r:Int} (h:Is48 X r) (k:Is48 Y r):X=Y:=beN_inj X Y (by rw [h.1,k.1]) h.2.1 k.2.1 (by rw [h.2.2,k.2.2])
theorem EncR.yes {w w':World} {r s:Int} {v:Value} {X Y x y:List Int} (h:isSc r∧isSc s) (hX:Is48 X r) (hY:Is48 Y s) (hx:numOf X=.ok x) (hy:numOf Y=.ok y) (hv:Bs w' v (bytesT (sigT x y))) (bel:Below w.heap.size w w'):EncR w r s (.returned (.tuple #[v,.nilIface])) w' :=
 ⟨fun n=>absurd h n,fun _ _=>⟨v,rfl,fun X' Y' x' y' a b c d=>by
  obtain rfl:=is48_one a hX
  obtain rfl:=is48_one b hY
  rw [hx] at c
  rw [hy] at d
  cases c
  cases d
  exact hv,bel⟩⟩
/-- bytes in a block of S stay in every world that agrees there -/
theorem bs_agr {S:Nat→Prop} {w w':World} {v:Value} {n:List Int} (h:Bs w v n) (hv:∀ a m c,v=.slice (some a) m c→0 < m→S a.block) (ha:Agr S w w'):Bs w' v n:=by
 obtain ⟨ao,cp,e,h1,h2,h3⟩:=h
 refine ⟨ao,cp,e,h1,h2,fun h0=>?_⟩
 obtain ⟨b,o,e2,hb,hc⟩:=h3 h0
 have hs:S b:=hv ⟨b,o,none⟩ _ _ (by rw [e,e2]) h0
 refine ⟨b,o,e2,Nat.lt_of_lt_of_le hb ha.1,fun j hj=>?_⟩
 rw [← hc j hj]
 have:=ha.2 b hs hb
 unfold World.cell?
 simp only [this]
theorem leaf_bs {S:Nat→Prop} {w:World} {v:Value} {n:List Int} (h:Bs w v n) (hv:∀ a m c,v=.slice (some a) m c→0 < m→S a.block) (c t:Int) (m:Bool):Dep S w (.mk c t m n []) [.int .i64 c,.int .i64 t,.bool m,v,.slice none 0 0]:=fun w' ha=>by
 rw [TlAt]
 exact ⟨_,_,_,rfl,bs_agr h hv ha,by decide,by decide,fun h=>absurd h (by simp)⟩
/-- the kids that are told so far -/
def Kid (r s:Int) (acc:List Tl):Prop:=∀ j t,acc[j]?=some t→∃ X n,t=.mk 0 2 false n []∧Is48 X (if j=0 then r else s)∧numOf X=.ok n
theorem Kid.next {r s:Int} {acc:List Tl} {X n:List Int} (h:Kid r s acc) (hX:Is48 X (if acc.length=0 then r else s)) (hn:numOf X=.ok n):Kid r s (acc++[.mk 0 2 false n []]):=fun j t ht=>by
 by_cases hj:j < acc.length
 ·rw [List.getElem?_append_left hj] at ht
  exact h j t ht
 ·have hlt:=(List.getElem?_eq_some_iff.1 ht).1
  rw [List.length_append] at hlt
  obtain rfl:j=acc.length:=by simp at hlt;omega
  rw [List.getElem?_append_right (Nat.le_refl _),Nat.sub_self] at ht
  simp at ht
  subst ht
  exact ⟨X,n,rfl,hX,hn⟩
theorem Kid.two {r s:Int} {acc:List Tl} (h:Kid r s acc) (hl:acc.length=2):∃ X Y x y,acc=[.mk 0 2 false x [],.mk 0 2 false y []]∧Is48 X r∧Is48 Y s∧numOf X=.ok x∧numOf Y=.ok y:=by
 match acc,hl,h with
 | [a,b],_,h =>
  obtain ⟨X,x,rfl,h1,h2⟩:=h 0 a rfl
  obtain ⟨Y,y,rfl,h3,h4⟩:=h 1 b rfl
  exact ⟨X,Y,x,y,rfl,h1,h3,h2,h4⟩
theorem info_uu:(Tryz.prog.info? 25).map (fun i=>(i.zero,i.size,i.bytes))=some (some (.agg #[.int .u64 0,.int .u64 0,.int .u64 0,.int .u64 0,.int .u64 0,.int .u64 0]),6,48):=by kernel_rfl
theorem fill_uu {ps qs:List Value} {a b:Int} (ha:U6 ps a) (hb:U6 qs b):Instr.fill (fun i=>some (i * 6,6)) ((Array.range (2 * 6)).map ((Value.agg #[.int .u64 0,.int .u64 0,.int .u64 0,.int .u64 0,.int .u64 0,.int .u64 0]).cells[· % (Value.agg #[.int .u64 0,.int .u64 0,.int .u64 0,.int .u64 0,.int .u64 0,.int .u64 0]).cells.size]!)) [(0,.agg ps.toArray),(1,.agg qs.toArray)]=some (ps++qs).toArray:=by
 obtain ⟨z0,z1,z2,z3,z4,z5,rfl,_⟩:=ha
 obtain ⟨y0,y1,y2,y3,y4,y5,rfl,_⟩:=hb
 kernel_rfl
/-- one of two numbers in a row -/
theorem pick_u {w:World} {g i:Nat} {rs ss:List Value} {r s:Int} (B:Blk w g (rs++ss)) (hr:U6 rs r) (hs:U6 ss s) (hi:i < 2):∃ ds,(loadVar 25 ⟨g,0 + i * 6,none⟩).run Tryz.prog w=.ok (.agg ds.toArray) w∧(loadVar 25 ⟨g,i * 6,none⟩).run Tryz.prog w=.ok (.agg ds.toArray) w∧U6 ds (if i=0 then r else s):=by
 match i,hi with
 | 0,_=>exact ⟨rs,load_u B hr app_at0,load_u B hr app_at0,hr⟩
 | 1,_=>exact ⟨ss,load_u B hs (app_at2 (n:=6) hr.len),load_u B hs (app_at2 (n:=6) hr.len),hs⟩
set_option linter.unusedSimpArgs false in
set_option maxRecDepth 100000 in
set_option maxHeartbeats 4000000 in
theorem c14_Encode {rs ss:List Value} {r s:Int} {w:World} (G:GlsO w) (hr:U6 rs r) (hs:U6 ss s) :
  Calls Tryz.prog 15 #[.agg (rs++ss).toArray] w (EncR w r s):=by
 have HG:Hid (GlsO w):=G
 have hts:∃ ts,rs++ss=ts:=⟨_,rfl⟩
 obtain ⟨ts,hts⟩:=hts
 have HT:Hid (rs++ss=ts):=hts
 have HLt:Hid (ts.length=12):=by show _=_;rw [← hts,List.length_append,hr.len,hs.len]
 have HR:Hid (U6 rs r):=hr
 have HS:Hid (U6 ss s):=hs
 rw [hts]
 clear hts hr hs G
 have S0:=Blk.new w ts 27 w.heap.size rfl
 have bel:Below w.heap.size w (w.alloc (.cells ts.toArray 27)):=(Below.refl _ _).alloc (Nat.le_refl _) _
 go_enter Tryz.func15,Tryz.ntmps15
 go_upto_region 1 with fail
 generalize w.alloc (.cells ts.toArray 27)=W at *
 have l1:=S0.lt
 go_wp2_with (first|(refine wpList_load_run (by rfl) (by rfl) (by rfl) (S0.load Tryz.underlying27 rfl size_s HLt.out) ?_)|fail)
 refine (show Calls Tryz.prog 34 #[.agg ts.toArray] _ (fun e w'=>e=.returned (.bool (decide (isSc r∧isSc s)))∧Below _ _ w') by rw [← HT.out];exact c14_both (HG.out.below bel) HR.out HS.out).mono ?_
 rintro e w1 ⟨rfl,hb⟩
 replace S0:=S0.later hb
 replace bel:=below_step bel hb
 clear hb
 clear l1
 by_cases c1:isSc r∧isSc s
 rotate_left
 ·rw [decide_eq_false c1]
  have HN:Hid (¬ (isSc r∧isSc s)):=c1
  clear c1
  go_wp2_with fail
  refine bodyPost_ret (results_tmp2 rfl _ _ _) rfl ?_
  exact EncR.no HN.out bel
 have HW1:Hid (w.heap.size < w1.heap.size):=S0.lt
 rw [decide_eq_true c1]
 have HC1:Hid (isSc r∧isSc s):=c1
 clear c1
 have hz:=zero_tlv.out
 have KB:=Blk.new w1 [.int .i64 0,.int .i64 16,.bool true,.slice none 0 0,.slice none 0 0] 41 w1.heap.size rfl
 replace S0:=S0.alloc (.cells #[.int .i64 0,.int .i64 16,.bool true,.slice none 0 0,.slice none 0 0] 41)
 replace bel:=below_alloc (o:=.cells #[.int .i64 0,.int .i64 16,.bool true,.slice none 0 0,.slice none 0 0] 41) bel
 go_upto_region 4 with (first|(refine wpList_store_row rfl 41 _ _ rfl w1.heap.size #[.int .i64 0,.int .i64 16,.bool true,.slice none 0 0,.slice none 0 0] rfl rfl 41 _ (heap_alloc_last _ _) (by rw [size_tlv];rfl) rfl (by simp [Value.oneCell']) ?_;rw [World.setRow_alloc_new])|fail)
 clear hz
 obtain ⟨gl,hgl⟩:∃ g,g=w1.heap.size:=⟨_,rfl⟩
 rw [← hgl] at KB
 have HGl:Hid (w.heap.size < gl):=by show _ < _;rw [hgl];exact HW1.out
 generalize w1.alloc (.cells #[.int .i64 0,.int .i64 16,.bool true,.slice none 0 0,.slice none 0 0] 41)=V1 at *
 rw [← hgl]
 clear hgl HW1
 have HKl0:Hid (gl < V1.heap.size):=KB.lt
 obtain ⟨ju,hju,hu0,hu1,hu2⟩:=info_partsD info_uu
 obtain ⟨jt,hjt,ht0,ht1,ht2⟩:=info_partsD info_tlv
 have HF:Hid _:=fill_uu HR.out HS.out
 rw [HT.out] at HF
 have l1:=S0.lt
 have BB:=Blk.new V1 ts 25 V1.heap.size rfl
 replace KB:=KB.alloc (.cells ts.toArray 25)
 replace bel:=below_alloc (o:=.cells ts.toArray 25) bel
 have HKl:Hid (gl < V1.heap.size):=HKl0.out
 clear HKl0
 go_wp2_with (first|(refine wpList_load_run (by rfl) (by rfl) (by rfl) (load_u S0 HR.out (by rw [← HT.out];exact app_at0)) ?_)|((refine wpList_load_run (by rfl) (by rfl) (by rfl) (load_u (o:=6) S0 HS.out (by rw [← HT.out];exact app_at2 HR.out.len)) ?_);refine Go.wpList_buildSlice rfl 83 25 2 _ rfl ts.toArray ju _ Tryz.underlying83 hju hu0 (by rw [hu1];decide) (by rw [hu1];decide) (by rw [hu1];refine (congrArg _ (?_:_=[(0,Value.agg rs.toArray),(1,Value.agg ss.toArray)])).trans HF.out;kernel_rfl) ?_)|fail)
 clear l1 S0
 obtain ⟨gb,hgb⟩:∃ g,g=V1.heap.size:=⟨_,rfl⟩
 rw [← hgb] at BB
 generalize V1.alloc (.cells ts.toArray 25)=V2 at *
 rw [← hgb]
 have hglb:gl < gb:=by rw [hgb];exact HKl.out
 have hgbW:gb < V2.heap.size:=BB.lt
 clear hgb HKl
 obtain ⟨W0,hW0⟩:∃ z,z=V2.heap.size:=⟨_,rfl⟩
 rw [← hW0] at hgbW
 have hsV:W0≤V2.heap.size:=by omega
 clear hW0
 go_loopw [20] (fun iv wx=>∃ (acc:List Tl) (kv:Value) (xs:List Value),acc.length≤2∧iv=.int .i64 (acc.length:Int)∧Hid (Kid r s acc)∧Blk wx gl [.int .i64 0,.int .i64 16,.bool true,.slice none 0 0,kv]∧wx.ownsRow W0 41 5 kv acc.length xs∧Hid (∀ i t,acc[i]?=some t→Dep (fun b=>W0≤b∧kv.ownBlock≠some b) wx t ((xs.drop (5 * i)).take 5))∧Blk wx gb ts∧Below w.heap.size w wx∧W0≤wx.heap.size) (fun iv _=>2 - (intOf iv).toNat)
 case atStart=>exact ⟨[],.slice none 0 0,[],by decide,rfl,fun j t h=>by simp at h,KB,⟨rfl,.inl ⟨rfl,rfl⟩⟩,fun i t h=>by simp at h,BB,bel,hsV⟩
 case round =>
  clear KB BB bel hsV
  obtain ⟨acc,kv,xs,hi,rfl,HK,KB,own,HD,BB,bel,hsV⟩:=hrel
  have HKV:Hid (∃ va vc,kv=.slice va acc.length vc):=by rcases own.2 with ⟨h,h'⟩|⟨_,_,_,h,_⟩;exact ⟨none,0,by rw [h,h']⟩;exact ⟨_,_,h⟩
  by_cases hil:acc.length < 2
  ·have g1:((acc.length:Nat):Int) < 2:=by omega
   have g2:(0:Int)≤((acc.length:Nat):Int):=by omega
   have gi:IntKind.i64.wrap ((acc.length:Int) + 1)=(acc.length:Int) + 1:=by rw [IntKind.wrap_i64];omega
   obtain ⟨ds,hld,hld2,hu⟩:=pick_u (by rw [HT.out];exact BB) HR.out HS.out hil
   have HUd:Hid (U6 ds (if acc.length=0 then r else s)):=hu
   have HSd:Hid (ds.toArray.size=6):=by show _=_;rw [List.size_toArray];exact hu.len
   have HLd:Hid (ds.length=6):=hu.len
   have HOd:Hid (OneR ds):=hu.ones
   clear hu
   obtain ⟨na,hna⟩:∃ n,acc.length=n:=⟨_,rfl⟩
   have HNa:Hid (acc.length=na):=hna
   rw [hna] at g1 g2 gi hld hld2 own hil
   rw [hna]
   clear hna
   have hz:=zero_u.out
   have lb:=BB.lt
   have DB:=Blk.new wr ds 25 wr.heap.size rfl
   have hbd:Below wr.heap.size wr (wr.alloc (.cells ds.toArray 25)):=(Below.refl _ _).alloc (Nat.le_refl _) _
   go_upto_region 7 with (first|(refine wpList_load_run (by rfl) (by rfl) (by rfl) hld ?_)|(refine wpList_load_run (by rfl) (by rfl) (by rfl) hld2 ?_)|(refine wpList_store_row rfl 25 _ _ rfl wr.heap.size ds.toArray rfl rfl 25 _ (heap_alloc_last _ _) (by rw [size_u,HSd.out]) (by rw [HSd.out];rfl) HOd.out ?_;rw [World.setRow_alloc_new])|fail)
   clear hz hld hld2 lb
   obtain ⟨g9,hg9⟩:∃ g9,g9=wr.heap.size:=⟨_,rfl⟩
   rw [← hg9] at DB
   generalize wr.alloc (.cells ds.toArray 25)=V5 at *
   rw [← hg9]
   clear hg9
   have ld:=DB.lt
   go_wp2_with (first|(refine wpList_load_run (by rfl) (by rfl) (by rfl) (DB.load Tryz.underlying25 rfl size_u HLd.out) ?_)|fail)
   refine (uBytes HUd.out).mono ?_
   rintro e w6 ⟨gx,X,rfl,BX,lX,bX,eX,hb⟩
   have HX:Hid (Is48 X (if acc.length=0 then r else s)):=⟨lX,bX,eX⟩
   have HBx:Hid (Bs w6 (.slice (some ⟨gx,0,none⟩) 48 48) X):=BX.bs lX (by decide)
   obtain ⟨nn,hnn,hln⟩:=num48 lX
   have HNn:Hid (numOf X=.ok nn):=hnn
   have hb6:=below_stepD hbd hb
   clear hb hbd BX lX bX eX ld DB hnn
   go_wp2_with fail
   refine (con_NumberOf HBx.out HX.out.2.1 (by rw [HX.out.1];decide)).mono ?_
   rintro e w7 ⟨hok,-⟩
   obtain ⟨v7,rfl,bs7,hnw,hb⟩:=hok nn HNn.out
   have hb7:=below_stepD hb6 hb
   have HNw:Hid (NewV wr v7):=hnw.up hb6.size
   have HB7:Hid (Bs w7 v7 nn):=bs7
   obtain ⟨va,vc,rfl,-,-,-⟩:=bs7
   clear hok hb hb6 hnw HBx
   have HDp:Hid (Dep (fun b=>wr.heap.size≤b) w7 (.mk 0 2 false nn []) [.int .i64 0,.int .i64 2,.bool false,.slice va nn.length vc,.slice none 0 0]):=leaf_bs HB7.out (fun a m c e h0=>HNw.out a m c e h0) 0 2 false
   have KB7:=KB.later hb7
   have own7:=own_agr (S:=fun _=>True) own (Agr.below hb7) (fun _ _=>trivial)
   have bel7:=bel.trans (hb7.mono bel.size)
   obtain ⟨cs5,hcs5⟩:∃ cs5:List Value,[.int .i64 0,.int .i64 2,.bool false,.slice va nn.length vc,.slice none 0 0]=cs5:=⟨_,rfl⟩
   have HC5:Hid ([.int .i64 0,.int .i64 2,.bool false,.slice va nn.length vc,.slice none 0 0]=cs5):=hcs5
   have HL5:Hid (cs5.length=5):=by show _=_;rw [← hcs5];rfl
   have HF5:Hid _:=fill_5 HL5.out
   have NB:=Blk.new w7 cs5 41 w7.heap.size rfl
   have HNews:Hid (∀ j u,cs5[j]?=some u→(w7.alloc (.cells cs5.toArray 41)).cell? ((⟨w7.heap.size,0,none⟩:Addr).add j)=some u):=fun j u hu=>by
    have e:(⟨w7.heap.size,0,none⟩:Addr).add j=⟨w7.heap.size,j,none⟩:=by unfold Addr.add;split<;>simp_all
    rw [e]
    exact NB.cell j u hu
   have HO1:Hid (∀ u∈cs5,u.oneCell'=true):=fun u hu=>by rw [← hcs5] at hu;simp only [List.mem_cons,List.not_mem_nil,or_false] at hu;rcases hu with rfl|rfl|rfl|rfl|rfl<;>rfl
   have hca:#[.int .i64 0,.int .i64 2,.bool false,.slice va nn.length vc,.slice none 0 0]=cs5.toArray:=by rw [← hcs5]
   clear NB
   have HDq:Hid (Dep (fun b=>wr.heap.size≤b) w7 (.mk 0 2 false nn []) cs5):=by rw [← hcs5];exact HDp.out
   clear hcs5
   have hs7:=hb7.size
   have e4:=KB7.cell 4 _ rfl
   have f4:=KB7.frozen 4
   have lk:=KB7.lt
   have HS3:Hid (Below w7.heap.size w7 (w7.alloc (.cells cs5.toArray 41))):=(Below.refl _ _).alloc (Nat.le_refl _) _
   have q3:=ne_nilT
   have hz:=zero_tlv.out
   obtain ⟨kva,kvc,hkv⟩:=HKV.out
   rw [HNa.out] at hkv
   subst hkv
   go_wp2_with (first|(refine Go.wpList_buildSlice rfl 39 41 1 _ rfl cs5.toArray jt _ Tryz.underlying39 hjt ht0 (by rw [ht1];decide) (by rw [ht1];decide) (by rw [ht1];refine (congrArg _ (?_:_=[(0,Value.agg cs5.toArray)])).trans HF5.out;kernel_rfl) ?_)|(at_builtin;refine wpList_append_lies _ (by rfl) _ _ _ (by rfl) W0 41 jt _ 5 72 Tryz.underlying39 hjt ht0 ht1 ht2 rfl (by omega) _ na xs (by rfl) (own7.alloc _) ⟨w7.heap.size,0,none⟩ 1 1 cs5 (by rfl) HL5.out HNews.out HO1.out (by omega) (by unfold maxLen;omega) (by omega) (by simp;omega) (w7.heap.size + 1) (by simp) ?_;intro gg cap1 wz hownz hgrow hat hltz;have KBz:=(KB7.alloc (.cells cs5.toArray 41)).grown hgrow (fun k hk e=>by have:=(own_geK own7 hk).1;omega);have e4z:=KBz.cell 4 _ rfl;have f4z:=KBz.frozen 4;have lkz:=KBz.lt)|fail)
   have bel10:=Below.grown (below_alloc (o:=.cells cs5.toArray 41) bel7) hgrow (by have:=bel7.size;simp;omega) (fun k hk=>by have:=(own_geK own7 hk).1;have:=HGl.out;omega)
   have BBz:=((BB.later hb7).alloc (.cells cs5.toArray 41)).grown hgrow (fun k hk e=>by have:=(own_geK own7 hk).1;omega)
   have HST:Hid (∀ i t,(acc++[Tl.mk 0 2 false nn []])[i]?=some t→Dep (fun b=>W0≤b∧(Value.slice (some ⟨gg,0,none⟩) (acc.length + 1) cap1).ownBlock≠some b) wz t (((xs++cs5).drop (5 * i)).take 5)):=kids_stepN (by rw [HNa.out];exact own) HD.out hb7 HDq.out HL5.out HS3.out hgrow (by rcases hat with h|h;exact .inl h;exact .inr (by rw [h];simp)) hsV
   have rd:=RdB.cell (k:=4) KBz (.slice (some ⟨gg,0,none⟩) (na + 1) cap1)
   have hgz:=hgrow.size
   have HSz:Hid (W0≤wz.heap.size):=by show _≤_;simp at hgz;omega
   clear hgrow hat hltz e4 f4 lk q3 hz own7 KB7 bel7
   have HKn:Hid (Kid r s (acc++[.mk 0 2 false nn []])):=HK.out.next HX.out HNn.out
   go_roundw
   case rel =>
    refine ⟨acc++[.mk 0 2 false nn []],.slice (some ⟨gg,0,none⟩) (na + 1) cap1,xs++cs5,by rw [List.length_append,HNa.out];simp;omega,by rw [List.length_append,HNa.out];simp,HKn,rd.1,?_,?_,rd.2.1 _ _ (by omega) BBz,rd.2.2.1 _ _ (by have:=HGl.out;omega) bel10,Nat.le_trans HSz.out rd.2.2.2⟩
    ·rw [List.length_append,HNa.out]
     exact own_agr (S:=fun b=>b≠gl) hownz ((Agr.refl _ _).cell (by simp)) (fun g hg e=>by have:=(own_geK hownz hg).1;omega)
    ·exact fun i t ht=>by have h9:=HST.out i t ht;rw [HNa.out] at h9;exact h9.next ((Agr.refl _ _).cell (by simp only [not_and];intro h;omega)) (fun b hb _=>hb)
   case measure=>simp [intOf];omega
  ·have g1:¬ ((acc.length:Nat):Int) < 2:=by omega
   obtain ⟨X,Y,x,y,hacc,hX,hY,hx,hy⟩:=HK.out.two (by omega)
   subst hacc
   have HX:Hid (Is48 X r):=hX
   have HY:Hid (Is48 Y s):=hY
   have HNx:Hid (numOf X=.ok x):=hx
   have HNy:Hid (numOf Y=.ok y):=hy
   have HLx:Hid (x.length≤49):=by obtain ⟨z,hz,hl⟩:=num48 hX.1;rw [hx] at hz;cases hz;exact hl
   have HLy:Hid (y.length≤49):=by obtain ⟨z,hz,hl⟩:=num48 hY.1;rw [hy] at hz;cases hz;exact hl
   have HBx:Hid (byt x):=numOf_byt hX.2.1 hx
   have HBy:Hid (byt y):=numOf_byt hY.2.1 hy
   have HTl:Hid (TlAt wr (sigT x y) [.int .i64 0,.int .i64 16,.bool true,.slice none 0 0,kv]):=(kids_own (S':=fun _=>True) own HD.out 0 16 true (fun _ _=>trivial) (fun _ _=>trivial)).now
   clear hX hY hx hy own HD BB HK hil g1
   have g1:¬ ((2:Int) < 2):=by omega
   have lk:=KB.lt
   obtain ⟨kva,kvc,hkv⟩:=HKV.out
   subst hkv
   have hLL:∀ w:World,Blk w gl [.int .i64 0,.int .i64 16,.bool true,.slice none 0 0,.slice kva 2 kvc]→(loadVar 41 ⟨gl,0,none⟩).run Tryz.prog w=.ok (.agg #[.int .i64 0,.int .i64 16,.bool true,.slice none 0 0,.slice kva 2 kvc]) w:=fun w B=>B.load Tryz.underlying41 rfl size_tlv rfl
   go_wp2_with (first|(refine wpList_load_run (by rfl) (by rfl) (by rfl) (hLL _ KB) ?_)|fail)
   refine (con_Write HTl.out (sig_wf HBx.out HBy.out) (by rw [sig_sz];omega) (by have:=sig_len HLx.out HLy.out;omega)).mono ?_
   rintro e w7 ⟨wv,er,rfl,hw,hb⟩
   obtain ⟨hfd,rfl⟩:=hw.1 (sig_wr HLx.out HLy.out)
   have HBs:Hid (Bs w7 wv (bytesT (sigT x y))):=hfd.bs
   replace bel:=below_step bel hb
   clear hw hfd hb lk hLL KB
   go_wp2_with fail
   refine bodyPost_ret (results_tmp2 rfl _ _ _) rfl ?_
   exact EncR.yes HC1.out HX.out HY.out HNx.out HNy.out HBs.out bel
end Go.Proofs.YtnkipgbnnhahbaaGreatDoor
