/- Names' elements: plain facts. How great certificates' elements are. Plain facts. A body, signed: plain facts. The kinds that there are, and their identifiers: what the program answers. What Encode answers. The reference's Trim. The reference's Of: limbs as digits. The reference's at: a digit, 0 above all. The reference's Bytes, 48 of them. The reference's Cmp. The reference's Of6: 6 limbs as digits. The document's order. The document's Of6 of a row of cells. A number of 48 bytes. The document's bytes of a signature. -/
import Derived.Test.YtnkipgbnnhahbaaGreatDoorDcOut
import Derived.Test.YtnkipgbnnhahbaaGreatDoorClWr
import Derived.Test.YtnkipgbnnhahbaaGreatDoorEdFact
import Derived.Test.YtnkipgbnnhahbaaGreatDoorDrPar
import Derived.Test.YtnkipgbnnhahbaaGreatDoorEdDecode
import Derived.Test.YtnkipgbnnhahbaaGreatDoorEdEncode
import Derived.Test.YtnkipgbnnhahbaaGreatDoorDrDep
import Derived.Test.YtnkipgbnnhahbaaGreatDoorCtPl
import Derived.Test.YtnkipgbnnhahbaaGreatDoorNum
import Derived.Test.YtnkipgbnnhahbaaGreatDoorApBs
import Derived.Test.YtnkipgbnnhahbaaGreatDoorPmNumO
import Derived.Test.YtnkipgbnnhahbaaGreatDoorDrWrite
import Derived.Test.YtnkipgbnnhahbaaGreatDoorRows
import Derived.Deep.WholeRow
import Derived.Deep.RegionHeld3
import Derived.Deep.DeepCutAuto
import Derived.Deep.DeepFit
import Derived.Deep.OwnRows
import Derived.Deep.AppendLies
import Derived.Great.BuildSlice
import Derived.Laws.Rows
import Derived.BigQuiet
import Derived.Deep.QuietTactic
namespace Go.Proofs.YtnkipgbnnhahbaaGreatDoor
open Go.RowKit
theorem lenB_le (n:Nat):(lenB n).length≤4:=by
 unfold lenB
 split
 ·simp
 ·split
  ·simp
  ·split<;>simp
theorem bytes_mk (c t:Int) (m:Bool) (b:List Int) (ks:List Tl):(bytesT (.mk c t m b ks)).length≤5 + b.length + (bytesL ks).length:=by
 rw [bytesT]
 have:=lenB_le (b++bytesL ks).length
 simp only [List.length_cons,List.length_append] at this ⊢
 omega
/-- neither more bytes nor more elements than so many -/
def Sm (B:Nat) (T:Tl):Prop:=(bytesT T).length≤B∧szT T≤B
def SzmL (B:Nat) (ks:List Tl):Prop:=(bytesL ks).length≤B∧szL ks≤B
theorem Sm.le {A B:Nat} {T:Tl} (h:Sm A T) (k:A≤B):Sm B T:=⟨Nat.le_trans h.1 k,Nat.le_trans h.2 k⟩
theorem SzmL.le {A B:Nat} {ks:List Tl} (h:SzmL A ks) (k:A≤B):SzmL B ks:=⟨Nat.le_trans h.1 k,Nat.le_trans h.2 k⟩
theorem SzmL.nil:SzmL 0 []:=⟨by simp [bytesL],by simp [szL]⟩
theorem SzmL.cons {A B:Nat} {k:Tl} {ks:List Tl} (h:Sm A k) (hs:SzmL B ks):SzmL (A + B) (k :: ks):=by
 refine ⟨?_,?_⟩
 ·rw [bytesL,List.length_append]
  exact Nat.add_le_add h.1 hs.1
 ·rw [szL]
  exact Nat.add_le_add h.2 hs.2
theorem SzmL.one {A:Nat} {k:Tl} (h:Sm A k):SzmL A [k]:=h.1 |> fun _=>SzmL.le (SzmL.cons h SzmL.nil) (by omega)
theorem SzmL.app {A B:Nat}:∀ {ks ls:List Tl},SzmL A ks→SzmL B ls→SzmL (A + B) (ks++ls)
 | [],ls,_,h2=>h2.le (by omega)
 | k :: ks,ls,h1,h2=>by
  have hb:(bytesT k).length + (bytesL ks).length≤A:=by have:=h1.1;rwa [bytesL,List.length_append] at this
  have hz:szT k + szL ks≤A:=by have:=h1.2;rwa [szL] at this
  have ih:=SzmL.app (A:=A - min (bytesT k).length (szT k)) (ks:=ks) (ls:=ls) ⟨by omega,by omega⟩ h2
  refine ⟨?_,?_⟩
  ·rw [List.cons_append,bytesL,List.length_append]
   have e:∀ ks ls:List Tl,(bytesL (ks++ls)).length=(bytesL ks).length + (bytesL ls).length:=by
    intro ks ls
    induction ks with
    | nil=>simp [bytesL]
    | cons k ks ih=>rw [List.cons_append,bytesL,bytesL,List.length_append,List.length_append,ih];omega
   rw [e]
   have:=h2.1
   omega
  ·rw [List.cons_append,szL]
   have e:∀ ks ls:List Tl,szL (ks++ls)=szL ks + szL ls:=by
    intro ks ls
    induction ks with
    | nil=>simp [szL]
    | cons k ks ih=>rw [List.cons_append,szL,szL,ih];omega
   rw [e]
   have:=h2.2
   omega
theorem SzmL.map {α:Type} {A:Nat} {f:α→Tl}:∀ {L:List α},(∀ x∈L,Sm A (f x))→SzmL (A * L.length) (L.map f)
 | [],_=>SzmL.nil.le (Nat.zero_le _)
 | x :: L,h=>by
  rw [List.map_cons]
  refine (SzmL.cons (h x (List.mem_cons_self)) (SzmL.map (fun y hy=>h y (List.mem_cons_of_mem _ hy)))).le ?_
  rw [List.length_cons,Nat.mul_succ]
  omega
theorem sm_mk {B n:Nat} {c t:Int} {m:Bool} {b:List Int} {ks:List Tl} (h:SzmL B ks) (hb:b.length≤n):Sm (5 + n + B) (.mk c t m b ks):=by
 refine ⟨?_,?_⟩
 ·have:=bytes_mk c t m b ks
  have:=h.1
  omega
 ·rw [szT]
  have:=h.2
  omega
theorem sm_leaf {n:Nat} {c t:Int} {m:Bool} {b:List Int} (hb:b.length≤n):Sm (5 + n) (.mk c t m b []):=sm_mk SzmL.nil hb
theorem sm_list {B:Nat} {ks:List Tl} (h:SzmL B ks):Sm (5 + B) (listT ks):=sm_mk (n:=0) h (by simp)
theorem oid_small {l b:List Int} (h:oidOf l=.ok b):b.length≤150:=by
 unfold oidOf at h
 split at h
 ·cases h
 ·rename_i k
  split at h
  ·cases h
  ·cases h
   have h1:=b7s_len (valsO l)
   have h2:=vals_len (L:=l) (by omega)
   omega
theorem sm_oid (l:List Int):Sm 155 (oidT l):=by
 refine sm_leaf (n:=150) ?_
 cases h:oidOf l with
 | ok b=>exact oid_small h
 | error c=>simp [orNil]
theorem numOf_len {n b:List Int} (h:numOf n=.ok b):b.length≤n.length + 1:=by
 have hz:∀ X:List Int,(lessZ X).length≤X.length:=by
  intro X
  induction X with
  | nil=>simp [lessZ]
  | cons x X ih =>
   rw [lessZ]
   split
   ·rw [List.length_cons];omega
   ·exact Nat.le_refl _
 have:=hz n
 unfold numOf at h
 split at h
 ·cases h
 ·split at h
  ·cases h
   rw [List.length_cons];omega
  ·cases h
   omega
/-- the bodies of a signature's two numbers -/
def SigB (r s:Int) (X Y x y:List Int):Prop:=Is48 X r∧Is48 Y s∧numOf X=.ok x∧numOf Y=.ok y
mutual
theorem sz_le:∀ T:Tl,szT T≤(bytesT T).length
 | .mk c t m b ks=>by
  have hz:=szL_le ks
  rw [szT,bytesT]
  simp
  omega
theorem szL_le:∀ ks:List Tl,szL ks≤(bytesL ks).length
 | []=>by rw [szL];omega
 | k :: ks=>by
  have h1:=sz_le k
  have h2:=szL_le ks
  rw [szL,bytesL,List.length_append]
  omega
end
/-- a body, perhaps the algorithm, a signature's bytes -/
def sealP (pl:Bool) (T:Tl) (sig:List Int):Tl:=listT (([T]++(if pl then [] else [algT]))++[.mk 0 3 false (0 :: sig) []])
theorem sm_alg:Sm 160 algT:=sm_list (SzmL.one (sm_oid _))
theorem sm_seal {pl:Bool} {T:Tl} {B sig:List Int} (b:byt B) (h:parseP B=.ok T) (hs:sig.length≤200):Sm 1050000 (sealP pl T sig):=by
 obtain ⟨e,-,-,-,l⟩:=parse_ok b h
 have k1:Sm 1048576 T:=⟨by rw [e];exact l,Nat.le_trans (sz_le T) (by rw [e];exact l)⟩
 have k2:SzmL 160 (if pl then [] else [algT]):=by
  cases pl
  ·exact SzmL.one sm_alg
  ·exact SzmL.nil.le (by omega)
 have k3:Sm 206 (.mk 0 3 false (0 :: sig) []):=sm_leaf (n:=201) (by rw [List.length_cons];omega)
 exact (sm_list (SzmL.app (SzmL.app (SzmL.one k1) k2) (SzmL.one k3))).le (by omega)
theorem ne_codeL (c:Int):∀ w:World,(binOp .neq 30 (.iface 46 (.int .i64 c)) .nilIface).run Tryz.prog w=.ok (.bool true) w:=fun _=>by kernel_rfl
theorem ne_nilL:∀ w:World,(binOp .neq 30 .nilIface .nilIface).run Tryz.prog w=.ok (.bool false) w:=fun _=>by kernel_rfl
theorem le_some:∀ (k:Nat) (n:Int),0≤n→n < 256 ^ k→∃ X:List Int,X.length=k∧(∀ x∈X,0≤x∧x < 256)∧pv 256 X=n
 | 0,n,h0,h1=>⟨[],rfl,by simp,by rw [pv];simp at h1;omega⟩
 | k + 1,n,h0,h1=>by
  obtain ⟨X,l,b,e⟩:=le_some k (n / 256) (by omega) (by rw [Int.pow_succ] at h1;omega)
  refine ⟨n % 256 :: X,by rw [List.length_cons,l],fun x hx=>?_,by rw [pv,e];omega⟩
  rcases List.mem_cons.1 hx with rfl|hx
  ·omega
  ·exact b x hx
theorem is48_some {r:Int} (h:isSc r):∃ X,Is48 X r:=by
 obtain ⟨X,l,b,e⟩:=le_some 48 r (by have:=h.1;omega) (by have:=h.2;have q:QQ < 256 ^ 48:=(by decide);omega)
 exact ⟨X.reverse,by rw [List.length_reverse,l],byt_in (fun x hx=>b x (List.mem_reverse.1 hx)),by unfold beN;rw [List.reverse_reverse,e]⟩
theorem sigB_some {r s:Int} (h:isSc r∧isSc s):∃ X Y x y,SigB r s X Y x y∧x.length≤49∧y.length≤49:=by
 obtain ⟨X,hX⟩:=is48_some h.1
 obtain ⟨Y,hY⟩:=is48_some h.2
 obtain ⟨x,hx,lx⟩:=num48 hX.1
 obtain ⟨y,hy,ly⟩:=num48 hY.1
 exact ⟨X,Y,x,y,⟨hX,hY,hx,hy⟩,lx,ly⟩
/-- what Encode tells -/
def EncCR (w:World) (B:List Int) (r s:Int) (e:Ending) (w':World):Prop:=Below w.heap.size w w'∧(∀ c p,parseP B=.error (c,p)→∃ er:Value,e=.returned (.tuple #[.slice none 0 0,er])∧ErAt w' c p er)∧(∀ T,parseP B=.ok T→¬ (isSc r∧isSc s)→e=.returned (.tuple #[.slice none 0 0,erN 3]))∧(∀ T,parseP B=.ok T→isSc r∧isSc s→∃ (v:Value) (X Y x y:List Int),SigB r s X Y x y∧e=.returned (.tuple #[v,erN (wrN (sealP false T (bytesT (sigT x y))))])∧Bs w' v (wrB (sealP false T (bytesT (sigT x y)))))
theorem EncCR.bad {w w':World} {B:List Int} {r s:Int} {c p:Nat} {er:Value} (h:parseP B=.error (c,p)) (k:ErAt w' c p er) (hb:Below w.heap.size w w'):EncCR w B r s (.returned (.tuple #[.slice none 0 0,er])) w':=⟨hb,fun c' p' q=>(by rw [h] at q;cases q;exact ⟨er,rfl,k⟩),fun T q=>(by rw [h] at q;cases q),fun T q=>(by rw [h] at q;cases q)⟩
theorem EncCR.no {w w':World} {B:List Int} {r s:Int} {T:Tl} (h:parseP B=.ok T) (k:¬ (isSc r∧isSc s)) (hb:Below w.heap.size w w'):EncCR w B r s (.returned (.tuple #[.slice none 0 0,.iface 46 (.int .i64 3)])) w':=⟨hb,fun c' p' q=>(by rw [h] at q;cases q),fun T q _=>rfl,fun T q q2=>absurd q2 k⟩
theorem EncCR.yes {w w':World} {B:List Int} {r s:Int} {T:Tl} {v:Value} {X Y x y:List Int} (h:parseP B=.ok T) (k:isSc r∧isSc s) (hS:SigB r s X Y x y) (hv:Bs w' v (wrB (sealP false T (bytesT (sigT x y))))) (hb:Below w.heap.size w w'):EncCR w B r s (.returned (.tuple #[v,erN (wrN (sealP false T (bytesT (sigT x y))))])) w':=⟨hb,fun c' p' q=>(by rw [h] at q;cases q),fun T q q2=>absurd k q2,fun T' q _=>(by rw [h] at q;cases q;exact ⟨v,X,Y,x,y,hS,rfl,hv⟩)⟩
theorem uEncT {rs ss ts:List Value} {r s:Int} {w:World} (G:GlsO w) (hr:U6 rs r) (hs:U6 ss s) (hT:rs++ss=ts) :
  Calls Tryz.prog 15 #[.agg ts.toArray] w (EncR w r s):=by
 subst hT
 exact c14_Encode G hr hs
theorem size_sgL:(Tryz.prog.info? 27).map (·.size)=some 12:=by kernel_rfl
/-- v holds D without the noughts at its end -/
def Trimmed (w:World) (D:List Int) (v:Value):Prop:=∃ n,n≤D.length∧Sl w v (D.take n)∧trd (D.take n)∧∀ j,n≤j→D.getD j 0=0
theorem trimmed_mk (w:World) (D:List Int) (b cap k:Nat) (hk:k≤D.length) (hc:D.length≤cap) (hm:cap≤maxLen) (hb:b < w.heap.size) (h5:∀ j,j < D.length→w.cell? ⟨b,j,none⟩=some (.int .u64 (D.getD j 0)))
  (hz:∀ j,k≤j→D.getD j 0=0) (ht:0 < k→D.getD (k - 1) 0≠0):Trimmed w D (.slice (some ⟨b,0,none⟩) k cap):=by
 have hl:(D.take k).length=k:=by simp;omega
 have hg:∀ j,j < k→(D.take k).getD j 0=D.getD j 0:=fun j hj=>by simp [List.getD_eq_getElem?_getD,hj]
 refine ⟨k,hk,.inr ⟨b,cap,by rw [hl],by omega,hm,hb,fun j hj=>?_⟩,?_,hz⟩
 ·rw [hg j (by omega)];exact h5 j (by omega)
 ·intro h
  rw [hl] at h ⊢
  rw [hg _ (by omega)];exact ht h
theorem Trimmed.num {w:World} {D:List Int} {v:Value} (h:Trimmed w D v) (hd:dig D):NumIs w v (v32 D):=by
 obtain ⟨n,_,h2,h3,h4⟩:=h
 exact ⟨D.take n,h2,dig_take hd n,h3,pv_take_zero _ D n h4⟩
set_option maxRecDepth 100000 in
set_option maxHeartbeats 400000 in
theorem trim_any (v:Value) (D:List Int) (w:World) (h:Sl w v D) :
  Calls Tryz.prog 84 #[v] w fun e w'=>∃ v',e=.returned v'∧Trimmed w D v'∧w'=w:=by
 rcases h with ⟨rfl,rfl⟩|⟨b,cap,rfl,h2,h3,h4,h5⟩
 ·have ht:Trimmed w [] (.slice none 0 0):=⟨0,Nat.le_refl _,.inl ⟨rfl,rfl⟩,by simp [trd],fun j _=>by simp⟩
  go_enter Tryz.func84,Tryz.ntmps84
  go_wp2
  go_loop [3] (fun i=>i=.int .i64 0) (fun i=>(intOf i).toNat)
  case atStart=>rfl
  case round =>
   subst hrel
   go_wp2
   go_ret
   exact ⟨_,rfl,ht,rfl⟩
 ·have h3':=h3
  unfold maxLen at h3
  have MK:Hid (∀ k,k≤D.length→(∀ j,k≤j→D.getD j 0=0)→(0 < k→D.getD (k - 1) 0≠0)→Trimmed w D (.slice (some ⟨b,0,none⟩) k cap)):=fun k hk=>trimmed_mk w D b cap k hk h2 h3' h4 h5
  have hend:∀ j,D.length≤j→D.getD j 0=0:=fun j hj=>getD_none D j hj
  clear h3'
  obtain ⟨l,hl⟩:∃ l,D.length=l:=⟨_,rfl⟩
  rw [hl] at h2 h5 MK hend ⊢
  have HE:Hid (∀ j,l≤j→D.getD j 0=0):=hend
  clear hend
  go_enter Tryz.func84,Tryz.ntmps84
  go_wp2
  go_loop [3] (fun i=>∃ k:Nat,k≤l∧i=.int .i64 k∧Hid (∀ j,k≤j→D.getD j 0=0)) (fun i=>(intOf i).toNat)
  case atStart=>exact ⟨l,Nat.le_refl _,rfl,HE⟩
  case round =>
   obtain ⟨k,hk,rfl,HZ⟩:=hrel
   by_cases hk0:k=0
   ·subst hk0
    have MK0:Trimmed w D (.slice (some ⟨b,0,none⟩) 0 cap):=MK.out 0 (by omega) HZ.out (by omega)
    go_wp2
    go_ret
    exact ⟨_,rfl,MK0,rfl⟩
   ·obtain ⟨d,hd⟩:∃ d,D.getD (k - 1) 0=d:=⟨_,rfl⟩
    have hc:=h5 (k - 1) (by omega)
    rw [hd] at hc
    have HD:Hid (D.getD (k - 1) 0=d):=hd
    clear hd
    have g1:(0:Int) < (k:Int):=by omega
    have g2:((k:Int) - 1).toNat=k - 1:=by omega
    by_cases hd0:d=0
    ·subst hd0
     go_wp2
     go_round
     case rel =>
      refine ⟨k - 1,by omega,by congr 1;omega,fun j hj=>?_⟩
      by_cases hjk:j=k - 1
      ·subst hjk;exact HD.out
      ·exact HZ.out j (by omega)
     case measure=>simp [intOf];omega
    ·have g3:(d == 0)=false:=by simpa using hd0
     have MK0:Trimmed w D (.slice (some ⟨b,0,none⟩) k cap):=MK.out k (by omega) HZ.out (fun _=>by rw [HD.out];exact hd0)
     go_wp2
     go_ret
     exact ⟨_,rfl,MK0,rfl⟩
theorem info_num:(Tryz.prog.info? 23).map (fun i=>(i.zero,i.size,i.bytes))=some (some (.int .u64 0),1,8):=by kernel_rfl
theorem own_ge {w:World} {base:Nat} {e:TypeId} {size:Nat} {v:Value} {n:Nat} {xs:List Value} {j:Nat} (h:w.ownsRow base e size v n xs) (hj:v.ownBlock=some j):base≤j:=by
 rcases h.2 with ⟨h1,_⟩|⟨g,c,cur,h1,h2,_⟩
 ·rw [h1] at hj;simp [Value.ownBlock] at hj
 ·rw [h1] at hj;simp [Value.ownBlock] at hj;omega
set_option maxRecDepth 100000 in
set_option maxHeartbeats 1000000 in
theorem of_any (v : Value) (L : List Int) (w : World) (h : Sl w v L) (l0 : 0 < L.length) (l1 : L.length ≤ 12) (hf : fits L) :
    Calls Tryz.prog 72 #[v] w fun e w' => ∃ v', e = .returned v' ∧ NumIs w' v' (v64 L) ∧ Below w.heap.size w w' := by
  rcases h with ⟨rfl, rfl⟩ | ⟨b, cap, rfl, h2, h3, h4, h5⟩
  · simp at l0
  · unfold maxLen at h3
    obtain ⟨i0, hi0, hz0, hz1, hz2⟩ := info_parts info_num
    have hdig := spl_dig L hf
    have hval := spl_val L
    obtain ⟨l, hl⟩ : ∃ l, L.length = l := ⟨_, rfl⟩
    rw [hl] at h2 h5 l0 l1 ⊢
    obtain ⟨N, hN⟩ : ∃ N, v64 L = N := ⟨_, rfl⟩
    rw [hN] at hval ⊢
    have HL : Hid (L.length = l) := hl
    clear hN hl
    go_enter Tryz.func72, Tryz.ntmps72
    go_wp2
    go_loopw [3, 4] (fun o i wr => ∃ k : Nat, k ≤ l ∧ i = .int .i64 k ∧ wr.ownsRow w.heap.size 23 1 o (2 * k) (us (spl (L.take k))) ∧ Below w.heap.size w wr)
      (fun _ i _ => l - (intOf i).toNat)
    case atStart => exact ⟨0, by omega, rfl, World.ownsRow_nil _ _ _ _, Below.refl _ _⟩
    case round =>
      obtain ⟨k, hk, rfl, hown, hbel⟩ := hrel
      by_cases hlt : k < l
      · obtain ⟨a, ha⟩ : ∃ a, L.getD k 0 = a := ⟨_, rfl⟩
        have hfa : 0 ≤ a ∧ a < 18446744073709551616 := ha ▸ hf k
        have hc := (hbel.cell (p := ⟨b, k, none⟩) h4).trans (h5 k hlt)
        rw [ha] at hc
        have hsz := hbel.size
        have hne : some b ≠ Value.ownBlock u3 := by
          rcases hown.2 with ⟨h1, _⟩ | ⟨g, c, cur, h1, h2, _⟩
          · rw [h1]; simp [Value.ownBlock]
          · rw [h1]; simp [Value.ownBlock]; omega
        obtain ⟨p, hp⟩ : ∃ p, a % 4294967296 = p := ⟨_, rfl⟩
        obtain ⟨q, hq⟩ : ∃ q, a / 4294967296 = q := ⟨_, rfl⟩
        have hp' : a.tmod 4294967296 = p := by rw [← hp, Int.tmod_eq_emod_of_nonneg hfa.1]
        have hq' : IntKind.u64.wrap (a.tdiv 4294967296) = q := by rw [Int.tdiv_eq_ediv_of_nonneg hfa.1, IntKind.wrap_u64]; omega
        have HT : Hid (us (spl (L.take k)) ++ [.int .u64 p, .int .u64 q] = us (spl (L.take (k + 1)))) := by
          rw [spl_take L k (by rw [HL.out]; exact hlt), ha, hp, hq]; simp [us, Hid]
        clear ha
        have g0 : (0 : Int) ≤ (k : Int) := by omega
        have g1 : (k : Int) < (l : Int) := by omega
        go_wp2
        go_region_held3 (fun w' => w'.cell? ⟨b, k, none⟩ = some (.int .u64 a))
          (first | exact hc | (rw [World.cell?_drew, World.cell?_alloc_past _ _ _ (by omega)]; exact hc) | (rw [hgrow.cell_far _ (by simp; omega) hne]; assumption))
          ((refine step_append_lies _ (by rfl) _ _ _ (by rfl) w.heap.size 23 i0 _ 1 8 Tryz.underlying92 hi0 hz0 hz1 hz2 rfl (by omega) _ _ _ (by rfl) ((hown.alloc _).drew)
              ⟨wr.heap.size, 0, none⟩ 2 2 [.int .u64 p, .int .u64 q] (by rfl) (by rfl) (World.news_of_block (cs := #[.int .u64 p, .int .u64 q]) (t := 23) (fr := (0, 0)) (heap_alloc_new wr _)) (by simp [Value.oneCell'])
              (by omega) (by unfold maxLen; omega) (by omega) (by simp; omega) (wr.heap.size + 1) (by simp) ?_; intro gg cap1 w1 hown1 hgrow hat hlt1))
        all_goals go_wp2
        go_roundw
        case rel => exact ⟨k + 1, by omega, by go_num, by rw [HT.out] at hown1; exact hown1, hbel.trans (Below.grown ((Below.refl _ _).alloc hsz _).drew hgrow (by simp; omega) (fun j hj => own_ge hown hj))⟩
        case measure => simp [intOf]; omega
      · have g1 : (l : Int) ≤ (k : Int) := by omega
        have hk : k = l := by omega
        subst hk
        rw [List.take_of_length_le (by rw [HL.out]; exact Nat.le_refl _)] at hown
        go_wp2_with fail
        refine (trim_any _ (spl L) _ (Sl.of_own hown)).mono ?_
        rintro e w' ⟨v', rfl, ht, rfl⟩
        have hN := ht.num hdig
        rw [hval] at hN
        go_wp2_with fail
        go_ret
        exact ⟨v', rfl, hN, hbel⟩
set_option maxRecDepth 100000 in
theorem at_any (v:Value) (D:List Int) (i:Nat) (w:World) (h:Sl w v D) :
  Calls Tryz.prog 73 #[v,.int .i64 i] w fun e w'=>e=.returned (.int .u64 (D.getD i 0))∧w'=w:=by
 obtain ⟨ao,cap,rfl,m1,k1,f1⟩:=h.form
 unfold maxLen at m1
 obtain ⟨d,hd⟩:∃ d,D.getD i 0=d:=⟨_,rfl⟩
 by_cases hi:i < D.length
 ·obtain ⟨b,rfl,hb,hc⟩:=f1 (by omega)
  have x:=hc i hi
  rw [hd] at x ⊢
  clear f1 hc hd
  have g1:(i:Int) < (D.length:Int):=by omega
  have g2:(0:Int)≤(i:Int):=by omega
  go_enter Tryz.func73,Tryz.ntmps73
  go_wp2
  go_ret
  exact ⟨rfl,rfl⟩
 ·have e:d=0:=by rw [← hd];exact getD_none D i (by omega)
  rw [hd,e]
  clear f1 hd e
  have g1:¬ (i:Int) < (D.length:Int):=by omega
  go_enter Tryz.func73,Tryz.ntmps73
  go_wp2
  go_ret
  exact ⟨rfl,rfl⟩
/-- the bytes of digits -/
def bytesIn (D:List Int):List Int:=(List.range 48).map fun i=>D.getD ((47 - i) / 4) 0 / 256 ^ ((47 - i) % 4) % 256
theorem bytesIn_len (D:List Int):(bytesIn D).length=48:=by simp [bytesIn]
theorem bytesIn_get (D:List Int) (i:Nat) (h:i < 48):(bytesIn D).getD i 0=D.getD ((47 - i) / 4) 0 / 256 ^ ((47 - i) % 4) % 256:=by
 rw [List.getD_eq_getElem?_getD,bytesIn,List.getElem?_map,List.getElem?_range h]
 rfl
theorem bytesIn_byt (D:List Int):byt (bytesIn D):=by
 apply byt_of
 intro j hj
 rw [bytesIn_len] at hj
 rw [bytesIn_get D j hj]
 omega
theorem bytesIn_num (D:List Int) (lD:D.length≤12) (dD:dig D):beN (bytesIn D)=v32 D:=by
 have hl:(bytesIn D).reverse.length=48:=by rw [List.length_reverse,bytesIn_len]
 have hR:∀ t,t < (bytesIn D).reverse.length→(bytesIn D).reverse.getD t 0=D.getD (t / 4) 0 / 256 ^ (t % 4) % 256:=by
  intro t ht
  rw [hl] at ht
  have e:=rev_get (bytesIn D) (47 - t) (by rw [bytesIn_len];omega)
  rw [bytesIn_len,show 48 - 1 - (47 - t)=t by omega] at e
  rw [e,bytesIn_get D _ (by omega),show 47 - (47 - t)=t by omega]
 have e1:(256:Int) ^ 4=4294967296:=by decide
 have h:=spread 4 (by decide) D (bytesIn D).reverse (fun j=>by rw [e1];exact dD j) hR 12 (by rw [hl];decide)
 rw [List.take_of_length_le (by rw [hl];decide),List.take_of_length_le (by omega),e1] at h
 exact h
theorem shifted (d:Int) (j:Nat):d / 256 ^ j / 256=d / 256 ^ (j + 1):=by
 rw [Int.pow_succ,Int.ediv_ediv_of_nonneg (Int.le_of_lt (Int.pow_pos (by decide)))]
theorem shifted_bd (d:Int) (j:Nat) (h0:0≤d) (h1:d < 4294967296):0≤d / 256 ^ j∧d / 256 ^ j < 4294967296:=by
 have hp:(0:Int) < 256 ^ j:=Int.pow_pos (by decide)
 exact ⟨Int.ediv_nonneg h0 (Int.le_of_lt hp),Int.lt_of_le_of_lt (Int.ediv_le_self _ h0) h1⟩
set_option maxRecDepth 100000 in
set_option maxHeartbeats 1000000 in
theorem rbytes_any (v:Value) (N:Int) (w:World) (hv:NumIs w v N) (hN:N < 4294967296 ^ 12) :
  Calls Tryz.prog 43 #[v,.int .i64 48] w fun e w'=>∃ (g:Nat) (X:List Int),e=.returned (.slice (some ⟨g,0,none⟩) 48 48)∧Blk w' g (u8s X)∧X.length=48∧byt X∧beN X=N∧Below w.heap.size w w':=by
 obtain ⟨D,sD,dD,tD,rfl⟩:=hv
 have lD:=v32_len D dD tD 12 hN
 have HQ:Hid (byt (bytesIn D)∧beN (bytesIn D)=v32 D):=⟨bytesIn_byt D,bytesIn_num D lD dD⟩
 have hmk:=run_make_row' 22 5 (.int .u8 0) 1 Tryz.underlying22 info_u8 rfl .i64 .i64 48 (by omega) (by omega)
 rw [made_u8] at hmk
 have b1:=Blk.new w (u8s (List.replicate 48 0)) 5 w.heap.size rfl
 have bel:Below w.heap.size w (w.alloc (.cells (u8s (List.replicate 48 0)).toArray 5)):=(Below.refl _ _).alloc (Nat.le_refl _) _
 generalize (u8s (List.replicate 48 0)).toArray=cs at hmk b1 bel
 replace hmk:∀ w:World,(Instr.makeSlice 22 (.int .i64 48) (.int .i64 48)).run Tryz.prog w=.ok (.slice (some ⟨w.heap.size,0,none⟩) 48 48) (w.alloc (.cells cs 5)):=hmk
 have gX:Hid (∀ i,i < 48→(bytesIn D).getD i 0=D.getD ((47 - i) / 4) 0 / 256 ^ ((47 - i) % 4) % 256):=bytesIn_get D
 have lX:=bytesIn_len D
 obtain ⟨X,hX⟩:∃ X,bytesIn D=X:=⟨_,rfl⟩
 obtain ⟨N,hNN⟩:∃ N,v32 D=N:=⟨_,rfl⟩
 rw [hX] at gX lX HQ
 rw [hNN] at HQ ⊢
 clear hX hNN hN tD
 obtain ⟨ao,c1,rfl,-,-,-⟩:=sD.form
 obtain ⟨l,hl⟩:∃ l,D.length=l:=⟨_,rfl⟩
 rw [hl] at sD ⊢
 clear hl lD
 go_enter Tryz.func43,Tryz.ntmps43
 go_wp2
 clear hmk
 generalize w.alloc (.cells cs 5)=W at *
 go_loopw [6] (fun iv wr=>∃ (i:Nat) (T:List Int),i≤48∧iv=.int .i64 i∧T.length=48∧Hid (∀ j,48 - i≤j→j < 48→T.getD j 0=X.getD j 0)∧Blk wr w.heap.size (u8s T)∧Below w.heap.size w wr)
  (fun i _=>48 - (intOf i).toNat)
 case atStart=>exact ⟨0,List.replicate 48 0,by omega,rfl,by simp,fun j hj hj2=>absurd hj (by omega),b1,bel⟩
 case round =>
  obtain ⟨i,T,hi,rfl,lT,hJ,hT,hbel⟩:=hrel
  clear b1 bel
  by_cases hlt:i < 48
  ·obtain ⟨d,hd⟩:∃ d,D.getD (i / 4) 0=d:=⟨_,rfl⟩
   have bd:0≤d∧d < 4294967296:=hd ▸ dD _
   have gk:=gX.out (47 - i) (by omega)
   rw [show 47 - (47 - i)=i by omega,hd] at gk
   have GK:Hid _:=gk
   have sD':=sD.later hbel
   have x2:=hT.cell (47 - i) _ (u8s_get T (47 - i) (by omega))
   have fz:=hT.frozen (47 - i)
   obtain ⟨t,ht⟩:∃ t,T.getD (47 - i) 0=t:=⟨_,rfl⟩
   rw [ht] at x2
   have g1:(i:Int) < 48:=by omega
   have g2:(0:Int)≤47 - (i:Int):=by omega
   have g3:47 - (i:Int) < 48:=by omega
   have g4:(47 - (i:Int)).toNat=47 - i:=by omega
   clear ht gk
   go_wp2_with fail
   have AT:=at_any _ D (i / 4) wr sD'
   have ei:((i / 4:Nat):Int)=(i:Int) / 4:=by omega
   rw [ei] at AT
   refine AT.mono ?_
   rintro e1 w' ⟨rfl,hw⟩
   obtain rfl:=hw.symm
   rw [hd]
   clear AT ei hd
   go_wp2_with fail
   go_loop [7,8] (fun vv jv=>∃ j:Nat,j≤i % 4∧jv=.int .i64 j∧vv=.int .u64 (d / 256 ^ j)) (fun _ jv=>4 - (intOf jv).toNat)
   case atStart=>exact ⟨0,by omega,rfl,by simp⟩
   case round =>
    obtain ⟨j,hj,rfl,rfl⟩:=hrel
    have bj:=shifted_bd d j bd.1 bd.2
    have bj0:=bj.1
    have bj1:=bj.2
    by_cases hjl:j < i % 4
    ·have HZ:Hid (d / 256 ^ j / 256=d / 256 ^ (j + 1)):=shifted d j
     obtain ⟨y,hy⟩:∃ y,d / 256 ^ j=y:=⟨_,rfl⟩
     rw [hy] at bj0 bj1 HZ ⊢
     have g5:(j:Int) < (i:Int) % 4:=by omega
     clear hy bj
     go_wp2
     go_round
     case rel=>exact ⟨j + 1,by omega,by go_num,by rw [HZ.out]⟩
     case measure=>simp [intOf];omega
    ·have g5:¬ (j:Int) < (i:Int) % 4:=by omega
     have hje:j=i % 4:=by omega
     have GK':Hid (X.getD (47 - i) 0=d / 256 ^ j % 256):=by rw [hje];exact GK
     obtain ⟨y,hy⟩:∃ y,d / 256 ^ j=y:=⟨_,rfl⟩
     rw [hy] at bj0 bj1 GK' ⊢
     clear hy bj hje
     go_wp2
     go_roundw
     case rel =>
      refine ⟨i + 1,T.set (47 - i) (y % 256),by omega,by go_num,by simpa using lT,fun q hq hq2=>?_,hT.set8 _ _,hbel.setCell (by simp) _⟩
      by_cases hjk:47 - i=q
      ·subst hjk
       rw [getD_set_same _ _ _ (by omega),GK'.out]
      ·have e:(T.set (47 - i) (y % 256)).getD q 0=T.getD q 0:=by simp [List.getD_eq_getElem?_getD,hjk]
       rw [e];exact hJ.out q (by omega) hq2
     case measure=>simp [intOf];omega
  ·have h6:(48:Int)≤(i:Int):=by omega
   have hTX:T=X:=by
    apply List.ext_getElem (by omega)
    intro k h1 h2
    have:=hJ.out k (by omega) (by omega)
    simpa [List.getD_eq_getElem?_getD,h1,h2] using this
   subst hTX
   clear hJ
   go_wp2
   go_ret
   exact ⟨_,T,rfl,hT,lX,HQ.out.1,HQ.out.2,hbel⟩
def cmpN (X Y:Int):Int:=if X < Y then -1 else if X=Y then 0 else 1
theorem cmpN_lt {X Y:Int} (h:X < Y):(-1:Int)=cmpN X Y:=by simp [cmpN,h]
theorem cmpN_eq {X Y:Int} (h:X=Y):(0:Int)=cmpN X Y:=by simp [cmpN,h]
theorem cmpN_gt {X Y:Int} (h:Y < X):(1:Int)=cmpN X Y:=by
 unfold cmpN;rw [if_neg (by omega),if_neg (by omega)]
set_option maxRecDepth 100000 in
set_option maxHeartbeats 1000000 in
theorem cmp_any (u v:Value) (X Y:Int) (w:World) (hu:NumIs w u X) (hv:NumIs w v Y) :
  Calls Tryz.prog 70 #[u,v] w fun e w'=>e=.returned (.int .i64 (cmpN X Y))∧Below w.heap.size w w':=by
 obtain ⟨D,sD,dD,tD,rfl⟩:=hu
 obtain ⟨E,sE,dE,tE,rfl⟩:=hv
 obtain ⟨ao,c1,rfl,m1,k1,f1⟩:=sD.form
 obtain ⟨bo,c2,rfl,m2,k2,f2⟩:=sE.form
 have sh1:=v32_short D E dD dE tE
 have sh2:=v32_short E D dE dD tD
 obtain ⟨l,hl⟩:∃ l,D.length=l:=⟨_,rfl⟩
 obtain ⟨m,hm⟩:∃ m,E.length=m:=⟨_,rfl⟩
 unfold maxLen at m1 m2
 clear sD sE
 obtain ⟨X,hX⟩:∃ X,v32 D=X:=⟨_,rfl⟩
 obtain ⟨Y,hY⟩:∃ Y,v32 E=Y:=⟨_,rfl⟩
 rw [hX,hY]
 rw [hX,hY] at sh1 sh2
 rw [hl,hm] at sh1
 rw [hm,hl] at sh2
 by_cases hlm:l < m
 ·have H:Hid _:=cmpN_lt (sh1 hlm)
  rw [hl,hm]
  clear sh1 sh2 f1 f2 hX hY
  have g1:((l:Int) != (m:Int))=true:=by simp;omega
  have g2:(l:Int) < (m:Int):=by omega
  go_enter Tryz.func70,Tryz.ntmps70
  go_wp2
  go_ret
  exact ⟨ret_int H.out,Below.refl _ _⟩
 ·by_cases hml:m < l
  ·have H:Hid _:=cmpN_gt (sh2 hml)
   rw [hl,hm]
   clear sh1 sh2 f1 f2 hX hY
   have g1:((l:Int) != (m:Int))=true:=by simp;omega
   have g2:¬ (l:Int) < (m:Int):=by omega
   go_enter Tryz.func70,Tryz.ntmps70
   go_wp2
   go_ret
   exact ⟨ret_int H.out,Below.refl _ _⟩
  ·have hE:m=l:=by omega
   subst hE
   rw [hl] at f1 ⊢
   rw [hm] at f2 ⊢
   clear sh1 sh2
   have g1:((m:Int) != (m:Int))=false:=by simp
   have HL:Hid (D.length=m∧E.length=m):=⟨hl,hm⟩
   have HX:Hid (v32 D=X∧v32 E=Y):=⟨hX,hY⟩
   clear hX hY
   rw [hl] at k1
   rw [hm] at k2
   clear hl hm
   go_enter Tryz.func70,Tryz.ntmps70
   go_wp2
   go_loopw [5] (fun i wr=>∃ k:Nat,k≤m∧i=.int .i64 ((k:Int) - 1)∧Hid (D.drop k=E.drop k)∧∃ n,wr=w.drewN n)
    (fun i _=>(intOf i + 1).toNat)
   case atStart=>exact ⟨m,Nat.le_refl _,rfl,by show _=_;rw [List.drop_of_length_le (by rw [HL.out.1];exact Nat.le_refl _),List.drop_of_length_le (by rw [HL.out.2];exact Nat.le_refl _)],0,rfl⟩
   case round =>
    obtain ⟨k,hk,rfl,HD,n,rfl⟩:=hrel
    by_cases hk0:k=0
    ·have H:Hid _:=cmpN_eq (show X=Y by rw [← HX.out.1,← HX.out.2];have:=HD.out;rw [hk0] at this;simp at this;rw [this])
     have g2:¬ (0:Int)≤(k:Int) - 1:=by omega
     go_wp2
     go_ret
     exact ⟨ret_int H.out,below_dN (Below.refl _ _) _⟩
    ·obtain ⟨b1,rfl,hb1,hc1⟩:=f1 (by omega)
     obtain ⟨b2,rfl,hb2,hc2⟩:=f2 (by omega)
     clear f1 f2
     obtain ⟨d,hd⟩:∃ d,D.getD (k - 1) 0=d:=⟨_,rfl⟩
     obtain ⟨e,he⟩:∃ e,E.getD (k - 1) 0=e:=⟨_,rfl⟩
     have x1:=hc1 (k - 1) (by omega)
     have x2:=hc2 (k - 1) (by omega)
     rw [hd] at x1
     rw [he] at x2
     have hD:Hid (D.drop (k - 1 + 1)=E.drop (k - 1 + 1)):=by rw [show k - 1 + 1=k by omega];exact HD
     have L1:Hid (d < e→X < Y):=fun h=>by rw [← HX.out.1,← HX.out.2];exact v32_less D E (k - 1) dD dE (by rw [HL.out.1];omega) (by rw [HL.out.2];omega) hD.out (by rw [hd,he];exact h)
     have L2:Hid (e < d→Y < X):=fun h=>by rw [← HX.out.1,← HX.out.2];exact v32_less E D (k - 1) dE dD (by rw [HL.out.2];omega) (by rw [HL.out.1];omega) hD.out.symm (by rw [hd,he];exact h)
     have L3:Hid (d=e→D.drop (k - 1)=E.drop (k - 1)):=fun h=>by
      have e1:=List.drop_eq_getElem_cons (l:=D) (i:=k - 1) (by rw [HL.out.1];omega)
      have e2:=List.drop_eq_getElem_cons (l:=E) (i:=k - 1) (by rw [HL.out.2];omega)
      rw [e1,e2,hD.out]
      congr 1
      rw [List.getD_eq_getElem?_getD,List.getElem?_eq_getElem (by rw [HL.out.1];omega)] at hd
      rw [List.getD_eq_getElem?_getD,List.getElem?_eq_getElem (by rw [HL.out.2];omega)] at he
      simp at hd he
      rw [hd,he,h]
     clear hd he hc1 hc2
     have g2:(0:Int)≤(k:Int) - 1:=by omega
     have g3:(k:Int) - 1 < (m:Int):=by omega
     have g4:((k:Int) - 1).toNat=k - 1:=by omega
     by_cases hde:d < e
     ·have H:Hid _:=cmpN_lt (L1.out hde)
      go_wp2
      go_quiet (fail)
      go_wp2
      go_ret
      exact ⟨ret_int H.out,below_dN (below_dN (Below.refl _ _) _) _⟩
     ·by_cases hed:e < d
      ·have H:Hid _:=cmpN_gt (L2.out hed)
       go_wp2
       go_quiet (fail)
       go_wp2
       go_quiet (fail)
       go_wp2
       go_ret
       exact ⟨ret_int H.out,below_dN (below_dN (below_dN (Below.refl _ _) _) _) _⟩
      ·have hq:d=e:=by omega
       go_wp2
       go_quiet (fail)
       go_wp2
       go_quiet (fail)
       go_wp2
       go_roundw
       case rel=>exact ⟨k - 1,by omega,by congr 1;omega,L3.out hq,_,rfl⟩
       case measure=>simp [intOf];omega
set_option maxRecDepth 100000 in
set_option maxHeartbeats 1000000 in
theorem of6_any (A:List Int) (w:World) (lA:A.length=6) (hf:fits A) :
    Calls Tryz.prog 41 #[.agg (us A).toArray] w fun e w'=>∃ v',e=.returned v'∧NumIs w' v' (v64 A)∧Below w.heap.size w w':=by
  obtain ⟨i0,hi0,hz0,hz1,hz2⟩:=info_parts info_num
  have B0:=Blk.new w (us A) 24 w.heap.size rfl
  have bel:Below w.heap.size w (w.alloc (.cells (us A).toArray 24)):=(Below.refl _ _).alloc (Nat.le_refl _) _
  have sz0:(w.alloc (.cells (us A).toArray 24)).heap.size=w.heap.size + 1:=by simp
  go_enter Tryz.func41,Tryz.ntmps41
  go_wp2
  generalize w.alloc (.cells (us A).toArray 24)=W at *
  go_loopw [3,4] (fun o i wr=>∃ k:Nat,k≤6∧i=.int .i64 k∧wr.ownsRow (w.heap.size + 1) 23 1 o k (us (A.take k))∧Below (w.heap.size + 1) W wr)
    (fun _ i _=>6 - (intOf i).toNat)
  case atStart=>exact ⟨0,by omega,rfl,World.ownsRow_nil _ _ _ _,Below.refl _ _⟩
  case round =>
    obtain ⟨k,hk,rfl,hown,hbel⟩:=hrel
    have hsz:=hbel.size
    by_cases hlt:k < 6
    · obtain ⟨a,ha⟩:∃ a,A.getD k 0=a:=⟨_,rfl⟩
      have hc:=(B0.below hbel (by omega)).cell k _ (us_get A k (by omega))
      rw [ha] at hc
      have HT:Hid (us (A.take k)++[.int .u64 a]=us (A.take (k + 1))):=by
        rw [← ha];exact us_take A k (by omega)
      clear ha
      have g0:(0:Int)≤(k:Int):=by omega
      have g1:(k:Int) < 6:=by omega
      go_wp2_with (first
        | (at_builtin;refine wpList_append_lies _ (by rfl) _ _ _ (by rfl) (w.heap.size + 1) 23 i0 _ 1 8 Tryz.underlying91 hi0 hz0 hz1 hz2 rfl (by omega) _ _ _ (by rfl) (hown.alloc _) ⟨wr.heap.size,0,none⟩ 1 1 [.int .u64 a] (by rfl) (by rfl) (World.news_of_block (cs:=#[.int .u64 a]) (t:=23) (fr:=(0,0)) (heap_alloc_new wr _)) (by simp [Value.oneCell']) (by omega) (by unfold maxLen;omega) (by omega) (by simp;omega) (wr.heap.size + 1) (by simp) ?_;intro gg cap1 w1 hown1 hgrow hat hlt1))
      go_roundw
      case rel=>exact ⟨k + 1,by omega,by go_num,by rw [HT.out] at hown1;exact hown1,hbel.trans (Below.grown ((Below.refl _ _).alloc (by omega) _) hgrow (by simp;omega) (fun j hj=>own_ge hown hj))⟩
      case measure=>simp [intOf];omega
    · have g1:(6:Int)≤(k:Int):=by omega
      have hk:k=6:=by omega
      rw [hk,List.take_of_length_le (by omega)] at hown
      go_wp2_with fail
      refine (of_any _ A _ (Sl.of_own hown) (by omega) (by omega) hf).mono ?_
      rintro e w' ⟨v',rfl,ht,hb⟩
      go_wp2_with fail
      go_ret
      exact ⟨v',rfl,ht,(bel.trans (hbel.mono (by omega))).trans (hb.mono (by omega))⟩
theorem n_num (w:World) (t:TypeId):NumIs (w.alloc (.cells (us [3435473267,3974895978,1219536762,1478102450,4097256927,3345173889,4294967295,4294967295,4294967295,4294967295,4294967295,4294967295]).toArray t)) (.slice (some ⟨w.heap.size,0,none⟩) 12 12) QQ:=by
 have B:=Blk.new w (us [3435473267,3974895978,1219536762,1478102450,4097256927,3345173889,4294967295,4294967295,4294967295,4294967295,4294967295,4294967295]) t w.heap.size rfl
 refine ⟨[3435473267,3974895978,1219536762,1478102450,4097256927,3345173889,4294967295,4294967295,4294967295,4294967295,4294967295,4294967295],.inr ⟨w.heap.size,12,rfl,Nat.le_refl _,by unfold maxLen;omega,B.lt,fun j hj=>B.cell j _ (us_get _ j hj)⟩,?_,?_,?_⟩
 ·intro j
  match j with
  | 0=>decide
  | 1=>decide
  | 2=>decide
  | 3=>decide
  | 4=>decide
  | 5=>decide
  | 6=>decide
  | 7=>decide
  | 8=>decide
  | 9=>decide
  | 10=>decide
  | 11=>decide
  | _ + 12=>exact ⟨by simp,by simp⟩
 ·intro _;simp
 ·simp only [v32,pv];decide
set_option maxRecDepth 100000 in
theorem n_any {w:World} :
  Calls Tryz.prog 71 #[] w fun e w'=>∃ v',e=.returned v'∧NumIs w' v' QQ∧Below w.heap.size w w':=by
 have h:=n_num w 23
 go_enter Tryz.func71,Tryz.ntmps71
 go_wp2
 go_ret
 exact ⟨_,rfl,h,(Below.refl _ _).alloc (Nat.le_refl _) _⟩
theorem six_of {l:List Int} (h:l.length=6):∃ z0 z1 z2 z3 z4 z5:Int,l=[z0,z1,z2,z3,z4,z5]:=by
 match l,h with
 | [z0,z1,z2,z3,z4,z5],_=>exact ⟨z0,z1,z2,z3,z4,z5,rfl⟩
theorem uOf6 {cs:List Value} {x:Int} {w:World} (h:U6 cs x):Calls Tryz.prog 41 #[.agg cs.toArray] w fun e w'=>∃ v',e=.returned v'∧NumIs w' v' x∧Below w.heap.size w w':=by
 obtain ⟨z0,z1,z2,z3,z4,z5,rfl,hf,rfl⟩:=h
 exact of6_any [z0,z1,z2,z3,z4,z5] w rfl hf
theorem size_uC:(Tryz.prog.info? 25).map (·.size)=some 6:=by kernel_rfl
theorem own_slC {w:World} {base size:Nat} {e:TypeId} {v:Value} {n:Nat} {xs:List Value} (h:w.ownsRow base e size v n xs):∃ ao cap,v=.slice ao n cap:=by
 rcases h.2 with ⟨h1,h2⟩|⟨g,cap,cur,h1,_⟩
 ·exact ⟨none,0,by rw [h1,h2]⟩
 ·exact ⟨_,cap,h1⟩
/-- what Encode tells -/
def SigR (w:World) (r s:Int) (e:Ending) (w':World):Prop:=Below w.heap.size w w'∧(¬ (isSc r∧isSc s)→e=.returned (.tuple #[.slice none 0 0,.bool false]))∧(isSc r∧isSc s→∃ (v:Value) (X Y x y:List Int),SigB r s X Y x y∧e=.returned (.tuple #[v,.bool true])∧Bs w' v (bytesT (sigT x y)))
theorem SigR.no {w w':World} {r s:Int} (h:¬ (isSc r∧isSc s)) (hb:Below w.heap.size w w'):SigR w r s (.returned (.tuple #[.slice none 0 0,.bool false])) w':=⟨hb,fun _=>rfl,fun k=>absurd k h⟩
theorem SigR.yes {w w':World} {r s:Int} {v:Value} {X Y x y:List Int} (h:isSc r∧isSc s) (hx:SigB r s X Y x y) (hv:Bs w' v (bytesT (sigT x y))) (hb:Below w.heap.size w w'):SigR w r s (.returned (.tuple #[v,.bool true])) w':=⟨hb,fun k=>absurd h k,fun _=>⟨v,X,Y,x,y,hx,rfl,hv⟩⟩
theorem u_lt {cs:List Value} {x:Int} (h:U6 cs x):x < 4294967296 ^ 12:=by
 have:=h.bd.2
 rw [show (4294967296:Int) ^ 12=18446744073709551616 ^ 6 by decide]
 exact this
set_option linter.unusedSimpArgs false in
set_option maxRecDepth 100000 in
set_option maxHeartbeats 400000 in
theorem r14_scalar {v:Value} {X:Int} {w:World} (h:NumIs w v X) (h0:0≤X) :
  Calls Tryz.prog 40 #[v] w fun e w'=>e=.returned (.bool (decide (isSc X)))∧Below w.heap.size w w':=by
 have HN:Hid (NumIs w v X):=h
 obtain ⟨ao,n,cap,rfl,hnc,hcm,hn0⟩:=num_len h
 go_enter Tryz.func40,Tryz.ntmps40
 by_cases c1:X=0
 ·have g1:¬ (0:Int) < (n:Int):=by have:=hn0.2 c1;omega
  have H:Hid (decide (isSc X)=false):=decide_eq_false (fun k=>by have:=k.1;omega)
  clear hn0 c1 h
  go_wp2_with fail
  go_ret
  exact ⟨by rw [H.out];rfl,Below.refl _ _⟩
 have g1:(0:Int) < (n:Int):=by
  have:¬ (n:Int)=0:=fun k=>c1 (hn0.1 k)
  omega
 have H1:Hid (1≤X):=by show _≤_;omega
 clear hn0 c1 h
 go_wp2_with fail
 refine n_any.mono ?_
 rintro e w1 ⟨v1,rfl,N1,hb⟩
 have HN1:Hid (NumIs w1 v1 QQ):=N1
 have bel:Below w.heap.size w w1:=hb
 replace HN:Hid (NumIs w1 (.slice ao n cap) X):=HN.out.later hb
 clear N1 hb
 go_wp2_with fail
 refine (cmp_any _ _ _ _ _ HN.out HN1.out).mono ?_
 rintro e w2 ⟨rfl,hb⟩
 replace bel:=below_step bel hb
 clear hb
 by_cases c2:X < QQ
 ·have e9:=cmpN_lt c2
  have H:Hid (decide (isSc X)=true):=decide_eq_true ⟨H1.out,c2⟩
  rw [← e9]
  clear e9 c2
  go_wp2_with fail
  go_ret
  exact ⟨by rw [H.out];rfl,bel⟩
 ·have H:Hid (decide (isSc X)=false):=decide_eq_false (fun k=>c2 k.2)
  obtain ⟨cc,hcc,hc0⟩:∃ cc,cmpN X QQ=cc∧¬ cc < 0:=by
   rcases (show X=QQ∨QQ < X by omega) with k|k
   ·exact ⟨0,(cmpN_eq k).symm,by omega⟩
   ·exact ⟨1,(cmpN_gt k).symm,by omega⟩
  rw [hcc]
  clear c2 hcc
  go_wp2_with fail
  go_ret
  exact ⟨by rw [H.out];show Ending.returned (Value.bool (decide (cc < 0)))=_;rw [decide_eq_false (by omega)],bel⟩
set_option linter.unusedSimpArgs false in
set_option maxRecDepth 100000 in
set_option maxHeartbeats 2000000 in
theorem r14_Encode {rs ss:List Value} {r s:Int} {w:World} (hr:U6 rs r) (hs:U6 ss s) :
  Calls Tryz.prog 19 #[.agg (rs++ss).toArray] w (SigR w r s):=by
 have HR:Hid (U6 rs r):=hr
 have HS:Hid (U6 ss s):=hs
 obtain ⟨ts,hts⟩:∃ ts,rs++ss=ts:=⟨_,rfl⟩
 have HT:Hid (rs++ss=ts):=hts
 rw [hts]
 have B0:=Blk.new w ts 27 w.heap.size rfl
 have bel:Below w.heap.size w (w.alloc (.cells ts.toArray 27)):=(Below.refl _ _).alloc (Nat.le_refl _) _
 go_enter Tryz.func19,Tryz.ntmps19
 go_upto_region 1 with fail
 generalize w.alloc (.cells ts.toArray 27)=W at *
 clear hts hr hs
 have hld:(loadVar 25 ⟨w.heap.size,0,none⟩).run Tryz.prog W=.ok (.agg rs.toArray) W:=load_cells (n:=6) (F:=rs) (fun j v hv=>B0.cell _ _ (by rw [← HT.out,Nat.zero_add,List.getElem?_append_left (List.getElem?_eq_some_iff.1 hv).1];exact hv)) HR.out.len Tryz.underlying25 rfl size_uC
 have l0:=B0.lt
 go_wp2_with (first|((with_reducible show wpList _ _ _ ({ dst:=_,op:=.load _ _,type:=_,pos:=_,after:=_,guard:=_ } :: _) _ _);refine wpList_load_run (by rfl) (by rfl) (by rfl) hld ?_)|fail)
 refine (uOf6 HR.out).mono ?_
 rintro e w1 ⟨v1,rfl,hn,hb⟩
 replace B0:=B0.later hb
 replace bel:=below_step bel hb
 clear hb hld l0
 go_wp2_with fail
 refine (r14_scalar hn HR.out.bd.1).mono ?_
 rintro e w2 ⟨rfl,hb⟩
 replace B0:=B0.later hb
 replace bel:=below_step bel hb
 clear hb hn
 by_cases c1:isSc r
 rotate_left
 ·rw [decide_eq_false c1]
  have H:Hid (¬ (isSc r∧isSc s)):=fun h=>c1 h.1
  go_wp2_with fail
  refine bodyPost_ret (results_tmp2 rfl _ _ _) rfl ?_
  exact SigR.no H.out bel
 rw [decide_eq_true c1]
 have HC1:Hid (isSc r):=c1
 clear c1
 have hld:(loadVar 25 ⟨w.heap.size,6,none⟩).run Tryz.prog w2=.ok (.agg ss.toArray) w2:=load_cells (n:=6) (F:=ss) (fun j v hv=>B0.cell _ _ (by rw [← HT.out,List.getElem?_append_right (by rw [HR.out.len];omega),HR.out.len,Nat.add_sub_cancel_left];exact hv)) HS.out.len Tryz.underlying25 rfl size_uC
 have l0:=B0.lt
 go_wp2_with (first|((with_reducible show wpList _ _ _ ({ dst:=_,op:=.load _ _,type:=_,pos:=_,after:=_,guard:=_ } :: _) _ _);refine wpList_load_run (by rfl) (by rfl) (by rfl) hld ?_)|fail)
 refine (uOf6 HS.out).mono ?_
 rintro e w3 ⟨v3,rfl,hn,hb⟩
 replace B0:=B0.later hb
 replace bel:=below_step bel hb
 clear hb hld l0
 go_wp2_with fail
 refine (r14_scalar hn HS.out.bd.1).mono ?_
 rintro e w4 ⟨rfl,hb⟩
 replace B0:=B0.later hb
 replace bel:=below_step bel hb
 clear hb hn
 by_cases c2:isSc s
 rotate_left
 ·rw [decide_eq_false c2]
  have H:Hid (¬ (isSc r∧isSc s)):=fun h=>c2 h.2
  go_wp2_with fail
  refine bodyPost_ret (results_tmp2 rfl _ _ _) rfl ?_
  exact SigR.no H.out bel
 rw [decide_eq_true c2]
 have HC2:Hid (isSc s):=c2
 clear c2
 have hld:(loadVar 25 ⟨w.heap.size,0,none⟩).run Tryz.prog w4=.ok (.agg rs.toArray) w4:=load_cells (n:=6) (F:=rs) (fun j v hv=>B0.cell _ _ (by rw [← HT.out,Nat.zero_add,List.getElem?_append_left (List.getElem?_eq_some_iff.1 hv).1];exact hv)) HR.out.len Tryz.underlying25 rfl size_uC
 have l0:=B0.lt
 go_wp2_with (first|((with_reducible show wpList _ _ _ ({ dst:=_,op:=.load _ _,type:=_,pos:=_,after:=_,guard:=_ } :: _) _ _);refine wpList_load_run (by rfl) (by rfl) (by rfl) hld ?_)|fail)
 refine (uOf6 HR.out).mono ?_
 rintro e w5a ⟨ua,rfl,hn,hb⟩
 replace B0:=B0.later hb
 replace bel:=below_step bel hb
 clear hb hld l0
 have hN:NumIs w5a ua r:=hn
 clear hn
 go_wp2_with fail
 refine (rbytes_any _ _ _ hN (u_lt HR.out)).mono ?_
 rintro e w5b ⟨g0,X0,rfl,hB,hX1,hX2,hX3,hb⟩
 have HX0:Hid (X0.length=48∧byt X0∧beN X0=r):=⟨hX1,hX2,hX3⟩
 have hBs:Bs w5b (.slice (some ⟨g0,0,none⟩) 48 48) X0:=Blk.bs hB hX1 (by decide)
 replace B0:=B0.later hb
 replace bel:=below_step bel hb
 clear hb hN hB hX1 hX2 hX3
 go_wp2_with fail
 refine (r13_NumberOf hBs HX0.out.2.1 (by rw [HX0.out.1];omega)).mono ?_
 rintro e w5c ⟨hok,-⟩
 obtain ⟨x0,hx0,hxl0⟩:=num48 HX0.out.1
 obtain ⟨nv0,rfl,hnv,hb⟩:=hok x0 hx0
 have HNx0:Hid (numOf X0=.ok x0∧x0.length≤49):=⟨hx0,hxl0⟩
 obtain ⟨na0,nc0,hv0,-,-,-⟩:=id hnv
 obtain ⟨nl0,hnl0⟩:∃ z,x0.length=z:=⟨_,rfl⟩
 rw [hnl0] at hv0
 subst hv0
 have HBx0:Hid (Bs w5c (.slice na0 nl0 nc0) x0):=hnv
 replace B0:=B0.later hb
 replace bel:=below_step bel hb
 clear hb hok hnv hBs hx0 hxl0 hnl0
 go_upto_region 4 with fail
 have hld:(loadVar 25 ⟨w.heap.size,6,none⟩).run Tryz.prog w5c=.ok (.agg ss.toArray) w5c:=load_cells (n:=6) (F:=ss) (fun j v hv=>B0.cell _ _ (by rw [← HT.out,List.getElem?_append_right (by rw [HR.out.len];omega),HR.out.len,Nat.add_sub_cancel_left];exact hv)) HS.out.len Tryz.underlying25 rfl size_uC
 have l0:=B0.lt
 go_wp2_with (first|((with_reducible show wpList _ _ _ ({ dst:=_,op:=.load _ _,type:=_,pos:=_,after:=_,guard:=_ } :: _) _ _);refine wpList_load_run (by rfl) (by rfl) (by rfl) hld ?_)|fail)
 refine (uOf6 HS.out).mono ?_
 rintro e w6a ⟨ub,rfl,hn,hb⟩
 replace HBx0:Hid (Bs w6a (.slice na0 nl0 nc0) x0):=HBx0.out.later hb
 replace B0:=B0.later hb
 replace bel:=below_step bel hb
 clear hb hld l0
 have hN:NumIs w6a ub s:=hn
 clear hn
 go_wp2_with fail
 refine (rbytes_any _ _ _ hN (u_lt HS.out)).mono ?_
 rintro e w6b ⟨g1,X1,rfl,hB,hX1,hX2,hX3,hb⟩
 have HX1:Hid (X1.length=48∧byt X1∧beN X1=s):=⟨hX1,hX2,hX3⟩
 have hBs:Bs w6b (.slice (some ⟨g1,0,none⟩) 48 48) X1:=Blk.bs hB hX1 (by decide)
 replace HBx0:Hid (Bs w6b (.slice na0 nl0 nc0) x0):=HBx0.out.later hb
 replace B0:=B0.later hb
 replace bel:=below_step bel hb
 clear hb hN hB hX1 hX2 hX3
 go_wp2_with fail
 refine (r13_NumberOf hBs HX1.out.2.1 (by rw [HX1.out.1];omega)).mono ?_
 rintro e w6c ⟨hok,-⟩
 obtain ⟨x1,hx1,hxl1⟩:=num48 HX1.out.1
 obtain ⟨nv1,rfl,hnv,hb⟩:=hok x1 hx1
 have HNx1:Hid (numOf X1=.ok x1∧x1.length≤49):=⟨hx1,hxl1⟩
 obtain ⟨na1,nc1,hv1,-,-,-⟩:=id hnv
 obtain ⟨nl1,hnl1⟩:∃ z,x1.length=z:=⟨_,rfl⟩
 rw [hnl1] at hv1
 subst hv1
 have HBx1:Hid (Bs w6c (.slice na1 nl1 nc1) x1):=hnv
 replace HBx0:Hid (Bs w6c (.slice na0 nl0 nc0) x0):=HBx0.out.later hb
 replace B0:=B0.later hb
 replace bel:=below_step bel hb
 clear hb hok hnv hBs hx1 hxl1 hnl1
 go_upto_region 5 with fail
 have K10:=Blk.new w6c [.int .i64 0,.int .i64 2,.bool false,.slice na0 nl0 nc0,.slice none 0 0,.int .i64 0,.int .i64 2,.bool false,.slice na1 nl1 nc1,.slice none 0 0] 41 w6c.heap.size rfl
 have hb:Below w6c.heap.size w6c (w6c.alloc (.cells #[.int .i64 0,.int .i64 2,.bool false,.slice na0 nl0 nc0,.slice none 0 0,.int .i64 0,.int .i64 2,.bool false,.slice na1 nl1 nc1,.slice none 0 0] 41)):=(Below.refl _ _).alloc (Nat.le_refl _) _
 have HTs:Hid (TlAt (w6c.alloc (.cells #[.int .i64 0,.int .i64 2,.bool false,.slice na0 nl0 nc0,.slice none 0 0,.int .i64 0,.int .i64 2,.bool false,.slice na1 nl1 nc1,.slice none 0 0] 41)) (sigT x0 x1) [.int .i64 0,.int .i64 16,.bool true,.slice none 0 0,.slice (some ⟨w6c.heap.size,0,none⟩) 2 2]):=sig_at (HBx0.out.later hb) (HBx1.out.later hb) K10
 replace bel:=below_step bel hb
 clear hb K10
 have hz:=zero_tlv.out
 go_wp2_with fail
 clear hz
 refine (r12_Write (by rw [sig_sz];omega) (fun _=>by have:=sig_len HNx0.out.2 HNx1.out.2;omega) HTs.out).mono ?_
 rintro e w7 ⟨bv,rfl,hw,-,hb⟩
 have hw0:=sig_wr HNx0.out.2 HNx1.out.2
 have HBb:Hid (Bs w7 bv (bytesT (sigT x0 x1))):=Bs.of_own (hw hw0)
 replace bel:=below_step bel hb
 rw [hw0]
 clear hw hb hw0 HTs
 go_wp2_with fail
 refine bodyPost_ret (results_tmp2 rfl _ _ _) rfl ?_
 exact SigR.yes ⟨HC1.out,HC2.out⟩ ⟨HX0.out,HX1.out,HNx0.out.1,HNx1.out.1⟩ HBb.out bel
end Go.Proofs.YtnkipgbnnhahbaaGreatDoor
