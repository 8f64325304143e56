/- Ints in slices; append of any of them, also of none, to a row of one's own. The program's pairsBody of layer 13. -/
import Derived.Test.YtkgjlcdefnpkpaaGreatDoorApBs
import Derived.Test.YtkgjlcdefnpkpaaGreatDoorPrG
import Derived.Test.YtkgjlcdefnpkpaaGreatDoorPrTimA
import Derived.Test.YtkgjlcdefnpkpaaGreatDoorRows
import Derived.Deep.OwnRows
import Derived.Deep.AppendLies
import Derived.Great.BuildSlice
import Derived.Deep.WholeRow
import Derived.Deep.RegionHeld3
import Derived.Deep.DeepCutAuto
import Derived.Deep.DeepFit
namespace Go.Proofs.YtkgjlcdefnpkpaaGreatDoor
open Go.RowKit
abbrev i64s (A:List Int):List Value:=A.map (Value.int .i64)
theorem i64s_get (A:List Int) (j:Nat) (h:j < A.length):(i64s A)[j]?=some (.int .i64 (A.getD j 0)):=by
 simp [i64s,h]
/-- the slice value v, in the world w, holds the ints L -/
def Is (w:World) (v:Value) (L:List Int):Prop :=
 ∃ ao cap,v=.slice ao L.length cap∧cap≤maxLen∧L.length≤cap∧(0 < L.length→∃ b o,ao=some ⟨b,o,none⟩∧b < w.heap.size∧∀ j,j < L.length→w.cell? ⟨b,o + j,none⟩=some (.int .i64 (L.getD j 0)))
theorem Is.later {w w':World} {v:Value} {L:List Int} (h:Is w v L) (hb:Below w.heap.size w w'):Is w' v L:=by
 obtain ⟨ao,cap,h1,h2,h3,h4⟩:=h
 refine ⟨ao,cap,h1,h2,h3,fun hp=>?_⟩
 obtain ⟨b,o,e1,e2,e3⟩:=h4 hp
 exact ⟨b,o,e1,Nat.lt_of_lt_of_le e2 hb.size,fun j hj=>(hb.cell e2).trans (e3 j hj)⟩
theorem Is.of_own {w:World} {base:Nat} {e:TypeId} {v:Value} {n:Nat} {D:List Int} (h:w.ownsRow base e 1 v n (i64s D)):Is w v D:=by
 obtain ⟨hl,h⟩:=h
 have hn:D.length=n:=by simpa using hl
 rcases h with ⟨h1,h2⟩|⟨g,cap,cur,h1,h2,h3,h4,h5,h6,h7⟩
 ·exact ⟨none,0,by rw [h1,hn,h2],Nat.zero_le _,by omega,fun h=>by omega⟩
 ·refine ⟨_,cap,by rw [hn];exact h1,h5,by omega,fun _=>⟨g,0,rfl,(Array.getElem?_eq_some_iff.1 h3).1,fun j hj=>?_⟩⟩
  have e1:(cur.toList.take (n * 1))[j]?=some (.int .i64 (D.getD j 0)):=by rw [h7];exact i64s_get D j hj
  rw [List.getElem?_take,if_pos (by omega)] at e1
  rw [Nat.zero_add]
  simp only [World.cell?,h3,Option.isSome_none,Bool.false_eq_true,if_false]
  simpa using e1
theorem is_cut {w:World} {g o n cap r m k:Nat} {ad:Option Addr} {B:List Int} (h:Is w (.slice (some ⟨g,o,none⟩) n cap) B) (hn:B.length=n) (hr:r≤n) (hm:m=n - r) (ha:0 < m→ad=some ⟨g,o + r,none⟩) (hk:k=cap - r):Is w (.slice ad m k) (B.drop r):=by
 obtain ⟨a,c,e,h1,h2,h3⟩:=h
 obtain ⟨rfl,_,rfl⟩:some ⟨g,o,none⟩=a∧n=B.length∧cap=c:=by simpa using e
 have el:(B.drop r).length=m:=by rw [List.length_drop,hn,hm]
 refine ⟨ad,k,by rw [el],by rw [hk];exact Nat.le_trans (Nat.sub_le _ _) h1,by rw [el,hm,hk];exact Nat.sub_le_sub_right (by rw [← hn];exact h2) r,fun h0=>?_⟩
 rw [el] at h0 ⊢
 obtain ⟨b',o',e',k1,k2⟩:=h3 (by rw [hn];exact Nat.lt_of_lt_of_le h0 (by rw [hm];exact Nat.sub_le _ _))
 simp only [Option.some.injEq,Addr.mk.injEq] at e'
 obtain ⟨rfl,rfl,-⟩:=e'
 refine ⟨g,o + r,ha h0,k1,fun j hj=>?_⟩
 rw [Nat.add_assoc,k2 (r + j) (by omega),List.getD_eq_getElem?_getD,List.getD_eq_getElem?_getD,List.getElem?_drop]
/-- pairs of digits, one behind the other -/
def twos:List Nat→List Int
 | []=>[]
 | n :: l=>twoN n++twos l
theorem twos_next {l:List Nat} {k:Nat} (h:k < l.length):twos (l.take (k + 1))=twos (l.take k)++twoN (l.getD k 0):=by
 induction l generalizing k with
 | nil=>simp at h
 | cons a l ih =>
  cases k with
  | zero=>simp [twos]
  | succ k =>
   have:=ih (k:=k) (by simpa using h)
   rw [List.take_succ_cons,List.take_succ_cons,twos,twos,this,List.getD_cons_succ,List.append_assoc]
theorem ints_get {l:List Nat} {k:Nat} (h:k < l.length):(l.map (fun n:Nat=>(n:Int))).getD k 0=((l.getD k 0:Nat):Int):=by
 rw [List.getD_eq_getElem?_getD,List.getElem?_map,List.getD_eq_getElem?_getD,List.getElem?_eq_getElem h]
 rfl
set_option linter.unusedSimpArgs false in
set_option maxRecDepth 100000 in
set_option maxHeartbeats 2000000 in
theorem c13_pairsBody {v:Value} {l:List Nat} {w:World} (hv:Is w v (l.map (fun n:Nat=>(n:Int)))) (hb:∀ j,l.getD j 0≤99) (hl:l.length≤7) :
  Calls Tryz.prog 127 #[v] w fun e w'=>∃ v',e=.returned v'∧Bs w' v' (twos l++[90])∧NewV w v'∧Below w.heap.size w w':=by
 obtain ⟨ao,cap,rfl,h1,h2,h3⟩:=hv
 obtain ⟨N,hN⟩:∃ N,l.length=N:=⟨_,rfl⟩
 have HN:Hid (l.length=N):=hN
 rw [List.length_map,hN] at h2 h3 ⊢
 rw [hN] at hl
 have HC:Hid (∀ j,j < N→∃ g o,ao=some ⟨g,o,none⟩∧w.cell? ⟨g,o + j,none⟩=some (.int .i64 ((l.getD j 0:Nat):Int))∧g < w.heap.size):=fun j hj=>by
  obtain ⟨g,o,e1,e2,e3⟩:=h3 (by omega)
  have:=e3 j hj
  rw [ints_get (by rw [HN.out];exact hj)] at this
  exact ⟨g,o,e1,this,e2⟩
 have HBd:Hid _:=hb
 unfold maxLen at h1
 clear hN h3 hb
 go_enter Tryz.func127,Tryz.ntmps127
 go_wp2_with fail
 obtain ⟨W,hW⟩:∃ z,z=w:=⟨_,rfl⟩
 rw [← hW]
 have bel0:Below w.heap.size w W:=by rw [hW];exact Below.refl _ _
 clear hW
 go_loopw [3,8] (fun bv iv wx=>∃ (i:Nat) (X:List Int),i≤N∧iv=.int .i64 (i:Int)∧X.length≤2 * i∧wx.ownsRow w.heap.size 5 1 bv X.length (u8s X)∧Hid (X=twos (l.take i))∧Below w.heap.size w wx) (fun _ iv _=>N - (intOf iv).toNat)
 case atStart=>exact ⟨0,[],by omega,rfl,by show 0≤_;omega,⟨rfl,.inl ⟨rfl,rfl⟩⟩,rfl,bel0⟩
 case round =>
  clear bel0
  obtain ⟨i,X,hi,rfl,hX,own,HX,bel⟩:=hrel
  by_cases hil:i < N
  ·have k1:(i:Int) < (N:Int):=by omega
   have k2:(0:Int)≤(i:Int):=by omega
   have gi:IntKind.i64.wrap ((i:Int) + 1)=(i:Int) + 1:=by rw [IntKind.wrap_i64];omega
   obtain ⟨g,o,rfl,cy0,lg0⟩:=HC.out i hil
   have cy:=(bel.cell (p:=⟨g,o + i,none⟩) lg0).trans cy0
   have lg:g < wr.heap.size:=Nat.lt_of_lt_of_le lg0 bel.size
   have yb:=HBd.out i
   have HX2:Hid (twos (l.take (i + 1))=X++twoN (l.getD i 0)):=by show _=_;rw [twos_next (by rw [HN.out];exact hil),← HX.out]
   obtain ⟨n,hn⟩:∃ n,l.getD i 0=n:=⟨_,rfl⟩
   rw [hn] at cy yb HX2
   clear hn cy0
   have t1:(n:Int).tdiv 10=((n / 10:Nat):Int):=by rw [Int.tdiv_eq_ediv_of_nonneg (by omega)];omega
   have t2:(n:Int).tmod 10=((n % 10:Nat):Int):=by rw [Int.tmod_eq_emod_of_nonneg (by omega)];omega
   have t3:(n:Int) / 10=((n / 10:Nat):Int):=by omega
   have t4:(n:Int) % 10=((n % 10:Nat):Int):=by omega
   have b1:n / 10 < 10:=by omega
   have b2:n % 10 < 10:=by omega
   have HTw:Hid (twoN n=[((48 + n / 10:Nat):Int),((48 + n % 10:Nat):Int)]):=rfl
   obtain ⟨a,ha⟩:∃ a,n / 10=a:=⟨_,rfl⟩
   obtain ⟨c,hc⟩:∃ a,n % 10=a:=⟨_,rfl⟩
   rw [ha] at t1 t3 b1 HTw
   rw [hc] at t2 t4 b2 HTw
   clear ha hc
   obtain ⟨p,hp⟩:∃ p,48 + a=p:=⟨_,rfl⟩
   obtain ⟨q,hq⟩:∃ p,48 + c=p:=⟨_,rfl⟩
   rw [hp,hq] at HTw
   rw [HTw.out] at HX2
   have g1:IntKind.i64.wrap (48 + (a:Int))=(p:Int):=by rw [IntKind.wrap_i64];omega
   have g2:IntKind.i64.wrap (48 + (c:Int))=(q:Int):=by rw [IntKind.wrap_i64];omega
   have g3:IntKind.u8.wrap (p:Int)=(p:Int):=by rw [IntKind.wrap_u8];omega
   have g4:IntKind.u8.wrap (q:Int)=(q:Int):=by rw [IntKind.wrap_u8];omega
   have g5:IntKind.i64.wrap (a:Int)=(a:Int):=by rw [IntKind.wrap_i64];omega
   have g6:IntKind.i64.wrap (c:Int)=(c:Int):=by rw [IntKind.wrap_i64];omega
   clear hp hq HTw HX
   have o0:=own.alloc (.cells #[.int .u8 (p:Int),.int .u8 (q:Int)] 5)
   have b0:=Bs.of_own (own_made wr (u8s [(p:Int),(q:Int)]) 5 2 wr.heap.size rfl (Nat.le_refl _) (by decide))
   have hbl:=below_alloc (o:=.cells #[.int .u8 (p:Int),.int .u8 (q:Int)] 5) bel
   have hsz:w.heap.size≤(wr.alloc (.cells #[.int .u8 (p:Int),.int .u8 (q:Int)] 5)).heap.size:=hbl.size
   clear own
   go_wp2_with (first|(at_builtin;refine wpList_append_bs (by rfl) _ _ (by rfl) w.heap.size _ X.length X (by rfl) o0 _ [(p:Int),(q:Int)] (by rfl) b0 (by show X.length + 2≤_;omega) hsz ?_;intro v5 w5 own5 hgrow hat)|fail)
   have bel5:=below_own (base:=w.heap.size) hbl hgrow hsz (fun g hg=>own_geM o0 hg) (Nat.le_refl _)
   go_roundw
   case rel=>exact ⟨i + 1,X++[(p:Int),(q:Int)],by omega,by go_num,by rw [List.length_append];show X.length + 2≤_;omega,by rw [List.length_append];exact own5,by show _=_;rw [HX2.out],bel5⟩
   case measure=>simp [intOf];omega
  ·have k1:¬ (i:Int) < (N:Int):=by omega
   have HF:Hid (twos l=X):=by
    show _=_
    rw [HX.out,List.take_of_length_le (by rw [HN.out];omega)]
   have o0:=own.alloc (.cells #[.int .u8 90] 5)
   have b0:=bs_one wr 90
   have hbl:=below_alloc (o:=.cells #[.int .u8 90] 5) bel
   have hsz:w.heap.size≤(wr.alloc (.cells #[.int .u8 90] 5)).heap.size:=hbl.size
   clear own HX
   go_wp2_with (first|(at_builtin;refine wpList_append_bs (by rfl) _ _ (by rfl) w.heap.size _ X.length X (by rfl) o0 _ [90] (by rfl) b0 (by show X.length + 1≤_;omega) hsz ?_;intro v5 w5 own5 hgrow hat)|fail)
   have bel5:=below_own (base:=w.heap.size) hbl hgrow hsz (fun g hg=>own_geM o0 hg) (Nat.le_refl _)
   go_ret
   exact ⟨v5,rfl,by rw [HF.out];exact Bs.of_own own5,newV_own own5,bel5⟩
end Go.Proofs.YtkgjlcdefnpkpaaGreatDoor
