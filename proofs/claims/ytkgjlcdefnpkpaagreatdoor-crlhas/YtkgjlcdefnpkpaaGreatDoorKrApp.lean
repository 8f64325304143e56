/- append of those that are revoked, to a row of one's own. -/
import Derived.Test.YtkgjlcdefnpkpaaGreatDoorKrRg
import Derived.Test.YtkgjlcdefnpkpaaGreatDoorApBs
import Derived.Test.YtkgjlcdefnpkpaaGreatDoorRowR
import Derived.Test.YtkgjlcdefnpkpaaGreatDoorRows
import Derived.Deep.OwnRows
import Derived.Deep.AppendLies
import Derived.Great.BuildSlice
import Derived.Laws.Rows
import Derived.BigQuiet
namespace Go.Proofs.YtkgjlcdefnpkpaaGreatDoor
open Go.RowKit
theorem run_append_emptyG {w:World} {base ao:Option Addr} {n cap c:Nat} {ty:TypeId} (h:n≤cap) :
  (Builtin.append_ #[24,24] ty #[.slice base n cap,.slice ao 0 c]).run Tryz.prog w=.ok (.slice base n cap) w:=by
 have hu:∀ w:World,(underlying 24).run Tryz.prog w=.ok (.slice 54) w:=run_underlying Tryz.underlying24
 have hs:∀ w:World,(Go.sizeOf 54).run Tryz.prog w=.ok 2 w:=fun w=>by kernel_rfl
 have hl:∀ (a:Addr) (w:World),(loadCells a 0).run Tryz.prog w=.ok #[] w:=fun _ _=>rfl
 cases base<;>cases ao<;>simp [hl,Builtin.append_,hu,hs,h,Builtin.firstCells,Builtin.lenOf,Result.andThen,storeCells]
theorem own_capG {w:World} {base size:Nat} {e:TypeId} {v:Value} {n:Nat} {xs:List Value} (h:w.ownsRow base e size v n xs):∃ ao cap,v=.slice ao n cap∧n≤cap:=by
 rcases h.2 with ⟨h1,h2⟩|⟨g,cap,cur,h1,_,_,h4,_⟩
 ·exact ⟨none,0,by rw [h1,h2],by omega⟩
 ·exact ⟨_,cap,h1,h4⟩
theorem own_noneG (w:World):(w.alloc (.cells #[] 54)).ownsRow w.heap.size 54 2 (.slice (some ⟨w.heap.size,0,none⟩) 0 0) 0 [] :=
 ⟨rfl,.inr ⟨w.heap.size,0,#[],rfl,Nat.le_refl _,heap_alloc_last _ _,Nat.le_refl _,by decide,rfl,rfl⟩⟩
/-- their cells -/
def GnCs (w:World) (L:List Gn) (xs:List Value):Prop:=xs.length=L.length * 2∧∀ (i:Nat) (x:Gn),L[i]?=some x→∃ u,xs[i * 2]?=some u∧Bs w u x.1∧xs[i * 2 + 1]?=some (.int .i64 x.2)
theorem GnCs.nil0 (w:World):GnCs w [] []:=⟨rfl,fun i x h=>by simp at h⟩
theorem GnCs.snoc {w:World} {L:List Gn} {xs:List Value} {u:Value} {n:List Int} {t:Int} (h:GnCs w L xs) (hu:Bs w u n):GnCs w (L++[(n,t)]) (xs++[u,.int .i64 t]):=by
 obtain ⟨h1,h2⟩:=h
 refine ⟨by simp [h1];omega,fun i x hx=>?_⟩
 by_cases hi:i < L.length
 ·rw [List.getElem?_append_left hi] at hx
  obtain ⟨y,k1,k2,k3⟩:=h2 i x hx
  exact ⟨y,by rw [List.getElem?_append_left (by omega)];exact k1,k2,by rw [List.getElem?_append_left (by omega)];exact k3⟩
 ·have hi2:=(List.getElem?_eq_some_iff.1 hx).1
  rw [List.length_append] at hi2
  obtain rfl:i=L.length:=by simp at hi2;omega
  rw [List.getElem?_append_right (Nat.le_refl _),Nat.sub_self] at hx
  simp only [List.getElem?_cons_zero,Option.some.injEq] at hx
  subst hx
  exact ⟨u,by rw [List.getElem?_append_right (by omega),show L.length * 2 - xs.length=0 by omega];rfl,hu,by rw [List.getElem?_append_right (by omega),show L.length * 2 + 1 - xs.length=1 by omega];rfl⟩
theorem GnCs.of {w:World} {b o:Nat} {L:List Gn} (h:∀ (i:Nat) (x:Gn),L[i]?=some x→∃ u,w.cell? ⟨b,o + i * 2,none⟩=some u∧Bs w u x.1∧w.cell? ⟨b,o + i * 2 + 1,none⟩=some (.int .i64 x.2)):∃ xs,GnCs w L xs∧(∀ j u,xs[j]?=some u→w.cell? ⟨b,o + j,none⟩=some u)∧∀ u∈xs,u.oneCell'=true:=by
 obtain ⟨xs,hl,hx⟩:=list_open8 (R:=fun j v=>w.cell? ⟨b,o + j,none⟩=some v∧v.oneCell'=true∧∀ (i:Nat) (x:Gn),L[i]?=some x→(j=i * 2→Bs w v x.1)∧(j=i * 2 + 1→v=.int .i64 x.2)) (L.length * 2) (fun j hj=>by
  obtain ⟨x,hx⟩:∃ x,L[j / 2]?=some x:=⟨_,List.getElem?_eq_getElem (by omega)⟩
  obtain ⟨u,k1,k2,k3⟩:=h _ x hx
  rcases Nat.mod_two_eq_zero_or_one j with m|m
  ·refine ⟨u,by rw [show o + j=o + j / 2 * 2 by omega];exact k1,?_,fun i y hy=>⟨fun e=>?_,fun e=>by omega⟩⟩
   ·obtain ⟨_,_,rfl,-⟩:=k2
    rfl
   ·rw [show j / 2=i by omega,hy] at hx
    cases hx
    exact k2
  ·refine ⟨.int .i64 x.2,by rw [show o + j=o + j / 2 * 2 + 1 by omega];exact k3,rfl,fun i y hy=>⟨fun e=>by omega,fun e=>?_⟩⟩
   rw [show j / 2=i by omega,hy] at hx
   cases hx
   rfl)
 refine ⟨xs,⟨hl,fun i x hi=>?_⟩,fun j u hu=>(hx j u hu).1,fun u hu=>by obtain ⟨j,hj⟩:=List.mem_iff_getElem?.1 hu;exact (hx j u hj).2.1⟩
 have hi2:=(List.getElem?_eq_some_iff.1 hi).1
 obtain ⟨u,hu⟩:∃ u,xs[i * 2]?=some u:=⟨_,List.getElem?_eq_getElem (by omega)⟩
 obtain ⟨z,hz⟩:∃ z,xs[i * 2 + 1]?=some z:=⟨_,List.getElem?_eq_getElem (by omega)⟩
 exact ⟨u,hu,((hx _ u hu).2.2 i x hi).1 rfl,by rw [hz,((hx _ z hz).2.2 i x hi).2 rfl]⟩
theorem GnAt.of_own {w w':World} {base:Nat} {gv:Value} {L:List Gn} {xs:List Value} (h1:w'.ownsRow base 54 2 gv L.length xs) (h2:GnCs w L xs) (hb:Below w.heap.size w w'):GnAt w' gv L:=by
 have hl:xs.length=L.length * 2:=h1.1
 rcases h1.2 with ⟨e1,e2⟩|⟨g,cap,cur,e1,e2,e3,e4,e5,e6,e7⟩
 ·exact ⟨none,0,by rw [e1,e2],by omega,by decide,fun h=>by omega⟩
 ·refine ⟨_,cap,e1,by omega,e5,fun _=>⟨g,0,rfl,(Array.getElem?_eq_some_iff.1 e3).1,fun i x hx=>?_⟩⟩
  obtain ⟨u,k1,k2,k3⟩:=h2.2 i x hx
  have hi:=(List.getElem?_eq_some_iff.1 hx).1
  refine ⟨u,?_,k2.later hb,?_⟩
  ·rw [← e7,List.getElem?_take,if_pos (by omega)] at k1
   rw [Nat.zero_add]
   simp only [World.cell?,e3,Option.isSome_none,Bool.false_eq_true,if_false]
   simpa using k1
  ·rw [← e7,List.getElem?_take,if_pos (by omega)] at k3
   rw [Nat.zero_add]
   simp only [World.cell?,e3,Option.isSome_none,Bool.false_eq_true,if_false]
   simpa using k3
/-- all of them, behind none -/
theorem wpList_append_gnL {ops:Array Oper} {rest:List Oper} {o:Oper} {a:Act} {w:World} {Q:Exit→Act→World→Prop} (hgd:o.guard=none) (s x:Operand)
  (ho:o.op=.call { callee:=.builtin .append,args:=#[s,x],argTypes:=#[24,24] })
  (base:Nat) (v:Value) (hs:a.eval s=v) (hown:w.ownsRow base 54 2 v 0 [])
  (u:Value) (L:List Gn) (hx:a.eval x=u) (w0:World) (hL:GnAt w0 u L) (hb0:Below w0.heap.size w0 w) (h47:L.length * 32≤140737488355328) (hbase:base≤w.heap.size)
  (h:∀ xs v' w',GnCs w0 L xs→w'.ownsRow base 54 2 v' L.length xs→w.grownBy w' v.ownBlock→wpList Tryz.prog ops Q rest (a.put o.dst v') w') :
  wpList Tryz.prog ops Q (o :: rest) a w:=by
 obtain ⟨ao,cap,rfl,c1,c2,c3⟩:=hL
 by_cases h0:L.length=0
 ·obtain rfl:L=[]:=List.eq_nil_of_length_eq_zero h0
  obtain ⟨bo,cp,rfl,k1⟩:=own_capG hown
  refine Lib.wpList_append_run_sl w hgd s x 24 ho _ _ hs hx (run_append_emptyG k1) ?_
  exact h [] _ w (GnCs.nil0 w0) (by simpa using hown) (grown_same _ _)
 ·obtain ⟨b,of,rfl,hl0,hc0⟩:=c3 (by omega)
  obtain ⟨xs,g1,g2,g3⟩:=GnCs.of hc0
  obtain ⟨i0,hi0,hz0,hz1,hz2⟩:=info_partsD info_gn8
  refine wpList_append_lies _ hgd s x _ ho base 54 i0 _ 2 32 Tryz.underlying24 hi0 hz0 hz1 hz2 rfl (by omega) v 0 [] hs hown ⟨b,of,none⟩ L.length cap xs hx g1.1 ?_ g3 (by omega) (by unfold maxLen;omega) (by omega) hbase w.heap.size rfl ?_
  ·intro j z hz
   have e:(⟨b,of,none⟩:Addr).add j=⟨b,of + j,none⟩:=by unfold Addr.add;split<;>simp_all
   rw [e]
   exact (hb0.cell (p:=⟨b,of + j,none⟩) hl0).trans (g2 j z hz)
  ·intro g cap1 w' hown1 hgrow hat hlt
   rw [Nat.zero_add,List.nil_append] at hown1
   rw [Nat.zero_add]
   exact h xs _ w' g1 hown1 hgrow
/-- one more, whose bytes are anyone's -/
theorem wpList_append_gn1 {ops:Array Oper} {rest:List Oper} {o:Oper} {a:Act} {w:World} {Q:Exit→Act→World→Prop} (hgd:o.guard=none) (s x:Operand)
  (ho:o.op=.call { callee:=.builtin .append,args:=#[s,x],argTypes:=#[24,24] })
  (base:Nat) (gv:Value) (n:Nat) (xs:List Value) (hs:a.eval s=gv) (h1:w.ownsRow base 54 2 gv n xs) (g:Nat) (hx:a.eval x=.slice (some ⟨g,0,none⟩) 1 1) (u:Value) (t:Int) (B:Blk w g [u,.int .i64 t]) (ou:u.oneCell'=true)
  (h47:(n + 1) * 32≤140737488355328) (hbase:base≤w.heap.size)
  (h:∀ gv' w',w'.ownsRow base 54 2 gv' (n + 1) (xs++[u,.int .i64 t])→w.grownBy w' gv.ownBlock→wpList Tryz.prog ops Q rest (a.put o.dst gv') w') :
  wpList Tryz.prog ops Q (o :: rest) a w:=by
 obtain ⟨jt,hjt,ht0,ht1,ht2⟩:=info_partsD info_gn8
 refine wpList_append_lies _ hgd s x _ ho base 54 jt _ 2 32 Tryz.underlying24 hjt ht0 ht1 ht2 rfl (by omega) gv n xs hs h1 ⟨g,0,none⟩ 1 1 [u,.int .i64 t] hx rfl ?_ (fun z hz=>?_) (by omega) (by unfold maxLen;omega) (by omega) hbase w.heap.size rfl ?_
 ·intro j z hz
  rw [Addr.add_mid,Nat.zero_add]
  exact B.cell j z hz
 ·simp only [List.mem_cons,List.not_mem_nil,or_false] at hz
  rcases hz with rfl|rfl
  ·exact ou
  ·rfl
 ·intro g' cap1 w' hown hgrow hat hlt
  exact h _ w' hown hgrow
end Go.Proofs.YtkgjlcdefnpkpaaGreatDoor
