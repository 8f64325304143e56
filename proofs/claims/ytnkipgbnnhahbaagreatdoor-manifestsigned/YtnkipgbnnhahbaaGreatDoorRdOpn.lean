/- What the document opens. -/
import Derived.Test.YtnkipgbnnhahbaaGreatDoorMfSgd
import Derived.Test.YtnkipgbnnhahbaaGreatDoorRdSgn
import Derived.Test.YtnkipgbnnhahbaaGreatDoorMfOf
import Derived.Test.YtnkipgbnnhahbaaGreatDoorCtSeal
import Derived.Test.YtnkipgbnnhahbaaGreatDoorDrDep
import Derived.Test.YtnkipgbnnhahbaaGreatDoorHeld3
import Derived.Test.YtnkipgbnnhahbaaGreatDoorDrWrite
import Derived.Test.YtnkipgbnnhahbaaGreatDoorCtPl
import Derived.Test.YtnkipgbnnhahbaaGreatDoorEcTlv
import Derived.Test.YtnkipgbnnhahbaaGreatDoorEdDecode
import Derived.Test.YtnkipgbnnhahbaaGreatDoorClWr
import Derived.Test.YtnkipgbnnhahbaaGreatDoorRows
import Derived.Deep.WholeRow
import Derived.Deep.RegionHeld3
import Derived.Deep.DeepCutAuto
import Derived.Deep.DeepFit
import Derived.Deep.OwnRows
import Derived.Deep.AppendLies
import Derived.Great.BuildSlice
import Derived.Laws.Rows
import Derived.BigQuiet
namespace Go.Proofs.YtnkipgbnnhahbaaGreatDoor
open Go.RowKit
theorem size_sgO:(Tryz.prog.info? 27).map (·.size)=some 12:=by kernel_rfl
theorem zero_sgO:Hid (∀ w:World,(zeroValue 27).run Tryz.prog w=.ok (.agg #[.int .u64 0,.int .u64 0,.int .u64 0,.int .u64 0,.int .u64 0,.int .u64 0,.int .u64 0,.int .u64 0,.int .u64 0,.int .u64 0,.int .u64 0,.int .u64 0]) w):=fun w=>by kernel_rfl
theorem isL_decO {c t:Int} {m:Bool} {b:List Int} {ks:List Tl}:isList (.mk c t m b ks)=decide (c=0∧t=16∧m=true):=rfl
theorem results_rtrt {P:Program} {fn:Func} {p u q v:Tmp} {ty tz:TypeId} (h:fn.results=#[.cell p ty,.tmp u,.cell q tz,.tmp v]) (tmps:Array Value) (w:World) (g k:Nat) (t s:TypeId) (cs ds:Array Value) (fr fs:Nat × Nat) (d e:TypeDesc)
  (hp:tmps.getD p undef=.pointer (some ⟨g,0,none⟩)) (hg:w.heap[g]?=some (.cells cs t fr))
  (hu:P.underlying ty=some d) (hd:(match d with|.struct _|.array _ _=>true|_=>false)=true) (hi:(P.info? ty).map (·.size)=some cs.size)
  (hq:tmps.getD q undef=.pointer (some ⟨k,0,none⟩)) (hk:w.heap[k]?=some (.cells ds s fs))
  (hv:P.underlying tz=some e) (he:(match e with|.struct _|.array _ _=>true|_=>false)=true) (hj:(P.info? tz).map (·.size)=some ds.size) :
  (results fn tmps).run P w=.ok (.tuple #[.agg cs,tmps.getD u undef,.agg ds,tmps.getD v undef]) w:=by
 have hp':tmps[p]?.getD undef=.pointer (some ⟨g,0,none⟩):=by simpa using hp
 have hq':tmps[q]?.getD undef=.pointer (some ⟨k,0,none⟩):=by simpa using hq
 simp [results,h,hp',hq',asAddr,run_loadVar_row w g t ty cs fr d hg hu hd hi,run_loadVar_row w k s tz ds fs e hk hv he hj]
theorem BytB.u {w w':World} {r:Option (List Int)} {e:Ending} (h:BytB w r e w'):Below w.heap.size w w'∧∃ (ao:Option Addr) (n k:Nat) (nb:List Int) (bb:Bool),e=.returned (.tuple #[.slice ao n k,.bool bb])∧Hid (Bs w' (.slice ao n k) nb)∧Hid (byt nb)∧Hid (bb=true→r=some nb)∧Hid (bb=false→r=none):=by
 obtain ⟨hb,h1,h2⟩:=h
 cases hr:r with
 | none =>
  obtain ⟨ao,n,k,nb,e1,e2,e3,-⟩:=h1 hr
  exact ⟨hb,ao,n,k,nb,false,e1,e2,e3,fun q=>(by cases q),fun _=>rfl⟩
 | some nb =>
  obtain ⟨ao,n,k,e1,e2,e3,-⟩:=h2 nb hr
  exact ⟨hb,ao,n,k,nb,true,e1,e2,e3,fun _=>rfl,fun q=>(by cases q)⟩
/-- what Open tells -/
def OpnR (w:World) (pl:Bool) (T:Tl) (e:Ending) (w':World):Prop:=Below w.heap.size w w'∧∃ (U:Tl) (cs:List Value) (ao:Option Addr) (n k:Nat) (nb:List Int) (rs ss:List Value) (x y:Int) (bb:Bool),e=.returned (.tuple #[.agg cs.toArray,.slice ao n k,.agg (rs++ss).toArray,.bool bb])∧Hid (TlAt w' U cs)∧Hid (Bs w' (.slice ao n k) nb)∧Hid (nb.length=n)∧Hid (U6 rs x)∧Hid (U6 ss y)∧Hid (NewV w (.slice ao n k))∧Hid (U=.mk 0 0 false [] []∨∃ i:Nat,(kidsT T)[i]?=some U)∧Hid (bb=true→opnD pl T=some (U,x,y)∧nb=bytesT U)∧Hid (bb=false→opnD pl T=none)
theorem OpnR.no {w w':World} {pl:Bool} {T:Tl} (h:opnD pl T=none) (hb:Below w.heap.size w w'):OpnR w pl T (.returned (.tuple #[.agg #[.int .i64 0,.int .i64 0,.bool false,.slice none 0 0,.slice none 0 0],.slice none 0 0,.agg #[.int .u64 0,.int .u64 0,.int .u64 0,.int .u64 0,.int .u64 0,.int .u64 0,.int .u64 0,.int .u64 0,.int .u64 0,.int .u64 0,.int .u64 0,.int .u64 0],.bool false])) w':=⟨hb,.mk 0 0 false [] [],[.int .i64 0,.int .i64 0,.bool false,.slice none 0 0,.slice none 0 0],none,0,0,[],[.int .u64 0,.int .u64 0,.int .u64 0,.int .u64 0,.int .u64 0,.int .u64 0],[.int .u64 0,.int .u64 0,.int .u64 0,.int .u64 0,.int .u64 0,.int .u64 0],0,0,false,rfl,by (show TlAt _ _ _;rw [TlAt];exact ⟨_,_,_,rfl,bs_nilR _,Nat.le_refl _,by decide,fun h=>absurd h (by decide)⟩),bs_nilR _,rfl,U6.zero,U6.zero,newv_nilR _,.inl rfl,fun q=>(by cases q),fun _=>h⟩
theorem OpnR.is {w w':World} {pl:Bool} {T U:Tl} {cs:List Value} {ao:Option Addr} {n k:Nat} {nb:List Int} {rs ss ts:List Value} {x y:Int} {bb:Bool} (ht:rs++ss=ts) (h1:TlAt w' U cs) (h2:Bs w' (.slice ao n k) nb) (h3:nb.length=n) (h4:U6 rs x) (h5:U6 ss y) (h6:NewV w (.slice ao n k)) (h9:∃ i:Nat,(kidsT T)[i]?=some U) (h7:bb=true→opnD pl T=some (U,x,y)∧nb=bytesT U) (h8:bb=false→opnD pl T=none) (hb:Below w.heap.size w w'):OpnR w pl T (.returned (.tuple #[.agg cs.toArray,.slice ao n k,.agg ts.toArray,.bool bb])) w':=⟨hb,U,cs,ao,n,k,nb,rs,ss,x,y,bb,by rw [ht],h1,h2,h3,h4,h5,h6,.inr h9,h7,h8⟩
open Classical in
theorem u_Bits {T:Tl} {cs:List Value} {w:World} (h:TlAt w T cs) (gd:GdT T):Calls Tryz.prog 29 #[.agg cs.toArray] w (BytB w (bitD T)):=by
 obtain ⟨c,t,m,b,ks⟩:=T
 exact r16_Bits h gd.wf (by have:=gd.body;omega)
set_option linter.unusedSimpArgs false in
set_option maxRecDepth 100000 in
set_option maxHeartbeats 8000000 in
theorem r17_OpenT {T:Tl} {cs:List Value} {w:World} (h:TlAt w T cs) (gd:GdT T):Calls Tryz.prog 11 #[.agg cs.toArray,.bool true] w (OpnR w true T):=by
 obtain ⟨c,t,m,b,ks⟩:=T
 have HGd:Hid (GdT (.mk c t m b ks)):=gd
 clear gd
 have HT9:Hid (TlAt w (.mk c t m b ks) cs):=h
 rw [TlAt] at h
 obtain ⟨bv,ao,kc,hcs,hbv,-,hkm,hkk⟩:=h
 obtain ⟨ba,bc,rfl,-,-,-⟩:=hbv
 have HK:Hid (0 < ks.length→∃ g o,ao=some ⟨g,o,none⟩∧KidsAt w ks g o):=hkk
 obtain ⟨BL,hBL⟩:∃ z,b.length=z:=⟨_,rfl⟩
 obtain ⟨KL,hKL⟩:∃ z,ks.length=z:=⟨_,rfl⟩
 have HKL:Hid (ks.length=KL):=hKL
 rw [hBL,hKL] at hcs
 rw [hKL] at HK
 clear hBL hKL hkk hkm
 subst hcs
 have B0:=((Blk.new w [.int .i64 c,.int .i64 t,.bool m,.slice ba BL bc,.slice ao KL kc] 41 w.heap.size rfl).alloc (.cells #[.int .i64 0,.int .i64 0,.bool false,.slice none 0 0,.slice none 0 0] 41)).alloc (.cells #[.int .u64 0,.int .u64 0,.int .u64 0,.int .u64 0,.int .u64 0,.int .u64 0,.int .u64 0,.int .u64 0,.int .u64 0,.int .u64 0,.int .u64 0,.int .u64 0] 27)
 have R1:=(Blk.new (w.alloc (.cells #[.int .i64 c,.int .i64 t,.bool m,.slice ba BL bc,.slice ao KL kc] 41)) [.int .i64 0,.int .i64 0,.bool false,.slice none 0 0,.slice none 0 0] 41 (w.heap.size + 1) (by simp)).alloc (.cells #[.int .u64 0,.int .u64 0,.int .u64 0,.int .u64 0,.int .u64 0,.int .u64 0,.int .u64 0,.int .u64 0,.int .u64 0,.int .u64 0,.int .u64 0,.int .u64 0] 27)
 have R2:=Blk.new ((w.alloc (.cells #[.int .i64 c,.int .i64 t,.bool m,.slice ba BL bc,.slice ao KL kc] 41)).alloc (.cells #[.int .i64 0,.int .i64 0,.bool false,.slice none 0 0,.slice none 0 0] 41)) [.int .u64 0,.int .u64 0,.int .u64 0,.int .u64 0,.int .u64 0,.int .u64 0,.int .u64 0,.int .u64 0,.int .u64 0,.int .u64 0,.int .u64 0,.int .u64 0] 27 (w.heap.size + 2) (by simp)
 have bel:Below w.heap.size w (((w.alloc (.cells #[.int .i64 c,.int .i64 t,.bool m,.slice ba BL bc,.slice ao KL kc] 41)).alloc (.cells #[.int .i64 0,.int .i64 0,.bool false,.slice none 0 0,.slice none 0 0] 41)).alloc (.cells #[.int .u64 0,.int .u64 0,.int .u64 0,.int .u64 0,.int .u64 0,.int .u64 0,.int .u64 0,.int .u64 0,.int .u64 0,.int .u64 0,.int .u64 0,.int .u64 0] 27)):=(((Below.refl _ _).alloc (Nat.le_refl _) _).alloc (by simp) _).alloc (by simp;omega) _
 have hz:=zero_tlv.out
 have hy:=zero_sgO.out
 go_enter Tryz.func11,Tryz.ntmps11
 go_upto_region 1 with fail
 generalize (((w.alloc (.cells #[.int .i64 c,.int .i64 t,.bool m,.slice ba BL bc,.slice ao KL kc] 41)).alloc (.cells #[.int .i64 0,.int .i64 0,.bool false,.slice none 0 0,.slice none 0 0] 41)).alloc (.cells #[.int .u64 0,.int .u64 0,.int .u64 0,.int .u64 0,.int .u64 0,.int .u64 0,.int .u64 0,.int .u64 0,.int .u64 0,.int .u64 0,.int .u64 0,.int .u64 0] 27))=W at *
 clear hz hy
 have hld:(loadVar 41 ⟨w.heap.size,0,none⟩).run Tryz.prog W=.ok (.agg #[.int .i64 c,.int .i64 t,.bool m,.slice ba BL bc,.slice ao KL kc]) W:=B0.load Tryz.underlying41 rfl size_tlv rfl
 have l0:=B0.lt
 go_wp2_with (first|((with_reducible show wpList _ _ _ ({ dst:=_,op:=.load _ _,type:=_,pos:=_,after:=_,guard:=_ } :: _) _ _);refine wpList_load_run (by rfl) (by rfl) (by rfl) hld ?_)|fail)
 refine (r16_IsList (HT9.out.later bel)).mono ?_
 rintro e w1 ⟨rfl,hb⟩
 replace B0:=B0.later hb
 replace R1:=R1.later hb
 replace R2:=R2.later hb
 replace bel:=below_step bel hb
 clear hb hld l0
 have e4:=B0.cell 4 _ rfl
 have l0:=B0.lt
 rw [isL_decO]
 by_cases hp:c=0∧t=16∧m=true
 rotate_left
 ·have H:Hid (opnD true (.mk c t m b ks)=none):=opn_no hp
  rw [decide_eq_false hp]
  clear hp
  have hz:=zero_tlv.out
  have hy:=zero_sgO.out
  obtain ⟨t1,h1⟩:=R1
  obtain ⟨t2,h2⟩:=R2
  have HR1:Hid _:=h1
  have HR2:Hid _:=h2
  have HR2s:Hid _:=(setRow_other _ (w.heap.size + 1) (w.heap.size + 2) #[.int .i64 0,.int .i64 0,.bool false,.slice none 0 0,.slice none 0 0] (by omega)).trans h2
  clear h1 h2
  go_wp2_with (first|((with_reducible show wpList _ _ _ ({ dst:=_,op:=.store _ _ _,type:=_,pos:=_,after:=_,guard:=_ } :: _) _ _);refine wpList_store_row rfl 41 _ _ rfl (w.heap.size + 1) #[.int .i64 0,.int .i64 0,.bool false,.slice none 0 0,.slice none 0 0] rfl rfl t1 _ HR1.out (by rw [size_tlv];rfl) rfl (by simp [Value.oneCell']) ?_)|((with_reducible show wpList _ _ _ ({ dst:=_,op:=.store _ _ _,type:=_,pos:=_,after:=_,guard:=_ } :: _) _ _);refine wpList_store_row rfl 27 _ _ rfl (w.heap.size + 2) #[.int .u64 0,.int .u64 0,.int .u64 0,.int .u64 0,.int .u64 0,.int .u64 0,.int .u64 0,.int .u64 0,.int .u64 0,.int .u64 0,.int .u64 0,.int .u64 0] rfl rfl t2 _ HR2s.out (by rw [size_sgO];rfl) rfl (by simp [Value.oneCell']) ?_)|fail)
  refine bodyPost_ret (results_rtrt rfl _ _ (w.heap.size + 1) (w.heap.size + 2) t1 t2 #[.int .i64 0,.int .i64 0,.bool false,.slice none 0 0,.slice none 0 0] #[.int .u64 0,.int .u64 0,.int .u64 0,.int .u64 0,.int .u64 0,.int .u64 0,.int .u64 0,.int .u64 0,.int .u64 0,.int .u64 0,.int .u64 0,.int .u64 0] (0,0) (0,0) _ _ rfl ((setRow_other _ (w.heap.size + 2) (w.heap.size + 1) #[.int .u64 0,.int .u64 0,.int .u64 0,.int .u64 0,.int .u64 0,.int .u64 0,.int .u64 0,.int .u64 0,.int .u64 0,.int .u64 0,.int .u64 0,.int .u64 0] (by omega)).trans (setRow_heap _ _ _ _ _ _ HR1.out)) Tryz.underlying41 rfl (by rw [size_tlv];rfl) rfl (setRow_heap _ _ _ _ _ _ HR2s.out) Tryz.underlying27 rfl (by rw [size_sgO];rfl)) rfl ?_
  exact OpnR.no H.out (below_setRow (below_setRow bel (by omega) _) (by omega) _)
 rw [decide_eq_true hp]
 obtain ⟨rfl,rfl,rfl⟩:=hp
 by_cases hq:KL=2
 rotate_left
 ·have HQ:Hid (¬ KL=2):=hq
  have H:Hid (opnD true (.mk 0 16 true b ks)=none):=opn_2 (fun h=>HQ.out (by rw [← HKL.out];exact h))
  have d1:((KL:Int) == 2)=false:=by rw [beq_eq_false_iff_ne];omega
  have d2:((KL:Int) != 2)=true:=by rw [bne,d1];rfl
  clear hq
  have hz:=zero_tlv.out
  have hy:=zero_sgO.out
  obtain ⟨t1,h1⟩:=R1
  obtain ⟨t2,h2⟩:=R2
  have HR1:Hid _:=h1
  have HR2:Hid _:=h2
  have HR2s:Hid _:=(setRow_other _ (w.heap.size + 1) (w.heap.size + 2) #[.int .i64 0,.int .i64 0,.bool false,.slice none 0 0,.slice none 0 0] (by omega)).trans h2
  clear h1 h2
  go_wp2_with (first|((with_reducible show wpList _ _ _ ({ dst:=_,op:=.store _ _ _,type:=_,pos:=_,after:=_,guard:=_ } :: _) _ _);refine wpList_store_row rfl 41 _ _ rfl (w.heap.size + 1) #[.int .i64 0,.int .i64 0,.bool false,.slice none 0 0,.slice none 0 0] rfl rfl t1 _ HR1.out (by rw [size_tlv];rfl) rfl (by simp [Value.oneCell']) ?_)|((with_reducible show wpList _ _ _ ({ dst:=_,op:=.store _ _ _,type:=_,pos:=_,after:=_,guard:=_ } :: _) _ _);refine wpList_store_row rfl 27 _ _ rfl (w.heap.size + 2) #[.int .u64 0,.int .u64 0,.int .u64 0,.int .u64 0,.int .u64 0,.int .u64 0,.int .u64 0,.int .u64 0,.int .u64 0,.int .u64 0,.int .u64 0,.int .u64 0] rfl rfl t2 _ HR2s.out (by rw [size_sgO];rfl) rfl (by simp [Value.oneCell']) ?_)|fail)
  refine bodyPost_ret (results_rtrt rfl _ _ (w.heap.size + 1) (w.heap.size + 2) t1 t2 #[.int .i64 0,.int .i64 0,.bool false,.slice none 0 0,.slice none 0 0] #[.int .u64 0,.int .u64 0,.int .u64 0,.int .u64 0,.int .u64 0,.int .u64 0,.int .u64 0,.int .u64 0,.int .u64 0,.int .u64 0,.int .u64 0,.int .u64 0] (0,0) (0,0) _ _ rfl ((setRow_other _ (w.heap.size + 2) (w.heap.size + 1) #[.int .u64 0,.int .u64 0,.int .u64 0,.int .u64 0,.int .u64 0,.int .u64 0,.int .u64 0,.int .u64 0,.int .u64 0,.int .u64 0,.int .u64 0,.int .u64 0] (by omega)).trans (setRow_heap _ _ _ _ _ _ HR1.out)) Tryz.underlying41 rfl (by rw [size_tlv];rfl) rfl (setRow_heap _ _ _ _ _ _ HR2s.out) Tryz.underlying27 rfl (by rw [size_sgO];rfl)) rfl ?_
  exact OpnR.no H.out (below_setRow (below_setRow bel (by omega) _) (by omega) _)
 subst hq
 obtain ⟨k0,k1,hks9⟩:∃ k0 k1,ks=[k0,k1]:=by
  have h:=HKL.out
  match ks,h with
  | [k0,k1],_=>exact ⟨k0,k1,rfl⟩
 subst hks9
 obtain ⟨g,o,hao,hks⟩:=HK.out (by omega)
 subst hao
 obtain ⟨cs0,hc0,ht0⟩:=hks.get (i:=0) (k:=k0) rfl
 have HGd0:Hid (GdT k0):=HGd.out.kid (i:=0) rfl
 have HT0:Hid (TlAt w k0 cs0):=ht0
 have H50:Hid (cs0.length=5):=ht0.five
 have HC0:Hid (CsAt w g (o) cs0):=hc0
 obtain ⟨cs1,hc1,ht1⟩:=hks.get (i:=1) (k:=k1) rfl
 have HGd1:Hid (GdT k1):=HGd.out.kid (i:=1) rfl
 have HT1:Hid (TlAt w k1 cs1):=ht1
 have H51:Hid (cs1.length=5):=ht1.five
 have HC1:Hid (CsAt w g (o + 5) cs1):=hc1
 clear hks HK hc0 ht0 hc1 ht1
 go_upto_region 7 with fail
 clear e4 l0
 obtain ⟨S1,hS1,KB1,KD1⟩:∃ S:World→Prop,Hd S w1∧Hid (∀ wx,Hd S wx→Below w1.heap.size w1 wx)∧Hid (∀ wx,Hd S wx→Hd S wx.drew):=⟨fun wx=>Below w1.heap.size w1 wx,Below.refl _ _,fun _ h=>h,fun wx h=>Below.drew h⟩
 refine wp_region_noPanic ?_
 refine wp_region_held_drew (S:=Hd S1) (by kernel_rfl) (KD1.out _ hS1) (fun hHeld=>?_)
 clear hS1
 generalize World.drew _=wd1 at *
 refine wpAnyH_take (i:=0) (v:=?_) rfl (by kernel_rfl) (by kernel_rfl) (by kernel_rfl) (fun _ _ _ h=>h) (Or.inl ⟨by rfl,?_⟩) (by assumption) ?_
 rotate_left
 ·intro w hSw
  go_simp
  with_reducible rfl
 try simp only [Act.put,List.getElem_toArray,List.getElem_cons_zero,List.getElem_cons_succ,List.setIfInBounds_toArray,List.set_cons_zero,List.set_cons_succ]
 refine wpAnyH_take (i:=1) (v:=?_) rfl (by kernel_rfl) (by kernel_rfl) (by kernel_rfl) (fun _ _ _ h=>h) (Or.inl ⟨by rfl,?_⟩) (by assumption) ?_
 rotate_left
 ·intro w hSw
  go_simp
  with_reducible rfl
 try simp only [Act.put,List.getElem_toArray,List.getElem_cons_zero,List.getElem_cons_succ,List.setIfInBounds_toArray,List.set_cons_zero,List.set_cons_succ]
 refine wpAnyH_take (i:=2) (v:=undef) rfl (by kernel_rfl) (by kernel_rfl) (by kernel_rfl) (fun _ _ _ h=>h) (Or.inr ⟨by rfl,rfl⟩) (by assumption) ?_
 try simp only [Act.put,List.getElem_toArray,List.getElem_cons_zero,List.getElem_cons_succ,List.setIfInBounds_toArray,List.set_cons_zero,List.set_cons_succ]
 refine wpAnyH_take (i:=3) (v:=undef) rfl (by kernel_rfl) (by kernel_rfl) (by kernel_rfl) (fun _ _ _ h=>h) (Or.inr ⟨by rfl,rfl⟩) (by assumption) ?_
 try simp only [Act.put,List.getElem_toArray,List.getElem_cons_zero,List.getElem_cons_succ,List.setIfInBounds_toArray,List.set_cons_zero,List.set_cons_succ]
 refine wpAnyH_take (i:=4) (v:=undef) rfl (by kernel_rfl) (by kernel_rfl) (by kernel_rfl) (fun _ _ _ h=>h) (Or.inr ⟨by rfl,rfl⟩) (by assumption) ?_
 try simp only [Act.put,List.getElem_toArray,List.getElem_cons_zero,List.getElem_cons_succ,List.setIfInBounds_toArray,List.set_cons_zero,List.set_cons_succ]
 refine wpAnyH_take (i:=5) (v:=undef) rfl (by kernel_rfl) (by kernel_rfl) (by kernel_rfl) (fun _ _ _ h=>h) (Or.inr ⟨by rfl,rfl⟩) (by assumption) ?_
 try simp only [Act.put,List.getElem_toArray,List.getElem_cons_zero,List.getElem_cons_succ,List.setIfInBounds_toArray,List.set_cons_zero,List.set_cons_succ]
 refine wpAnyH_take (i:=6) (v:=undef) rfl (by kernel_rfl) (by kernel_rfl) (by kernel_rfl) (fun _ _ _ h=>h) (Or.inr ⟨by rfl,rfl⟩) (by assumption) ?_
 try simp only [Act.put,List.getElem_toArray,List.getElem_cons_zero,List.getElem_cons_succ,List.setIfInBounds_toArray,List.set_cons_zero,List.set_cons_succ]
 refine wpAnyH_take (i:=7) (v:=undef) rfl (by kernel_rfl) (by kernel_rfl) (by kernel_rfl) (fun _ _ _ h=>h) (Or.inr ⟨by rfl,rfl⟩) (by assumption) ?_
 try simp only [Act.put,List.getElem_toArray,List.getElem_cons_zero,List.getElem_cons_succ,List.setIfInBounds_toArray,List.set_cons_zero,List.set_cons_succ]
 refine wpAnyH_take (i:=8) (v:=?_) rfl (by kernel_rfl) (by kernel_rfl) (by kernel_rfl) (fun _ _ _ h=>h) (Or.inl ⟨by rfl,?_⟩) (by assumption) ?_
 rotate_left
 ·intro w hSw
  go_simp
  with_reducible rfl
 try simp only [Act.put,List.getElem_toArray,List.getElem_cons_zero,List.getElem_cons_succ,List.setIfInBounds_toArray,List.set_cons_zero,List.set_cons_succ]
 refine wpAnyH_take (i:=9) (v:=?_) rfl (by kernel_rfl) (by kernel_rfl) (by kernel_rfl) (fun _ _ _ h=>h) (Or.inl ⟨by rfl,?_⟩) (by assumption) ?_
 rotate_left
 ·intro w hSw
  go_simp
  with_reducible rfl
 try simp only [Act.put,List.getElem_toArray,List.getElem_cons_zero,List.getElem_cons_succ,List.setIfInBounds_toArray,List.set_cons_zero,List.set_cons_succ]
 refine wpAnyH_done (by kernel_rfl) ?_ _
 refine NoPanic.normal ?_
 have hb:=KB1.out _ hHeld
 replace B0:=B0.later hb
 replace R1:=R1.later hb
 replace R2:=R2.later hb
 replace bel:=below_step bel hb
 clear hb hHeld
 obtain ⟨z1,hz1⟩:∃ z,z=wd1:=⟨_,rfl⟩
 rw [← hz1] at B0 R1 R2 bel ⊢
 clear hz1
 obtain ⟨sb,hsb⟩:∃ z,z=true:=⟨_,rfl⟩
 have HSb:Hid (sb=true):=hsb
 rw [← hsb]
 clear hsb
 have e4:=B0.cell 4 _ rfl
 have l0:=B0.lt
 have hld:(loadVar 41 ⟨g,o + 5,none⟩).run Tryz.prog z1=.ok (.agg cs1.toArray) z1:=tlv_load (HC1.out.later bel) H51.out
 have lg:g < z1.heap.size:=(HC1.out.later bel).1
 go_wp2_with (first|((with_reducible show wpList _ _ _ ({ dst:=_,op:=.load _ _,type:=_,pos:=_,after:=_,guard:=_ } :: _) _ _);refine wpList_load_run (by rfl) (by rfl) (by rfl) hld ?_)|fail)
 refine (u_Bits (HT1.out.later bel) HGd1.out).mono ?_
 rintro e w3 h9
 obtain ⟨hb,ax,nx,kx,nb,is9,rfl,HNb,HYb,HI1,HI0⟩:=h9.u
 replace B0:=B0.later hb
 replace R1:=R1.later hb
 replace R2:=R2.later hb
 replace bel:=below_step bel hb
 clear hb h9 e4 l0 hld lg
 go_wp2_with fail
 refine (r14_Decode HNb.out HYb.out).mono ?_
 rintro e w4 ⟨hb,rs,ss,x,y,fi,rfl,u1,u2,HF1,HF0⟩
 have HU1:Hid (U6 rs x):=u1
 have HU2:Hid (U6 ss y):=u2
 replace B0:=B0.later hb
 replace R1:=R1.later hb
 replace R2:=R2.later hb
 replace bel:=below_step bel hb
 clear hb u1 u2
 obtain ⟨ts,hts⟩:∃ us,rs++ss=us:=⟨_,rfl⟩
 have HT:Hid (rs++ss=ts):=hts
 have HLt:Hid (ts.length=12):=by show _=_;rw [← hts,List.length_append,HU1.out.len,HU2.out.len]
 have HSt:Hid (ts.toArray.size=12):=by show _=_;rw [List.size_toArray];exact HLt.out
 have HOt:Hid (OneR ts):=by rw [← hts];exact HU1.out.ones.app HU2.out.ones
 rw [hts]
 clear hts
 have hy:=zero_sgO.out
 have lR:=R2.lt
 have Bt:=Blk.new w4 ts 27 w4.heap.size rfl
 have hb:Below w4.heap.size w4 (w4.alloc (.cells ts.toArray 27)):=(Below.refl _ _).alloc (Nat.le_refl _) _
 replace B0:=B0.later hb
 replace R1:=R1.later hb
 replace R2:=R2.later hb
 replace bel:=below_step bel hb
 clear hb
 go_upto_region 10 with (first|((with_reducible show wpList _ _ _ ({ dst:=_,op:=.store _ _ _,type:=_,pos:=_,after:=_,guard:=_ } :: _) _ _);refine wpList_store_row rfl 27 _ _ rfl w4.heap.size ts.toArray rfl rfl 27 _ (heap_alloc_last _ _) (by rw [size_sgO,HSt.out]) (by rw [HSt.out];rfl) HOt.out ?_;rw [World.setRow_alloc_new])|fail)
 clear hy
 obtain ⟨gs,hgs⟩:∃ z,z=w4.heap.size:=⟨_,rfl⟩
 have HGs:Hid (w.heap.size + 2 < gs):=by show _ < _;omega
 rw [← hgs] at Bt ⊢
 generalize w4.alloc (.cells ts.toArray 27)=V4 at *
 clear hgs lR
 have e4:=B0.cell 4 _ rfl
 have l0:=B0.lt
 have hld:(loadVar 41 ⟨g,o,none⟩).run Tryz.prog V4=.ok (.agg cs0.toArray) V4:=tlv_load (HC0.out.later bel) H50.out
 have lg:g < V4.heap.size:=(HC0.out.later bel).1
 go_wp2_with (first|((with_reducible show wpList _ _ _ ({ dst:=_,op:=.load _ _,type:=_,pos:=_,after:=_,guard:=_ } :: _) _ _);refine wpList_load_run (by rfl) (by rfl) (by rfl) hld ?_)|fail)
 refine (r12_Write (by have:=HGd0.out.sz;omega) (fun _=>by have:=HGd0.out.2.2.1;omega) (HT0.out.later bel)).mono ?_
 rintro e w5 ⟨bv,rfl,hw,-,hb⟩
 have own9:=hw HGd0.out.wr
 rw [HGd0.out.wr]
 have HBv:Hid (Bs w5 bv (bytesT k0)):=Bs.of_own own9
 have HNv:Hid (NewV w bv):=(NewV.of_own own9).upN bel.size
 have HGv:Hid (∀ a m c,bv=.slice (some a) m c→0 < m→gs < a.block):=fun a m c e h0=>by
  have h1:=NewV.of_own own9 a m c e h0
  have h2:=Bt.lt
  omega
 replace Bt:=Bt.later hb
 replace B0:=B0.later hb
 replace R1:=R1.later hb
 replace R2:=R2.later hb
 replace bel:=below_step bel hb
 clear hb hw own9 e4 l0 hld lg
 obtain ⟨va,vc,hve,-,-,-⟩:=id HBv.out
 obtain ⟨VL,hVL⟩:∃ z,(bytesT k0).length=z:=⟨_,rfl⟩
 have HVL:Hid ((bytesT k0).length=VL):=hVL
 rw [hVL] at hve
 subst hve
 clear hVL
 go_upto_region 11 with fail
 have HB9:Hid (Blk w5 w.heap.size [.int .i64 0,.int .i64 16,.bool true,.slice ba BL bc,.slice (some ⟨g,o,none⟩) 2 kc]):=B0
 have HBt:Hid (Blk w5 gs ts):=Bt
 have HBel:Hid (Below w.heap.size w w5):=bel
 have stp:∀ wa wb:World,(Agr (fun b=>b≠w.heap.size + 1∧b≠w.heap.size + 2) w5 wa∧Below w.heap.size w wa∧(∃ X:List Value,Blk wa (w.heap.size + 1) X∧X.length=5)∧∃ Y:List Value,Blk wa (w.heap.size + 2) Y∧Y.length=12)→Below wa.heap.size wa wb→(Agr (fun b=>b≠w.heap.size + 1∧b≠w.heap.size + 2) w5 wb∧Below w.heap.size w wb∧(∃ X:List Value,Blk wb (w.heap.size + 1) X∧X.length=5)∧∃ Y:List Value,Blk wb (w.heap.size + 2) Y∧Y.length=12):=fun wa wb h hb=>⟨h.1.trans (Agr.below hb),below_step h.2.1 hb,⟨h.2.2.1.choose,h.2.2.1.choose_spec.1.later hb,h.2.2.1.choose_spec.2⟩,h.2.2.2.choose,h.2.2.2.choose_spec.1.later hb,h.2.2.2.choose_spec.2⟩
 obtain ⟨S1,hS1,KB1,KI1,KD1⟩:∃ S:World→Prop,Hd S w5∧Hid (∀ wx,Hd S wx→Agr (fun b=>b≠w.heap.size + 1∧b≠w.heap.size + 2) w5 wx∧Below w.heap.size w wx∧(∃ X:List Value,Blk wx (w.heap.size + 1) X∧X.length=5)∧∃ Y:List Value,Blk wx (w.heap.size + 2) Y∧Y.length=12)∧Hid (∀ wx,(Agr (fun b=>b≠w.heap.size + 1∧b≠w.heap.size + 2) w5 wx∧Below w.heap.size w wx∧(∃ X:List Value,Blk wx (w.heap.size + 1) X∧X.length=5)∧∃ Y:List Value,Blk wx (w.heap.size + 2) Y∧Y.length=12)→Hd S wx)∧Hid (∀ wx,Hd S wx→Hd S wx.drew):=⟨fun wx=>Agr (fun b=>b≠w.heap.size + 1∧b≠w.heap.size + 2) w5 wx∧Below w.heap.size w wx∧(∃ X:List Value,Blk wx (w.heap.size + 1) X∧X.length=5)∧∃ Y:List Value,Blk wx (w.heap.size + 2) Y∧Y.length=12,⟨Agr.refl _ _,bel,⟨_,R1,rfl⟩,_,R2,rfl⟩,fun _ h=>h,fun _ h=>h,fun wx h=>stp _ _ h (Below.drew (Below.refl _ _))⟩
 clear stp
 have ra:∀ wx,Hd S1 wx→wx.cell? ⟨w.heap.size,4,none⟩=some (.slice (some ⟨g,o,none⟩) 2 kc):=fun wx h=>(HB9.out.agr (KB1.out wx h).1 (by omega)).cell 4 _ rfl
 have rl:∀ wx,Hd S1 wx→w.heap.size < wx.heap.size:=fun wx h=>(HB9.out.agr (KB1.out wx h).1 (by omega)).lt
 have Rk:Hid (∀ wx,Hd S1 wx→(loadVar 41 ⟨g,o,none⟩).run Tryz.prog wx=.ok (.agg cs0.toArray) wx):=fun wx h=>tlv_load (HC0.out.later (KB1.out wx h).2.1) H50.out
 have Rs:Hid (∀ wx,Hd S1 wx→(loadVar 27 ⟨gs,0,none⟩).run Tryz.prog wx=.ok (.agg ts.toArray) wx):=fun wx h=>(HBt.out.agr (KB1.out wx h).1 (by have:=HGs.out;omega)).load Tryz.underlying27 rfl size_sgO HLt.out
 have HS0:Hid (cs0.toArray.size=5):=by show _=_;rw [List.size_toArray];exact H50.out
 have HO0:Hid (OneC cs0):=HT0.out.ones
 clear B0 Bt R1 R2 bel
 obtain rfl:=HSb.out
 cases is9 with
 | false =>
  have HBt0:Hid (bitD k1=none):=HI0.out rfl
  have HNo:Hid (opnD true (.mk 0 16 true b [k0,k1])=none):=by
   show _=_
   rw [opn_t,HBt0.out];rfl
  refine wp_region_noPanic ?_
  refine wp_region_held_drew (S:=Hd S1) (by kernel_rfl) (KD1.out _ hS1) (fun hHeld=>?_)
  clear hS1
  generalize World.drew _=wd1 at *
  refine wpAnyH_take (i:=0) (v:=?_) rfl (by kernel_rfl) (by kernel_rfl) (by kernel_rfl) (fun _ _ _ h=>h) (Or.inl ⟨by rfl,?_⟩) (by assumption) ?_
  rotate_left
  ·intro w hSw
   go_simp
   with_reducible rfl
  try simp only [Act.put,List.getElem_toArray,List.getElem_cons_zero,List.getElem_cons_succ,List.setIfInBounds_toArray,List.set_cons_zero,List.set_cons_succ]
  refine wpAnyH_take (i:=1) (v:=?_) rfl (by kernel_rfl) (by kernel_rfl) (by kernel_rfl) (fun _ _ _ h=>h) (Or.inl ⟨by rfl,?_⟩) (by assumption) ?_
  rotate_left
  ·intro w hSw
   go_simp
   with_reducible rfl
  try simp only [Act.put,List.getElem_toArray,List.getElem_cons_zero,List.getElem_cons_succ,List.setIfInBounds_toArray,List.set_cons_zero,List.set_cons_succ]
  refine wpAnyH_take (i:=2) (v:=?_) rfl (by kernel_rfl) (by kernel_rfl) (by kernel_rfl) (fun _ _ _ h=>h) (Or.inl ⟨by rfl,?_⟩) (by assumption) ?_
  rotate_left
  ·intro w hSw
   go_simp
   with_reducible rfl
  try simp only [Act.put,List.getElem_toArray,List.getElem_cons_zero,List.getElem_cons_succ,List.setIfInBounds_toArray,List.set_cons_zero,List.set_cons_succ]
  refine wpAnyH_take (i:=3) (v:=.agg cs0.toArray) rfl (by kernel_rfl) (by kernel_rfl) (by kernel_rfl) (fun _ _ _ h=>h) (Or.inl ⟨by rfl,fun wx h=>exec_load rfl rfl (Rk.out wx h)⟩) (by assumption) ?_
  try simp only [Act.put,List.getElem_toArray,List.getElem_cons_zero,List.getElem_cons_succ,List.setIfInBounds_toArray,List.set_cons_zero,List.set_cons_succ]
  refine wpAnyH_take (i:=4) (v:=?_) rfl (by kernel_rfl) (by kernel_rfl) (by kernel_rfl) (fun _ _ _ h=>h) (Or.inl ⟨by rfl,?_⟩) (by assumption) ?_
  rotate_left
  ·intro w hSw
   go_simp
   with_reducible rfl
  try simp only [Act.put,List.getElem_toArray,List.getElem_cons_zero,List.getElem_cons_succ,List.setIfInBounds_toArray,List.set_cons_zero,List.set_cons_succ]
  refine wpAnyH_take (i:=5) (v:=.agg ts.toArray) rfl (by kernel_rfl) (by kernel_rfl) (by kernel_rfl) (fun _ _ _ h=>h) (Or.inl ⟨by rfl,fun wx h=>exec_load rfl rfl (Rs.out wx h)⟩) (by assumption) ?_
  try simp only [Act.put,List.getElem_toArray,List.getElem_cons_zero,List.getElem_cons_succ,List.setIfInBounds_toArray,List.set_cons_zero,List.set_cons_succ]
  refine wpAnyH_take (i:=6) (v:=?_) rfl (by kernel_rfl) (by kernel_rfl) (by kernel_rfl) (fun _ _ _ h=>h) (Or.inl ⟨by rfl,?_⟩) (by assumption) ?_
  rotate_left
  ·intro w hSw
   go_simp
   with_reducible rfl
  try simp only [Act.put,List.getElem_toArray,List.getElem_cons_zero,List.getElem_cons_succ,List.setIfInBounds_toArray,List.set_cons_zero,List.set_cons_succ]
  refine wpAnyH_take (i:=7) (v:=?_) rfl (by kernel_rfl) (by kernel_rfl) (by kernel_rfl) (fun _ _ _ h=>h) (Or.inl ⟨by rfl,?_⟩) (by assumption) ?_
  rotate_left
  ·intro w hSw
   go_simp
   with_reducible rfl
  try simp only [Act.put,List.getElem_toArray,List.getElem_cons_zero,List.getElem_cons_succ,List.setIfInBounds_toArray,List.set_cons_zero,List.set_cons_succ]
  refine wpAnyH_take (i:=8) (v:=?_) rfl (by kernel_rfl) (by kernel_rfl) (by kernel_rfl) (fun _ _ _ h=>h) (Or.inl ⟨by rfl,?_⟩) (by assumption) ?_
  rotate_left
  ·intro w hSw
   go_simp
   with_reducible rfl
  try simp only [Act.put,List.getElem_toArray,List.getElem_cons_zero,List.getElem_cons_succ,List.setIfInBounds_toArray,List.set_cons_zero,List.set_cons_succ]
  refine wpAnyH_take (i:=9) (v:=?_) rfl (by kernel_rfl) (by kernel_rfl) (by kernel_rfl) (fun _ _ _ h=>h) (Or.inl ⟨by rfl,?_⟩) (by assumption) ?_
  rotate_left
  ·intro w hSw
   go_simp
   with_reducible rfl
  try simp only [Act.put,List.getElem_toArray,List.getElem_cons_zero,List.getElem_cons_succ,List.setIfInBounds_toArray,List.set_cons_zero,List.set_cons_succ]
  refine wpAnyH_take (i:=10) (v:=?_) rfl (by kernel_rfl) (by kernel_rfl) (by kernel_rfl) (fun _ _ _ h=>h) (Or.inl ⟨by rfl,?_⟩) (by assumption) ?_
  rotate_left
  ·intro w hSw
   go_simp
   with_reducible rfl
  try simp only [Act.put,List.getElem_toArray,List.getElem_cons_zero,List.getElem_cons_succ,List.setIfInBounds_toArray,List.set_cons_zero,List.set_cons_succ]
  refine wpAnyH_take (i:=11) (v:=undef) rfl (by kernel_rfl) (by kernel_rfl) (by kernel_rfl) (fun _ _ _ h=>h) (Or.inr ⟨by rfl,rfl⟩) (by assumption) ?_
  try simp only [Act.put,List.getElem_toArray,List.getElem_cons_zero,List.getElem_cons_succ,List.setIfInBounds_toArray,List.set_cons_zero,List.set_cons_succ]
  refine wpAnyH_take (i:=12) (v:=?_) rfl (by kernel_rfl) (by kernel_rfl) (by kernel_rfl) (fun _ _ _ h=>h) (Or.inl ⟨by rfl,?_⟩) (by assumption) ?_
  rotate_left
  ·intro w hSw
   go_simp
   with_reducible rfl
  try simp only [Act.put,List.getElem_toArray,List.getElem_cons_zero,List.getElem_cons_succ,List.setIfInBounds_toArray,List.set_cons_zero,List.set_cons_succ]
  refine wpAnyH_take (i:=13) (v:=?_) rfl (by kernel_rfl) (by kernel_rfl) (by kernel_rfl) (fun _ _ _ h=>h) (Or.inl ⟨by rfl,?_⟩) (by assumption) ?_
  rotate_left
  ·intro w hSw
   go_simp
   with_reducible rfl
  try simp only [Act.put,List.getElem_toArray,List.getElem_cons_zero,List.getElem_cons_succ,List.setIfInBounds_toArray,List.set_cons_zero,List.set_cons_succ]
  refine wpAnyH_take (i:=14) (v:=undef) rfl (by kernel_rfl) (by kernel_rfl) (by kernel_rfl) (fun _ _ _ h=>h) (Or.inr ⟨by rfl,rfl⟩) (by assumption) ?_
  try simp only [Act.put,List.getElem_toArray,List.getElem_cons_zero,List.getElem_cons_succ,List.setIfInBounds_toArray,List.set_cons_zero,List.set_cons_succ]
  refine wpAnyH_take (i:=15) (v:=undef) rfl (by kernel_rfl) (by kernel_rfl) (by kernel_rfl) (fun _ _ _ h=>h) (Or.inr ⟨by rfl,rfl⟩) (by assumption) ?_
  try simp only [Act.put,List.getElem_toArray,List.getElem_cons_zero,List.getElem_cons_succ,List.setIfInBounds_toArray,List.set_cons_zero,List.set_cons_succ]
  refine wpAnyH_take (i:=16) (v:=?_) rfl (by kernel_rfl) (by kernel_rfl) (by kernel_rfl) (fun _ _ _ h=>h) (Or.inl ⟨by rfl,?_⟩) (by assumption) ?_
  rotate_left
  ·intro w hSw
   go_simp
   with_reducible rfl
  try simp only [Act.put,List.getElem_toArray,List.getElem_cons_zero,List.getElem_cons_succ,List.setIfInBounds_toArray,List.set_cons_zero,List.set_cons_succ]
  refine wpAnyH_ready (rs:=[17]) (by kernel_rfl) (by simp) ?_
  refine AllReadyH.cons rfl (fun K hK=>?_) ?_
  ·obtain ⟨hag,bel9,⟨X8,R1,hX8⟩,X9,R2,hX9⟩:=KB1.out _ hHeld
   obtain ⟨tA,hA⟩:=R1
   have HRA:Hid _:=hA
   clear hA
   rw [if_pos (by rfl)]
   refine wp_store_row 41 _ _ rfl (w.heap.size + 1) cs0.toArray rfl rfl tA _ HRA.out (by rw [size_tlv,HS0.out]) (by rw [HS0.out,List.size_toArray,hX8]) HO0.out ?_
   refine hK.out _ _ ?_ (fun hHeld2=>?_)
   ·exact KI1.out _ ⟨hag.row (fun h=>h.1 rfl),below_setRow bel9 (by omega) _,⟨cs0,⟨tA,setRow_heap _ _ _ _ _ _ HRA.out⟩,H50.out⟩,X9,by obtain ⟨t9,h9⟩:=R2;exact ⟨t9,(setRow_other _ (w.heap.size + 1) (w.heap.size + 2) cs0.toArray (by omega)).trans h9⟩,hX9⟩
   ·clear hK K
    try clear hHeld
    have hHeld:=hHeld2
    clear hHeld2
    try simp only [Act.put,List.getElem_toArray,List.getElem_cons_zero,List.getElem_cons_succ,List.setIfInBounds_toArray,List.set_cons_zero,List.set_cons_succ]
    clear hag bel9

    refine wpAnyH_take (i:=18) (v:=.slice va VL vc) rfl (by kernel_rfl) (by kernel_rfl) (by kernel_rfl) (fun _ _ _ h=>h) (Or.inl ⟨by rfl,fun wx h=>rfl⟩) (by assumption) ?_
    try simp only [Act.put,List.getElem_toArray,List.getElem_cons_zero,List.getElem_cons_succ,List.setIfInBounds_toArray,List.set_cons_zero,List.set_cons_succ]
    refine wpAnyH_ready (rs:=[19]) (by kernel_rfl) (by simp) ?_
    refine AllReadyH.cons rfl (fun K hK=>?_) ?_
    ·obtain ⟨hag,bel9,⟨X8,R1,hX8⟩,X9,R2,hX9⟩:=KB1.out _ hHeld
     obtain ⟨tB,hB⟩:=R2
     have HRB:Hid _:=hB
     clear hB
     rw [if_pos (by rfl)]
     refine wp_store_row 27 _ _ rfl (w.heap.size + 2) ts.toArray rfl rfl tB _ HRB.out (by rw [size_sgO,HSt.out]) (by rw [HSt.out,List.size_toArray,hX9]) HOt.out ?_
     refine hK.out _ _ ?_ (fun hHeld2=>?_)
     ·exact KI1.out _ ⟨hag.row (fun h=>h.2 rfl),below_setRow bel9 (by omega) _,⟨X8,by obtain ⟨t9,h9⟩:=R1;exact ⟨t9,(setRow_other _ (w.heap.size + 2) (w.heap.size + 1) ts.toArray (by omega)).trans h9⟩,hX8⟩,ts,⟨tB,setRow_heap _ _ _ _ _ _ HRB.out⟩,HLt.out⟩
     ·clear hK K
      try clear hHeld
      have hHeld:=hHeld2
      clear hHeld2
      try simp only [Act.put,List.getElem_toArray,List.getElem_cons_zero,List.getElem_cons_succ,List.setIfInBounds_toArray,List.set_cons_zero,List.set_cons_succ]
      clear hag bel9

      refine wpAnyH_take (i:=20) (v:=.bool false) rfl (by kernel_rfl) (by kernel_rfl) (by kernel_rfl) (fun _ _ _ h=>h) (Or.inl ⟨by rfl,fun wx h=>rfl⟩) (by assumption) ?_
      try simp only [Act.put,List.getElem_toArray,List.getElem_cons_zero,List.getElem_cons_succ,List.setIfInBounds_toArray,List.set_cons_zero,List.set_cons_succ]
      refine wpAnyH_done (by kernel_rfl) ?_ _
      refine NoPanic.normal ?_
      obtain ⟨hag,bel9,-,-⟩:=KB1.out _ hHeld
      clear hHeld ra rl Rk Rs
      go_wp2_with fail
      refine bodyPost_ret (results_rtrt rfl _ _ (w.heap.size + 1) (w.heap.size + 2) tA tB cs0.toArray ts.toArray (0,0) (0,0) _ _ rfl ((setRow_other _ (w.heap.size + 2) (w.heap.size + 1) ts.toArray (by omega)).trans (setRow_heap _ _ _ _ _ _ HRA.out)) Tryz.underlying41 rfl (by rw [size_tlv,HS0.out]) rfl (setRow_heap _ _ _ _ _ _ HRB.out) Tryz.underlying27 rfl (by rw [size_sgO,HSt.out])) rfl ?_
      exact OpnR.is (bb:=false) HT.out (HT0.out.later bel9) (bs_agrC HBv.out (fun a m c e h0=>by have:=HGv.out a m c e h0;have:=HGs.out;show _∧_;omega) hag) HVL.out HU1.out HU2.out HNv.out ⟨0,rfl⟩ (fun q=>by cases q) (fun _=>HNo.out) bel9
    exact AllReadyH.nil
  exact AllReadyH.nil

 | true =>
  have HBt1:Hid (bitD k1=some nb):=HI1.out rfl
  cases fi with
  | false =>
   have HSg0:Hid (sigD nb=none):=HF0.out rfl
   have HNo:Hid (opnD true (.mk 0 16 true b [k0,k1])=none):=by
    show _=_
    rw [opn_t,HBt1.out,Option.bind_some,HSg0.out];rfl
   refine wp_region_noPanic ?_
   refine wp_region_held_drew (S:=Hd S1) (by kernel_rfl) (KD1.out _ hS1) (fun hHeld=>?_)
   clear hS1
   generalize World.drew _=wd1 at *
   refine wpAnyH_take (i:=0) (v:=?_) rfl (by kernel_rfl) (by kernel_rfl) (by kernel_rfl) (fun _ _ _ h=>h) (Or.inl ⟨by rfl,?_⟩) (by assumption) ?_
   rotate_left
   ·intro w hSw
    go_simp
    with_reducible rfl
   try simp only [Act.put,List.getElem_toArray,List.getElem_cons_zero,List.getElem_cons_succ,List.setIfInBounds_toArray,List.set_cons_zero,List.set_cons_succ]
   refine wpAnyH_take (i:=1) (v:=?_) rfl (by kernel_rfl) (by kernel_rfl) (by kernel_rfl) (fun _ _ _ h=>h) (Or.inl ⟨by rfl,?_⟩) (by assumption) ?_
   rotate_left
   ·intro w hSw
    go_simp
    with_reducible rfl
   try simp only [Act.put,List.getElem_toArray,List.getElem_cons_zero,List.getElem_cons_succ,List.setIfInBounds_toArray,List.set_cons_zero,List.set_cons_succ]
   refine wpAnyH_take (i:=2) (v:=?_) rfl (by kernel_rfl) (by kernel_rfl) (by kernel_rfl) (fun _ _ _ h=>h) (Or.inl ⟨by rfl,?_⟩) (by assumption) ?_
   rotate_left
   ·intro w hSw
    go_simp
    with_reducible rfl
   try simp only [Act.put,List.getElem_toArray,List.getElem_cons_zero,List.getElem_cons_succ,List.setIfInBounds_toArray,List.set_cons_zero,List.set_cons_succ]
   refine wpAnyH_take (i:=3) (v:=.agg cs0.toArray) rfl (by kernel_rfl) (by kernel_rfl) (by kernel_rfl) (fun _ _ _ h=>h) (Or.inl ⟨by rfl,fun wx h=>exec_load rfl rfl (Rk.out wx h)⟩) (by assumption) ?_
   try simp only [Act.put,List.getElem_toArray,List.getElem_cons_zero,List.getElem_cons_succ,List.setIfInBounds_toArray,List.set_cons_zero,List.set_cons_succ]
   refine wpAnyH_take (i:=4) (v:=?_) rfl (by kernel_rfl) (by kernel_rfl) (by kernel_rfl) (fun _ _ _ h=>h) (Or.inl ⟨by rfl,?_⟩) (by assumption) ?_
   rotate_left
   ·intro w hSw
    go_simp
    with_reducible rfl
   try simp only [Act.put,List.getElem_toArray,List.getElem_cons_zero,List.getElem_cons_succ,List.setIfInBounds_toArray,List.set_cons_zero,List.set_cons_succ]
   refine wpAnyH_take (i:=5) (v:=.agg ts.toArray) rfl (by kernel_rfl) (by kernel_rfl) (by kernel_rfl) (fun _ _ _ h=>h) (Or.inl ⟨by rfl,fun wx h=>exec_load rfl rfl (Rs.out wx h)⟩) (by assumption) ?_
   try simp only [Act.put,List.getElem_toArray,List.getElem_cons_zero,List.getElem_cons_succ,List.setIfInBounds_toArray,List.set_cons_zero,List.set_cons_succ]
   refine wpAnyH_take (i:=6) (v:=?_) rfl (by kernel_rfl) (by kernel_rfl) (by kernel_rfl) (fun _ _ _ h=>h) (Or.inl ⟨by rfl,?_⟩) (by assumption) ?_
   rotate_left
   ·intro w hSw
    go_simp
    with_reducible rfl
   try simp only [Act.put,List.getElem_toArray,List.getElem_cons_zero,List.getElem_cons_succ,List.setIfInBounds_toArray,List.set_cons_zero,List.set_cons_succ]
   refine wpAnyH_take (i:=7) (v:=?_) rfl (by kernel_rfl) (by kernel_rfl) (by kernel_rfl) (fun _ _ _ h=>h) (Or.inl ⟨by rfl,?_⟩) (by assumption) ?_
   rotate_left
   ·intro w hSw
    go_simp
    with_reducible rfl
   try simp only [Act.put,List.getElem_toArray,List.getElem_cons_zero,List.getElem_cons_succ,List.setIfInBounds_toArray,List.set_cons_zero,List.set_cons_succ]
   refine wpAnyH_take (i:=8) (v:=?_) rfl (by kernel_rfl) (by kernel_rfl) (by kernel_rfl) (fun _ _ _ h=>h) (Or.inl ⟨by rfl,?_⟩) (by assumption) ?_
   rotate_left
   ·intro w hSw
    go_simp
    with_reducible rfl
   try simp only [Act.put,List.getElem_toArray,List.getElem_cons_zero,List.getElem_cons_succ,List.setIfInBounds_toArray,List.set_cons_zero,List.set_cons_succ]
   refine wpAnyH_take (i:=9) (v:=?_) rfl (by kernel_rfl) (by kernel_rfl) (by kernel_rfl) (fun _ _ _ h=>h) (Or.inl ⟨by rfl,?_⟩) (by assumption) ?_
   rotate_left
   ·intro w hSw
    go_simp
    with_reducible rfl
   try simp only [Act.put,List.getElem_toArray,List.getElem_cons_zero,List.getElem_cons_succ,List.setIfInBounds_toArray,List.set_cons_zero,List.set_cons_succ]
   refine wpAnyH_take (i:=10) (v:=?_) rfl (by kernel_rfl) (by kernel_rfl) (by kernel_rfl) (fun _ _ _ h=>h) (Or.inl ⟨by rfl,?_⟩) (by assumption) ?_
   rotate_left
   ·intro w hSw
    go_simp
    with_reducible rfl
   try simp only [Act.put,List.getElem_toArray,List.getElem_cons_zero,List.getElem_cons_succ,List.setIfInBounds_toArray,List.set_cons_zero,List.set_cons_succ]
   refine wpAnyH_take (i:=11) (v:=?_) rfl (by kernel_rfl) (by kernel_rfl) (by kernel_rfl) (fun _ _ _ h=>h) (Or.inl ⟨by rfl,?_⟩) (by assumption) ?_
   rotate_left
   ·intro w hSw
    go_simp
    with_reducible rfl
   try simp only [Act.put,List.getElem_toArray,List.getElem_cons_zero,List.getElem_cons_succ,List.setIfInBounds_toArray,List.set_cons_zero,List.set_cons_succ]
   refine wpAnyH_take (i:=12) (v:=?_) rfl (by kernel_rfl) (by kernel_rfl) (by kernel_rfl) (fun _ _ _ h=>h) (Or.inl ⟨by rfl,?_⟩) (by assumption) ?_
   rotate_left
   ·intro w hSw
    go_simp
    with_reducible rfl
   try simp only [Act.put,List.getElem_toArray,List.getElem_cons_zero,List.getElem_cons_succ,List.setIfInBounds_toArray,List.set_cons_zero,List.set_cons_succ]
   refine wpAnyH_take (i:=13) (v:=?_) rfl (by kernel_rfl) (by kernel_rfl) (by kernel_rfl) (fun _ _ _ h=>h) (Or.inl ⟨by rfl,?_⟩) (by assumption) ?_
   rotate_left
   ·intro w hSw
    go_simp
    with_reducible rfl
   try simp only [Act.put,List.getElem_toArray,List.getElem_cons_zero,List.getElem_cons_succ,List.setIfInBounds_toArray,List.set_cons_zero,List.set_cons_succ]
   refine wpAnyH_take (i:=14) (v:=undef) rfl (by kernel_rfl) (by kernel_rfl) (by kernel_rfl) (fun _ _ _ h=>h) (Or.inr ⟨by rfl,rfl⟩) (by assumption) ?_
   try simp only [Act.put,List.getElem_toArray,List.getElem_cons_zero,List.getElem_cons_succ,List.setIfInBounds_toArray,List.set_cons_zero,List.set_cons_succ]
   refine wpAnyH_take (i:=15) (v:=undef) rfl (by kernel_rfl) (by kernel_rfl) (by kernel_rfl) (fun _ _ _ h=>h) (Or.inr ⟨by rfl,rfl⟩) (by assumption) ?_
   try simp only [Act.put,List.getElem_toArray,List.getElem_cons_zero,List.getElem_cons_succ,List.setIfInBounds_toArray,List.set_cons_zero,List.set_cons_succ]
   refine wpAnyH_take (i:=16) (v:=?_) rfl (by kernel_rfl) (by kernel_rfl) (by kernel_rfl) (fun _ _ _ h=>h) (Or.inl ⟨by rfl,?_⟩) (by assumption) ?_
   rotate_left
   ·intro w hSw
    go_simp
    with_reducible rfl
   try simp only [Act.put,List.getElem_toArray,List.getElem_cons_zero,List.getElem_cons_succ,List.setIfInBounds_toArray,List.set_cons_zero,List.set_cons_succ]
   refine wpAnyH_ready (rs:=[17]) (by kernel_rfl) (by simp) ?_
   refine AllReadyH.cons rfl (fun K hK=>?_) ?_
   ·obtain ⟨hag,bel9,⟨X8,R1,hX8⟩,X9,R2,hX9⟩:=KB1.out _ hHeld
    obtain ⟨tA,hA⟩:=R1
    have HRA:Hid _:=hA
    clear hA
    rw [if_pos (by rfl)]
    refine wp_store_row 41 _ _ rfl (w.heap.size + 1) cs0.toArray rfl rfl tA _ HRA.out (by rw [size_tlv,HS0.out]) (by rw [HS0.out,List.size_toArray,hX8]) HO0.out ?_
    refine hK.out _ _ ?_ (fun hHeld2=>?_)
    ·exact KI1.out _ ⟨hag.row (fun h=>h.1 rfl),below_setRow bel9 (by omega) _,⟨cs0,⟨tA,setRow_heap _ _ _ _ _ _ HRA.out⟩,H50.out⟩,X9,by obtain ⟨t9,h9⟩:=R2;exact ⟨t9,(setRow_other _ (w.heap.size + 1) (w.heap.size + 2) cs0.toArray (by omega)).trans h9⟩,hX9⟩
    ·clear hK K
     try clear hHeld
     have hHeld:=hHeld2
     clear hHeld2
     try simp only [Act.put,List.getElem_toArray,List.getElem_cons_zero,List.getElem_cons_succ,List.setIfInBounds_toArray,List.set_cons_zero,List.set_cons_succ]
     clear hag bel9

     refine wpAnyH_take (i:=18) (v:=.slice va VL vc) rfl (by kernel_rfl) (by kernel_rfl) (by kernel_rfl) (fun _ _ _ h=>h) (Or.inl ⟨by rfl,fun wx h=>rfl⟩) (by assumption) ?_
     try simp only [Act.put,List.getElem_toArray,List.getElem_cons_zero,List.getElem_cons_succ,List.setIfInBounds_toArray,List.set_cons_zero,List.set_cons_succ]
     refine wpAnyH_ready (rs:=[19]) (by kernel_rfl) (by simp) ?_
     refine AllReadyH.cons rfl (fun K hK=>?_) ?_
     ·obtain ⟨hag,bel9,⟨X8,R1,hX8⟩,X9,R2,hX9⟩:=KB1.out _ hHeld
      obtain ⟨tB,hB⟩:=R2
      have HRB:Hid _:=hB
      clear hB
      rw [if_pos (by rfl)]
      refine wp_store_row 27 _ _ rfl (w.heap.size + 2) ts.toArray rfl rfl tB _ HRB.out (by rw [size_sgO,HSt.out]) (by rw [HSt.out,List.size_toArray,hX9]) HOt.out ?_
      refine hK.out _ _ ?_ (fun hHeld2=>?_)
      ·exact KI1.out _ ⟨hag.row (fun h=>h.2 rfl),below_setRow bel9 (by omega) _,⟨X8,by obtain ⟨t9,h9⟩:=R1;exact ⟨t9,(setRow_other _ (w.heap.size + 2) (w.heap.size + 1) ts.toArray (by omega)).trans h9⟩,hX8⟩,ts,⟨tB,setRow_heap _ _ _ _ _ _ HRB.out⟩,HLt.out⟩
      ·clear hK K
       try clear hHeld
       have hHeld:=hHeld2
       clear hHeld2
       try simp only [Act.put,List.getElem_toArray,List.getElem_cons_zero,List.getElem_cons_succ,List.setIfInBounds_toArray,List.set_cons_zero,List.set_cons_succ]
       clear hag bel9

       refine wpAnyH_take (i:=20) (v:=.bool false) rfl (by kernel_rfl) (by kernel_rfl) (by kernel_rfl) (fun _ _ _ h=>h) (Or.inl ⟨by rfl,fun wx h=>rfl⟩) (by assumption) ?_
       try simp only [Act.put,List.getElem_toArray,List.getElem_cons_zero,List.getElem_cons_succ,List.setIfInBounds_toArray,List.set_cons_zero,List.set_cons_succ]
       refine wpAnyH_done (by kernel_rfl) ?_ _
       refine NoPanic.normal ?_
       obtain ⟨hag,bel9,-,-⟩:=KB1.out _ hHeld
       clear hHeld ra rl Rk Rs
       go_wp2_with fail
       refine bodyPost_ret (results_rtrt rfl _ _ (w.heap.size + 1) (w.heap.size + 2) tA tB cs0.toArray ts.toArray (0,0) (0,0) _ _ rfl ((setRow_other _ (w.heap.size + 2) (w.heap.size + 1) ts.toArray (by omega)).trans (setRow_heap _ _ _ _ _ _ HRA.out)) Tryz.underlying41 rfl (by rw [size_tlv,HS0.out]) rfl (setRow_heap _ _ _ _ _ _ HRB.out) Tryz.underlying27 rfl (by rw [size_sgO,HSt.out])) rfl ?_
       exact OpnR.is (bb:=false) HT.out (HT0.out.later bel9) (bs_agrC HBv.out (fun a m c e h0=>by have:=HGv.out a m c e h0;have:=HGs.out;show _∧_;omega) hag) HVL.out HU1.out HU2.out HNv.out ⟨0,rfl⟩ (fun q=>by cases q) (fun _=>HNo.out) bel9
     exact AllReadyH.nil
   exact AllReadyH.nil

  | true =>
   have HSg1:Hid (sigD nb=some (x,y)):=HF1.out rfl
   have HYes:Hid (opnD true (.mk 0 16 true b [k0,k1])=some (k0,x,y)):=by
    show _=_
    rw [opn_t,HBt1.out,Option.bind_some,HSg1.out];rfl
   refine wp_region_noPanic ?_
   refine wp_region_held_drew (S:=Hd S1) (by kernel_rfl) (KD1.out _ hS1) (fun hHeld=>?_)
   clear hS1
   generalize World.drew _=wd1 at *
   refine wpAnyH_take (i:=0) (v:=?_) rfl (by kernel_rfl) (by kernel_rfl) (by kernel_rfl) (fun _ _ _ h=>h) (Or.inl ⟨by rfl,?_⟩) (by assumption) ?_
   rotate_left
   ·intro w hSw
    go_simp
    with_reducible rfl
   try simp only [Act.put,List.getElem_toArray,List.getElem_cons_zero,List.getElem_cons_succ,List.setIfInBounds_toArray,List.set_cons_zero,List.set_cons_succ]
   refine wpAnyH_take (i:=1) (v:=?_) rfl (by kernel_rfl) (by kernel_rfl) (by kernel_rfl) (fun _ _ _ h=>h) (Or.inl ⟨by rfl,?_⟩) (by assumption) ?_
   rotate_left
   ·intro w hSw
    go_simp
    with_reducible rfl
   try simp only [Act.put,List.getElem_toArray,List.getElem_cons_zero,List.getElem_cons_succ,List.setIfInBounds_toArray,List.set_cons_zero,List.set_cons_succ]
   refine wpAnyH_take (i:=2) (v:=?_) rfl (by kernel_rfl) (by kernel_rfl) (by kernel_rfl) (fun _ _ _ h=>h) (Or.inl ⟨by rfl,?_⟩) (by assumption) ?_
   rotate_left
   ·intro w hSw
    go_simp
    with_reducible rfl
   try simp only [Act.put,List.getElem_toArray,List.getElem_cons_zero,List.getElem_cons_succ,List.setIfInBounds_toArray,List.set_cons_zero,List.set_cons_succ]
   refine wpAnyH_take (i:=3) (v:=.agg cs0.toArray) rfl (by kernel_rfl) (by kernel_rfl) (by kernel_rfl) (fun _ _ _ h=>h) (Or.inl ⟨by rfl,fun wx h=>exec_load rfl rfl (Rk.out wx h)⟩) (by assumption) ?_
   try simp only [Act.put,List.getElem_toArray,List.getElem_cons_zero,List.getElem_cons_succ,List.setIfInBounds_toArray,List.set_cons_zero,List.set_cons_succ]
   refine wpAnyH_take (i:=4) (v:=?_) rfl (by kernel_rfl) (by kernel_rfl) (by kernel_rfl) (fun _ _ _ h=>h) (Or.inl ⟨by rfl,?_⟩) (by assumption) ?_
   rotate_left
   ·intro w hSw
    go_simp
    with_reducible rfl
   try simp only [Act.put,List.getElem_toArray,List.getElem_cons_zero,List.getElem_cons_succ,List.setIfInBounds_toArray,List.set_cons_zero,List.set_cons_succ]
   refine wpAnyH_take (i:=5) (v:=.agg ts.toArray) rfl (by kernel_rfl) (by kernel_rfl) (by kernel_rfl) (fun _ _ _ h=>h) (Or.inl ⟨by rfl,fun wx h=>exec_load rfl rfl (Rs.out wx h)⟩) (by assumption) ?_
   try simp only [Act.put,List.getElem_toArray,List.getElem_cons_zero,List.getElem_cons_succ,List.setIfInBounds_toArray,List.set_cons_zero,List.set_cons_succ]
   refine wpAnyH_take (i:=6) (v:=?_) rfl (by kernel_rfl) (by kernel_rfl) (by kernel_rfl) (fun _ _ _ h=>h) (Or.inl ⟨by rfl,?_⟩) (by assumption) ?_
   rotate_left
   ·intro w hSw
    go_simp
    with_reducible rfl
   try simp only [Act.put,List.getElem_toArray,List.getElem_cons_zero,List.getElem_cons_succ,List.setIfInBounds_toArray,List.set_cons_zero,List.set_cons_succ]
   refine wpAnyH_take (i:=7) (v:=?_) rfl (by kernel_rfl) (by kernel_rfl) (by kernel_rfl) (fun _ _ _ h=>h) (Or.inl ⟨by rfl,?_⟩) (by assumption) ?_
   rotate_left
   ·intro w hSw
    go_simp
    with_reducible rfl
   try simp only [Act.put,List.getElem_toArray,List.getElem_cons_zero,List.getElem_cons_succ,List.setIfInBounds_toArray,List.set_cons_zero,List.set_cons_succ]
   refine wpAnyH_take (i:=8) (v:=?_) rfl (by kernel_rfl) (by kernel_rfl) (by kernel_rfl) (fun _ _ _ h=>h) (Or.inl ⟨by rfl,?_⟩) (by assumption) ?_
   rotate_left
   ·intro w hSw
    go_simp
    with_reducible rfl
   try simp only [Act.put,List.getElem_toArray,List.getElem_cons_zero,List.getElem_cons_succ,List.setIfInBounds_toArray,List.set_cons_zero,List.set_cons_succ]
   refine wpAnyH_take (i:=9) (v:=?_) rfl (by kernel_rfl) (by kernel_rfl) (by kernel_rfl) (fun _ _ _ h=>h) (Or.inl ⟨by rfl,?_⟩) (by assumption) ?_
   rotate_left
   ·intro w hSw
    go_simp
    with_reducible rfl
   try simp only [Act.put,List.getElem_toArray,List.getElem_cons_zero,List.getElem_cons_succ,List.setIfInBounds_toArray,List.set_cons_zero,List.set_cons_succ]
   refine wpAnyH_take (i:=10) (v:=?_) rfl (by kernel_rfl) (by kernel_rfl) (by kernel_rfl) (fun _ _ _ h=>h) (Or.inl ⟨by rfl,?_⟩) (by assumption) ?_
   rotate_left
   ·intro w hSw
    go_simp
    with_reducible rfl
   try simp only [Act.put,List.getElem_toArray,List.getElem_cons_zero,List.getElem_cons_succ,List.setIfInBounds_toArray,List.set_cons_zero,List.set_cons_succ]
   refine wpAnyH_take (i:=11) (v:=?_) rfl (by kernel_rfl) (by kernel_rfl) (by kernel_rfl) (fun _ _ _ h=>h) (Or.inl ⟨by rfl,?_⟩) (by assumption) ?_
   rotate_left
   ·intro w hSw
    go_simp
    with_reducible rfl
   try simp only [Act.put,List.getElem_toArray,List.getElem_cons_zero,List.getElem_cons_succ,List.setIfInBounds_toArray,List.set_cons_zero,List.set_cons_succ]
   refine wpAnyH_take (i:=12) (v:=?_) rfl (by kernel_rfl) (by kernel_rfl) (by kernel_rfl) (fun _ _ _ h=>h) (Or.inl ⟨by rfl,?_⟩) (by assumption) ?_
   rotate_left
   ·intro w hSw
    go_simp
    with_reducible rfl
   try simp only [Act.put,List.getElem_toArray,List.getElem_cons_zero,List.getElem_cons_succ,List.setIfInBounds_toArray,List.set_cons_zero,List.set_cons_succ]
   refine wpAnyH_take (i:=13) (v:=?_) rfl (by kernel_rfl) (by kernel_rfl) (by kernel_rfl) (fun _ _ _ h=>h) (Or.inl ⟨by rfl,?_⟩) (by assumption) ?_
   rotate_left
   ·intro w hSw
    go_simp
    with_reducible rfl
   try simp only [Act.put,List.getElem_toArray,List.getElem_cons_zero,List.getElem_cons_succ,List.setIfInBounds_toArray,List.set_cons_zero,List.set_cons_succ]
   refine wpAnyH_take (i:=14) (v:=?_) rfl (by kernel_rfl) (by kernel_rfl) (by kernel_rfl) (fun _ _ _ h=>h) (Or.inl ⟨by rfl,?_⟩) (by assumption) ?_
   rotate_left
   ·intro w hSw
    go_simp
    with_reducible rfl
   try simp only [Act.put,List.getElem_toArray,List.getElem_cons_zero,List.getElem_cons_succ,List.setIfInBounds_toArray,List.set_cons_zero,List.set_cons_succ]
   refine wpAnyH_take (i:=15) (v:=?_) rfl (by kernel_rfl) (by kernel_rfl) (by kernel_rfl) (fun _ _ _ h=>h) (Or.inl ⟨by rfl,?_⟩) (by assumption) ?_
   rotate_left
   ·intro w hSw
    go_simp
    with_reducible rfl
   try simp only [Act.put,List.getElem_toArray,List.getElem_cons_zero,List.getElem_cons_succ,List.setIfInBounds_toArray,List.set_cons_zero,List.set_cons_succ]
   refine wpAnyH_take (i:=16) (v:=?_) rfl (by kernel_rfl) (by kernel_rfl) (by kernel_rfl) (fun _ _ _ h=>h) (Or.inl ⟨by rfl,?_⟩) (by assumption) ?_
   rotate_left
   ·intro w hSw
    go_simp
    with_reducible rfl
   try simp only [Act.put,List.getElem_toArray,List.getElem_cons_zero,List.getElem_cons_succ,List.setIfInBounds_toArray,List.set_cons_zero,List.set_cons_succ]
   refine wpAnyH_ready (rs:=[17]) (by kernel_rfl) (by simp) ?_
   refine AllReadyH.cons rfl (fun K hK=>?_) ?_
   ·obtain ⟨hag,bel9,⟨X8,R1,hX8⟩,X9,R2,hX9⟩:=KB1.out _ hHeld
    obtain ⟨tA,hA⟩:=R1
    have HRA:Hid _:=hA
    clear hA
    rw [if_pos (by rfl)]
    refine wp_store_row 41 _ _ rfl (w.heap.size + 1) cs0.toArray rfl rfl tA _ HRA.out (by rw [size_tlv,HS0.out]) (by rw [HS0.out,List.size_toArray,hX8]) HO0.out ?_
    refine hK.out _ _ ?_ (fun hHeld2=>?_)
    ·exact KI1.out _ ⟨hag.row (fun h=>h.1 rfl),below_setRow bel9 (by omega) _,⟨cs0,⟨tA,setRow_heap _ _ _ _ _ _ HRA.out⟩,H50.out⟩,X9,by obtain ⟨t9,h9⟩:=R2;exact ⟨t9,(setRow_other _ (w.heap.size + 1) (w.heap.size + 2) cs0.toArray (by omega)).trans h9⟩,hX9⟩
    ·clear hK K
     try clear hHeld
     have hHeld:=hHeld2
     clear hHeld2
     try simp only [Act.put,List.getElem_toArray,List.getElem_cons_zero,List.getElem_cons_succ,List.setIfInBounds_toArray,List.set_cons_zero,List.set_cons_succ]
     clear hag bel9

     refine wpAnyH_take (i:=18) (v:=.slice va VL vc) rfl (by kernel_rfl) (by kernel_rfl) (by kernel_rfl) (fun _ _ _ h=>h) (Or.inl ⟨by rfl,fun wx h=>rfl⟩) (by assumption) ?_
     try simp only [Act.put,List.getElem_toArray,List.getElem_cons_zero,List.getElem_cons_succ,List.setIfInBounds_toArray,List.set_cons_zero,List.set_cons_succ]
     refine wpAnyH_ready (rs:=[19]) (by kernel_rfl) (by simp) ?_
     refine AllReadyH.cons rfl (fun K hK=>?_) ?_
     ·obtain ⟨hag,bel9,⟨X8,R1,hX8⟩,X9,R2,hX9⟩:=KB1.out _ hHeld
      obtain ⟨tB,hB⟩:=R2
      have HRB:Hid _:=hB
      clear hB
      rw [if_pos (by rfl)]
      refine wp_store_row 27 _ _ rfl (w.heap.size + 2) ts.toArray rfl rfl tB _ HRB.out (by rw [size_sgO,HSt.out]) (by rw [HSt.out,List.size_toArray,hX9]) HOt.out ?_
      refine hK.out _ _ ?_ (fun hHeld2=>?_)
      ·exact KI1.out _ ⟨hag.row (fun h=>h.2 rfl),below_setRow bel9 (by omega) _,⟨X8,by obtain ⟨t9,h9⟩:=R1;exact ⟨t9,(setRow_other _ (w.heap.size + 2) (w.heap.size + 1) ts.toArray (by omega)).trans h9⟩,hX8⟩,ts,⟨tB,setRow_heap _ _ _ _ _ _ HRB.out⟩,HLt.out⟩
      ·clear hK K
       try clear hHeld
       have hHeld:=hHeld2
       clear hHeld2
       try simp only [Act.put,List.getElem_toArray,List.getElem_cons_zero,List.getElem_cons_succ,List.setIfInBounds_toArray,List.set_cons_zero,List.set_cons_succ]
       clear hag bel9

       refine wpAnyH_take (i:=20) (v:=.bool true) rfl (by kernel_rfl) (by kernel_rfl) (by kernel_rfl) (fun _ _ _ h=>h) (Or.inl ⟨by rfl,fun wx h=>rfl⟩) (by assumption) ?_
       try simp only [Act.put,List.getElem_toArray,List.getElem_cons_zero,List.getElem_cons_succ,List.setIfInBounds_toArray,List.set_cons_zero,List.set_cons_succ]
       refine wpAnyH_done (by kernel_rfl) ?_ _
       refine NoPanic.normal ?_
       obtain ⟨hag,bel9,-,-⟩:=KB1.out _ hHeld
       clear hHeld ra rl Rk Rs
       go_wp2_with fail
       refine bodyPost_ret (results_rtrt rfl _ _ (w.heap.size + 1) (w.heap.size + 2) tA tB cs0.toArray ts.toArray (0,0) (0,0) _ _ rfl ((setRow_other _ (w.heap.size + 2) (w.heap.size + 1) ts.toArray (by omega)).trans (setRow_heap _ _ _ _ _ _ HRA.out)) Tryz.underlying41 rfl (by rw [size_tlv,HS0.out]) rfl (setRow_heap _ _ _ _ _ _ HRB.out) Tryz.underlying27 rfl (by rw [size_sgO,HSt.out])) rfl ?_
       exact OpnR.is (bb:=true) HT.out (HT0.out.later bel9) (bs_agrC HBv.out (fun a m c e h0=>by have:=HGv.out a m c e h0;have:=HGs.out;show _∧_;omega) hag) HVL.out HU1.out HU2.out HNv.out ⟨0,rfl⟩ (fun _=>⟨HYes.out,rfl⟩) (fun q=>by cases q) bel9
     exact AllReadyH.nil
   exact AllReadyH.nil
end Go.Proofs.YtnkipgbnnhahbaaGreatDoor
