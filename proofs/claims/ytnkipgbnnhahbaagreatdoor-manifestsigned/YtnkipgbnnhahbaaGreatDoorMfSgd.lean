/- What was sealed, opened: plain. signedOf, Signed: what the program answers. -/
import Derived.Test.YtnkipgbnnhahbaaGreatDoorMfPln
import Derived.Test.YtnkipgbnnhahbaaGreatDoorClWr
import Derived.Test.YtnkipgbnnhahbaaGreatDoorCtSeal
import Derived.Test.YtnkipgbnnhahbaaGreatDoorMfSig
import Derived.Test.YtnkipgbnnhahbaaGreatDoorMfOf
import Derived.Test.YtnkipgbnnhahbaaGreatDoorEdDecode
import Derived.Test.YtnkipgbnnhahbaaGreatDoorDcOut
import Derived.Test.YtnkipgbnnhahbaaGreatDoorCtSig
import Derived.Test.YtnkipgbnnhahbaaGreatDoorDrDep
import Derived.Test.YtnkipgbnnhahbaaGreatDoorCtPl
import Derived.Test.YtnkipgbnnhahbaaGreatDoorRows
import Derived.Deep.WholeRow
import Derived.Deep.RegionHeld3
import Derived.Deep.DeepCutAuto
import Derived.Deep.DeepFit
import Derived.Deep.OwnRows
import Derived.Deep.AppendLies
import Derived.Great.BuildSlice
import Derived.Laws.Rows
import Derived.BigQuiet
namespace Go.Proofs.YtnkipgbnnhahbaaGreatDoor
open Go.RowKit
/-- what was sealed, opened: the first element, the signature -/
noncomputable def opnK:Bool→List Tl→Option (Tl × Int × Int)
 | false,[x,a,s]=>open Classical in if a=algT then ((bitD s).bind sigD).bind fun q=>some (x,q.1,q.2) else none
 | true,[x,s]=>((bitD s).bind sigD).bind fun q=>some (x,q.1,q.2)
 | _,_=>none
noncomputable def opnD (pl:Bool):Tl→Option (Tl × Int × Int)
 | .mk c t m _ ks=>if c=0∧t=16∧m=true then opnK pl ks else none
theorem opnD_mk {pl:Bool} {c t:Int} {m:Bool} {b:List Int} {ks:List Tl}:opnD pl (.mk c t m b ks)=if c=0∧t=16∧m=true then opnK pl ks else none:=rfl
theorem opn_no {pl:Bool} {c t:Int} {m:Bool} {b:List Int} {ks:List Tl} (h:¬ (c=0∧t=16∧m=true)):opnD pl (.mk c t m b ks)=none:=by
 rw [opnD_mk,if_neg h]
theorem opn_2 {c t:Int} {m:Bool} {b:List Int} {ks:List Tl} (h:¬ ks.length=2):opnD true (.mk c t m b ks)=none:=by
 rw [opnD_mk]
 split
 ·match ks,h with
  | [],_=>rfl
  | [_],_=>rfl
  | [_,_],h=>exact absurd rfl h
  | _ :: _ :: _ :: _,_=>rfl
 ·rfl
theorem opn_t {b:List Int} {x s:Tl}:opnD true (.mk 0 16 true b [x,s])=((bitD s).bind sigD).bind fun q=>some (x,q.1,q.2):=by
 rw [opnD_mk,if_pos ⟨rfl,rfl,rfl⟩]
 rfl
theorem isL_decS {c t:Int} {m:Bool} {b:List Int} {ks:List Tl}:isList (.mk c t m b ks)=decide (c=0∧t=16∧m=true):=rfl
theorem results_tmp_row_tmp {P:Program} {fn:Func} {p u v:Tmp} {ty:TypeId} (h:fn.results=#[.tmp u,.cell p ty,.tmp v]) (tmps:Array Value) (w:World) (g:Nat) (t:TypeId) (cs:Array Value) (fr:Nat × Nat) (d:TypeDesc)
  (hp:tmps.getD p undef=.pointer (some ⟨g,0,none⟩)) (hg:w.heap[g]?=some (.cells cs t fr))
  (hu:P.underlying ty=some d) (hd:(match d with|.struct _|.array _ _=>true|_=>false)=true) (hi:(P.info? ty).map (·.size)=some cs.size) :
  (results fn tmps).run P w=.ok (.tuple #[tmps.getD u undef,.agg cs,tmps.getD v undef]) w:=by
 have hp':tmps[p]?.getD undef=.pointer (some ⟨g,0,none⟩):=by simpa using hp
 simp [results,h,hp',asAddr,run_loadVar_row w g t ty cs fr d hg hu hd hi]
theorem bs_rowN {w:World} {g N:Nat} {v:Value} {B:List Int} {X:Array Value} (h:Bs w v B) (hn:∀ a m c,v=.slice (some a) m c→0 < m→N≤a.block) (hg:g < N):Bs (w.setRow g X) v B:=bs_agrC (S:=fun b=>N≤b) h hn ((Agr.refl _ _).row (by omega))
theorem er_rowG {w:World} {g c p:Nat} {er:Value} {X:Array Value} {Zs:List Value} (R:Blk w g Zs) (hl:Zs.length≠2) (h:ErAt w c p er):ErAt (w.setRow g X) c p er:=by
 rcases h with h|⟨hc,k,rfl,B⟩
 ·exact .inl h
 ·refine .inr ⟨hc,k,rfl,B.row (fun e=>?_)⟩
  subst e
  obtain ⟨t,ht⟩:=R
  obtain ⟨s,hs⟩:=B
  rw [ht] at hs
  simp only [Option.some.injEq,Obj.cells.injEq] at hs
  have e:=congrArg Array.size hs.1
  simp at e
  exact hl e
theorem gd_wr {T:Tl} (h:GdT T):wrN T=0:=by
 obtain ⟨h1,h2,h3,-⟩:=h
 unfold wrN
 rw [if_pos h1,if_neg (by omega),if_neg (by omega)]
theorem sgd_len {c t:Int} {m:Bool} {b:List Int} {ks:List Tl} (h:¬ ks.length=2):opnD true (.mk c t m b ks)=none:=by
 rw [opnD_mk]
 split
 ·match ks,h with
  | [],_=>rfl
  | [_],_=>rfl
  | [_,_],h=>exact absurd rfl h
  | _ :: _ :: _ :: _,_=>rfl
 ·rfl
theorem sgd_two {c t:Int} {m:Bool} {b:List Int} {x s:Tl} (h:c=0∧t=16∧m=true):opnD true (.mk c t m b [x,s])=((bitD s).bind sigD).bind fun q=>some (x,q.1,q.2):=by
 rw [opnD_mk,if_pos h]
 rfl
theorem list2s {α:Type} {ks:List α} (h:ks.length=2):∃ x s,ks=[x,s]:=by
 match ks,h with
 | [x,s],_=>exact ⟨x,s,rfl⟩
/-- bytes and a signature, or an error -/
def SgdO (w:World) (r:Option (Tl × Int × Int)) (e:Ending) (w':World):Prop:=Below w.heap.size w w'∧(r=none→∃ er,ErrV er∧e=.returned (.tuple #[.slice none 0 0,.agg #[.int .u64 0,.int .u64 0,.int .u64 0,.int .u64 0,.int .u64 0,.int .u64 0,.int .u64 0,.int .u64 0,.int .u64 0,.int .u64 0,.int .u64 0,.int .u64 0],er]))∧(∀ U x y,r=some (U,x,y)→∃ (v:Value) (rs ss:List Value),e=.returned (.tuple #[v,.agg (rs++ss).toArray,.nilIface])∧Bs w' v (bytesT U)∧NewV w v∧U6 rs x∧U6 ss y)
theorem SgdO.bad {w w':World} {r:Option (Tl × Int × Int)} {er:Value} (h:r=none) (k:ErrV er) (hb:Below w.heap.size w w'):SgdO w r (.returned (.tuple #[.slice none 0 0,.agg #[.int .u64 0,.int .u64 0,.int .u64 0,.int .u64 0,.int .u64 0,.int .u64 0,.int .u64 0,.int .u64 0,.int .u64 0,.int .u64 0,.int .u64 0,.int .u64 0],er])) w':=⟨hb,fun _=>⟨er,k,rfl⟩,fun U x y q=>(by rw [h] at q;cases q)⟩
theorem SgdO.ok {w w':World} {r:Option (Tl × Int × Int)} {U:Tl} {x y:Int} {v:Value} {rs ss:List Value} (h:r=some (U,x,y)) (hv:Bs w' v (bytesT U)) (hn:NewV w v) (h1:U6 rs x) (h2:U6 ss y) (hb:Below w.heap.size w w'):SgdO w r (.returned (.tuple #[v,.agg (rs++ss).toArray,.nilIface])) w':=⟨hb,fun q=>(by rw [h] at q;cases q),fun U' x' y' q=>(by rw [h] at q;cases q;exact ⟨v,rs,ss,rfl,hv,hn,h1,h2⟩)⟩
/-- what Signed tells -/
def SgnO (w:World) (B:List Int) (e:Ending) (w':World):Prop:=Below w.heap.size w w'∧(∀ c p,parseP B=.error (c,p)→∃ er:Value,e=.returned (.tuple #[.slice none 0 0,.agg #[.int .u64 0,.int .u64 0,.int .u64 0,.int .u64 0,.int .u64 0,.int .u64 0,.int .u64 0,.int .u64 0,.int .u64 0,.int .u64 0,.int .u64 0,.int .u64 0],er])∧ErAt w' c p er)∧(∀ T,parseP B=.ok T→opnD true T=none→e=.returned (.tuple #[.slice none 0 0,.agg #[.int .u64 0,.int .u64 0,.int .u64 0,.int .u64 0,.int .u64 0,.int .u64 0,.int .u64 0,.int .u64 0,.int .u64 0,.int .u64 0,.int .u64 0,.int .u64 0],.iface 46 (.int .i64 7)]))∧(∀ T U x y,parseP B=.ok T→opnD true T=some (U,x,y)→∃ (v:Value) (rs ss:List Value),e=.returned (.tuple #[v,.agg (rs++ss).toArray,.nilIface])∧Bs w' v (bytesT U)∧U6 rs x∧U6 ss y)
theorem SgnO.bad {w w':World} {B:List Int} {c p:Nat} {er:Value} (h:parseP B=.error (c,p)) (k:ErAt w' c p er) (hb:Below w.heap.size w w'):SgnO w B (.returned (.tuple #[.slice none 0 0,.agg #[.int .u64 0,.int .u64 0,.int .u64 0,.int .u64 0,.int .u64 0,.int .u64 0,.int .u64 0,.int .u64 0,.int .u64 0,.int .u64 0,.int .u64 0,.int .u64 0],er])) w':=⟨hb,fun c' p' q=>(by rw [h] at q;cases q;exact ⟨er,rfl,k⟩),fun T q=>(by rw [h] at q;cases q),fun T U x y q=>(by rw [h] at q;cases q)⟩
theorem SgnO.no {w w':World} {B:List Int} {T:Tl} (h:parseP B=.ok T) (k:opnD true T=none) (hb:Below w.heap.size w w'):SgnO w B (.returned (.tuple #[.slice none 0 0,.agg #[.int .u64 0,.int .u64 0,.int .u64 0,.int .u64 0,.int .u64 0,.int .u64 0,.int .u64 0,.int .u64 0,.int .u64 0,.int .u64 0,.int .u64 0,.int .u64 0],.iface 46 (.int .i64 7)])) w':=⟨hb,fun c' p' q=>(by rw [h] at q;cases q),fun T q _=>rfl,fun T' U x y q q2=>(by rw [h] at q;cases q;rw [k] at q2;cases q2)⟩
theorem SgnO.yes {w w':World} {B:List Int} {T U:Tl} {x y:Int} {v:Value} {rs ss:List Value} (h:parseP B=.ok T) (k:opnD true T=some (U,x,y)) (hv:Bs w' v (bytesT U)) (h1:U6 rs x) (h2:U6 ss y) (hb:Below w.heap.size w w'):SgnO w B (.returned (.tuple #[v,.agg (rs++ss).toArray,.nilIface])) w':=⟨hb,fun c' p' q=>(by rw [h] at q;cases q),fun T' q q2=>(by rw [h] at q;cases q;rw [k] at q2;cases q2),fun T' U' x' y' q q2=>(by rw [h] at q;cases q;rw [k] at q2;cases q2;exact ⟨v,rs,ss,rfl,hv,h1,h2⟩)⟩
theorem u_sigOf20 {T:Tl} {cs:List Value} {w:World} (G:GlsO w) (h:TlAt w T cs) (gd:GdT T):Calls Tryz.prog 51 #[.agg cs.toArray] w (SigO8 w ((bitD T).bind sigD)):=by
 obtain ⟨c,t,m,b,ks⟩:=T
 exact c20_sigOf G h gd.wf (by have:=gd.body;omega)
set_option linter.unusedSimpArgs false in
set_option maxRecDepth 100000 in
set_option maxHeartbeats 2000000 in
theorem c20_signedOf {c t:Int} {m:Bool} {b:List Int} {ks:List Tl} {cs:List Value} {w:World} (G:GlsO w) (h:TlAt w (.mk c t m b ks) cs) (gd:GdT (.mk c t m b ks)):Calls Tryz.prog 25 #[.agg cs.toArray] w (SgdO w (opnD true (.mk c t m b ks))):=by
 have HG:Hid (GlsO w):=G
 have HGd:Hid (GdT (.mk c t m b ks)):=gd
 clear gd G
 have hz:=zero_sg8.out
 have HT9:Hid (TlAt w (.mk c t m b ks) cs):=h
 rw [TlAt] at h
 obtain ⟨bv,ao,kc,hcs,hbv,-,hkm,hkk⟩:=h
 have HBv:Hid (Bs w bv b):=hbv
 obtain ⟨ba,bc,rfl,-,-,-⟩:=hbv
 have HK:Hid (0 < ks.length→∃ g o,ao=some ⟨g,o,none⟩∧KidsAt w ks g o):=hkk
 obtain ⟨BL,hBL⟩:∃ z,b.length=z:=⟨_,rfl⟩
 obtain ⟨KL,hKL⟩:∃ z,ks.length=z:=⟨_,rfl⟩
 have HBL:Hid (b.length=BL):=hBL
 have HKL:Hid (ks.length=KL):=hKL
 have HKM:Hid (kc≤maxLen):=hkm
 rw [hBL] at hcs HBv
 rw [hKL] at hcs HK
 clear hBL hKL hkk hkm
 subst hcs
 have B0:=(Blk.new w [.int .i64 c,.int .i64 t,.bool m,.slice ba BL bc,.slice ao KL kc] 41 w.heap.size rfl).alloc (.cells #[.int .u64 0,.int .u64 0,.int .u64 0,.int .u64 0,.int .u64 0,.int .u64 0,.int .u64 0,.int .u64 0,.int .u64 0,.int .u64 0,.int .u64 0,.int .u64 0] 27)
 have R0:=Blk.new (w.alloc (.cells #[.int .i64 c,.int .i64 t,.bool m,.slice ba BL bc,.slice ao KL kc] 41)) [.int .u64 0,.int .u64 0,.int .u64 0,.int .u64 0,.int .u64 0,.int .u64 0,.int .u64 0,.int .u64 0,.int .u64 0,.int .u64 0,.int .u64 0,.int .u64 0] 27 (w.heap.size + 1) (by simp)
 have bel:Below w.heap.size w ((w.alloc (.cells #[.int .i64 c,.int .i64 t,.bool m,.slice ba BL bc,.slice ao KL kc] 41)).alloc (.cells #[.int .u64 0,.int .u64 0,.int .u64 0,.int .u64 0,.int .u64 0,.int .u64 0,.int .u64 0,.int .u64 0,.int .u64 0,.int .u64 0,.int .u64 0,.int .u64 0] 27)):=((Below.refl _ _).alloc (Nat.le_refl _) _).alloc (by simp) _
 go_enter Tryz.func25,Tryz.ntmps25
 go_upto_region 1 with fail
 generalize (w.alloc (.cells #[.int .i64 c,.int .i64 t,.bool m,.slice ba BL bc,.slice ao KL kc] 41)).alloc (.cells #[.int .u64 0,.int .u64 0,.int .u64 0,.int .u64 0,.int .u64 0,.int .u64 0,.int .u64 0,.int .u64 0,.int .u64 0,.int .u64 0,.int .u64 0,.int .u64 0] 27)=W at *
 clear hz
 have hld:(loadVar 41 ⟨w.heap.size,0,none⟩).run Tryz.prog W=.ok (.agg #[.int .i64 c,.int .i64 t,.bool m,.slice ba BL bc,.slice ao KL kc]) W:=B0.load Tryz.underlying41 rfl size_tlv rfl
 have l0:=B0.lt
 have e4:=B0.cell 4 _ rfl
 go_wp2_with (first|((with_reducible show wpList _ _ _ ({ dst:=_,op:=.load _ _,type:=_,pos:=_,after:=_,guard:=_ } :: _) _ _);refine wpList_load_run (by rfl) (by rfl) (by rfl) hld ?_)|fail)
 refine (c20_isList (HT9.out.later bel)).mono ?_
 rintro e w1 ⟨rfl,hb⟩
 replace B0:=B0.later hb
 replace R0:=R0.later hb
 replace bel:=below_step bel hb
 clear hb hld l0 e4
 have e4:=B0.cell 4 _ rfl
 have l0:=B0.lt
 by_cases hp:c=0∧t=16∧m=true
 rotate_left
 ·have H:Hid (opnD true (.mk c t m b ks)=none):=by show _=_;rw [opnD_mk,if_neg hp]
  rw [isL_decS,decide_eq_false hp]
  clear hp
  have hz:=zero_sg8.out
  obtain ⟨tR,hR⟩:=R0
  have HR1:Hid _:=hR
  clear hR
  go_wp2_with (first|((with_reducible show wpList _ _ _ ({ dst:=_,op:=.store _ _ _,type:=_,pos:=_,after:=_,guard:=_ } :: _) _ _);refine wpList_store_row rfl 27 _ _ rfl (w.heap.size + 1) #[.int .u64 0,.int .u64 0,.int .u64 0,.int .u64 0,.int .u64 0,.int .u64 0,.int .u64 0,.int .u64 0,.int .u64 0,.int .u64 0,.int .u64 0,.int .u64 0] rfl rfl tR _ HR1.out (by rw [size_sg8];rfl) rfl (by simp [Value.oneCell']) ?_)|fail)
  refine bodyPost_ret (results_tmp_row_tmp rfl _ _ (w.heap.size + 1) tR #[.int .u64 0,.int .u64 0,.int .u64 0,.int .u64 0,.int .u64 0,.int .u64 0,.int .u64 0,.int .u64 0,.int .u64 0,.int .u64 0,.int .u64 0,.int .u64 0] (0,0) _ rfl (setRow_heap _ _ _ _ _ _ HR1.out) Tryz.underlying27 rfl (by rw [size_sg8];rfl)) rfl ?_
  exact SgdO.bad H.out (errV_code 7) (below_setRow bel (by omega) _)
 have HPl:Hid (c=0∧t=16∧m=true):=hp
 rw [isL_decS,decide_eq_true hp]
 clear hp
 by_cases k2:KL=2
 rotate_left
 ·have H:Hid (opnD true (.mk c t m b ks)=none):=sgd_len (by rw [HKL.out];exact k2)
  have d1:((KL:Int) == 2)=false:=by rw [beq_eq_false_iff_ne];omega
  have d2:((KL:Int) != 2)=true:=by rw [bne,d1];rfl
  clear k2
  have hz:=zero_sg8.out
  obtain ⟨tR,hR⟩:=R0
  have HR1:Hid _:=hR
  clear hR
  go_wp2_with (first|((with_reducible show wpList _ _ _ ({ dst:=_,op:=.store _ _ _,type:=_,pos:=_,after:=_,guard:=_ } :: _) _ _);refine wpList_store_row rfl 27 _ _ rfl (w.heap.size + 1) #[.int .u64 0,.int .u64 0,.int .u64 0,.int .u64 0,.int .u64 0,.int .u64 0,.int .u64 0,.int .u64 0,.int .u64 0,.int .u64 0,.int .u64 0,.int .u64 0] rfl rfl tR _ HR1.out (by rw [size_sg8];rfl) rfl (by simp [Value.oneCell']) ?_)|fail)
  refine bodyPost_ret (results_tmp_row_tmp rfl _ _ (w.heap.size + 1) tR #[.int .u64 0,.int .u64 0,.int .u64 0,.int .u64 0,.int .u64 0,.int .u64 0,.int .u64 0,.int .u64 0,.int .u64 0,.int .u64 0,.int .u64 0,.int .u64 0] (0,0) _ rfl (setRow_heap _ _ _ _ _ _ HR1.out) Tryz.underlying27 rfl (by rw [size_sg8];rfl)) rfl ?_
  exact SgdO.bad H.out (errV_code 7) (below_setRow bel (by omega) _)
 subst k2
 have d1:(((2:Nat):Int) != 2)=false:=by rfl
 obtain ⟨k0,k1,hk2⟩:=list2s HKL.out
 subst hk2
 obtain ⟨g,o,hao,hks⟩:=HK.out (by omega)
 subst hao
 obtain ⟨cs0,hcs0,ht0⟩:=hks.get (i:=0) (k:=k0) rfl
 rw [show 5 * 0=0 from rfl] at hcs0
 rw [Nat.add_zero] at hcs0
 have HT0:Hid (TlAt w k0 cs0):=ht0
 have HC0:Hid (CsAt w g (o) cs0):=hcs0
 have H50:Hid (cs0.length=5):=ht0.five
 have HG0:Hid (GdT k0):=HGd.out.kid (i:=0) rfl
 clear hcs0 ht0
 obtain ⟨cs1,hcs1,ht1⟩:=hks.get (i:=1) (k:=k1) rfl
 rw [show 5 * 1=5 from rfl] at hcs1
 have HT1:Hid (TlAt w k1 cs1):=ht1
 have HC1:Hid (CsAt w g (o + 5) cs1):=hcs1
 have H51:Hid (cs1.length=5):=ht1.five
 have HG1:Hid (GdT k1):=HGd.out.kid (i:=1) rfl
 clear hcs1 ht1
 clear hks
 have HD:Hid (opnD true (.mk c t m b [k0,k1])=((bitD k1).bind sigD).bind fun q=>some (k0,q.1,q.2)):=sgd_two HPl.out
 go_upto_region 3 with fail
 clear d1
 have hld:(loadVar 41 ⟨g,o + 5,none⟩).run Tryz.prog w1=.ok (.agg cs1.toArray) w1:=tlv_load (HC1.out.later bel) H51.out
 have lg:g < w1.heap.size:=(HC1.out.later bel).1
 go_wp2_with (first|((with_reducible show wpList _ _ _ ({ dst:=_,op:=.load _ _,type:=_,pos:=_,after:=_,guard:=_ } :: _) _ _);refine wpList_load_run (by rfl) (by rfl) (by rfl) hld ?_)|fail)
 refine (u_sigOf20 (HG.out.below bel) (HT1.out.later bel) HG1.out).mono ?_
 rintro e w2 ⟨hb,hbad,hok⟩
 replace B0:=B0.later hb
 replace R0:=R0.later hb
 replace bel:=below_step bel hb
 clear hb hld lg e4 l0
 have hz:=zero_sg8.out
 cases hs:(bitD k1).bind sigD with
 | none =>
  obtain ⟨er,her,rfl⟩:=hbad hs
  have H:Hid (opnD true (.mk c t m b [k0,k1])=none):=by show _=_;rw [HD.out,hs];rfl
  have HEr:Hid (ErrV er):=her
  have q:=her.2
  obtain ⟨ty,pv,rfl⟩:=her.1
  clear hok hbad hs her
  replace R0:=R0.alloc (.cells #[.int .u64 0,.int .u64 0,.int .u64 0,.int .u64 0,.int .u64 0,.int .u64 0,.int .u64 0,.int .u64 0,.int .u64 0,.int .u64 0,.int .u64 0,.int .u64 0] 27)
  replace bel:=below_alloc (o:=.cells #[.int .u64 0,.int .u64 0,.int .u64 0,.int .u64 0,.int .u64 0,.int .u64 0,.int .u64 0,.int .u64 0,.int .u64 0,.int .u64 0,.int .u64 0,.int .u64 0] 27) bel
  go_upto_region 4 with (first|((with_reducible show wpList _ _ _ ({ dst:=_,op:=.store _ _ _,type:=_,pos:=_,after:=_,guard:=_ } :: _) _ _);refine wpList_store_row rfl 27 _ _ rfl w2.heap.size #[.int .u64 0,.int .u64 0,.int .u64 0,.int .u64 0,.int .u64 0,.int .u64 0,.int .u64 0,.int .u64 0,.int .u64 0,.int .u64 0,.int .u64 0,.int .u64 0] rfl rfl 27 _ (heap_alloc_last _ _) (by rw [size_sg8];rfl) rfl (by simp [Value.oneCell']) ?_;rw [World.setRow_alloc_new])|fail)
  clear hz
  generalize w2.alloc (.cells #[.int .u64 0,.int .u64 0,.int .u64 0,.int .u64 0,.int .u64 0,.int .u64 0,.int .u64 0,.int .u64 0,.int .u64 0,.int .u64 0,.int .u64 0,.int .u64 0] 27)=V3 at *
  have hz:=zero_sg8.out
  obtain ⟨tR,hR⟩:=R0
  have HR1:Hid _:=hR
  clear hR
  go_wp2_with (first|((with_reducible show wpList _ _ _ ({ dst:=_,op:=.store _ _ _,type:=_,pos:=_,after:=_,guard:=_ } :: _) _ _);refine wpList_store_row rfl 27 _ _ rfl (w.heap.size + 1) #[.int .u64 0,.int .u64 0,.int .u64 0,.int .u64 0,.int .u64 0,.int .u64 0,.int .u64 0,.int .u64 0,.int .u64 0,.int .u64 0,.int .u64 0,.int .u64 0] rfl rfl tR _ HR1.out (by rw [size_sg8];rfl) rfl (by simp [Value.oneCell']) ?_)|fail)
  refine bodyPost_ret (results_tmp_row_tmp rfl _ _ (w.heap.size + 1) tR #[.int .u64 0,.int .u64 0,.int .u64 0,.int .u64 0,.int .u64 0,.int .u64 0,.int .u64 0,.int .u64 0,.int .u64 0,.int .u64 0,.int .u64 0,.int .u64 0] (0,0) _ rfl (setRow_heap _ _ _ _ _ _ HR1.out) Tryz.underlying27 rfl (by rw [size_sg8];rfl)) rfl ?_
  exact SgdO.bad H.out HEr.out (below_setRow bel (by omega) _)
 | some q9 =>
  obtain ⟨x,y⟩:=q9
  obtain ⟨rs,ss,rfl,u1,u2⟩:=hok x y hs
  have H:Hid (opnD true (.mk c t m b [k0,k1])=some (k0,x,y)):=by show _=_;rw [HD.out,hs];rfl
  have HU:Hid (U6 rs x∧U6 ss y):=⟨u1,u2⟩
  obtain ⟨ts,hts⟩:∃ ts,rs++ss=ts:=⟨_,rfl⟩
  have HTs:Hid (rs++ss=ts):=hts
  have HLt:Hid (ts.length=12):=by show _=_;rw [← hts,List.length_append,u1.len,u2.len]
  have HSt:Hid (ts.toArray.size=12):=by show _=_;rw [List.size_toArray];exact HLt.out
  have HOt:Hid (OneR ts):=by rw [← hts];exact u1.ones.app u2.ones
  rw [hts]
  clear hok hbad hs u1 u2 hts
  have lR:=R0.lt
  replace B0:=B0.alloc (.cells ts.toArray 27)
  replace R0:=R0.alloc (.cells ts.toArray 27)
  replace bel:=below_alloc (o:=.cells ts.toArray 27) bel
  have Bs9:=Blk.new w2 ts 27 w2.heap.size rfl
  go_upto_region 4 with (first|((with_reducible show wpList _ _ _ ({ dst:=_,op:=.store _ _ _,type:=_,pos:=_,after:=_,guard:=_ } :: _) _ _);refine wpList_store_row rfl 27 _ _ rfl w2.heap.size ts.toArray rfl rfl 27 _ (heap_alloc_last _ _) (by rw [size_sg8,HSt.out]) (by first|rfl|(rw [HSt.out];rfl)) HOt.out ?_;rw [World.setRow_alloc_new])|fail)
  obtain ⟨gs,hgs⟩:∃ g,g=w2.heap.size:=⟨_,rfl⟩
  rw [← hgs] at Bs9 lR ⊢
  generalize w2.alloc (.cells ts.toArray 27)=V3 at *
  clear hgs
  clear hz
  have HGs:Hid (w.heap.size + 1 < gs):=lR
  clear lR
  have q:=ne_nilL
  have e4:=B0.cell 4 _ rfl
  have l0:=B0.lt
  have hld:(loadVar 41 ⟨g,o,none⟩).run Tryz.prog V3=.ok (.agg cs0.toArray) V3:=tlv_load (HC0.out.later bel) H50.out
  have lg:g < V3.heap.size:=(HC0.out.later bel).1
  go_wp2_with (first|((with_reducible show wpList _ _ _ ({ dst:=_,op:=.load _ _,type:=_,pos:=_,after:=_,guard:=_ } :: _) _ _);refine wpList_load_run (by rfl) (by rfl) (by rfl) hld ?_)|fail)
  refine (c17_Write (HT0.out.later bel) (by have:=HG0.out.2.2.1;omega)).mono ?_
  rintro e w4 ⟨v2,rfl,hv2,hn2,hb⟩
  have HW0:=gd_wr HG0.out
  have HB2:Hid (Bs w4 v2 (bytesT k0)):=by have h:=hv2;unfold wrB at h;rw [if_pos HW0] at h;exact h
  have HN2:Hid (∀ a m c,v2=.slice (some a) m c→0 < m→gs < a.block):=fun a m c e h=>Nat.lt_of_lt_of_le Bs9.lt (hn2 a m c e h)
  rw [HW0,erN_0]
  replace Bs9:=Bs9.later hb
  replace R0:=R0.later hb
  replace bel:=below_step bel hb
  clear hb hv2 hn2 hld lg e4 l0 B0 HW0
  go_upto_region 9 with fail
  clear q

  have hdr:Below w4.heap.size w4 w4.drew:=Below.drew (Below.refl _ _)
  replace Bs9:=Bs9.later hdr
  replace R0:=R0.later hdr
  replace HB2:Hid (Bs w4.drew v2 (bytesT k0)):=HB2.out.later hdr
  replace bel:=below_step bel hdr
  clear hdr
  obtain ⟨S1,hS1,KB1,KI1⟩:∃ S:World→Prop,Hd S w4.drew∧Hid (∀ wx,Hd S wx→Blk wx gs ts)∧Hid (∀ wx,Blk wx gs ts→Hd S wx):=⟨fun wx=>Blk wx gs ts,Bs9,fun _ h=>h,fun _ h=>h⟩
  have rs9:Hid (∀ wx,Hd S1 wx→(loadVar 27 ⟨gs,0,none⟩).run Tryz.prog wx=.ok (.agg ts.toArray) wx):=fun wx h=>(KB1.out wx h).load Tryz.underlying27 rfl size_sg8 HLt.out
  refine wp_region_noPanic ?_
  refine wp_region_held_drew (S:=Hd S1) (by kernel_rfl) hS1 (fun hHeld=>?_)
  clear hS1 Bs9
  generalize World.drew _=wd1 at *
  refine wpAnyH_take (i:=0) (v:=?_) rfl (by kernel_rfl) (by kernel_rfl) (by kernel_rfl) (fun _ _ _ h=>h) (Or.inl ⟨by rfl,?_⟩) (by assumption) ?_
  rotate_left
  ·intro w hSw
   go_simp
   with_reducible rfl
  try simp only [Act.put,List.getElem_toArray,List.getElem_cons_zero,List.getElem_cons_succ,List.setIfInBounds_toArray,List.set_cons_zero,List.set_cons_succ]
  refine wpAnyH_take (i:=1) (v:=.agg ts.toArray) rfl (by kernel_rfl) (by kernel_rfl) (by kernel_rfl) (fun _ _ _ h=>h) (Or.inl ⟨by rfl,fun wx h=>exec_load rfl rfl (rs9.out wx h)⟩) (by assumption) ?_
  try simp only [Act.put,List.getElem_toArray,List.getElem_cons_zero,List.getElem_cons_succ,List.setIfInBounds_toArray,List.set_cons_zero,List.set_cons_succ]
  refine wpAnyH_take (i:=2) (v:=?_) rfl (by kernel_rfl) (by kernel_rfl) (by kernel_rfl) (fun _ _ _ h=>h) (Or.inl ⟨by rfl,?_⟩) (by assumption) ?_
  rotate_left
  ·intro w hSw
   go_simp
   with_reducible rfl
  try simp only [Act.put,List.getElem_toArray,List.getElem_cons_zero,List.getElem_cons_succ,List.setIfInBounds_toArray,List.set_cons_zero,List.set_cons_succ]
  refine wpAnyH_ready (rs:=[3]) (by kernel_rfl) (by simp) ?_
  refine AllReadyH.cons rfl (fun K hK=>?_) ?_
  ·have Y:Blk (wd1.setRow (w.heap.size + 1) ts.toArray) (w.heap.size + 1) ts:=R0.put
   obtain ⟨tR,hR⟩:=R0
   rw [if_pos (by rfl)]
   refine wp_store_row 27 _ _ rfl (w.heap.size + 1) ts.toArray rfl rfl tR _ hR (by rw [size_sg8,HSt.out]) (by rw [HSt.out];rfl) HOt.out ?_
   refine hK.out _ _ ?_ (fun hHeld2=>?_)
   ·exact KI1.out _ ((KB1.out _ hHeld).row (by have:=HGs.out;omega))
   ·clear hK K hHeld hR
    have hHeld:=hHeld2
    clear hHeld2
    try simp only [Act.put,List.getElem_toArray,List.getElem_cons_zero,List.getElem_cons_succ,List.setIfInBounds_toArray,List.set_cons_zero,List.set_cons_succ]
    refine wpAnyH_take (i:=4) (v:=?_) rfl (by kernel_rfl) (by kernel_rfl) (by kernel_rfl) (fun _ _ _ h=>h) (Or.inl ⟨by rfl,?_⟩) (by assumption) ?_
    rotate_left
    ·intro w hSw
     go_simp
     with_reducible rfl
    try simp only [Act.put,List.getElem_toArray,List.getElem_cons_zero,List.getElem_cons_succ,List.setIfInBounds_toArray,List.set_cons_zero,List.set_cons_succ]
    refine wpAnyH_done (by kernel_rfl) ?_ _
    refine NoPanic.normal ?_
    have hbl:=below_setRow bel (show w.heap.size≤w.heap.size + 1 by omega) ts.toArray
    obtain ⟨t9,h9⟩:=Y
    go_wp2_with fail
    refine bodyPost_ret (results_tmp_row_tmp rfl _ _ (w.heap.size + 1) t9 ts.toArray (0,0) _ rfl h9 Tryz.underlying27 rfl (by rw [size_sg8,HSt.out])) rfl ?_
    rw [← HTs.out] at hbl ⊢
    exact SgdO.ok H.out (bs_rowN (N:=gs) HB2.out (fun a m c e h=>by have:=HN2.out a m c e h;omega) HGs.out) (fun a m c e h=>by have:=HN2.out a m c e h;have:=HGs.out;omega) HU.out.1 HU.out.2 hbl
  exact AllReadyH.nil
theorem u_signedOf20 {T:Tl} {cs:List Value} {w:World} (G:GlsO w) (h:TlAt w T cs) (gd:GdT T):Calls Tryz.prog 25 #[.agg cs.toArray] w (SgdO w (opnD true T)):=by
 obtain ⟨c,t,m,b,ks⟩:=T
 exact c20_signedOf G h gd
set_option linter.unusedSimpArgs false in
set_option maxRecDepth 100000 in
set_option maxHeartbeats 2000000 in
theorem con_MSigned {v:Value} {B:List Int} {w:World} (G:GlsO w) (hv:Bs w v B) (b:byt B):Calls Tryz.prog 9 #[v] w (SgnO w B):=by
 have HG:Hid (GlsO w):=G
 have HY:Hid (byt B):=b
 have HV:Hid (Bs w v B):=hv
 obtain ⟨ao,cap,rfl,-,-,-⟩:=hv
 clear b G
 have R0:=Blk.new w [.int .u64 0,.int .u64 0,.int .u64 0,.int .u64 0,.int .u64 0,.int .u64 0,.int .u64 0,.int .u64 0,.int .u64 0,.int .u64 0,.int .u64 0,.int .u64 0] 27 w.heap.size rfl
 have bel:Below w.heap.size w (w.alloc (.cells #[.int .u64 0,.int .u64 0,.int .u64 0,.int .u64 0,.int .u64 0,.int .u64 0,.int .u64 0,.int .u64 0,.int .u64 0,.int .u64 0,.int .u64 0,.int .u64 0] 27)):=(Below.refl _ _).alloc (Nat.le_refl _) _
 have hz:=zero_sg8.out
 go_enter Tryz.func9,Tryz.ntmps9
 go_upto_region 1 with fail
 clear hz
 generalize w.alloc (.cells #[.int .u64 0,.int .u64 0,.int .u64 0,.int .u64 0,.int .u64 0,.int .u64 0,.int .u64 0,.int .u64 0,.int .u64 0,.int .u64 0,.int .u64 0,.int .u64 0] 27)=W at *
 go_wp2_with fail
 refine (con_Parse (HV.out.later bel) HY.out).mono ?_
 rintro e w1 ⟨hok,hbad⟩
 cases hp:parseP B with
 | error q =>
  obtain ⟨c,p⟩:=q
  obtain ⟨cs,er,rfl,htl,her,hfr,hb⟩:=hbad c p hp
  have HP:Hid (parseP B=.error (c,p)):=hp
  have HL5:Hid (cs.length=5):=htl.five
  have HO5:Hid (OneC cs):=htl.ones
  have HS5:Hid (cs.toArray.size=5):=by show _=_;rw [List.size_toArray];exact HL5.out
  clear hok hbad hp
  replace R0:=(R0.later hb).alloc (.cells cs.toArray 41)
  replace bel:=below_alloc (o:=.cells cs.toArray 41) (below_step bel hb)
  have HEr:Hid (ErAt (w1.alloc (.cells cs.toArray 41)) c p er):=her.later ((Below.refl _ _).alloc (Nat.le_refl _) _)
  have q3:=her.ne
  clear her htl hb hfr
  obtain ⟨ty,pv,hev⟩:∃ ty pv,er=.iface ty pv:=by rcases HEr.out with ⟨_,h⟩|⟨_,g,h,_⟩;exact ⟨_,_,h⟩;exact ⟨_,_,h⟩
  subst hev
  have hz:=zero_tlv.out
  go_upto_region 2 with (first|((with_reducible show wpList _ _ _ ({ dst:=_,op:=.store _ _ _,type:=_,pos:=_,after:=_,guard:=_ } :: _) _ _);refine wpList_store_row rfl 41 _ _ rfl w1.heap.size cs.toArray rfl rfl 41 _ (heap_alloc_last _ _) (by rw [size_tlv,HS5.out]) (by rw [HS5.out];rfl) HO5.out ?_;rw [World.setRow_alloc_new])|fail)
  clear hz
  generalize w1.alloc (.cells cs.toArray 41)=V1 at *
  have HRz:Hid (Blk V1 w.heap.size [.int .u64 0,.int .u64 0,.int .u64 0,.int .u64 0,.int .u64 0,.int .u64 0,.int .u64 0,.int .u64 0,.int .u64 0,.int .u64 0,.int .u64 0,.int .u64 0]):=R0
  have hz:=zero_sg8.out
  obtain ⟨tR,hR⟩:=R0
  have HR1:Hid _:=hR
  clear hR
  go_wp2_with (first|((with_reducible show wpList _ _ _ ({ dst:=_,op:=.store _ _ _,type:=_,pos:=_,after:=_,guard:=_ } :: _) _ _);refine wpList_store_row rfl 27 _ _ rfl (w.heap.size) #[.int .u64 0,.int .u64 0,.int .u64 0,.int .u64 0,.int .u64 0,.int .u64 0,.int .u64 0,.int .u64 0,.int .u64 0,.int .u64 0,.int .u64 0,.int .u64 0] rfl rfl tR _ HR1.out (by rw [size_sg8];rfl) rfl (by simp [Value.oneCell']) ?_)|fail)
  refine bodyPost_ret (results_tmp_row_tmp rfl _ _ (w.heap.size) tR #[.int .u64 0,.int .u64 0,.int .u64 0,.int .u64 0,.int .u64 0,.int .u64 0,.int .u64 0,.int .u64 0,.int .u64 0,.int .u64 0,.int .u64 0,.int .u64 0] (0,0) _ rfl (setRow_heap _ _ _ _ _ _ HR1.out) Tryz.underlying27 rfl (by rw [size_sg8];rfl)) rfl ?_
  exact SgnO.bad HP.out (er_rowG HRz.out (by decide) HEr.out) (below_setRow bel (by omega) _)
 | ok T =>
  obtain ⟨cs,rfl,hd,hb⟩:=hok T hp
  have HP:Hid (parseP B=.ok T):=hp
  have HGd:Hid (GdT T):=GdT.of HY.out hp
  have HL5:Hid (cs.length=5):=hd.now.five
  have HO5:Hid (OneC cs):=hd.now.ones
  have HS5:Hid (cs.toArray.size=5):=by show _=_;rw [List.size_toArray];exact HL5.out
  have HT:Hid (TlAt w1 T cs):=hd.now
  replace R0:=R0.later hb
  replace bel:=below_step bel hb
  clear hok hbad hp hd hb
  have hz:=zero_tlv.out
  replace HT:Hid (TlAt (w1.alloc (.cells cs.toArray 41)) T cs):=HT.out.later ((Below.refl _ _).alloc (Nat.le_refl _) _)
  replace R0:=R0.alloc (.cells cs.toArray 41)
  replace bel:=below_alloc (o:=.cells cs.toArray 41) bel
  have Bt:=Blk.new w1 cs 41 w1.heap.size rfl
  go_upto_region 2 with (first|((with_reducible show wpList _ _ _ ({ dst:=_,op:=.store _ _ _,type:=_,pos:=_,after:=_,guard:=_ } :: _) _ _);refine wpList_store_row rfl 41 _ _ rfl w1.heap.size cs.toArray rfl rfl 41 _ (heap_alloc_last _ _) (by rw [size_tlv,HS5.out]) (by first|rfl|(rw [HS5.out];rfl)) HO5.out ?_;rw [World.setRow_alloc_new])|fail)
  obtain ⟨gt,hgt⟩:∃ g,g=w1.heap.size:=⟨_,rfl⟩
  rw [← hgt] at Bt ⊢
  generalize w1.alloc (.cells cs.toArray 41)=V1 at *
  clear hgt
  clear hz
  have q:=ne_nilL
  have l0:=Bt.lt
  have lR:=R0.lt
  have hld:(loadVar 41 ⟨gt,0,none⟩).run Tryz.prog V1=.ok (.agg cs.toArray) V1:=Bt.load Tryz.underlying41 rfl size_tlv HL5.out
  go_wp2_with (first|((with_reducible show wpList _ _ _ ({ dst:=_,op:=.load _ _,type:=_,pos:=_,after:=_,guard:=_ } :: _) _ _);refine wpList_load_run (by rfl) (by rfl) (by rfl) hld ?_)|fail)
  refine (u_signedOf20 (HG.out.below bel) HT.out HGd.out).mono ?_
  rintro e w2 ⟨hb,hbad,hok⟩
  replace R0:=R0.later hb
  have HRl:Hid (w.heap.size < V1.heap.size):=lR
  replace bel:=below_step bel hb
  clear hb hld l0 Bt q lR
  have hz:=zero_sg8.out
  cases hm:opnD true T with
  | none =>
   obtain ⟨er,her,rfl⟩:=hbad hm
   have H:Hid (opnD true T=none):=hm
   have q:=her.2
   obtain ⟨ty,pv,rfl⟩:=her.1
   clear hok hbad hm her
   replace R0:=R0.alloc (.cells #[.int .u64 0,.int .u64 0,.int .u64 0,.int .u64 0,.int .u64 0,.int .u64 0,.int .u64 0,.int .u64 0,.int .u64 0,.int .u64 0,.int .u64 0,.int .u64 0] 27)
   replace bel:=below_alloc (o:=.cells #[.int .u64 0,.int .u64 0,.int .u64 0,.int .u64 0,.int .u64 0,.int .u64 0,.int .u64 0,.int .u64 0,.int .u64 0,.int .u64 0,.int .u64 0,.int .u64 0] 27) bel
   go_upto_region 5 with (first|((with_reducible show wpList _ _ _ ({ dst:=_,op:=.store _ _ _,type:=_,pos:=_,after:=_,guard:=_ } :: _) _ _);refine wpList_store_row rfl 27 _ _ rfl w2.heap.size #[.int .u64 0,.int .u64 0,.int .u64 0,.int .u64 0,.int .u64 0,.int .u64 0,.int .u64 0,.int .u64 0,.int .u64 0,.int .u64 0,.int .u64 0,.int .u64 0] rfl rfl 27 _ (heap_alloc_last _ _) (by rw [size_sg8];rfl) rfl (by simp [Value.oneCell']) ?_;rw [World.setRow_alloc_new])|fail)
   clear hz
   generalize w2.alloc (.cells #[.int .u64 0,.int .u64 0,.int .u64 0,.int .u64 0,.int .u64 0,.int .u64 0,.int .u64 0,.int .u64 0,.int .u64 0,.int .u64 0,.int .u64 0,.int .u64 0] 27)=V2 at *
   have hz:=zero_sg8.out
   obtain ⟨tR,hR⟩:=R0
   have HR1:Hid _:=hR
   clear hR
   go_wp2_with (first|((with_reducible show wpList _ _ _ ({ dst:=_,op:=.store _ _ _,type:=_,pos:=_,after:=_,guard:=_ } :: _) _ _);refine wpList_store_row rfl 27 _ _ rfl (w.heap.size) #[.int .u64 0,.int .u64 0,.int .u64 0,.int .u64 0,.int .u64 0,.int .u64 0,.int .u64 0,.int .u64 0,.int .u64 0,.int .u64 0,.int .u64 0,.int .u64 0] rfl rfl tR _ HR1.out (by rw [size_sg8];rfl) rfl (by simp [Value.oneCell']) ?_)|fail)
   refine bodyPost_ret (results_tmp_row_tmp rfl _ _ (w.heap.size) tR #[.int .u64 0,.int .u64 0,.int .u64 0,.int .u64 0,.int .u64 0,.int .u64 0,.int .u64 0,.int .u64 0,.int .u64 0,.int .u64 0,.int .u64 0,.int .u64 0] (0,0) _ rfl (setRow_heap _ _ _ _ _ _ HR1.out) Tryz.underlying27 rfl (by rw [size_sg8];rfl)) rfl ?_
   exact SgnO.no HP.out H.out (below_setRow bel (by omega) _)
  | some q9 =>
   obtain ⟨U,x,y⟩:=q9
   obtain ⟨v2,rs,ss,rfl,hv2,hn2,u1,u2⟩:=hok U x y hm
   have H:Hid (opnD true T=some (U,x,y)):=hm
   have HU:Hid (U6 rs x∧U6 ss y):=⟨u1,u2⟩
   obtain ⟨ts,hts⟩:∃ ts,rs++ss=ts:=⟨_,rfl⟩
   have HTs:Hid (rs++ss=ts):=hts
   have HLt:Hid (ts.length=12):=by show _=_;rw [← hts,List.length_append,u1.len,u2.len]
   have HSt:Hid (ts.toArray.size=12):=by show _=_;rw [List.size_toArray];exact HLt.out
   have HOt:Hid (OneR ts):=by rw [← hts];exact u1.ones.app u2.ones
   have HB2:Hid (Bs (w2.alloc (.cells ts.toArray 27)) v2 (bytesT U)):=hv2.later ((Below.refl _ _).alloc (Nat.le_refl _) _)
   have HN2:Hid (∀ a m c,v2=.slice (some a) m c→0 < m→V1.heap.size≤a.block):=hn2
   rw [hts]
   clear hok hbad hm u1 u2 hts hv2 hn2
   have lR:=R0.lt
   replace R0:=R0.alloc (.cells ts.toArray 27)
   replace bel:=below_alloc (o:=.cells ts.toArray 27) bel
   have Bs9:=Blk.new w2 ts 27 w2.heap.size rfl
   go_upto_region 5 with (first|((with_reducible show wpList _ _ _ ({ dst:=_,op:=.store _ _ _,type:=_,pos:=_,after:=_,guard:=_ } :: _) _ _);refine wpList_store_row rfl 27 _ _ rfl w2.heap.size ts.toArray rfl rfl 27 _ (heap_alloc_last _ _) (by rw [size_sg8,HSt.out]) (by first|rfl|(rw [HSt.out];rfl)) HOt.out ?_;rw [World.setRow_alloc_new])|fail)
   obtain ⟨gs,hgs⟩:∃ g,g=w2.heap.size:=⟨_,rfl⟩
   rw [← hgs] at Bs9 lR ⊢
   generalize w2.alloc (.cells ts.toArray 27)=V2 at *
   clear hgs
   clear hz
   have HGs:Hid (w.heap.size < gs):=lR
   clear lR
   have q:=ne_nilL
   go_upto_region 7 with fail
   clear q
   have hdr:Below V2.heap.size V2 V2.drew:=Below.drew (Below.refl _ _)
   replace Bs9:=Bs9.later hdr
   replace R0:=R0.later hdr
   replace HB2:Hid (Bs V2.drew v2 (bytesT U)):=HB2.out.later hdr
   replace bel:=below_step bel hdr
   clear hdr
   obtain ⟨S1,hS1,KB1,KI1⟩:∃ S:World→Prop,Hd S V2.drew∧Hid (∀ wx,Hd S wx→Blk wx gs ts)∧Hid (∀ wx,Blk wx gs ts→Hd S wx):=⟨fun wx=>Blk wx gs ts,Bs9,fun _ h=>h,fun _ h=>h⟩
   have rs9:Hid (∀ wx,Hd S1 wx→(loadVar 27 ⟨gs,0,none⟩).run Tryz.prog wx=.ok (.agg ts.toArray) wx):=fun wx h=>(KB1.out wx h).load Tryz.underlying27 rfl size_sg8 HLt.out
   refine wp_region_noPanic ?_
   refine wp_region_held_drew (S:=Hd S1) (by kernel_rfl) hS1 (fun hHeld=>?_)
   clear hS1 Bs9
   generalize World.drew _=wd1 at *
   refine wpAnyH_take (i:=0) (v:=?_) rfl (by kernel_rfl) (by kernel_rfl) (by kernel_rfl) (fun _ _ _ h=>h) (Or.inl ⟨by rfl,?_⟩) (by assumption) ?_
   rotate_left
   ·intro w hSw
    go_simp
    with_reducible rfl
   try simp only [Act.put,List.getElem_toArray,List.getElem_cons_zero,List.getElem_cons_succ,List.setIfInBounds_toArray,List.set_cons_zero,List.set_cons_succ]
   refine wpAnyH_take (i:=1) (v:=.agg ts.toArray) rfl (by kernel_rfl) (by kernel_rfl) (by kernel_rfl) (fun _ _ _ h=>h) (Or.inl ⟨by rfl,fun wx h=>exec_load rfl rfl (rs9.out wx h)⟩) (by assumption) ?_
   try simp only [Act.put,List.getElem_toArray,List.getElem_cons_zero,List.getElem_cons_succ,List.setIfInBounds_toArray,List.set_cons_zero,List.set_cons_succ]
   refine wpAnyH_take (i:=2) (v:=?_) rfl (by kernel_rfl) (by kernel_rfl) (by kernel_rfl) (fun _ _ _ h=>h) (Or.inl ⟨by rfl,?_⟩) (by assumption) ?_
   rotate_left
   ·intro w hSw
    go_simp
    with_reducible rfl
   try simp only [Act.put,List.getElem_toArray,List.getElem_cons_zero,List.getElem_cons_succ,List.setIfInBounds_toArray,List.set_cons_zero,List.set_cons_succ]
   refine wpAnyH_ready (rs:=[3]) (by kernel_rfl) (by simp) ?_
   refine AllReadyH.cons rfl (fun K hK=>?_) ?_
   ·have Y:Blk (wd1.setRow (w.heap.size) ts.toArray) (w.heap.size) ts:=R0.put
    obtain ⟨tR,hR⟩:=R0
    rw [if_pos (by rfl)]
    refine wp_store_row 27 _ _ rfl (w.heap.size) ts.toArray rfl rfl tR _ hR (by rw [size_sg8,HSt.out]) (by rw [HSt.out];rfl) HOt.out ?_
    refine hK.out _ _ ?_ (fun hHeld2=>?_)
    ·exact KI1.out _ ((KB1.out _ hHeld).row (by have:=HGs.out;omega))
    ·clear hK K hHeld hR
     have hHeld:=hHeld2
     clear hHeld2
     try simp only [Act.put,List.getElem_toArray,List.getElem_cons_zero,List.getElem_cons_succ,List.setIfInBounds_toArray,List.set_cons_zero,List.set_cons_succ]
     refine wpAnyH_take (i:=4) (v:=?_) rfl (by kernel_rfl) (by kernel_rfl) (by kernel_rfl) (fun _ _ _ h=>h) (Or.inl ⟨by rfl,?_⟩) (by assumption) ?_
     rotate_left
     ·intro w hSw
      go_simp
      with_reducible rfl
     try simp only [Act.put,List.getElem_toArray,List.getElem_cons_zero,List.getElem_cons_succ,List.setIfInBounds_toArray,List.set_cons_zero,List.set_cons_succ]
     refine wpAnyH_done (by kernel_rfl) ?_ _
     refine NoPanic.normal ?_
     have hbl:=below_setRow bel (show w.heap.size≤w.heap.size by omega) ts.toArray
     obtain ⟨t9,h9⟩:=Y
     go_wp2_with fail
     refine bodyPost_ret (results_tmp_row_tmp rfl _ _ (w.heap.size) t9 ts.toArray (0,0) _ rfl h9 Tryz.underlying27 rfl (by rw [size_sg8,HSt.out])) rfl ?_
     rw [← HTs.out] at hbl ⊢
     exact SgnO.yes HP.out H.out (bs_rowN (N:=V1.heap.size) HB2.out HN2.out HRl.out) HU.out.1 HU.out.2 hbl
   exact AllReadyH.nil
end Go.Proofs.YtnkipgbnnhahbaaGreatDoor
