/- Decode: what the program answers. -/
import Derived.Test.YtnkipgbnnhahbaaGreatDoorMfOf
import Derived.Test.YtnkipgbnnhahbaaGreatDoorEdDecode
import Derived.Test.YtnkipgbnnhahbaaGreatDoorDcOut
import Derived.Test.YtnkipgbnnhahbaaGreatDoorClWr
import Derived.Test.YtnkipgbnnhahbaaGreatDoorCtSig
import Derived.Test.YtnkipgbnnhahbaaGreatDoorRows
import Derived.Deep.OwnRows
import Derived.Deep.AppendLies
import Derived.Great.BuildSlice
import Derived.Laws.Rows
import Derived.BigQuiet
import Derived.Deep.WholeRow
import Derived.Deep.RegionHeld3
import Derived.Deep.DeepCutAuto
import Derived.Deep.DeepFit
namespace Go.Proofs.YtnkipgbnnhahbaaGreatDoor
open Go.RowKit
/-- what Decode tells -/
def MDecR (w:World) (B:List Int) (e:Ending) (w':World):Prop:=Below w.heap.size w w'∧(∀ c p,parseP B=.error (c,p)→∃ er:Value,e=.returned (.tuple #[.agg #[.int .i64 0,.int .i64 0,.int .i64 0,.int .i64 0,.slice none 0 0,.slice none 0 0,.slice none 0 0],er])∧ErAt w' c p er)∧(∀ T,parseP B=.ok T→mfD T=none→e=.returned (.tuple #[.agg #[.int .i64 0,.int .i64 0,.int .i64 0,.int .i64 0,.slice none 0 0,.slice none 0 0,.slice none 0 0],.iface 46 (.int .i64 7)]))∧(∀ T m,parseP B=.ok T→mfD T=some m→∃ cs:List Value,e=.returned (.tuple #[.agg cs.toArray,.nilIface])∧MfAt w' m cs)
theorem MDecR.bad {w w':World} {B:List Int} {c p:Nat} {er:Value} (h:parseP B=.error (c,p)) (k:ErAt w' c p er) (hb:Below w.heap.size w w'):MDecR w B (.returned (.tuple #[.agg #[.int .i64 0,.int .i64 0,.int .i64 0,.int .i64 0,.slice none 0 0,.slice none 0 0,.slice none 0 0],er])) w':=⟨hb,fun c' p' q=>(by rw [h] at q;cases q;exact ⟨er,rfl,k⟩),fun T q=>(by rw [h] at q;cases q),fun T m q=>(by rw [h] at q;cases q)⟩
theorem MDecR.no {w w':World} {B:List Int} {T:Tl} (h:parseP B=.ok T) (k:mfD T=none) (hb:Below w.heap.size w w'):MDecR w B (.returned (.tuple #[.agg #[.int .i64 0,.int .i64 0,.int .i64 0,.int .i64 0,.slice none 0 0,.slice none 0 0,.slice none 0 0],.iface 46 (.int .i64 7)])) w':=⟨hb,fun c' p' q=>(by rw [h] at q;cases q),fun T q _=>rfl,fun T' m q q2=>(by rw [h] at q;cases q;rw [k] at q2;cases q2)⟩
theorem MDecR.yes {w w':World} {B:List Int} {T:Tl} {m:Mf} {cs:List Value} (h:parseP B=.ok T) (k:mfD T=some m) (hv:MfAt w' m cs) (hb:Below w.heap.size w w'):MDecR w B (.returned (.tuple #[.agg cs.toArray,.nilIface])) w':=⟨hb,fun c' p' q=>(by rw [h] at q;cases q),fun T' q q2=>(by rw [h] at q;cases q;rw [k] at q2;cases q2),fun T' m' q q2=>(by rw [h] at q;cases q;rw [k] at q2;cases q2;exact ⟨cs,rfl,hv⟩)⟩
theorem u_manifestOf {T:Tl} {cs:List Value} {w:World} (h:TlAt w T cs) (gd:GdT T):Calls Tryz.prog 31 #[.agg cs.toArray] w (MfO w (mfD T)):=by
 obtain ⟨c,t,m,b,ks⟩:=T
 exact c20_manifestOf h gd
theorem bs_row7 {w:World} {g:Nat} {v:Value} {B:List Int} {X:Array Value} (R:Blk w g [.int .i64 0,.int .i64 0,.int .i64 0,.int .i64 0,.slice none 0 0,.slice none 0 0,.slice none 0 0]) (h:Bs w v B):Bs (w.setRow g X) v B:=by
 refine bs_agrC (S:=fun b=>b≠g) h (fun a m c e hm=>?_) ((Agr.refl _ _).row (by simp))
 intro he
 obtain ⟨ao,cap,rfl,-,-,h3⟩:=h
 simp only [Value.slice.injEq] at e
 obtain ⟨rfl,rfl,rfl⟩:=e
 obtain ⟨b,o,e2,-,h4⟩:=h3 hm
 simp only [Option.some.injEq] at e2
 subst e2
 simp only at he
 subst he
 have k:=h4 0 hm
 obtain ⟨t,ht⟩:=R
 simp only [World.cell?,ht] at k
 match o,k with
 | 0,k=>simp at k
 | 1,k=>simp at k
 | 2,k=>simp at k
 | 3,k=>simp at k
 | 4,k=>simp at k
 | 5,k=>simp at k
 | 6,k=>simp at k
 | n + 7,k=>simp at k
theorem mf_row7 {w:World} {g:Nat} {m:Mf} {cs:List Value} {X:Array Value} (R:Blk w g [.int .i64 0,.int .i64 0,.int .i64 0,.int .i64 0,.slice none 0 0,.slice none 0 0,.slice none 0 0]) (h:MfAt w m cs):MfAt (w.setRow g X) m cs:=by
 obtain ⟨nv,wv,dv,rfl,h1,h2,h3⟩:=h
 exact ⟨nv,wv,dv,rfl,bs_row7 R h1,bs_row7 R h2,bs_row7 R h3⟩
theorem er_row7 {w:World} {g c p:Nat} {er:Value} {X:Array Value} (R:Blk w g [.int .i64 0,.int .i64 0,.int .i64 0,.int .i64 0,.slice none 0 0,.slice none 0 0,.slice none 0 0]) (h:ErAt w c p er):ErAt (w.setRow g X) c p er:=by
 rcases h with h|⟨hc,k,rfl,B⟩
 ·exact .inl h
 ·refine .inr ⟨hc,k,rfl,B.row (fun e=>?_)⟩
  subst e
  obtain ⟨t,ht⟩:=R
  obtain ⟨s,hs⟩:=B
  rw [ht] at hs
  simp at hs
theorem MfAt.ones {w:World} {m:Mf} {cs:List Value} (h:MfAt w m cs):OneC cs:=by
 obtain ⟨nv,wv,dv,rfl,⟨_,_,rfl,-⟩,⟨_,_,rfl,-⟩,⟨_,_,rfl,-⟩⟩:=h
 simp [OneC,Value.oneCell']
set_option linter.unusedSimpArgs false in
set_option maxRecDepth 100000 in
set_option maxHeartbeats 2000000 in
theorem con_MDecode {v:Value} {B:List Int} {w:World} (hv:Bs w v B) (b:byt B):Calls Tryz.prog 12 #[v] w (MDecR w B):=by
 have HY:Hid (byt B):=b
 have HV:Hid (Bs w v B):=hv
 obtain ⟨ao,cap,rfl,-,-,-⟩:=hv
 clear b
 have R0:=Blk.new w [.int .i64 0,.int .i64 0,.int .i64 0,.int .i64 0,.slice none 0 0,.slice none 0 0,.slice none 0 0] 49 w.heap.size rfl
 have bel:Below w.heap.size w (w.alloc (.cells #[.int .i64 0,.int .i64 0,.int .i64 0,.int .i64 0,.slice none 0 0,.slice none 0 0,.slice none 0 0] 49)):=(Below.refl _ _).alloc (Nat.le_refl _) _
 have hz:=zero_mf.out
 go_enter Tryz.func12,Tryz.ntmps12
 go_upto_region 1 with fail
 clear hz
 generalize w.alloc (.cells #[.int .i64 0,.int .i64 0,.int .i64 0,.int .i64 0,.slice none 0 0,.slice none 0 0,.slice none 0 0] 49)=W at *
 go_wp2_with fail
 refine (con_Parse (HV.out.later bel) HY.out).mono ?_
 rintro e w1 ⟨hok,hbad⟩
 cases hp:parseP B with
 | error q =>
  obtain ⟨c,p⟩:=q
  obtain ⟨cs,er,rfl,htl,her,hfr,hb⟩:=hbad c p hp
  have HP:Hid (parseP B=.error (c,p)):=hp
  have HL5:Hid (cs.length=5):=htl.five
  have HO5:Hid (OneC cs):=htl.ones
  have HS5:Hid (cs.toArray.size=5):=by show _=_;rw [List.size_toArray];exact HL5.out
  clear hok hbad hp
  replace R0:=(R0.later hb).alloc (.cells cs.toArray 41)
  replace bel:=below_alloc (o:=.cells cs.toArray 41) (below_step bel hb)
  have HEr:Hid (ErAt (w1.alloc (.cells cs.toArray 41)) c p er):=her.later ((Below.refl _ _).alloc (Nat.le_refl _) _)
  have q3:=her.ne
  clear her htl hb hfr
  obtain ⟨ty,pv,hev⟩:∃ ty pv,er=.iface ty pv:=by rcases HEr.out with ⟨_,h⟩|⟨_,g,h,_⟩;exact ⟨_,_,h⟩;exact ⟨_,_,h⟩
  subst hev
  have hz:=zero_tlv.out
  go_upto_region 2 with (first|((with_reducible show wpList _ _ _ ({ dst:=_,op:=.store _ _ _,type:=_,pos:=_,after:=_,guard:=_ } :: _) _ _);refine wpList_store_row rfl 41 _ _ rfl w1.heap.size cs.toArray rfl rfl 41 _ (heap_alloc_last _ _) (by rw [size_tlv,HS5.out]) (by rw [HS5.out];rfl) HO5.out ?_;rw [World.setRow_alloc_new])|fail)
  clear hz
  generalize w1.alloc (.cells cs.toArray 41)=V1 at *
  have hz:=zero_mf.out
  have HRz:Hid (Blk V1 w.heap.size [.int .i64 0,.int .i64 0,.int .i64 0,.int .i64 0,.slice none 0 0,.slice none 0 0,.slice none 0 0]):=R0
  obtain ⟨tR,hR⟩:=R0
  have HR1:Hid _:=hR
  clear hR
  go_wp2_with (first|((with_reducible show wpList _ _ _ ({ dst:=_,op:=.store _ _ _,type:=_,pos:=_,after:=_,guard:=_ } :: _) _ _);refine wpList_store_row rfl 49 _ _ rfl (w.heap.size) #[.int .i64 0,.int .i64 0,.int .i64 0,.int .i64 0,.slice none 0 0,.slice none 0 0,.slice none 0 0] rfl rfl tR _ HR1.out (by rw [size_mf];rfl) rfl (by simp [Value.oneCell']) ?_)|fail)
  refine bodyPost_ret (results_row_tmp rfl _ _ (w.heap.size) tR #[.int .i64 0,.int .i64 0,.int .i64 0,.int .i64 0,.slice none 0 0,.slice none 0 0,.slice none 0 0] (0,0) _ rfl (setRow_heap _ _ _ _ _ _ HR1.out) Tryz.underlying49 rfl (by rw [size_mf];rfl)) rfl ?_
  exact MDecR.bad HP.out (er_row7 HRz.out HEr.out) (below_setRow bel (by omega) _)
 | ok T =>
  obtain ⟨cs,rfl,hd,hb⟩:=hok T hp
  have HP:Hid (parseP B=.ok T):=hp
  have HGd:Hid (GdT T):=GdT.of HY.out hp
  have HL5:Hid (cs.length=5):=hd.now.five
  have HO5:Hid (OneC cs):=hd.now.ones
  have HS5:Hid (cs.toArray.size=5):=by show _=_;rw [List.size_toArray];exact HL5.out
  have HT:Hid (TlAt w1 T cs):=hd.now
  replace R0:=R0.later hb
  replace bel:=below_step bel hb
  clear hok hbad hp hd hb
  have hz:=zero_tlv.out
  replace HT:Hid (TlAt (w1.alloc (.cells cs.toArray 41)) T cs):=HT.out.later ((Below.refl _ _).alloc (Nat.le_refl _) _)
  replace R0:=R0.alloc (.cells cs.toArray 41)
  replace bel:=below_alloc (o:=.cells cs.toArray 41) bel
  have Bt:=Blk.new w1 cs 41 w1.heap.size rfl
  go_upto_region 2 with (first|((with_reducible show wpList _ _ _ ({ dst:=_,op:=.store _ _ _,type:=_,pos:=_,after:=_,guard:=_ } :: _) _ _);refine wpList_store_row rfl 41 _ _ rfl w1.heap.size cs.toArray rfl rfl 41 _ (heap_alloc_last _ _) (by rw [size_tlv,HS5.out]) (by first|rfl|(rw [HS5.out];rfl)) HO5.out ?_;rw [World.setRow_alloc_new])|fail)
  obtain ⟨gt,hgt⟩:∃ g,g=w1.heap.size:=⟨_,rfl⟩
  rw [← hgt] at Bt ⊢
  generalize w1.alloc (.cells cs.toArray 41)=V1 at *
  clear hgt
  clear hz
  have q:=ne_nilL
  have l0:=Bt.lt
  have hld:(loadVar 41 ⟨gt,0,none⟩).run Tryz.prog V1=.ok (.agg cs.toArray) V1:=Bt.load Tryz.underlying41 rfl size_tlv HL5.out
  go_wp2_with (first|((with_reducible show wpList _ _ _ ({ dst:=_,op:=.load _ _,type:=_,pos:=_,after:=_,guard:=_ } :: _) _ _);refine wpList_load_run (by rfl) (by rfl) (by rfl) hld ?_)|fail)
  refine (u_manifestOf HT.out HGd.out).mono ?_
  rintro e w2 ⟨hb,hbad,hok⟩
  replace R0:=R0.later hb
  replace bel:=below_step bel hb
  clear hb hld l0 Bt q
  have hz:=zero_mf.out
  cases hm:mfD T with
  | none =>
   obtain ⟨er,her,rfl⟩:=hbad hm
   have H:Hid (mfD T=none):=hm
   have q:=her.2
   obtain ⟨ty,pv,rfl⟩:=her.1
   clear hok hbad hm her
   replace R0:=R0.alloc (.cells #[.int .i64 0,.int .i64 0,.int .i64 0,.int .i64 0,.slice none 0 0,.slice none 0 0,.slice none 0 0] 49)
   replace bel:=below_alloc (o:=.cells #[.int .i64 0,.int .i64 0,.int .i64 0,.int .i64 0,.slice none 0 0,.slice none 0 0,.slice none 0 0] 49) bel
   go_upto_region 5 with (first|((with_reducible show wpList _ _ _ ({ dst:=_,op:=.store _ _ _,type:=_,pos:=_,after:=_,guard:=_ } :: _) _ _);refine wpList_store_row rfl 49 _ _ rfl w2.heap.size #[.int .i64 0,.int .i64 0,.int .i64 0,.int .i64 0,.slice none 0 0,.slice none 0 0,.slice none 0 0] rfl rfl 49 _ (heap_alloc_last _ _) (by rw [size_mf];rfl) rfl (by simp [Value.oneCell']) ?_;rw [World.setRow_alloc_new])|fail)
   generalize w2.alloc (.cells #[.int .i64 0,.int .i64 0,.int .i64 0,.int .i64 0,.slice none 0 0,.slice none 0 0,.slice none 0 0] 49)=V2 at *
   obtain ⟨tR,hR⟩:=R0
   have HR1:Hid _:=hR
   clear hR
   go_wp2_with (first|((with_reducible show wpList _ _ _ ({ dst:=_,op:=.store _ _ _,type:=_,pos:=_,after:=_,guard:=_ } :: _) _ _);refine wpList_store_row rfl 49 _ _ rfl (w.heap.size) #[.int .i64 0,.int .i64 0,.int .i64 0,.int .i64 0,.slice none 0 0,.slice none 0 0,.slice none 0 0] rfl rfl tR _ HR1.out (by rw [size_mf];rfl) rfl (by simp [Value.oneCell']) ?_)|fail)
   refine bodyPost_ret (results_row_tmp rfl _ _ (w.heap.size) tR #[.int .i64 0,.int .i64 0,.int .i64 0,.int .i64 0,.slice none 0 0,.slice none 0 0,.slice none 0 0] (0,0) _ rfl (setRow_heap _ _ _ _ _ _ HR1.out) Tryz.underlying49 rfl (by rw [size_mf];rfl)) rfl ?_
   exact MDecR.no HP.out H.out (below_setRow bel (by omega) _)
  | some m =>
   obtain ⟨es,rfl,hv⟩:=hok m hm
   have H:Hid (mfD T=some m):=hm
   have HL7:Hid (es.length=7):=hv.len
   have HS7:Hid (es.toArray.size=7):=by show _=_;rw [List.size_toArray];exact HL7.out
   have HO7:Hid (OneC es):=hv.ones
   have HM:Hid (MfAt (w2.alloc (.cells es.toArray 49)) m es):=hv.later ((Below.refl _ _).alloc (Nat.le_refl _) _)
   clear hok hbad hm hv
   replace R0:=R0.alloc (.cells es.toArray 49)
   replace bel:=below_alloc (o:=.cells es.toArray 49) bel
   have Bc:=Blk.new w2 es 49 w2.heap.size rfl
   go_upto_region 5 with (first|((with_reducible show wpList _ _ _ ({ dst:=_,op:=.store _ _ _,type:=_,pos:=_,after:=_,guard:=_ } :: _) _ _);refine wpList_store_row rfl 49 _ _ rfl w2.heap.size es.toArray rfl rfl 49 _ (heap_alloc_last _ _) (by rw [size_mf,HS7.out]) (by first|rfl|(rw [HS7.out];rfl)) HO7.out ?_;rw [World.setRow_alloc_new])|fail)
   obtain ⟨gc,hgc⟩:∃ g,g=w2.heap.size:=⟨_,rfl⟩
   rw [← hgc] at Bc ⊢
   generalize w2.alloc (.cells es.toArray 49)=V2 at *
   clear hgc
   clear hz
   have HRz:Hid (Blk V2 w.heap.size [.int .i64 0,.int .i64 0,.int .i64 0,.int .i64 0,.slice none 0 0,.slice none 0 0,.slice none 0 0]):=R0
   have q:=ne_nilL
   have l0:=Bc.lt
   have hld:(loadVar 49 ⟨gc,0,none⟩).run Tryz.prog V2=.ok (.agg es.toArray) V2:=Bc.load Tryz.underlying49 rfl size_mf HL7.out
   obtain ⟨tR,hR⟩:=R0
   have HR1:Hid _:=hR
   clear hR
   go_wp2_with (first|((with_reducible show wpList _ _ _ ({ dst:=_,op:=.load _ _,type:=_,pos:=_,after:=_,guard:=_ } :: _) _ _);refine wpList_load_run (by rfl) (by rfl) (by rfl) hld ?_)|((with_reducible show wpList _ _ _ ({ dst:=_,op:=.store _ _ _,type:=_,pos:=_,after:=_,guard:=_ } :: _) _ _);refine wpList_store_row rfl 49 _ _ rfl (w.heap.size) es.toArray rfl rfl tR _ HR1.out (by rw [size_mf,HS7.out]) (by first|rfl|(rw [HS7.out];rfl)) HO7.out ?_)|fail)
   refine bodyPost_ret (results_row_tmp rfl _ _ (w.heap.size) tR es.toArray (0,0) _ rfl (setRow_heap _ _ _ _ _ _ HR1.out) Tryz.underlying49 rfl (by rw [size_mf,HS7.out])) rfl ?_
   exact MDecR.yes HP.out H.out (mf_row7 HRz.out HM.out) (below_setRow bel (by omega) _)
end Go.Proofs.YtnkipgbnnhahbaaGreatDoor
