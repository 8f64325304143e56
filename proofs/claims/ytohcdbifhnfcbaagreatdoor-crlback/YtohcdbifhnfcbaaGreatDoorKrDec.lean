/- Decode: what crl answers. -/
import Derived.Test.YtohcdbifhnfcbaaGreatDoorKrOf
import Derived.Test.YtohcdbifhnfcbaaGreatDoorDcG3
import Derived.Test.YtohcdbifhnfcbaaGreatDoorRows
import Derived.Deep.OwnRows
import Derived.Deep.AppendLies
import Derived.Great.BuildSlice
import Derived.Laws.Rows
import Derived.BigQuiet
import Derived.Deep.MidRow
import Derived.Deep.WholeRow
import Derived.Deep.RegionHeld3
import Derived.Deep.DeepCutAuto
import Derived.Deep.DeepFit
namespace Go.Proofs.YtohcdbifhnfcbaaGreatDoor
open Go.RowKit
theorem u_crlOf {T:Tl} {cs:List Value} {w:World} (G:GlsO w) (h:TlAt w T cs) (gd:GdT T):Calls Tryz.prog 15 #[.agg cs.toArray] w (CrO w (crD T)):=by
 obtain ⟨c,t,m,b,ks⟩:=T
 exact c18_crlOf G h gd
/-- an error that is new is none of the result's block -/
theorem ErAt.row8 {w:World} {c p N g:Nat} {er:Value} {X:Array Value} (h:ErAt w c p er) (k:ErFresh N er) (hg:g < N):ErAt (w.setRow g X) c p er:=by
 rcases h with h|⟨h1,g',h2,h3⟩
 ·exact .inl h
 ·exact .inr ⟨h1,g',h2,h3.row (by have:=k g' h2;omega)⟩
/-- what Decode tells -/
def DecO8 (w:World) (B:List Int) (e:Ending) (w':World):Prop:=Below w.heap.size w w'∧(∀ c p,parseP B=.error (c,p)→∃ er:Value,e=.returned (.tuple #[.agg z8.toArray,er])∧ErAt w' c p er)∧(∀ T,parseP B=.ok T→crD T=none→e=.returned (.tuple #[.agg z8.toArray,.iface 46 (.int .i64 7)]))∧(∀ T C,parseP B=.ok T→crD T=some C→∃ cs:List Value,e=.returned (.tuple #[.agg cs.toArray,.nilIface])∧StN w.heap.size w' (fun w2=>CrAt w2 C cs))
theorem DecO8.bad {w w':World} {B:List Int} {c p:Nat} {er:Value} (h:parseP B=.error (c,p)) (k:ErAt w' c p er) (hb:Below w.heap.size w w'):DecO8 w B (.returned (.tuple #[.agg z8.toArray,er])) w':=⟨hb,fun c' p' q=>(by rw [h] at q;cases q;exact ⟨er,rfl,k⟩),fun T q=>(by rw [h] at q;cases q),fun T C q=>(by rw [h] at q;cases q)⟩
theorem DecO8.form {w w':World} {B:List Int} {T:Tl} (h:parseP B=.ok T) (k:crD T=none) (hb:Below w.heap.size w w'):DecO8 w B (.returned (.tuple #[.agg z8.toArray,.iface 46 (.int .i64 7)])) w':=⟨hb,fun c p q=>(by rw [h] at q;cases q),fun _ _ _=>rfl,fun T' C q r=>(by rw [h] at q;cases q;rw [k] at r;cases r)⟩
theorem DecO8.ok {w w':World} {B:List Int} {T:Tl} {C:Cr} {cs:List Value} (h:parseP B=.ok T) (k:crD T=some C) (hs:StN w.heap.size w' (fun w2=>CrAt w2 C cs)) (hb:Below w.heap.size w w'):DecO8 w B (.returned (.tuple #[.agg cs.toArray,.nilIface])) w':=⟨hb,fun c p q=>(by rw [h] at q;cases q),fun T' q r=>(by rw [h] at q;cases q;rw [k] at r;cases r),fun T' C' q r=>(by rw [h] at q;cases q;rw [k] at r;cases r;exact ⟨cs,rfl,hs⟩)⟩
set_option linter.unusedSimpArgs false in
set_option maxRecDepth 100000 in
set_option maxHeartbeats 4000000 in
theorem con_KDecode {v:Value} {B:List Int} {w:World} (G:GlsO w) (hv:Bs w v B) (b:byt B):Calls Tryz.prog 6 #[v] w (DecO8 w B):=by
 have HG:Hid (GlsO w):=G
 have HY:Hid (byt B):=b
 have HV:Hid (Bs w v B):=hv
 obtain ⟨ao,cap,rfl,-,-,-⟩:=hv
 clear G b
 have R0:=Blk.new w z8 33 w.heap.size rfl
 have bel:Below w.heap.size w (w.alloc (.cells z8.toArray 33)):=(Below.refl _ _).alloc (Nat.le_refl _) _
 have hz:=zero_cr8.out
 go_enter Tryz.func6,Tryz.ntmps6
 go_upto_region 1 with fail
 clear hz
 have RW0:w.heap.size < (w.alloc (.cells z8.toArray 33)).heap.size:=R0.lt
 generalize w.alloc (.cells z8.toArray 33)=W at *
 go_wp2_with fail
 refine (con_Parse (HV.out.later bel) HY.out).mono ?_
 rintro e w1 ⟨hok,hbad⟩
 cases hp:parseP B with
 | error q9 =>
  obtain ⟨c,p⟩:=q9
  obtain ⟨cs,er,rfl,htl,her,hfr,hb⟩:=hbad c p hp
  have HP:Hid (parseP B=.error (c,p)):=hp
  have HL5:Hid (cs.length=5):=htl.five
  have HO5:Hid (OneC cs):=htl.ones
  have HEr:Hid (ErAt w1 c p er):=her
  have HFr:Hid (ErFresh W.heap.size er):=hfr
  replace R0:=R0.later hb
  replace bel:=below_step bel hb
  have HRw:Hid (w.heap.size < W.heap.size):=RW0
  have q3:=her.ne
  clear hok hbad hp htl her hb hfr
  obtain ⟨ty,pv,hev⟩:∃ ty pv,er=.iface ty pv:=by rcases HEr.out with ⟨_,h⟩|⟨_,g,h,_⟩;exact ⟨_,_,h⟩;exact ⟨_,_,h⟩
  subst hev
  have HS5:Hid (cs.toArray.size=5):=by show _=_;rw [List.size_toArray];exact HL5.out
  have hz:=zero_tlv.out
  have hbx:Below w1.heap.size w1 (w1.alloc (.cells cs.toArray 53)):=(Below.refl _ _).alloc (Nat.le_refl _) _
  replace R0:=R0.later hbx
  replace bel:=below_step bel hbx
  have Bt:=Blk.new w1 cs 53 w1.heap.size rfl
  replace HEr:Hid (ErAt (w1.alloc (.cells cs.toArray 53)) c p (.iface ty pv)):=HEr.out.later hbx
  go_upto_region 2 with (first|((with_reducible show wpList _ _ _ ({ dst:=_,op:=.store _ _ _,type:=_,pos:=_,after:=_,guard:=_ } :: _) _ _);refine wpList_store_row rfl 53 _ _ rfl w1.heap.size cs.toArray rfl rfl 53 _ (heap_alloc_last _ _) (by rw [size_tlv,HS5.out]) (by rw [HS5.out];rfl) HO5.out ?_;rw [World.setRow_alloc_new])|fail)
  clear hz HS5 hbx
  obtain ⟨gt,hgt⟩:∃ z,z=w1.heap.size:=⟨_,rfl⟩
  rw [← hgt] at Bt ⊢
  generalize w1.alloc (.cells cs.toArray 53)=V1 at *
  clear hgt
  clear Bt
  have hz:=zero_cr8.out
  obtain ⟨tR,hR⟩:=R0
  have HR1:Hid _:=hR
  clear hR
  go_wp2_with (first|((with_reducible show wpList _ _ _ ({ dst:=_,op:=.store _ _ _,type:=_,pos:=_,after:=_,guard:=_ } :: _) _ _);refine wpList_store_row rfl 33 _ _ rfl (w.heap.size) z8.toArray rfl rfl tR _ HR1.out (by rw [size_crU,z8_size]) (by first|rfl|(rw [z8_size];rfl)) z8_ones ?_)|fail)
  refine bodyPost_ret (results_row_tmp rfl _ _ (w.heap.size) tR z8.toArray (0,0) _ rfl (setRow_heap _ _ _ _ _ _ HR1.out) Tryz.underlying33 rfl (by rw [size_crU,z8_size])) rfl ?_
  exact DecO8.bad HP.out (HEr.out.row8 HFr.out HRw.out) (below_setRow bel (by omega) _)
 | ok T =>
  obtain ⟨cs,rfl,hd,hb⟩:=hok T hp
  have HP:Hid (parseP B=.ok T):=hp
  have HGd:Hid (GdT T):=GdT.of HY.out hp
  have HL5:Hid (cs.length=5):=hd.now.five
  have HO5:Hid (OneC cs):=hd.now.ones
  have HT:Hid (TlAt w1 T cs):=hd.now
  replace R0:=R0.later hb
  replace bel:=below_step bel hb
  clear hok hbad hp hd hb
  have HS5:Hid (cs.toArray.size=5):=by show _=_;rw [List.size_toArray];exact HL5.out
  have hz:=zero_tlv.out
  have hbx:Below w1.heap.size w1 (w1.alloc (.cells cs.toArray 53)):=(Below.refl _ _).alloc (Nat.le_refl _) _
  replace R0:=R0.later hbx
  replace bel:=below_step bel hbx
  have Bt:=Blk.new w1 cs 53 w1.heap.size rfl
  replace HT:Hid (TlAt (w1.alloc (.cells cs.toArray 53)) T cs):=HT.out.later hbx
  go_upto_region 2 with (first|((with_reducible show wpList _ _ _ ({ dst:=_,op:=.store _ _ _,type:=_,pos:=_,after:=_,guard:=_ } :: _) _ _);refine wpList_store_row rfl 53 _ _ rfl w1.heap.size cs.toArray rfl rfl 53 _ (heap_alloc_last _ _) (by rw [size_tlv,HS5.out]) (by rw [HS5.out];rfl) HO5.out ?_;rw [World.setRow_alloc_new])|fail)
  clear hz HS5 hbx
  obtain ⟨gt,hgt⟩:∃ z,z=w1.heap.size:=⟨_,rfl⟩
  rw [← hgt] at Bt ⊢
  generalize w1.alloc (.cells cs.toArray 53)=V1 at *
  clear hgt
  have q:=ne_nilL
  have l0:=Bt.lt
  have HSV:Hid (w.heap.size < V1.heap.size):=R0.lt
  have hld:(loadVar 53 ⟨gt,0,none⟩).run Tryz.prog V1=.ok (.agg cs.toArray) V1:=Bt.load Tryz.underlying53 rfl size_tlv HL5.out
  go_wp2_with (first|((with_reducible show wpList _ _ _ ({ dst:=_,op:=.load _ _,type:=_,pos:=_,after:=_,guard:=_ } :: _) _ _);refine wpList_load_run (by rfl) (by rfl) (by rfl) hld ?_)|fail)
  refine (u_crlOf (HG.out.below bel) HT.out HGd.out).mono ?_
  rintro e w2 ⟨hb,hbad,hok⟩
  replace R0:=R0.later hb
  replace bel:=below_step bel hb
  clear hld l0 Bt q HT
  cases hx:crD T with
  | none =>
   obtain ⟨er,her,rfl⟩:=hbad hx
   have H:Hid (crD T=none):=hx
   have HEr:Hid (ErrV er):=her
   obtain ⟨ty,pv,rfl⟩:=her.1
   clear hok hbad hx her hb
   have hz:=zero_cr8.out
   have Cv:=Blk.new w2 z8 33 w2.heap.size rfl
   have hbx:Below w2.heap.size w2 (w2.alloc (.cells z8.toArray 33)):=(Below.refl _ _).alloc (Nat.le_refl _) _
   replace R0:=R0.later hbx
   replace bel:=below_step bel hbx
   go_upto_region 5 with (first|((with_reducible show wpList _ _ _ ({ dst:=_,op:=.store _ _ _,type:=_,pos:=_,after:=_,guard:=_ } :: _) _ _);refine wpList_store_row rfl 33 _ _ rfl w2.heap.size z8.toArray rfl rfl 33 _ (heap_alloc_last _ _) (by rw [size_crU,z8_size]) (by first|rfl|(rw [z8_size];rfl)) z8_ones ?_;rw [World.setRow_alloc_new])|fail)
   clear hz hbx
   obtain ⟨gc,hgc⟩:∃ z,z=w2.heap.size:=⟨_,rfl⟩
   rw [← hgc] at Cv ⊢
   generalize w2.alloc (.cells z8.toArray 33)=V2 at *
   clear hgc
   clear Cv
   have q:=HEr.out.2
   have hz:=zero_cr8.out
   obtain ⟨tR,hR⟩:=R0
   have HR1:Hid _:=hR
   clear hR
   go_wp2_with (first|((with_reducible show wpList _ _ _ ({ dst:=_,op:=.store _ _ _,type:=_,pos:=_,after:=_,guard:=_ } :: _) _ _);refine wpList_store_row rfl 33 _ _ rfl (w.heap.size) z8.toArray rfl rfl tR _ HR1.out (by rw [size_crU,z8_size]) (by first|rfl|(rw [z8_size];rfl)) z8_ones ?_)|fail)
   refine bodyPost_ret (results_row_tmp rfl _ _ (w.heap.size) tR z8.toArray (0,0) _ rfl (setRow_heap _ _ _ _ _ _ HR1.out) Tryz.underlying33 rfl (by rw [size_crU,z8_size])) rfl ?_
   exact DecO8.form HP.out H.out (below_setRow bel (by omega) _)
  | some C =>
   obtain ⟨cc,rfl,hst⟩:=hok C hx
   have H:Hid (crD T=some C):=hx
   obtain ⟨NC,hNC⟩:∃ z,z=V1.heap.size:=⟨_,rfl⟩
   rw [← hNC] at hst HSV
   have HSt:Hid (StN NC w2 (fun w9=>CrAt w9 C cc)):=hst
   have HL17:Hid (cc.length=17):=(hst _ (Agr.refl _ _)).len
   have HO17:Hid (OneC cc):=(hst _ (Agr.refl _ _)).ones
   have HS17:Hid (cc.toArray.size=17):=by show _=_;rw [List.size_toArray];exact HL17.out
   clear hok hbad hx hst hb
   have hz:=zero_cr8.out
   have Cv:=Blk.new w2 cc 33 w2.heap.size rfl
   have hbx:Below w2.heap.size w2 (w2.alloc (.cells cc.toArray 33)):=(Below.refl _ _).alloc (Nat.le_refl _) _
   replace R0:=R0.later hbx
   replace bel:=below_step bel hbx
   replace HSt:Hid (StN NC (w2.alloc (.cells cc.toArray 33)) (fun w9=>CrAt w9 C cc)):=HSt.out.below hbx
   go_upto_region 5 with (first|((with_reducible show wpList _ _ _ ({ dst:=_,op:=.store _ _ _,type:=_,pos:=_,after:=_,guard:=_ } :: _) _ _);refine wpList_store_row rfl 33 _ _ rfl w2.heap.size cc.toArray rfl rfl 33 _ (heap_alloc_last _ _) (by rw [size_crU,HS17.out]) (by first|rfl|(rw [HS17.out];rfl)) HO17.out ?_;rw [World.setRow_alloc_new])|fail)
   clear hz hbx
   obtain ⟨gc,hgc⟩:∃ z,z=w2.heap.size:=⟨_,rfl⟩
   rw [← hgc] at Cv ⊢
   generalize w2.alloc (.cells cc.toArray 33)=V2 at *
   clear hgc
   have q:=ne_nilL
   have hldc:(loadVar 33 ⟨gc,0,none⟩).run Tryz.prog V2=.ok (.agg cc.toArray) V2:=Cv.load Tryz.underlying33 rfl size_crU HL17.out
   have lc:=Cv.lt
   obtain ⟨tR,hR⟩:=R0
   have HR1:Hid _:=hR
   clear hR
   go_wp2_with (first|((with_reducible show wpList _ _ _ ({ dst:=_,op:=.load _ _,type:=_,pos:=_,after:=_,guard:=_ } :: _) _ _);refine wpList_load_run (by rfl) (by rfl) (by rfl) hldc ?_)|((with_reducible show wpList _ _ _ ({ dst:=_,op:=.store _ _ _,type:=_,pos:=_,after:=_,guard:=_ } :: _) _ _);refine wpList_store_row rfl 33 _ _ rfl w.heap.size cc.toArray rfl rfl tR _ HR1.out (by rw [size_crU,HS17.out]) (by rw [HS17.out];rfl) HO17.out ?_)|fail)
   refine bodyPost_ret (results_row_tmp rfl _ _ w.heap.size tR cc.toArray (0,0) _ rfl (setRow_heap _ _ _ _ _ _ HR1.out) Tryz.underlying33 rfl (by rw [size_crU,HS17.out])) rfl ?_
   exact DecO8.ok HP.out H.out ((HSt.out.row (by have:=HSV.out;omega)).less (by have:=HSV.out;omega)) (below_setRow bel (by omega) _)
end Go.Proofs.YtohcdbifhnfcbaaGreatDoor
