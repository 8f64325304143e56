/- Lists and plain elements: what manifest answers. Sign: what the program answers. -/
import Derived.Test.YtnkipgbnnhahbaaGreatDoorClWr
import Derived.Test.YtnkipgbnnhahbaaGreatDoorDcOut
import Derived.Test.YtnkipgbnnhahbaaGreatDoorDrDep
import Derived.Test.YtnkipgbnnhahbaaGreatDoorApBs
import Derived.Test.YtnkipgbnnhahbaaGreatDoorCtPl
import Derived.Test.YtnkipgbnnhahbaaGreatDoorCtSig
import Derived.Test.YtnkipgbnnhahbaaGreatDoorCtSeal
import Derived.Test.YtnkipgbnnhahbaaGreatDoorEdDecode
import Derived.Test.YtnkipgbnnhahbaaGreatDoorEdEncode
import Derived.Test.YtnkipgbnnhahbaaGreatDoorRows
import Derived.ChangeArms
import Derived.ChangeOld
import Derived.Lib.ConvBytes
import Derived.Laws.AppendOwn
import Derived.Deep.WholeRow
import Derived.Deep.RegionHeld3
import Derived.Deep.DeepCutAuto
import Derived.Deep.DeepFit
import Derived.Deep.OwnRows
import Derived.Deep.AppendLies
import Derived.Great.BuildSlice
import Derived.Laws.Rows
import Derived.BigQuiet
namespace Go.Proofs.YtnkipgbnnhahbaaGreatDoor
open Go.RowKit
set_option linter.unusedSimpArgs false in
set_option maxRecDepth 100000 in
set_option maxHeartbeats 400000 in
theorem c20_list {ka:Option Addr} {n kc:Nat} {w:World}:Calls Tryz.prog 17 #[.slice ka n kc] w fun e w'=>e=.returned (.agg #[.int .i64 0,.int .i64 16,.bool true,.slice none 0 0,.slice ka n kc])∧Below w.heap.size w w':=by
 have R0:=Blk.new w [.int .i64 0,.int .i64 0,.bool false,.slice none 0 0,.slice none 0 0] 41 w.heap.size rfl
 have bel:Below w.heap.size w (w.alloc (.cells #[.int .i64 0,.int .i64 0,.bool false,.slice none 0 0,.slice none 0 0] 41)):=(Below.refl _ _).alloc (Nat.le_refl _) _
 have hz:=zero_tlv.out
 go_enter Tryz.func17,Tryz.ntmps17
 go_upto_region 1 with fail
 have lW:=bel.size
 generalize w.alloc (.cells #[.int .i64 0,.int .i64 0,.bool false,.slice none 0 0,.slice none 0 0] 41)=W at *
 obtain ⟨tR,hR⟩:=R0
 have HR1:Hid _:=hR
 clear hR
 go_wp2_with (first|((with_reducible show wpList _ _ _ ({ dst:=_,op:=.store _ _ _,type:=_,pos:=_,after:=_,guard:=_ } :: _) _ _);refine wpList_store_row rfl 41 _ _ rfl w.heap.size #[.int .i64 0,.int .i64 16,.bool true,.slice none 0 0,.slice ka n kc] rfl rfl tR _ HR1.out (by rw [size_tlv];rfl) rfl (by simp [Value.oneCell']) ?_)|fail)
 refine bodyPost_ret (results_cell_row rfl _ _ w.heap.size tR #[.int .i64 0,.int .i64 16,.bool true,.slice none 0 0,.slice ka n kc] (0,0) _ rfl (setRow_heap _ _ _ _ _ _ HR1.out) Tryz.underlying41 rfl (by rw [size_tlv];rfl)) rfl ?_
 exact ⟨rfl,below_setRow bel (by omega) _⟩
set_option linter.unusedSimpArgs false in
set_option maxRecDepth 100000 in
set_option maxHeartbeats 400000 in
theorem c20_plain {t:Int} {ka:Option Addr} {n kc:Nat} {w:World}:Calls Tryz.prog 39 #[.int .i64 t,.slice ka n kc] w fun e w'=>e=.returned (.agg #[.int .i64 0,.int .i64 t,.bool false,.slice ka n kc,.slice none 0 0])∧Below w.heap.size w w':=by
 have R0:=Blk.new w [.int .i64 0,.int .i64 0,.bool false,.slice none 0 0,.slice none 0 0] 41 w.heap.size rfl
 have bel:Below w.heap.size w (w.alloc (.cells #[.int .i64 0,.int .i64 0,.bool false,.slice none 0 0,.slice none 0 0] 41)):=(Below.refl _ _).alloc (Nat.le_refl _) _
 have hz:=zero_tlv.out
 go_enter Tryz.func39,Tryz.ntmps39
 go_upto_region 1 with fail
 have lW:=bel.size
 generalize w.alloc (.cells #[.int .i64 0,.int .i64 0,.bool false,.slice none 0 0,.slice none 0 0] 41)=W at *
 obtain ⟨tR,hR⟩:=R0
 have HR1:Hid _:=hR
 clear hR
 go_wp2_with (first|((with_reducible show wpList _ _ _ ({ dst:=_,op:=.store _ _ _,type:=_,pos:=_,after:=_,guard:=_ } :: _) _ _);refine wpList_store_row rfl 41 _ _ rfl w.heap.size #[.int .i64 0,.int .i64 t,.bool false,.slice ka n kc,.slice none 0 0] rfl rfl tR _ HR1.out (by rw [size_tlv];rfl) rfl (by simp [Value.oneCell']) ?_)|fail)
 refine bodyPost_ret (results_cell_row rfl _ _ w.heap.size tR #[.int .i64 0,.int .i64 t,.bool false,.slice ka n kc,.slice none 0 0] (0,0) _ rfl (setRow_heap _ _ _ _ _ _ HR1.out) Tryz.underlying41 rfl (by rw [size_tlv];rfl)) rfl ?_
 exact ⟨rfl,below_setRow bel (by omega) _⟩
set_option linter.unusedSimpArgs false in
set_option maxRecDepth 100000 in
set_option maxHeartbeats 1000000 in
theorem c20_wholeBits {v:Value} {b:List Int} {w:World} (hv:Bs w v b) (hl:b.length≤1000000000):Calls Tryz.prog 18 #[v] w fun e w'=>∃ cs:List Value,e=.returned (.agg cs.toArray)∧Dep (fun g=>w.heap.size≤g) w' (.mk 0 3 false (0 :: b) []) cs∧Below w.heap.size w w':=by
 have HV:Hid (Bs w v b):=hv
 obtain ⟨ao,cap,rfl,-,-,-⟩:=hv
 obtain ⟨L,hL⟩:∃ L,b.length=L:=⟨_,rfl⟩
 have HL:Hid (b.length=L):=hL
 rw [hL] at HV hl ⊢
 clear hL
 have R0:=Blk.new w [.int .i64 0,.int .i64 0,.bool false,.slice none 0 0,.slice none 0 0] 41 w.heap.size rfl
 have bel:Below w.heap.size w (w.alloc (.cells #[.int .i64 0,.int .i64 0,.bool false,.slice none 0 0,.slice none 0 0] 41)):=(Below.refl _ _).alloc (Nat.le_refl _) _
 have hz:=zero_tlv.out
 go_enter Tryz.func18,Tryz.ntmps18
 go_upto_region 1 with fail
 have lW:=bel.size
 generalize w.alloc (.cells #[.int .i64 0,.int .i64 0,.bool false,.slice none 0 0,.slice none 0 0] 41)=W at *
 have lR:=R0.lt
 obtain ⟨N0,hN0⟩:∃ n,n=W.heap.size:=⟨_,rfl⟩
 rw [← hN0] at lR lW
 have hs:N0≤W.heap.size:=by omega
 clear hz
 have ow0:(W.alloc (.cells (u8s [0]).toArray 5)).ownsRow N0 5 1 (.slice (some ⟨W.heap.size,0,none⟩) 1 1) 1 (u8s [0]):=own_made W (u8s [0]) 5 1 N0 rfl hs (by decide)
 have HB2:Hid (Bs (W.alloc (.cells (u8s [0]).toArray 5)) (.slice ao L cap) b):=(HV.out.later bel).later ((Below.refl _ _).alloc (Nat.le_refl _) _)
 have bel0:Below w.heap.size w (W.alloc (.cells (u8s [0]).toArray 5)):=below_alloc bel
 have R1:Blk (W.alloc (.cells (u8s [0]).toArray 5)) w.heap.size [.int .i64 0,.int .i64 0,.bool false,.slice none 0 0,.slice none 0 0]:=R0.alloc _
 clear R0
 go_wp2_with (first|(at_builtin;refine wpList_append_bs (by rfl) _ _ (by rfl) N0 _ 1 [0] (by rfl) ow0 _ b (by rfl) HB2.out (by rw [HL.out];omega) (by simp;omega) ?_;intro v8 we own8 hgrow hat;rw [HL.out] at own8;obtain ⟨fa,fc,hfv⟩:=own_slE own8;subst hfv)|fail)
 have R0:Blk we w.heap.size [.int .i64 0,.int .i64 0,.bool false,.slice none 0 0,.slice none 0 0]:=R1.grown hgrow (fun k hk e=>by have:=(own_geK ow0 hk).1;omega)
 have hsz:=bel0.size
 replace bel:Below w.heap.size w we:=Below.grown bel0 hgrow hsz (fun k hk=>by have:=(own_geK ow0 hk).1;omega)
 have HD3:Hid (Dep (fun g=>N0≤g) we (.mk 0 3 false (0 :: b) []) [.int .i64 0,.int .i64 3,.bool false,.slice fa (1 + L) fc,.slice none 0 0]):=leaf_own (S:=fun g=>N0≤g) (b:=0 :: b) own8 (by rw [List.length_cons,HL.out];omega) (fun g hg=>(own_geK own8 hg).1) 0 3 false
 clear ow0 HB2 own8 hgrow hat bel0 R1 hsz
 refine c20_plain.mono ?_
 rintro e w4 ⟨rfl,hb⟩
 replace HD3:Hid (Dep (fun g=>N0≤g) w4 (.mk 0 3 false (0 :: b) []) [.int .i64 0,.int .i64 3,.bool false,.slice fa (1 + L) fc,.slice none 0 0]):=HD3.out.next (Agr.below hb) (fun _ h _=>h)
 replace R0:=R0.later hb
 replace bel:=below_step bel hb
 clear hb
 obtain ⟨tR,hR⟩:=R0
 have HR1:Hid _:=hR
 clear hR
 go_wp2_with (first|((with_reducible show wpList _ _ _ ({ dst:=_,op:=.store _ _ _,type:=_,pos:=_,after:=_,guard:=_ } :: _) _ _);refine wpList_store_row rfl 41 _ _ rfl w.heap.size #[.int .i64 0,.int .i64 3,.bool false,.slice fa (1 + L) fc,.slice none 0 0] rfl rfl tR _ HR1.out (by rw [size_tlv];rfl) rfl (by simp [Value.oneCell']) ?_)|fail)
 refine bodyPost_ret (results_cell_row rfl _ _ w.heap.size tR #[.int .i64 0,.int .i64 3,.bool false,.slice fa (1 + L) fc,.slice none 0 0] (0,0) _ rfl (setRow_heap _ _ _ _ _ _ HR1.out) Tryz.underlying41 rfl (by rw [size_tlv];rfl)) rfl ?_
 exact ⟨_,rfl,dep_ret HD3.out lR lW,below_setRow bel (by omega) _⟩
/-- what Encode tells -/
def SgnR20 (w:World) (B:List Int) (r s:Int) (e:Ending) (w':World):Prop:=Below w.heap.size w w'∧(∀ c p,parseP B=.error (c,p)→∃ er:Value,e=.returned (.tuple #[.slice none 0 0,er])∧ErAt w' c p er)∧(∀ T,parseP B=.ok T→¬ (isSc r∧isSc s)→e=.returned (.tuple #[.slice none 0 0,erN 3]))∧(∀ T,parseP B=.ok T→isSc r∧isSc s→∃ (v:Value) (X Y x y:List Int),SigB r s X Y x y∧e=.returned (.tuple #[v,erN (wrN (sealP true T (bytesT (sigT x y))))])∧Bs w' v (wrB (sealP true T (bytesT (sigT x y)))))
theorem SgnR20.bad {w w':World} {B:List Int} {r s:Int} {c p:Nat} {er:Value} (h:parseP B=.error (c,p)) (k:ErAt w' c p er) (hb:Below w.heap.size w w'):SgnR20 w B r s (.returned (.tuple #[.slice none 0 0,er])) w':=⟨hb,fun c' p' q=>(by rw [h] at q;cases q;exact ⟨er,rfl,k⟩),fun T q=>(by rw [h] at q;cases q),fun T q=>(by rw [h] at q;cases q)⟩
theorem SgnR20.no {w w':World} {B:List Int} {r s:Int} {T:Tl} (h:parseP B=.ok T) (k:¬ (isSc r∧isSc s)) (hb:Below w.heap.size w w'):SgnR20 w B r s (.returned (.tuple #[.slice none 0 0,.iface 46 (.int .i64 3)])) w':=⟨hb,fun c' p' q=>(by rw [h] at q;cases q),fun T q _=>rfl,fun T q q2=>absurd q2 k⟩
theorem SgnR20.yes {w w':World} {B:List Int} {r s:Int} {T:Tl} {v:Value} {X Y x y:List Int} (h:parseP B=.ok T) (k:isSc r∧isSc s) (hS:SigB r s X Y x y) (hv:Bs w' v (wrB (sealP true T (bytesT (sigT x y))))) (hb:Below w.heap.size w w'):SgnR20 w B r s (.returned (.tuple #[v,erN (wrN (sealP true T (bytesT (sigT x y))))])) w':=⟨hb,fun c' p' q=>(by rw [h] at q;cases q),fun T q q2=>absurd k q2,fun T' q _=>(by rw [h] at q;cases q;exact ⟨v,X,Y,x,y,hS,rfl,hv⟩)⟩
set_option linter.unusedSimpArgs false in
set_option maxRecDepth 100000 in
set_option maxHeartbeats 4000000 in
theorem con_MSign {v:Value} {B:List Int} {rs ss:List Value} {r s:Int} {w:World} (G:GlsO w) (hv:Bs w v B) (b:byt B) (hr:U6 rs r) (hs:U6 ss s) :
  Calls Tryz.prog 6 #[v,.agg (rs++ss).toArray] w (SgnR20 w B r s):=by
 have HG:Hid (GlsO w):=G
 have HY:Hid (byt B):=b
 have HV:Hid (Bs w v B):=hv
 have HR:Hid (U6 rs r):=hr
 have HS:Hid (U6 ss s):=hs
 obtain ⟨ts,hts⟩:∃ ts,rs++ss=ts:=⟨_,rfl⟩
 have HT:Hid (rs++ss=ts):=hts
 have HLt:Hid (ts.length=12):=by show _=_;rw [← hts,List.length_append,hr.len,hs.len]
 obtain ⟨ao,cap,rfl,h1,h2,h3⟩:=hv
 rw [hts]
 clear G b h1 h2 h3 hr hs hts
 have B0:=Blk.new w ts 27 w.heap.size rfl
 have bel:Below w.heap.size w (w.alloc (.cells ts.toArray 27)):=(Below.refl _ _).alloc (Nat.le_refl _) _
 go_enter Tryz.func6,Tryz.ntmps6
 go_upto_region 1 with fail
 generalize w.alloc (.cells ts.toArray 27)=W at *
 go_wp2_with fail
 refine (con_Parse (HV.out.later bel) HY.out).mono ?_
 rintro e w1 ⟨hok,hbad⟩
 cases hp:parseP B with
 | error q =>
  obtain ⟨c,p⟩:=q
  obtain ⟨cs,er,rfl,htl,her,hfr,hb⟩:=hbad c p hp
  have HP:Hid (parseP B=.error (c,p)):=hp
  have HL5:Hid (cs.length=5):=htl.five
  have HO5:Hid (OneC cs):=htl.ones
  clear hok hbad hp B0
  replace bel:=below_alloc (o:=.cells cs.toArray 41) (below_step bel hb)
  have HEr:Hid (ErAt (w1.alloc (.cells cs.toArray 41)) c p er):=her.later ((Below.refl _ _).alloc (Nat.le_refl _) _)
  have q3:=her.ne
  clear her htl hb hfr
  obtain ⟨ty,pv,hev⟩:∃ ty pv,er=.iface ty pv:=by rcases HEr.out with ⟨_,h⟩|⟨_,g,h,_⟩;exact ⟨_,_,h⟩;exact ⟨_,_,h⟩
  subst hev
  have HS5:Hid (cs.toArray.size=5):=by show _=_;rw [List.size_toArray];exact HL5.out
  have hz:=zero_tlv.out
  go_wp2_with (first|((with_reducible show wpList _ _ _ ({ dst:=_,op:=.store _ _ _,type:=_,pos:=_,after:=_,guard:=_ } :: _) _ _);refine wpList_store_row rfl 41 _ _ rfl w1.heap.size cs.toArray rfl rfl 41 _ (heap_alloc_last _ _) (by rw [size_tlv,HS5.out]) (by rw [HS5.out];rfl) HO5.out ?_;rw [World.setRow_alloc_new])|fail)
  refine bodyPost_ret (results_tmp2 rfl _ _ _) rfl ?_
  exact SgnR20.bad HP.out HEr.out bel
 | ok T =>
  obtain ⟨cs,rfl,hd,hb⟩:=hok T hp
  have H:Hid (parseP B=.ok T):=hp
  obtain ⟨N0,hN0⟩:∃ n,n=W.heap.size:=⟨_,rfl⟩
  have HL5:Hid (cs.length=5):=hd.now.five
  have HO5:Hid (OneC cs):=hd.now.ones
  have hb1:Below w1.heap.size w1 (w1.alloc (.cells cs.toArray 41)):=(Below.refl _ _).alloc (Nat.le_refl _) _
  have HD1:Hid (Dep (fun g=>N0≤g) (w1.alloc (.cells cs.toArray 41)) T cs):=by rw [hN0];exact hd.next (Agr.below hb1) (fun _ h _=>h)
  have hs:N0≤(w1.alloc (.cells cs.toArray 41)).heap.size:=by rw [hN0];exact Nat.le_trans hb.size hb1.size
  replace B0:=(B0.later hb).later hb1
  replace bel:=below_step (below_step bel hb) hb1
  clear hok hbad hp hd hb hb1 hN0
  have B1:=Blk.new w1 cs 41 w1.heap.size rfl
  have HS5:Hid (cs.toArray.size=5):=by show _=_;rw [List.size_toArray];exact HL5.out
  have hz:=zero_tlv.out
  go_upto_region 2 with (first|((with_reducible show wpList _ _ _ ({ dst:=_,op:=.store _ _ _,type:=_,pos:=_,after:=_,guard:=_ } :: _) _ _);refine wpList_store_row rfl 41 _ _ rfl w1.heap.size cs.toArray rfl rfl 41 _ (heap_alloc_last _ _) (by rw [size_tlv,HS5.out]) (by rw [HS5.out];rfl) HO5.out ?_;rw [World.setRow_alloc_new])|fail)
  clear hz
  obtain ⟨gt,hgt⟩:∃ g,g=w1.heap.size:=⟨_,rfl⟩
  rw [← hgt] at B1 ⊢
  generalize w1.alloc (.cells cs.toArray 41)=V1 at *
  clear hgt HS5 HO5
  have q3:=ne_nilL
  have l0:=B0.lt
  have hld:(loadVar 27 ⟨w.heap.size,0,none⟩).run Tryz.prog V1=.ok (.agg ts.toArray) V1:=B0.load Tryz.underlying27 rfl size_sgL HLt.out
  go_wp2_with (first|((with_reducible show wpList _ _ _ ({ dst:=_,op:=.load _ _,type:=_,pos:=_,after:=_,guard:=_ } :: _) _ _);refine wpList_load_run (by rfl) (by rfl) (by rfl) hld ?_)|fail)
  refine (uEncT (HG.out.below bel) HR.out HS.out HT.out).mono ?_
  rintro e w2 he
  clear hld l0 B0
  by_cases hsc:isSc r∧isSc s
  rotate_left
  ·obtain ⟨xo,xc,rfl,hb⟩:=he.1 hsc
   have HX:Hid (¬ (isSc r∧isSc s)):=hsc
   replace bel:=below_step bel hb
   have q4:=ne_codeL 3
   clear he hsc hb
   unfold codeV
   go_wp2_with fail
   refine bodyPost_ret (results_tmp2 rfl _ _ _) rfl ?_
   exact SgnR20.no H.out HX.out bel
  obtain ⟨sv,rfl,hsv,hb⟩:=he.2 hsc.1 hsc.2
  have HX:Hid (isSc r∧isSc s):=hsc
  obtain ⟨X,Y,x,y,hSB,lx,ly⟩:=sigB_some hsc
  have HSB:Hid (SigB r s X Y x y):=hSB
  have HSl0:=sig_len lx ly
  have HBs0:=hsv X Y x y hSB.1 hSB.2.1 hSB.2.2.1 hSB.2.2.2
  obtain ⟨sg,hsg⟩:∃ z,bytesT (sigT x y)=z:=⟨_,rfl⟩
  have HSg:Hid (bytesT (sigT x y)=sg):=hsg
  rw [hsg] at HSl0 HBs0
  have HSl:Hid (sg.length≤200):=HSl0
  have HBs:Hid (Bs w2 sv sg):=HBs0
  replace HD1:Hid (Dep (fun g=>N0≤g) w2 T cs):=HD1.out.next (Agr.below hb) (fun _ h _=>h)
  replace B1:=B1.later hb
  replace hs:N0≤w2.heap.size:=Nat.le_trans hs hb.size
  replace bel:=below_step bel hb
  obtain ⟨sa,sc,hsv2,-,-,-⟩:=id HBs0
  obtain ⟨SL,hSL⟩:∃ z,sg.length=z:=⟨_,rfl⟩
  rw [hSL] at hsv2
  subst hsv2
  clear he hsc hb hsv hSB lx ly HSl0 HBs0 hsg hSL
  go_upto_region 7 with fail
  obtain ⟨jt,hjt,ht0,ht1,ht2⟩:=info_partsD info_tlv
  obtain ⟨S1,hS1,KB1,KI1,KD1,KL1,KA1⟩:∃ S:World→Prop,Hd S w2∧Hid (∀ wx,Hd S wx→Below w2.heap.size w2 wx)∧Hid (∀ wx,Below w2.heap.size w2 wx→Hd S wx)∧Hid (∀ wx,Hd S wx→Hd S wx.drew)∧Hid (∀ w1 w2,Hd S w1→Below w1.heap.size w1 w2→Hd S w2)∧Hid (∀ w1 o,Hd S w1→Hd S (w1.alloc o)):=⟨fun wx=>Below w2.heap.size w2 wx,Below.refl _ _,fun _ h=>h,fun _ h=>h,fun wx h=>Below.drew h,fun w1 w2 h hb=>below_step h hb,fun w1 o h=>Below.alloc h h.size o⟩
  have R1:Hid (∀ wx,Hd S1 wx→(loadVar 41 ⟨gt,0,none⟩).run Tryz.prog wx=.ok (.agg cs.toArray) wx):=fun wx h=>(B1.later (KB1.out wx h)).load Tryz.underlying41 rfl size_tlv HL5.out
  have hz:=zero_tlv.out
  have HZ:Hid (Sm 1050000 (sealP true T sg)):=sm_seal HY.out H.out HSl.out
  refine wp_region_noPanic ?_
  refine wp_region_held_drew (S:=Hd S1) (by kernel_rfl) (KD1.out _ hS1) (fun hHeld=>?_)
  clear hS1
  generalize World.drew _=wd1 at *
  refine wpAnyH_take (i:=0) (v:=.agg cs.toArray) rfl (by kernel_rfl) (by kernel_rfl) (by kernel_rfl) (fun _ _ _ h=>h) (Or.inl ⟨by rfl,fun wx h=>exec_load rfl rfl (R1.out wx h)⟩) (by assumption) ?_
  try simp only [Act.put,List.getElem_toArray,List.getElem_cons_zero,List.getElem_cons_succ,List.setIfInBounds_toArray,List.set_cons_zero,List.set_cons_succ]
  refine wpAnyH_take (i:=1) (v:=?_) rfl (by kernel_rfl) (by kernel_rfl) (by kernel_rfl) (fun _ _ _ h=>h) (Or.inl ⟨by rfl,?_⟩) (by assumption) ?_
  rotate_left
  ·intro w hSw
   go_simp
   with_reducible rfl
  try simp only [Act.put,List.getElem_toArray,List.getElem_cons_zero,List.getElem_cons_succ,List.setIfInBounds_toArray,List.set_cons_zero,List.set_cons_succ]
  refine wpAnyH_ready (rs:=[2]) (by kernel_rfl) (by simp) ?_
  refine AllReadyH.cons rfl (fun K hK=>?_) ?_
  ·have HB0:Hid (Below w2.heap.size w2 wd1):=KB1.out _ hHeld
   go_simp
   refine (c20_wholeBits (HBs.out.later HB0.out) (by have:=HSl.out;omega)).mono ?_
   rintro e z3 ⟨ds,rfl,hd,hb⟩
   refine hK.out _ _ ?_ (fun hHeld2=>?_)
   ·exact KL1.out _ _ hHeld hb
   ·clear hK K
    try clear hHeld
    have hHeld:=hHeld2
    clear hHeld2
    try simp only [Act.put,List.getElem_toArray,List.getElem_cons_zero,List.getElem_cons_succ,List.setIfInBounds_toArray,List.set_cons_zero,List.set_cons_succ]
    have hDs:Dep (fun g=>N0≤g) z3 (Tl.mk 0 3 false (0 :: sg) []) ds:=hd.next (Agr.refl _ _) (fun _ h _=>Nat.le_trans (Nat.le_trans hs HB0.out.size) h)
    have HLd:Hid (ds.length=5):=hd.now.five
    clear hb hd HB0
    refine wpAnyH_ready (rs:=[3]) (by kernel_rfl) (by simp) ?_
    refine AllReadyH.cons rfl (fun K hK=>?_) ?_
    ·have HB0:Hid (Below w2.heap.size w2 z3):=KB1.out _ hHeld
     rw [if_pos (by rfl)]
     refine wp_buildSlice 39 41 2 _ rfl ((cs++ds)).toArray jt _ Tryz.underlying39 hjt ht0 (by rw [ht1];decide) (by rw [ht1];decide) (by rw [ht1];refine (congrArg _ (?_:_=[(0,Value.agg cs.toArray),(1,.agg ds.toArray)])).trans (fill_10 HL5.out HLd.out);kernel_rfl) ?_
     refine hK.out _ _ ?_ (fun hHeld2=>?_)
     ·exact KA1.out _ _ hHeld
     ·clear hK K
      try clear hHeld
      have hHeld:=hHeld2
      clear hHeld2
      try simp only [Act.put,List.getElem_toArray,List.getElem_cons_zero,List.getElem_cons_succ,List.setIfInBounds_toArray,List.set_cons_zero,List.set_cons_succ]
      have hD8:Dep (fun g=>N0≤g) (z3.alloc (.cells ((cs++ds)).toArray 41)) (sealP true T sg) [.int .i64 0,.int .i64 16,.bool true,.slice none 0 0,.slice (some ⟨z3.heap.size,0,none⟩) 2 2]:=list_dep (ks:=[T,Tl.mk 0 3 false (0 :: sg) []]) (by rw [List.length_append,HL5.out,HLd.out];rfl) (Nat.le_trans hs HB0.out.size) (by show 2≤maxLen;decide) (two_kids (P:=Dep (fun g=>N0≤g) z3) (HD1.out.next (Agr.below HB0.out) (fun _ h _=>h)) hDs HL5.out HLd.out) 0 16 true
      obtain ⟨g8,hg9⟩:∃ g,g=z3.heap.size:=⟨_,rfl⟩
      rw [← hg9] at hD8 ⊢
      clear hg9 HB0 hDs
      generalize (z3.alloc (.cells ((cs++ds)).toArray 41))=z4 at *
      refine wpAnyH_ready (rs:=[4]) (by kernel_rfl) (by simp) ?_
      refine AllReadyH.cons rfl (fun K hK=>?_) ?_
      ·go_simp
       refine c20_list.mono ?_
       rintro e z5 ⟨rfl,hb⟩
       refine hK.out _ _ ?_ (fun hHeld2=>?_)
       ·exact KL1.out _ _ hHeld hb
       ·clear hK K
        try clear hHeld
        have hHeld:=hHeld2
        clear hHeld2
        try simp only [Act.put,List.getElem_toArray,List.getElem_cons_zero,List.getElem_cons_succ,List.setIfInBounds_toArray,List.set_cons_zero,List.set_cons_succ]
        replace hD8:Dep (fun g=>N0≤g) z5 (sealP true T sg) [.int .i64 0,.int .i64 16,.bool true,.slice none 0 0,.slice (some ⟨g8,0,none⟩) 2 2]:=hD8.next (Agr.below hb) (fun _ h _=>h)
        clear hb
        refine wpAnyH_ready (rs:=[5]) (by kernel_rfl) (by simp) ?_
        refine AllReadyH.cons rfl (fun K hK=>?_) ?_
        ·go_simp
         refine (c17_Write hD8.now (by have:=HZ.out.1;omega)).mono ?_
         rintro e z6 ⟨v9,rfl,hv9,-,hb⟩
         refine hK.out _ _ ?_ (fun hHeld2=>?_)
         ·exact KL1.out _ _ hHeld hb
         ·clear hK K
          try clear hHeld
          have hHeld:=hHeld2
          clear hHeld2
          try simp only [Act.put,List.getElem_toArray,List.getElem_cons_zero,List.getElem_cons_succ,List.setIfInBounds_toArray,List.set_cons_zero,List.set_cons_succ]
          have HBd:Hid (Bs z6 v9 (wrB (sealP true T sg))):=hv9
          clear hb hv9 hD8
          obtain ⟨ER,hER⟩:∃ z,erN (wrN (sealP true T sg))=z:=⟨_,rfl⟩
          have HER:Hid (erN (wrN (sealP true T sg))=ER):=hER
          rw [hER]
          clear hER
          refine wpAnyH_take (i:=6) (v:=?_) rfl (by kernel_rfl) (by kernel_rfl) (by kernel_rfl) (fun _ _ _ h=>h) (Or.inl ⟨by rfl,?_⟩) (by assumption) ?_
          rotate_left
          ·intro w hSw
           go_simp
           with_reducible rfl
          try simp only [Act.put,List.getElem_toArray,List.getElem_cons_zero,List.getElem_cons_succ,List.setIfInBounds_toArray,List.set_cons_zero,List.set_cons_succ]
          refine wpAnyH_take (i:=7) (v:=?_) rfl (by kernel_rfl) (by kernel_rfl) (by kernel_rfl) (fun _ _ _ h=>h) (Or.inl ⟨by rfl,?_⟩) (by assumption) ?_
          rotate_left
          ·intro w hSw
           go_simp
           with_reducible rfl
          try simp only [Act.put,List.getElem_toArray,List.getElem_cons_zero,List.getElem_cons_succ,List.setIfInBounds_toArray,List.set_cons_zero,List.set_cons_succ]
          refine wpAnyH_ready (rs:=[8]) (by kernel_rfl) (by simp) ?_
          refine AllReadyH.cons rfl (fun K hK=>?_) ?_
          ·go_simp
           refine hK.out _ _ ?_ (fun hHeld2=>?_)
           ·exact hHeld
           ·clear hK K
            try clear hHeld
            have hHeld:=hHeld2
            clear hHeld2
            try simp only [Act.put,List.getElem_toArray,List.getElem_cons_zero,List.getElem_cons_succ,List.setIfInBounds_toArray,List.set_cons_zero,List.set_cons_succ]
            refine wpAnyH_ready (rs:=[9]) (by kernel_rfl) (by simp) ?_
            refine AllReadyH.cons rfl (fun K hK=>?_) ?_
            ·go_simp
             refine hK.out _ _ ?_ (fun hHeld2=>?_)
             ·exact hHeld
             ·clear hK K
              try clear hHeld
              have hHeld:=hHeld2
              clear hHeld2
              try simp only [Act.put,List.getElem_toArray,List.getElem_cons_zero,List.getElem_cons_succ,List.setIfInBounds_toArray,List.set_cons_zero,List.set_cons_succ]
              refine wpAnyH_done (by kernel_rfl) ?_ _
              refine NoPanic.normal ?_
              replace bel:=below_step bel (KB1.out _ hHeld)
              clear hHeld
              go_wp2_with fail
              refine bodyPost_ret (results_tmp2 rfl _ _ _) rfl ?_
              have HW9:Hid (ER=erN (wrN (sealP true T (bytesT (sigT x y))))):=by show _=_;rw [HSg.out];exact HER.out.symm
              rw [HW9.out]
              exact SgnR20.yes H.out HX.out HSB.out (by rw [HSg.out];exact HBd.out) bel
            exact AllReadyH.nil
          exact AllReadyH.nil
        exact AllReadyH.nil
      exact AllReadyH.nil
    exact AllReadyH.nil
  exact AllReadyH.nil
end Go.Proofs.YtnkipgbnnhahbaaGreatDoor
