/- The law ManifestDecodes. -/
import Derived.Test.YtnkipgbnnhahbaaDoorMfRead
import Derived.Test.YtnkipgbnnhahbaaDoorMfUp
import Derived.Test.YtnkipgbnnhahbaaDoorMfSame
import Derived.Test.YtnkipgbnnhahbaaDoorMfDec
import Derived.Test.YtnkipgbnnhahbaaDoorCtTl
import Derived.Test.YtnkipgbnnhahbaaDoorDrParse
import Derived.Test.YtnkipgbnnhahbaaDoorNmBase
import Derived.Test.YtnkipgbnnhahbaaDoorErLaw
import Derived.Test.YtnkipgbnnhahbaaDoorRows
import Derived.Deep.OwnRows
import Derived.Deep.AppendLies
import Derived.Great.BuildSlice
import Derived.Laws.Rows
import Derived.BigQuiet
import Derived.Deep.WholeRow
import Derived.Deep.RegionHeld3
import Derived.Deep.DeepCutAuto
import Derived.Deep.DeepFit
namespace Go.Proofs.YtnkipgbnnhahbaaDoor
open Go.RowKit
theorem u_read20 {T:Tl} {cs:List Value} {w:World} (h:TlAt w T cs) (gd:GdT T):Calls Tryd.prog 9 #[.agg cs.toArray] w (ReadM w (mfD T)):=by
 obtain ⟨c,t,m,b,ks⟩:=T
 exact con_read20 h gd
/-- the zero manifest -/
def mf0:Mf:=⟨0,0,0,0,[],[],[]⟩
theorem mf0_at (w:World):MfAt w mf0 [.int .i64 0,.int .i64 0,.int .i64 0,.int .i64 0,.slice none 0 0,.slice none 0 0,.slice none 0 0]:=⟨_,_,_,rfl,bs_nilM w,bs_nilM w,bs_nilM w⟩
theorem con_toldX20 {c p:Nat} {a:Int} {er:Value} {w:World} (ha:atP c p=a) (G:GlsE w) (h:ErAt w c p er) (h1:1≤c) (h2:c≤21):Calls Tryd.prog 7 #[er,.int .i64 (c:Int),.int .i64 a] w fun e w'=>e=.returned (.bool true)∧Below w.heap.size w w':=by
 subst ha
 exact con_toldE G h h1 h2
set_option linter.unusedSimpArgs false in
set_option maxRecDepth 100000 in
set_option maxHeartbeats 4000000 in
theorem law_manifestDecodes (v:Value) (B:List Int) (w:World) (G:GlsE w) (hv:Bs w v B) (b:byt B):Calls Tryd.prog 3 #[v] w fun e w'=>e=.returned (.bool true)∧Below w.heap.size w w':=by
 have HGE:Hid (GlsE w):=G
 have HY:Hid (byt B):=b
 have HV:Hid (Bs w v B):=hv
 obtain ⟨ao,cap,rfl,h1,h2,h3⟩:=hv
 clear G b h3
 unfold maxLen at h1
 obtain ⟨LB,hLB⟩:∃ z,B.length=z:=⟨_,rfl⟩
 rw [hLB] at HV h2 ⊢
 clear hLB
 have bel:Below w.heap.size w w:=Below.refl _ _
 go_enter Tryd.func3,Tryd.ntmps3
 go_wp2_with fail
 refine con_up20.mono ?_
 rintro e w1 ⟨rfl,hb⟩
 replace bel:=below_step bel hb
 clear hb
 by_cases c:(50000:Int) < (LB:Int)∧(LB:Int)≤1048576
 ·obtain ⟨g1,g2⟩:=c
  go_wp2_with fail
  go_ret
  exact ⟨rfl,bel⟩
 by_cases c1:(50000:Int) < (LB:Int)
 ·have c2:¬ (LB:Int)≤1048576:=fun h=>c ⟨c1,h⟩
  clear c
  go_wp2_with fail
  refine (con_MDecode (HV.out.later bel) HY.out).mono ?_
  rintro e w2 ⟨hb,e1,e2,e3⟩
  replace bel:=below_step bel hb
  clear hb
  cases hp:parseP B with
  | error q =>
   obtain ⟨c,p⟩:=q
   obtain ⟨er,rfl,her⟩:=e1 c p hp
   have HP:Hid (parseP B=.error (c,p)):=hp
   have hcb:=parse_bad hp
   have HCb:Hid (1≤c∧c≤21):=⟨by omega,by omega⟩
   clear hcb e1 e2 e3 hp
   obtain ⟨zs,hzs⟩:∃ zs:List Value,[.int .i64 0,.int .i64 0,.int .i64 0,.int .i64 0,.slice none 0 0,.slice none 0 0,.slice none 0 0]=zs:=⟨_,rfl⟩
   have hza:#[.int .i64 0,.int .i64 0,.int .i64 0,.int .i64 0,.slice none 0 0,.slice none 0 0,.slice none 0 0]=zs.toArray:=by rw [← hzs]
   have HZs:Hid ([.int .i64 0,.int .i64 0,.int .i64 0,.int .i64 0,.slice none 0 0,.slice none 0 0,.slice none 0 0]=zs):=hzs
   have HS7:Hid (zs.toArray.size=7):=by show _=_;rw [← hzs];rfl
   have HL7:Hid (zs.length=7):=by show _=_;rw [← hzs];rfl
   have HO7:Hid (OneC zs):=by show OneC zs;rw [← hzs];simp [OneC,Value.oneCell']
   rw [hza]
   clear hzs hza
   obtain ⟨ty,pv,hev⟩:∃ ty pv,er=.iface ty pv:=by rcases her with ⟨_,h⟩|⟨_,g,h,_⟩;exact ⟨_,_,h⟩;exact ⟨_,_,h⟩
   subst hev
   have HEr:Hid (ErAt (w2.alloc (.cells zs.toArray 25)) c p (.iface ty pv)):=her.later ((Below.refl _ _).alloc (Nat.le_refl _) _)
   clear her
   have hz:=zero_mf.out
   replace bel:=below_alloc (o:=.cells zs.toArray 25) bel
   have Bm:=Blk.new w2 zs 25 w2.heap.size rfl
   go_upto_region 5 with (first|((with_reducible show wpList _ _ _ ({ dst:=_,op:=.store _ _ _,type:=_,pos:=_,after:=_,guard:=_ } :: _) _ _);refine wpList_store_row rfl 25 _ _ rfl w2.heap.size zs.toArray rfl rfl 25 _ (heap_alloc_last _ _) (by rw [size_mf,HS7.out]) (by first|rfl|(rw [HS7.out];rfl)) HO7.out ?_;rw [World.setRow_alloc_new])|fail)
   obtain ⟨gm,hgm⟩:∃ g,g=w2.heap.size:=⟨_,rfl⟩
   rw [← hgm] at Bm ⊢
   generalize w2.alloc (.cells zs.toArray 25)=V2 at *
   clear hgm
   clear hz
   go_wp2_with fail
   refine (r12_Parse (HV.out.later bel) HY.out).mono ?_
   rintro e w3 ⟨dok,dbad⟩
   obtain ⟨rfl,hb⟩:=dbad c p HP.out
   replace HEr:Hid (ErAt w3 c p (.iface ty pv)):=HEr.out.later hb
   replace Bm:=Bm.later hb
   replace bel:=below_step bel hb
   clear hb dok dbad
   have hz:=zero_tlv.out
   replace HEr:Hid (ErAt (w3.alloc (.cells #[.int .i64 0,.int .i64 0,.bool false,.slice none 0 0,.slice none 0 0] 32)) c p (.iface ty pv)):=HEr.out.later ((Below.refl _ _).alloc (Nat.le_refl _) _)
   replace Bm:=Bm.alloc (.cells #[.int .i64 0,.int .i64 0,.bool false,.slice none 0 0,.slice none 0 0] 32)
   replace bel:=below_alloc (o:=.cells #[.int .i64 0,.int .i64 0,.bool false,.slice none 0 0,.slice none 0 0] 32) bel
   obtain ⟨AT9,hAT⟩:∃ z,atP c p=z:=⟨_,rfl⟩
   have HAT:Hid (atP c p=AT9):=hAT
   rw [hAT]
   clear hAT
   go_upto_region 6 with (first|((with_reducible show wpList _ _ _ ({ dst:=_,op:=.store _ _ _,type:=_,pos:=_,after:=_,guard:=_ } :: _) _ _);refine wpList_store_row rfl 32 _ _ rfl w3.heap.size #[.int .i64 0,.int .i64 0,.bool false,.slice none 0 0,.slice none 0 0] rfl rfl 32 _ (heap_alloc_last _ _) (by rw [size_tlv];rfl) rfl (by simp [Value.oneCell']) ?_;rw [World.setRow_alloc_new])|fail)
   clear hz
   generalize w3.alloc (.cells #[.int .i64 0,.int .i64 0,.bool false,.slice none 0 0,.slice none 0 0] 32)=V4 at *
   have hc0:¬ (c:Int)=0:=by have:=HCb.out.1;omega
   have d1:((c:Int) == 0)=false:=by rw [beq_eq_false_iff_ne];exact hc0
   have d2:((c:Int) != 0)=true:=by rw [bne,d1];rfl
   go_wp2_with fail
   refine (con_toldX20 HAT.out (HGE.out.below bel) HEr.out HCb.out.1 HCb.out.2).mono ?_
   rintro e w5 ⟨rfl,hb⟩
   replace Bm:=Bm.later hb
   replace bel:=below_step bel hb
   clear hb d1 d2 hc0
   have hz:=zero_mf.out
   have hld:(loadVar 25 ⟨gm,0,none⟩).run Tryd.prog w5=.ok (.agg zs.toArray) w5:=Bm.load Tryd.underlying25 rfl size_mf HL7.out
   have l0:=Bm.lt
   go_wp2_with (first|((with_reducible show wpList _ _ _ ({ dst:=_,op:=.load _ _,type:=_,pos:=_,after:=_,guard:=_ } :: _) _ _);refine wpList_load_run (by rfl) (by rfl) (by rfl) hld ?_)|fail)
   refine (con_same20 (es:=zs) (m:=mf0) (by rw [← HZs.out];exact mf0_at _) (mf0_at _)).mono ?_
   rintro e w9 ⟨rfl,hb⟩
   replace bel:=below_step bel hb
   clear hb hld l0 hz
   go_wp2_with fail
   go_ret
   exact ⟨rfl,bel⟩
  | ok T =>
   have HP:Hid (parseP B=.ok T):=hp
   have HGd:Hid (GdT T):=GdT.of HY.out hp
   clear hp e1
   cases hm:mfD T with
   | none =>
    obtain rfl:=e2 T HP.out hm
    have HN:Hid (mfD T=none):=hm
    clear e2 e3 hm
    obtain ⟨zs,hzs⟩:∃ zs:List Value,[.int .i64 0,.int .i64 0,.int .i64 0,.int .i64 0,.slice none 0 0,.slice none 0 0,.slice none 0 0]=zs:=⟨_,rfl⟩
    have hza:#[.int .i64 0,.int .i64 0,.int .i64 0,.int .i64 0,.slice none 0 0,.slice none 0 0,.slice none 0 0]=zs.toArray:=by rw [← hzs]
    have HZs:Hid ([.int .i64 0,.int .i64 0,.int .i64 0,.int .i64 0,.slice none 0 0,.slice none 0 0,.slice none 0 0]=zs):=hzs
    have HS7:Hid (zs.toArray.size=7):=by show _=_;rw [← hzs];rfl
    have HL7:Hid (zs.length=7):=by show _=_;rw [← hzs];rfl
    have HO7:Hid (OneC zs):=by show OneC zs;rw [← hzs];simp [OneC,Value.oneCell']
    rw [hza]
    clear hzs hza
    have hz:=zero_mf.out
    replace bel:=below_alloc (o:=.cells zs.toArray 25) bel
    have Bm:=Blk.new w2 zs 25 w2.heap.size rfl
    go_upto_region 5 with (first|((with_reducible show wpList _ _ _ ({ dst:=_,op:=.store _ _ _,type:=_,pos:=_,after:=_,guard:=_ } :: _) _ _);refine wpList_store_row rfl 25 _ _ rfl w2.heap.size zs.toArray rfl rfl 25 _ (heap_alloc_last _ _) (by rw [size_mf,HS7.out]) (by first|rfl|(rw [HS7.out];rfl)) HO7.out ?_;rw [World.setRow_alloc_new])|fail)
    obtain ⟨gm,hgm⟩:∃ g,g=w2.heap.size:=⟨_,rfl⟩
    rw [← hgm] at Bm ⊢
    generalize w2.alloc (.cells zs.toArray 25)=V2 at *
    clear hgm
    clear hz
    go_wp2_with fail
    refine (r12_Parse (HV.out.later bel) HY.out).mono ?_
    rintro e w3 ⟨dok,dbad⟩
    obtain ⟨cs,rfl,hd,hb⟩:=dok T HP.out
    have HL5:Hid (cs.length=5):=hd.now.five
    have HO5:Hid (OneC cs):=hd.now.ones
    have HS5:Hid (cs.toArray.size=5):=by show _=_;rw [List.size_toArray];exact HL5.out
    have HT:Hid (TlAt w3 T cs):=hd.now
    replace Bm:=Bm.later hb
    replace bel:=below_step bel hb
    clear dok dbad hd hb
    have hz:=zero_tlv.out
    replace HT:Hid (TlAt (w3.alloc (.cells cs.toArray 32)) T cs):=HT.out.later ((Below.refl _ _).alloc (Nat.le_refl _) _)
    replace Bm:=Bm.alloc (.cells cs.toArray 32)
    replace bel:=below_alloc (o:=.cells cs.toArray 32) bel
    have Bt:=Blk.new w3 cs 32 w3.heap.size rfl
    go_upto_region 6 with (first|((with_reducible show wpList _ _ _ ({ dst:=_,op:=.store _ _ _,type:=_,pos:=_,after:=_,guard:=_ } :: _) _ _);refine wpList_store_row rfl 32 _ _ rfl w3.heap.size cs.toArray rfl rfl 32 _ (heap_alloc_last _ _) (by rw [size_tlv,HS5.out]) (by first|rfl|(rw [HS5.out];rfl)) HO5.out ?_;rw [World.setRow_alloc_new])|fail)
    obtain ⟨gt,hgt⟩:∃ g,g=w3.heap.size:=⟨_,rfl⟩
    rw [← hgt] at Bt ⊢
    generalize w3.alloc (.cells cs.toArray 32)=V4 at *
    clear hgt
    clear hz
    have d0:((0:Int) != 0)=false:=rfl
    have hld:(loadVar 32 ⟨gt,0,none⟩).run Tryd.prog V4=.ok (.agg cs.toArray) V4:=Bt.load Tryd.underlying32 rfl size_tlv HL5.out
    have l0:=Bt.lt
    go_wp2_with (first|((with_reducible show wpList _ _ _ ({ dst:=_,op:=.load _ _,type:=_,pos:=_,after:=_,guard:=_ } :: _) _ _);refine wpList_load_run (by rfl) (by rfl) (by rfl) hld ?_)|fail)
    refine (u_read20 HT.out HGd.out).mono ?_
    rintro e w5 ⟨hb,dno,dyes⟩
    replace Bm:=Bm.later hb
    replace bel:=below_step bel hb
    clear hb hld l0 Bt d0
    obtain ⟨rs,rfl,hl,ho⟩:=dno HN.out
    have HLr:Hid (rs.length=7):=hl
    have HSr:Hid (rs.toArray.size=7):=by show _=_;rw [List.size_toArray];exact hl
    have HOr:Hid (OneC rs):=ho
    clear dno dyes hl ho
    have hz:=zero_mf.out
    replace Bm:=Bm.alloc (.cells rs.toArray 25)
    replace bel:=below_alloc (o:=.cells rs.toArray 25) bel
    have Br:=Blk.new w5 rs 25 w5.heap.size rfl
    go_upto_region 9 with (first|((with_reducible show wpList _ _ _ ({ dst:=_,op:=.store _ _ _,type:=_,pos:=_,after:=_,guard:=_ } :: _) _ _);refine wpList_store_row rfl 25 _ _ rfl w5.heap.size rs.toArray rfl rfl 25 _ (heap_alloc_last _ _) (by rw [size_mf,HSr.out]) (by first|rfl|(rw [HSr.out];rfl)) HOr.out ?_;rw [World.setRow_alloc_new])|fail)
    obtain ⟨gr,hgr⟩:∃ g,g=w5.heap.size:=⟨_,rfl⟩
    rw [← hgr] at Br ⊢
    generalize w5.alloc (.cells rs.toArray 25)=V6 at *
    clear hgr
    clear hz
    clear Br
    have q1:∀ w:World,(binOp .eql 27 (.iface 39 (.int .i64 7)) (.iface 39 (.int .i64 7))).run Tryd.prog w=.ok (.bool true) w:=fun w=>eq_codeM 7 7 w
    have hz:=zero_mf.out
    have hld:(loadVar 25 ⟨gm,0,none⟩).run Tryd.prog V6=.ok (.agg zs.toArray) V6:=Bm.load Tryd.underlying25 rfl size_mf HL7.out
    have l0:=Bm.lt
    go_wp2_with (first|((with_reducible show wpList _ _ _ ({ dst:=_,op:=.load _ _,type:=_,pos:=_,after:=_,guard:=_ } :: _) _ _);refine wpList_load_run (by rfl) (by rfl) (by rfl) hld ?_)|fail)
    refine (con_same20 (es:=zs) (m:=mf0) (by rw [← HZs.out];exact mf0_at _) (mf0_at _)).mono ?_
    rintro e w9 ⟨rfl,hb⟩
    replace bel:=below_step bel hb
    clear hb hld l0 hz
    go_wp2_with fail
    go_ret
    exact ⟨rfl,bel⟩
   | some m =>
    obtain ⟨es,rfl,hv⟩:=e3 T m HP.out hm
    have HM:Hid (mfD T=some m):=hm
    have HLe:Hid (es.length=7):=hv.len
    have HSe:Hid (es.toArray.size=7):=by show _=_;rw [List.size_toArray];exact HLe.out
    have HOe:Hid (OneC es):=hv.ones
    have HEm:Hid (MfAt (w2.alloc (.cells es.toArray 25)) m es):=hv.later ((Below.refl _ _).alloc (Nat.le_refl _) _)
    clear e2 e3 hm hv
    have hz:=zero_mf.out
    replace bel:=below_alloc (o:=.cells es.toArray 25) bel
    have Bm:=Blk.new w2 es 25 w2.heap.size rfl
    go_upto_region 5 with (first|((with_reducible show wpList _ _ _ ({ dst:=_,op:=.store _ _ _,type:=_,pos:=_,after:=_,guard:=_ } :: _) _ _);refine wpList_store_row rfl 25 _ _ rfl w2.heap.size es.toArray rfl rfl 25 _ (heap_alloc_last _ _) (by rw [size_mf,HSe.out]) (by first|rfl|(rw [HSe.out];rfl)) HOe.out ?_;rw [World.setRow_alloc_new])|fail)
    obtain ⟨gm,hgm⟩:∃ g,g=w2.heap.size:=⟨_,rfl⟩
    rw [← hgm] at Bm ⊢
    generalize w2.alloc (.cells es.toArray 25)=V2 at *
    clear hgm
    clear hz
    go_wp2_with fail
    refine (r12_Parse (HV.out.later bel) HY.out).mono ?_
    rintro e w3 ⟨dok,dbad⟩
    obtain ⟨cs,rfl,hd,hb⟩:=dok T HP.out
    have HL5:Hid (cs.length=5):=hd.now.five
    have HO5:Hid (OneC cs):=hd.now.ones
    have HS5:Hid (cs.toArray.size=5):=by show _=_;rw [List.size_toArray];exact HL5.out
    have HT:Hid (TlAt w3 T cs):=hd.now
    replace Bm:=Bm.later hb
    replace HEm:Hid (MfAt w3 m es):=HEm.out.later hb
    replace bel:=below_step bel hb
    clear dok dbad hd hb
    have hz:=zero_tlv.out
    replace HT:Hid (TlAt (w3.alloc (.cells cs.toArray 32)) T cs):=HT.out.later ((Below.refl _ _).alloc (Nat.le_refl _) _)
    replace HEm:Hid (MfAt (w3.alloc (.cells cs.toArray 32)) m es):=HEm.out.later ((Below.refl _ _).alloc (Nat.le_refl _) _)
    replace Bm:=Bm.alloc (.cells cs.toArray 32)
    replace bel:=below_alloc (o:=.cells cs.toArray 32) bel
    have Bt:=Blk.new w3 cs 32 w3.heap.size rfl
    go_upto_region 6 with (first|((with_reducible show wpList _ _ _ ({ dst:=_,op:=.store _ _ _,type:=_,pos:=_,after:=_,guard:=_ } :: _) _ _);refine wpList_store_row rfl 32 _ _ rfl w3.heap.size cs.toArray rfl rfl 32 _ (heap_alloc_last _ _) (by rw [size_tlv,HS5.out]) (by first|rfl|(rw [HS5.out];rfl)) HO5.out ?_;rw [World.setRow_alloc_new])|fail)
    obtain ⟨gt,hgt⟩:∃ g,g=w3.heap.size:=⟨_,rfl⟩
    rw [← hgt] at Bt ⊢
    generalize w3.alloc (.cells cs.toArray 32)=V4 at *
    clear hgt
    clear hz
    have d0:((0:Int) != 0)=false:=rfl
    have hld:(loadVar 32 ⟨gt,0,none⟩).run Tryd.prog V4=.ok (.agg cs.toArray) V4:=Bt.load Tryd.underlying32 rfl size_tlv HL5.out
    have l0:=Bt.lt
    go_wp2_with (first|((with_reducible show wpList _ _ _ ({ dst:=_,op:=.load _ _,type:=_,pos:=_,after:=_,guard:=_ } :: _) _ _);refine wpList_load_run (by rfl) (by rfl) (by rfl) hld ?_)|fail)
    refine (u_read20 HT.out HGd.out).mono ?_
    rintro e w5 ⟨hb,dno,dyes⟩
    replace Bm:=Bm.later hb
    replace HEm:Hid (MfAt w5 m es):=HEm.out.later hb
    replace bel:=below_step bel hb
    clear hb hld l0 Bt d0
    obtain ⟨rs,rfl,hr⟩:=dyes m HM.out
    have HLr:Hid (rs.length=7):=hr.len
    have HSr:Hid (rs.toArray.size=7):=by show _=_;rw [List.size_toArray];exact HLr.out
    have HOr:Hid (OneC rs):=hr.ones
    have HRm:Hid (MfAt (w5.alloc (.cells rs.toArray 25)) m rs):=hr.later ((Below.refl _ _).alloc (Nat.le_refl _) _)
    replace HEm:Hid (MfAt (w5.alloc (.cells rs.toArray 25)) m es):=HEm.out.later ((Below.refl _ _).alloc (Nat.le_refl _) _)
    clear dno dyes hr
    have hz:=zero_mf.out
    replace Bm:=Bm.alloc (.cells rs.toArray 25)
    replace bel:=below_alloc (o:=.cells rs.toArray 25) bel
    have Br:=Blk.new w5 rs 25 w5.heap.size rfl
    go_upto_region 9 with (first|((with_reducible show wpList _ _ _ ({ dst:=_,op:=.store _ _ _,type:=_,pos:=_,after:=_,guard:=_ } :: _) _ _);refine wpList_store_row rfl 25 _ _ rfl w5.heap.size rs.toArray rfl rfl 25 _ (heap_alloc_last _ _) (by rw [size_mf,HSr.out]) (by first|rfl|(rw [HSr.out];rfl)) HOr.out ?_;rw [World.setRow_alloc_new])|fail)
    obtain ⟨gr,hgr⟩:∃ g,g=w5.heap.size:=⟨_,rfl⟩
    rw [← hgr] at Br ⊢
    generalize w5.alloc (.cells rs.toArray 25)=V6 at *
    clear hgr
    clear hz
    have q1:=eq_nilM
    have hld:(loadVar 25 ⟨gm,0,none⟩).run Tryd.prog V6=.ok (.agg es.toArray) V6:=Bm.load Tryd.underlying25 rfl size_mf HLe.out
    have hld2:(loadVar 25 ⟨gr,0,none⟩).run Tryd.prog V6=.ok (.agg rs.toArray) V6:=Br.load Tryd.underlying25 rfl size_mf HLr.out
    have l0:=Bm.lt
    have l2:=Br.lt
    go_wp2_with (first|((with_reducible show wpList _ _ _ ({ dst:=_,op:=.load _ _,type:=_,pos:=_,after:=_,guard:=_ } :: _) _ _);refine wpList_load_run (by rfl) (by rfl) (by rfl) hld ?_)|((with_reducible show wpList _ _ _ ({ dst:=_,op:=.load _ _,type:=_,pos:=_,after:=_,guard:=_ } :: _) _ _);refine wpList_load_run (by rfl) (by rfl) (by rfl) hld2 ?_)|fail)
    refine (con_same20 HEm.out HRm.out).mono ?_
    rintro e w9 ⟨rfl,hb⟩
    replace bel:=below_step bel hb
    clear hb hld hld2 l0 l2
    go_wp2_with fail
    go_ret
    exact ⟨rfl,bel⟩
 ·clear c
  go_wp2_with fail
  refine (con_MDecode (HV.out.later bel) HY.out).mono ?_
  rintro e w2 ⟨hb,e1,e2,e3⟩
  replace bel:=below_step bel hb
  clear hb
  cases hp:parseP B with
  | error q =>
   obtain ⟨c,p⟩:=q
   obtain ⟨er,rfl,her⟩:=e1 c p hp
   have HP:Hid (parseP B=.error (c,p)):=hp
   have hcb:=parse_bad hp
   have HCb:Hid (1≤c∧c≤21):=⟨by omega,by omega⟩
   clear hcb e1 e2 e3 hp
   obtain ⟨zs,hzs⟩:∃ zs:List Value,[.int .i64 0,.int .i64 0,.int .i64 0,.int .i64 0,.slice none 0 0,.slice none 0 0,.slice none 0 0]=zs:=⟨_,rfl⟩
   have hza:#[.int .i64 0,.int .i64 0,.int .i64 0,.int .i64 0,.slice none 0 0,.slice none 0 0,.slice none 0 0]=zs.toArray:=by rw [← hzs]
   have HZs:Hid ([.int .i64 0,.int .i64 0,.int .i64 0,.int .i64 0,.slice none 0 0,.slice none 0 0,.slice none 0 0]=zs):=hzs
   have HS7:Hid (zs.toArray.size=7):=by show _=_;rw [← hzs];rfl
   have HL7:Hid (zs.length=7):=by show _=_;rw [← hzs];rfl
   have HO7:Hid (OneC zs):=by show OneC zs;rw [← hzs];simp [OneC,Value.oneCell']
   rw [hza]
   clear hzs hza
   obtain ⟨ty,pv,hev⟩:∃ ty pv,er=.iface ty pv:=by rcases her with ⟨_,h⟩|⟨_,g,h,_⟩;exact ⟨_,_,h⟩;exact ⟨_,_,h⟩
   subst hev
   have HEr:Hid (ErAt (w2.alloc (.cells zs.toArray 25)) c p (.iface ty pv)):=her.later ((Below.refl _ _).alloc (Nat.le_refl _) _)
   clear her
   have hz:=zero_mf.out
   replace bel:=below_alloc (o:=.cells zs.toArray 25) bel
   have Bm:=Blk.new w2 zs 25 w2.heap.size rfl
   go_upto_region 5 with (first|((with_reducible show wpList _ _ _ ({ dst:=_,op:=.store _ _ _,type:=_,pos:=_,after:=_,guard:=_ } :: _) _ _);refine wpList_store_row rfl 25 _ _ rfl w2.heap.size zs.toArray rfl rfl 25 _ (heap_alloc_last _ _) (by rw [size_mf,HS7.out]) (by first|rfl|(rw [HS7.out];rfl)) HO7.out ?_;rw [World.setRow_alloc_new])|fail)
   obtain ⟨gm,hgm⟩:∃ g,g=w2.heap.size:=⟨_,rfl⟩
   rw [← hgm] at Bm ⊢
   generalize w2.alloc (.cells zs.toArray 25)=V2 at *
   clear hgm
   clear hz
   go_wp2_with fail
   refine (r12_Parse (HV.out.later bel) HY.out).mono ?_
   rintro e w3 ⟨dok,dbad⟩
   obtain ⟨rfl,hb⟩:=dbad c p HP.out
   replace HEr:Hid (ErAt w3 c p (.iface ty pv)):=HEr.out.later hb
   replace Bm:=Bm.later hb
   replace bel:=below_step bel hb
   clear hb dok dbad
   have hz:=zero_tlv.out
   replace HEr:Hid (ErAt (w3.alloc (.cells #[.int .i64 0,.int .i64 0,.bool false,.slice none 0 0,.slice none 0 0] 32)) c p (.iface ty pv)):=HEr.out.later ((Below.refl _ _).alloc (Nat.le_refl _) _)
   replace Bm:=Bm.alloc (.cells #[.int .i64 0,.int .i64 0,.bool false,.slice none 0 0,.slice none 0 0] 32)
   replace bel:=below_alloc (o:=.cells #[.int .i64 0,.int .i64 0,.bool false,.slice none 0 0,.slice none 0 0] 32) bel
   obtain ⟨AT9,hAT⟩:∃ z,atP c p=z:=⟨_,rfl⟩
   have HAT:Hid (atP c p=AT9):=hAT
   rw [hAT]
   clear hAT
   go_upto_region 6 with (first|((with_reducible show wpList _ _ _ ({ dst:=_,op:=.store _ _ _,type:=_,pos:=_,after:=_,guard:=_ } :: _) _ _);refine wpList_store_row rfl 32 _ _ rfl w3.heap.size #[.int .i64 0,.int .i64 0,.bool false,.slice none 0 0,.slice none 0 0] rfl rfl 32 _ (heap_alloc_last _ _) (by rw [size_tlv];rfl) rfl (by simp [Value.oneCell']) ?_;rw [World.setRow_alloc_new])|fail)
   clear hz
   generalize w3.alloc (.cells #[.int .i64 0,.int .i64 0,.bool false,.slice none 0 0,.slice none 0 0] 32)=V4 at *
   have hc0:¬ (c:Int)=0:=by have:=HCb.out.1;omega
   have d1:((c:Int) == 0)=false:=by rw [beq_eq_false_iff_ne];exact hc0
   have d2:((c:Int) != 0)=true:=by rw [bne,d1];rfl
   go_wp2_with fail
   refine (con_toldX20 HAT.out (HGE.out.below bel) HEr.out HCb.out.1 HCb.out.2).mono ?_
   rintro e w5 ⟨rfl,hb⟩
   replace Bm:=Bm.later hb
   replace bel:=below_step bel hb
   clear hb d1 d2 hc0
   have hz:=zero_mf.out
   have hld:(loadVar 25 ⟨gm,0,none⟩).run Tryd.prog w5=.ok (.agg zs.toArray) w5:=Bm.load Tryd.underlying25 rfl size_mf HL7.out
   have l0:=Bm.lt
   go_wp2_with (first|((with_reducible show wpList _ _ _ ({ dst:=_,op:=.load _ _,type:=_,pos:=_,after:=_,guard:=_ } :: _) _ _);refine wpList_load_run (by rfl) (by rfl) (by rfl) hld ?_)|fail)
   refine (con_same20 (es:=zs) (m:=mf0) (by rw [← HZs.out];exact mf0_at _) (mf0_at _)).mono ?_
   rintro e w9 ⟨rfl,hb⟩
   replace bel:=below_step bel hb
   clear hb hld l0 hz
   go_wp2_with fail
   go_ret
   exact ⟨rfl,bel⟩
  | ok T =>
   have HP:Hid (parseP B=.ok T):=hp
   have HGd:Hid (GdT T):=GdT.of HY.out hp
   clear hp e1
   cases hm:mfD T with
   | none =>
    obtain rfl:=e2 T HP.out hm
    have HN:Hid (mfD T=none):=hm
    clear e2 e3 hm
    obtain ⟨zs,hzs⟩:∃ zs:List Value,[.int .i64 0,.int .i64 0,.int .i64 0,.int .i64 0,.slice none 0 0,.slice none 0 0,.slice none 0 0]=zs:=⟨_,rfl⟩
    have hza:#[.int .i64 0,.int .i64 0,.int .i64 0,.int .i64 0,.slice none 0 0,.slice none 0 0,.slice none 0 0]=zs.toArray:=by rw [← hzs]
    have HZs:Hid ([.int .i64 0,.int .i64 0,.int .i64 0,.int .i64 0,.slice none 0 0,.slice none 0 0,.slice none 0 0]=zs):=hzs
    have HS7:Hid (zs.toArray.size=7):=by show _=_;rw [← hzs];rfl
    have HL7:Hid (zs.length=7):=by show _=_;rw [← hzs];rfl
    have HO7:Hid (OneC zs):=by show OneC zs;rw [← hzs];simp [OneC,Value.oneCell']
    rw [hza]
    clear hzs hza
    have hz:=zero_mf.out
    replace bel:=below_alloc (o:=.cells zs.toArray 25) bel
    have Bm:=Blk.new w2 zs 25 w2.heap.size rfl
    go_upto_region 5 with (first|((with_reducible show wpList _ _ _ ({ dst:=_,op:=.store _ _ _,type:=_,pos:=_,after:=_,guard:=_ } :: _) _ _);refine wpList_store_row rfl 25 _ _ rfl w2.heap.size zs.toArray rfl rfl 25 _ (heap_alloc_last _ _) (by rw [size_mf,HS7.out]) (by first|rfl|(rw [HS7.out];rfl)) HO7.out ?_;rw [World.setRow_alloc_new])|fail)
    obtain ⟨gm,hgm⟩:∃ g,g=w2.heap.size:=⟨_,rfl⟩
    rw [← hgm] at Bm ⊢
    generalize w2.alloc (.cells zs.toArray 25)=V2 at *
    clear hgm
    clear hz
    go_wp2_with fail
    refine (r12_Parse (HV.out.later bel) HY.out).mono ?_
    rintro e w3 ⟨dok,dbad⟩
    obtain ⟨cs,rfl,hd,hb⟩:=dok T HP.out
    have HL5:Hid (cs.length=5):=hd.now.five
    have HO5:Hid (OneC cs):=hd.now.ones
    have HS5:Hid (cs.toArray.size=5):=by show _=_;rw [List.size_toArray];exact HL5.out
    have HT:Hid (TlAt w3 T cs):=hd.now
    replace Bm:=Bm.later hb
    replace bel:=below_step bel hb
    clear dok dbad hd hb
    have hz:=zero_tlv.out
    replace HT:Hid (TlAt (w3.alloc (.cells cs.toArray 32)) T cs):=HT.out.later ((Below.refl _ _).alloc (Nat.le_refl _) _)
    replace Bm:=Bm.alloc (.cells cs.toArray 32)
    replace bel:=below_alloc (o:=.cells cs.toArray 32) bel
    have Bt:=Blk.new w3 cs 32 w3.heap.size rfl
    go_upto_region 6 with (first|((with_reducible show wpList _ _ _ ({ dst:=_,op:=.store _ _ _,type:=_,pos:=_,after:=_,guard:=_ } :: _) _ _);refine wpList_store_row rfl 32 _ _ rfl w3.heap.size cs.toArray rfl rfl 32 _ (heap_alloc_last _ _) (by rw [size_tlv,HS5.out]) (by first|rfl|(rw [HS5.out];rfl)) HO5.out ?_;rw [World.setRow_alloc_new])|fail)
    obtain ⟨gt,hgt⟩:∃ g,g=w3.heap.size:=⟨_,rfl⟩
    rw [← hgt] at Bt ⊢
    generalize w3.alloc (.cells cs.toArray 32)=V4 at *
    clear hgt
    clear hz
    have d0:((0:Int) != 0)=false:=rfl
    have hld:(loadVar 32 ⟨gt,0,none⟩).run Tryd.prog V4=.ok (.agg cs.toArray) V4:=Bt.load Tryd.underlying32 rfl size_tlv HL5.out
    have l0:=Bt.lt
    go_wp2_with (first|((with_reducible show wpList _ _ _ ({ dst:=_,op:=.load _ _,type:=_,pos:=_,after:=_,guard:=_ } :: _) _ _);refine wpList_load_run (by rfl) (by rfl) (by rfl) hld ?_)|fail)
    refine (u_read20 HT.out HGd.out).mono ?_
    rintro e w5 ⟨hb,dno,dyes⟩
    replace Bm:=Bm.later hb
    replace bel:=below_step bel hb
    clear hb hld l0 Bt d0
    obtain ⟨rs,rfl,hl,ho⟩:=dno HN.out
    have HLr:Hid (rs.length=7):=hl
    have HSr:Hid (rs.toArray.size=7):=by show _=_;rw [List.size_toArray];exact hl
    have HOr:Hid (OneC rs):=ho
    clear dno dyes hl ho
    have hz:=zero_mf.out
    replace Bm:=Bm.alloc (.cells rs.toArray 25)
    replace bel:=below_alloc (o:=.cells rs.toArray 25) bel
    have Br:=Blk.new w5 rs 25 w5.heap.size rfl
    go_upto_region 9 with (first|((with_reducible show wpList _ _ _ ({ dst:=_,op:=.store _ _ _,type:=_,pos:=_,after:=_,guard:=_ } :: _) _ _);refine wpList_store_row rfl 25 _ _ rfl w5.heap.size rs.toArray rfl rfl 25 _ (heap_alloc_last _ _) (by rw [size_mf,HSr.out]) (by first|rfl|(rw [HSr.out];rfl)) HOr.out ?_;rw [World.setRow_alloc_new])|fail)
    obtain ⟨gr,hgr⟩:∃ g,g=w5.heap.size:=⟨_,rfl⟩
    rw [← hgr] at Br ⊢
    generalize w5.alloc (.cells rs.toArray 25)=V6 at *
    clear hgr
    clear hz
    clear Br
    have q1:∀ w:World,(binOp .eql 27 (.iface 39 (.int .i64 7)) (.iface 39 (.int .i64 7))).run Tryd.prog w=.ok (.bool true) w:=fun w=>eq_codeM 7 7 w
    have hz:=zero_mf.out
    have hld:(loadVar 25 ⟨gm,0,none⟩).run Tryd.prog V6=.ok (.agg zs.toArray) V6:=Bm.load Tryd.underlying25 rfl size_mf HL7.out
    have l0:=Bm.lt
    go_wp2_with (first|((with_reducible show wpList _ _ _ ({ dst:=_,op:=.load _ _,type:=_,pos:=_,after:=_,guard:=_ } :: _) _ _);refine wpList_load_run (by rfl) (by rfl) (by rfl) hld ?_)|fail)
    refine (con_same20 (es:=zs) (m:=mf0) (by rw [← HZs.out];exact mf0_at _) (mf0_at _)).mono ?_
    rintro e w9 ⟨rfl,hb⟩
    replace bel:=below_step bel hb
    clear hb hld l0 hz
    go_wp2_with fail
    go_ret
    exact ⟨rfl,bel⟩
   | some m =>
    obtain ⟨es,rfl,hv⟩:=e3 T m HP.out hm
    have HM:Hid (mfD T=some m):=hm
    have HLe:Hid (es.length=7):=hv.len
    have HSe:Hid (es.toArray.size=7):=by show _=_;rw [List.size_toArray];exact HLe.out
    have HOe:Hid (OneC es):=hv.ones
    have HEm:Hid (MfAt (w2.alloc (.cells es.toArray 25)) m es):=hv.later ((Below.refl _ _).alloc (Nat.le_refl _) _)
    clear e2 e3 hm hv
    have hz:=zero_mf.out
    replace bel:=below_alloc (o:=.cells es.toArray 25) bel
    have Bm:=Blk.new w2 es 25 w2.heap.size rfl
    go_upto_region 5 with (first|((with_reducible show wpList _ _ _ ({ dst:=_,op:=.store _ _ _,type:=_,pos:=_,after:=_,guard:=_ } :: _) _ _);refine wpList_store_row rfl 25 _ _ rfl w2.heap.size es.toArray rfl rfl 25 _ (heap_alloc_last _ _) (by rw [size_mf,HSe.out]) (by first|rfl|(rw [HSe.out];rfl)) HOe.out ?_;rw [World.setRow_alloc_new])|fail)
    obtain ⟨gm,hgm⟩:∃ g,g=w2.heap.size:=⟨_,rfl⟩
    rw [← hgm] at Bm ⊢
    generalize w2.alloc (.cells es.toArray 25)=V2 at *
    clear hgm
    clear hz
    go_wp2_with fail
    refine (r12_Parse (HV.out.later bel) HY.out).mono ?_
    rintro e w3 ⟨dok,dbad⟩
    obtain ⟨cs,rfl,hd,hb⟩:=dok T HP.out
    have HL5:Hid (cs.length=5):=hd.now.five
    have HO5:Hid (OneC cs):=hd.now.ones
    have HS5:Hid (cs.toArray.size=5):=by show _=_;rw [List.size_toArray];exact HL5.out
    have HT:Hid (TlAt w3 T cs):=hd.now
    replace Bm:=Bm.later hb
    replace HEm:Hid (MfAt w3 m es):=HEm.out.later hb
    replace bel:=below_step bel hb
    clear dok dbad hd hb
    have hz:=zero_tlv.out
    replace HT:Hid (TlAt (w3.alloc (.cells cs.toArray 32)) T cs):=HT.out.later ((Below.refl _ _).alloc (Nat.le_refl _) _)
    replace HEm:Hid (MfAt (w3.alloc (.cells cs.toArray 32)) m es):=HEm.out.later ((Below.refl _ _).alloc (Nat.le_refl _) _)
    replace Bm:=Bm.alloc (.cells cs.toArray 32)
    replace bel:=below_alloc (o:=.cells cs.toArray 32) bel
    have Bt:=Blk.new w3 cs 32 w3.heap.size rfl
    go_upto_region 6 with (first|((with_reducible show wpList _ _ _ ({ dst:=_,op:=.store _ _ _,type:=_,pos:=_,after:=_,guard:=_ } :: _) _ _);refine wpList_store_row rfl 32 _ _ rfl w3.heap.size cs.toArray rfl rfl 32 _ (heap_alloc_last _ _) (by rw [size_tlv,HS5.out]) (by first|rfl|(rw [HS5.out];rfl)) HO5.out ?_;rw [World.setRow_alloc_new])|fail)
    obtain ⟨gt,hgt⟩:∃ g,g=w3.heap.size:=⟨_,rfl⟩
    rw [← hgt] at Bt ⊢
    generalize w3.alloc (.cells cs.toArray 32)=V4 at *
    clear hgt
    clear hz
    have d0:((0:Int) != 0)=false:=rfl
    have hld:(loadVar 32 ⟨gt,0,none⟩).run Tryd.prog V4=.ok (.agg cs.toArray) V4:=Bt.load Tryd.underlying32 rfl size_tlv HL5.out
    have l0:=Bt.lt
    go_wp2_with (first|((with_reducible show wpList _ _ _ ({ dst:=_,op:=.load _ _,type:=_,pos:=_,after:=_,guard:=_ } :: _) _ _);refine wpList_load_run (by rfl) (by rfl) (by rfl) hld ?_)|fail)
    refine (u_read20 HT.out HGd.out).mono ?_
    rintro e w5 ⟨hb,dno,dyes⟩
    replace Bm:=Bm.later hb
    replace HEm:Hid (MfAt w5 m es):=HEm.out.later hb
    replace bel:=below_step bel hb
    clear hb hld l0 Bt d0
    obtain ⟨rs,rfl,hr⟩:=dyes m HM.out
    have HLr:Hid (rs.length=7):=hr.len
    have HSr:Hid (rs.toArray.size=7):=by show _=_;rw [List.size_toArray];exact HLr.out
    have HOr:Hid (OneC rs):=hr.ones
    have HRm:Hid (MfAt (w5.alloc (.cells rs.toArray 25)) m rs):=hr.later ((Below.refl _ _).alloc (Nat.le_refl _) _)
    replace HEm:Hid (MfAt (w5.alloc (.cells rs.toArray 25)) m es):=HEm.out.later ((Below.refl _ _).alloc (Nat.le_refl _) _)
    clear dno dyes hr
    have hz:=zero_mf.out
    replace Bm:=Bm.alloc (.cells rs.toArray 25)
    replace bel:=below_alloc (o:=.cells rs.toArray 25) bel
    have Br:=Blk.new w5 rs 25 w5.heap.size rfl
    go_upto_region 9 with (first|((with_reducible show wpList _ _ _ ({ dst:=_,op:=.store _ _ _,type:=_,pos:=_,after:=_,guard:=_ } :: _) _ _);refine wpList_store_row rfl 25 _ _ rfl w5.heap.size rs.toArray rfl rfl 25 _ (heap_alloc_last _ _) (by rw [size_mf,HSr.out]) (by first|rfl|(rw [HSr.out];rfl)) HOr.out ?_;rw [World.setRow_alloc_new])|fail)
    obtain ⟨gr,hgr⟩:∃ g,g=w5.heap.size:=⟨_,rfl⟩
    rw [← hgr] at Br ⊢
    generalize w5.alloc (.cells rs.toArray 25)=V6 at *
    clear hgr
    clear hz
    have q1:=eq_nilM
    have hld:(loadVar 25 ⟨gm,0,none⟩).run Tryd.prog V6=.ok (.agg es.toArray) V6:=Bm.load Tryd.underlying25 rfl size_mf HLe.out
    have hld2:(loadVar 25 ⟨gr,0,none⟩).run Tryd.prog V6=.ok (.agg rs.toArray) V6:=Br.load Tryd.underlying25 rfl size_mf HLr.out
    have l0:=Bm.lt
    have l2:=Br.lt
    go_wp2_with (first|((with_reducible show wpList _ _ _ ({ dst:=_,op:=.load _ _,type:=_,pos:=_,after:=_,guard:=_ } :: _) _ _);refine wpList_load_run (by rfl) (by rfl) (by rfl) hld ?_)|((with_reducible show wpList _ _ _ ({ dst:=_,op:=.load _ _,type:=_,pos:=_,after:=_,guard:=_ } :: _) _ _);refine wpList_load_run (by rfl) (by rfl) (by rfl) hld2 ?_)|fail)
    refine (con_same20 HEm.out HRm.out).mono ?_
    rintro e w9 ⟨rfl,hb⟩
    replace bel:=below_step bel hb
    clear hb hld hld2 l0 l2
    go_wp2_with fail
    go_ret
    exact ⟨rfl,bel⟩
end Go.Proofs.YtnkipgbnnhahbaaDoor
