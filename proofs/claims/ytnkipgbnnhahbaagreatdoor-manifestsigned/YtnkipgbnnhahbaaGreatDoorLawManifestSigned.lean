/- The law ManifestSigned. -/
import Derived.Test.YtnkipgbnnhahbaaGreatDoorMfUp
import Derived.Test.YtnkipgbnnhahbaaGreatDoorMfSgd
import Derived.Test.YtnkipgbnnhahbaaGreatDoorMfTldS
import Derived.Test.YtnkipgbnnhahbaaGreatDoorRdOpn
import Derived.Test.YtnkipgbnnhahbaaGreatDoorCtSeal
import Derived.Test.YtnkipgbnnhahbaaGreatDoorEdDecode
import Derived.Test.YtnkipgbnnhahbaaGreatDoorDrDep
import Derived.Test.YtnkipgbnnhahbaaGreatDoorErLaw
import Derived.Test.YtnkipgbnnhahbaaGreatDoorRows
import Derived.Deep.OwnRows
import Derived.Deep.AppendLies
import Derived.Great.BuildSlice
import Derived.Laws.Rows
import Derived.BigQuiet
import Derived.Deep.WholeRow
import Derived.Deep.RegionHeld3
import Derived.Deep.DeepCutAuto
import Derived.Deep.DeepFit
namespace Go.Proofs.YtnkipgbnnhahbaaGreatDoor
open Go.RowKit
set_option linter.unusedSimpArgs false in
set_option maxRecDepth 100000 in
set_option maxHeartbeats 4000000 in
theorem law_manifestSigned {v:Value} {B:List Int} {w:World} (G:GlsO w) (GE:GlsE w) (hv:Bs w v B) (b:byt B):Calls Tryz.prog 4 #[v] w fun e w'=>e=.returned (.bool true)∧Below w.heap.size w w':=by
 have HG:Hid (GlsO w):=G
 have HGE:Hid (GlsE w):=GE
 have HY:Hid (byt B):=b
 have HV:Hid (Bs w v B):=hv
 obtain ⟨ao,cap,rfl,h1,h2,h3⟩:=hv
 clear G GE b h3
 unfold maxLen at h1
 obtain ⟨LB,hLB⟩:∃ z,B.length=z:=⟨_,rfl⟩
 have HLB:Hid (B.length=LB):=hLB
 rw [hLB] at HV h2 ⊢
 clear hLB
 have bel:Below w.heap.size w w:=Below.refl _ _
 go_enter Tryz.func4,Tryz.ntmps4
 go_wp2_with fail
 refine con_up20.mono ?_
 rintro e w1 ⟨rfl,hb⟩
 replace bel:=below_step bel hb
 clear hb
 by_cases c:(50000:Int) < (LB:Int)∧(LB:Int)≤1048576
 ·obtain ⟨g1,g2⟩:=c
  go_wp2_with fail
  go_ret
  exact ⟨rfl,bel⟩
 by_cases c1:(50000:Int) < (LB:Int)
 ·have c2:¬ (LB:Int)≤1048576:=fun h=>c ⟨c1,h⟩
  clear c
  go_wp2_with fail
  refine (con_MSigned (HG.out.below bel) (HV.out.later bel) HY.out).mono ?_
  rintro e w2 ⟨hb,e1,e2,e3⟩
  replace bel:=below_step bel hb
  clear hb
  cases hp:parseP B with
  | error q =>
   obtain ⟨c,p⟩:=q
   obtain ⟨er,rfl,her⟩:=e1 c p hp
   have HP:Hid (parseP B=.error (c,p)):=hp
   have hcb:=parse_bad hp
   have HCb:Hid (1≤c∧c≤21):=⟨by omega,by omega⟩
   clear hcb e1 e2 e3 hp
   obtain ⟨zs,hzs⟩:∃ zs:List Value,[.int .u64 0,.int .u64 0,.int .u64 0,.int .u64 0,.int .u64 0,.int .u64 0,.int .u64 0,.int .u64 0,.int .u64 0,.int .u64 0,.int .u64 0,.int .u64 0]=zs:=⟨_,rfl⟩
   have hza:#[.int .u64 0,.int .u64 0,.int .u64 0,.int .u64 0,.int .u64 0,.int .u64 0,.int .u64 0,.int .u64 0,.int .u64 0,.int .u64 0,.int .u64 0,.int .u64 0]=zs.toArray:=by rw [← hzs]
   have HZs:Hid ([.int .u64 0,.int .u64 0,.int .u64 0,.int .u64 0,.int .u64 0,.int .u64 0]++[.int .u64 0,.int .u64 0,.int .u64 0,.int .u64 0,.int .u64 0,.int .u64 0]=zs):=hzs
   have HL12:Hid (zs.length=12):=by show _=_;rw [← hzs];rfl
   have HS12:Hid (zs.toArray.size=12):=by show _=_;rw [← hzs];rfl
   have HO12:Hid (OneC zs):=by show OneC zs;rw [← hzs];simp [OneC,Value.oneCell']
   have hz12:∀ w:World,(zeroValue 27).run Tryz.prog w=.ok (.agg zs.toArray) w:=fun w=>by rw [← hza];exact zero_sg8.out w
   have hq12:∀ w:World,(Instr.build 27 #[]).run Tryz.prog w=.ok (.agg zs.toArray) w:=fun w=>by rw [← hza];exact bld_sg20 w
   rw [hza]
   clear hzs hza
   obtain ⟨ty,pv,hev⟩:∃ ty pv,er=.iface ty pv:=by rcases her with ⟨_,h⟩|⟨_,g,h,_⟩;exact ⟨_,_,h⟩;exact ⟨_,_,h⟩
   subst hev
   have HEr:Hid (ErAt (w2.alloc (.cells zs.toArray 27)) c p (.iface ty pv)):=her.later ((Below.refl _ _).alloc (Nat.le_refl _) _)
   clear her
   have hz:=hz12
   replace bel:=below_alloc (o:=.cells zs.toArray 27) bel
   have Bs9:=Blk.new w2 zs 27 w2.heap.size rfl
   go_upto_region 5 with (first|((with_reducible show wpList _ _ _ ({ dst:=_,op:=.store _ _ _,type:=_,pos:=_,after:=_,guard:=_ } :: _) _ _);refine wpList_store_row rfl 27 _ _ rfl w2.heap.size zs.toArray rfl rfl 27 _ (heap_alloc_last _ _) (by rw [size_sg8,HS12.out]) (by first|rfl|(rw [HS12.out];rfl)) HO12.out ?_;rw [World.setRow_alloc_new])|fail)
   obtain ⟨gs,hgs⟩:∃ g,g=w2.heap.size:=⟨_,rfl⟩
   rw [← hgs] at Bs9 ⊢
   generalize w2.alloc (.cells zs.toArray 27)=V2 at *
   clear hgs
   clear hz
   go_wp2_with fail
   refine (r12_Parse (HV.out.later bel) HY.out).mono ?_
   rintro e w3 ⟨dok,dbad⟩
   obtain ⟨rfl,hb⟩:=dbad c p HP.out
   replace HEr:Hid (ErAt w3 c p (.iface ty pv)):=HEr.out.later hb
   replace Bs9:=Bs9.later hb
   replace bel:=below_step bel hb
   clear hb dok dbad
   have hz:=zero_tlv.out
   replace HEr:Hid (ErAt (w3.alloc (.cells #[.int .i64 0,.int .i64 0,.bool false,.slice none 0 0,.slice none 0 0] 41)) c p (.iface ty pv)):=HEr.out.later ((Below.refl _ _).alloc (Nat.le_refl _) _)
   replace Bs9:=Bs9.alloc (.cells #[.int .i64 0,.int .i64 0,.bool false,.slice none 0 0,.slice none 0 0] 41)
   replace bel:=below_alloc (o:=.cells #[.int .i64 0,.int .i64 0,.bool false,.slice none 0 0,.slice none 0 0] 41) bel
   obtain ⟨AT9,hAT⟩:∃ z,atP c p=z:=⟨_,rfl⟩
   have HAT:Hid (atP c p=AT9):=hAT
   rw [hAT]
   clear hAT
   go_upto_region 6 with (first|((with_reducible show wpList _ _ _ ({ dst:=_,op:=.store _ _ _,type:=_,pos:=_,after:=_,guard:=_ } :: _) _ _);refine wpList_store_row rfl 41 _ _ rfl w3.heap.size #[.int .i64 0,.int .i64 0,.bool false,.slice none 0 0,.slice none 0 0] rfl rfl 41 _ (heap_alloc_last _ _) (by rw [size_tlv];rfl) rfl (by simp [Value.oneCell']) ?_;rw [World.setRow_alloc_new])|fail)
   clear hz
   generalize w3.alloc (.cells #[.int .i64 0,.int .i64 0,.bool false,.slice none 0 0,.slice none 0 0] 41)=V4 at *
   have hc0:¬ (c:Int)=0:=by have:=HCb.out.1;omega
   have d1:((c:Int) == 0)=false:=by rw [beq_eq_false_iff_ne];exact hc0
   have d2:((c:Int) != 0)=true:=by rw [bne,d1];rfl
   go_wp2_with fail
   refine (con_toldS20 HAT.out (HGE.out.below bel) HEr.out HCb.out.1 HCb.out.2).mono ?_
   rintro e w5 ⟨rfl,hb⟩
   replace Bs9:=Bs9.later hb
   replace bel:=below_step bel hb
   clear hb d1 d2 hc0
   have q8:=sig_same20 (fs:=[.int .u64 0,.int .u64 0,.int .u64 0,.int .u64 0,.int .u64 0,.int .u64 0,.int .u64 0,.int .u64 0,.int .u64 0,.int .u64 0,.int .u64 0,.int .u64 0]) (r2:=[.int .u64 0,.int .u64 0,.int .u64 0,.int .u64 0,.int .u64 0,.int .u64 0]) (s2:=[.int .u64 0,.int .u64 0,.int .u64 0,.int .u64 0,.int .u64 0,.int .u64 0]) HZs.out rfl U6.zero U6.zero U6.zero U6.zero
   have hz:=zero_sg8.out
   try clear hz12 hq12
   have hld:(loadVar 27 ⟨gs,0,none⟩).run Tryz.prog w5=.ok (.agg zs.toArray) w5:=Bs9.load Tryz.underlying27 rfl size_sg8 HL12.out
   have l0:=Bs9.lt
   go_wp2_with (first|((with_reducible show wpList _ _ _ ({ dst:=_,op:=.load _ _,type:=_,pos:=_,after:=_,guard:=_ } :: _) _ _);refine wpList_load_run (by rfl) (by rfl) (by rfl) hld ?_)|fail)
   go_ret
   exact ⟨rfl,bel⟩
  | ok T =>
   have HP:Hid (parseP B=.ok T):=hp
   have HGd:Hid (GdT T):=GdT.of HY.out hp
   clear hp e1
   cases hm:opnD true T with
   | none =>
    obtain rfl:=e2 T HP.out hm
    have HN:Hid (opnD true T=none):=hm
    clear e2 e3 hm
    obtain ⟨zs,hzs⟩:∃ zs:List Value,[.int .u64 0,.int .u64 0,.int .u64 0,.int .u64 0,.int .u64 0,.int .u64 0,.int .u64 0,.int .u64 0,.int .u64 0,.int .u64 0,.int .u64 0,.int .u64 0]=zs:=⟨_,rfl⟩
    have hza:#[.int .u64 0,.int .u64 0,.int .u64 0,.int .u64 0,.int .u64 0,.int .u64 0,.int .u64 0,.int .u64 0,.int .u64 0,.int .u64 0,.int .u64 0,.int .u64 0]=zs.toArray:=by rw [← hzs]
    have HZs:Hid ([.int .u64 0,.int .u64 0,.int .u64 0,.int .u64 0,.int .u64 0,.int .u64 0]++[.int .u64 0,.int .u64 0,.int .u64 0,.int .u64 0,.int .u64 0,.int .u64 0]=zs):=hzs
    have HL12:Hid (zs.length=12):=by show _=_;rw [← hzs];rfl
    have HS12:Hid (zs.toArray.size=12):=by show _=_;rw [← hzs];rfl
    have HO12:Hid (OneC zs):=by show OneC zs;rw [← hzs];simp [OneC,Value.oneCell']
    have hz12:∀ w:World,(zeroValue 27).run Tryz.prog w=.ok (.agg zs.toArray) w:=fun w=>by rw [← hza];exact zero_sg8.out w
    have hq12:∀ w:World,(Instr.build 27 #[]).run Tryz.prog w=.ok (.agg zs.toArray) w:=fun w=>by rw [← hza];exact bld_sg20 w
    rw [hza]
    clear hzs hza
    have hz:=hz12
    replace bel:=below_alloc (o:=.cells zs.toArray 27) bel
    have Bs9:=Blk.new w2 zs 27 w2.heap.size rfl
    go_upto_region 5 with (first|((with_reducible show wpList _ _ _ ({ dst:=_,op:=.store _ _ _,type:=_,pos:=_,after:=_,guard:=_ } :: _) _ _);refine wpList_store_row rfl 27 _ _ rfl w2.heap.size zs.toArray rfl rfl 27 _ (heap_alloc_last _ _) (by rw [size_sg8,HS12.out]) (by first|rfl|(rw [HS12.out];rfl)) HO12.out ?_;rw [World.setRow_alloc_new])|fail)
    obtain ⟨gs,hgs⟩:∃ g,g=w2.heap.size:=⟨_,rfl⟩
    rw [← hgs] at Bs9 ⊢
    generalize w2.alloc (.cells zs.toArray 27)=V2 at *
    clear hgs
    clear hz hz12 hq12
    go_wp2_with fail
    refine (r12_Parse (HV.out.later bel) HY.out).mono ?_
    rintro e w3 ⟨dok,dbad⟩
    obtain ⟨cs,rfl,hd,hb⟩:=dok T HP.out
    have HL5:Hid (cs.length=5):=hd.now.five
    have HO5:Hid (OneC cs):=hd.now.ones
    have HS5:Hid (cs.toArray.size=5):=by show _=_;rw [List.size_toArray];exact HL5.out
    have HT:Hid (TlAt w3 T cs):=hd.now
    replace Bs9:=Bs9.later hb
    replace bel:=below_step bel hb
    clear dok dbad hd hb
    have hz:=zero_tlv.out
    replace HT:Hid (TlAt (w3.alloc (.cells cs.toArray 41)) T cs):=HT.out.later ((Below.refl _ _).alloc (Nat.le_refl _) _)
    replace Bs9:=Bs9.alloc (.cells cs.toArray 41)
    replace bel:=below_alloc (o:=.cells cs.toArray 41) bel
    have Bt:=Blk.new w3 cs 41 w3.heap.size rfl
    go_upto_region 6 with (first|((with_reducible show wpList _ _ _ ({ dst:=_,op:=.store _ _ _,type:=_,pos:=_,after:=_,guard:=_ } :: _) _ _);refine wpList_store_row rfl 41 _ _ rfl w3.heap.size cs.toArray rfl rfl 41 _ (heap_alloc_last _ _) (by rw [size_tlv,HS5.out]) (by first|rfl|(rw [HS5.out];rfl)) HO5.out ?_;rw [World.setRow_alloc_new])|fail)
    obtain ⟨gt,hgt⟩:∃ g,g=w3.heap.size:=⟨_,rfl⟩
    rw [← hgt] at Bt ⊢
    generalize w3.alloc (.cells cs.toArray 41)=V4 at *
    clear hgt
    clear hz
    have d0:((0:Int) != 0)=false:=rfl
    have hld:(loadVar 41 ⟨gt,0,none⟩).run Tryz.prog V4=.ok (.agg cs.toArray) V4:=Bt.load Tryz.underlying41 rfl size_tlv HL5.out
    have l0:=Bt.lt
    go_wp2_with (first|((with_reducible show wpList _ _ _ ({ dst:=_,op:=.load _ _,type:=_,pos:=_,after:=_,guard:=_ } :: _) _ _);refine wpList_load_run (by rfl) (by rfl) (by rfl) hld ?_)|fail)
    refine (r17_OpenT HT.out HGd.out).mono ?_
    rintro e w5 ⟨hb,U9,us9,ao9,n9,k9,nb9,rs9,ss9,x9,y9,bb9,rfl,hU9,hB9,hl9,hr9,hs9,-,-,hy9,hn9⟩
    replace Bs9:=Bs9.later hb
    replace bel:=below_step bel hb
    clear hb hld l0 Bt d0
    have HU9:Hid (us9.length=5):=hU9.out.five
    have HUs9:Hid (us9.toArray.size=5):=by show _=_;rw [List.size_toArray];exact HU9.out
    have HUo9:Hid (OneC us9):=hU9.out.ones
    obtain ⟨fs9,hfs9⟩:∃ fs,rs9++ss9=fs:=⟨_,rfl⟩
    have HFs9:Hid (rs9++ss9=fs9):=hfs9
    have HFl9:Hid (fs9.length=12):=by show _=_;rw [← hfs9,List.length_append,hr9.out.len,hs9.out.len]
    have HFz9:Hid (fs9.toArray.size=12):=by show _=_;rw [List.size_toArray];exact HFl9.out
    have HFo9:Hid (OneC fs9):=by rw [← hfs9];exact hr9.out.ones.app hs9.out.ones
    rw [hfs9]
    clear hU9 hfs9
    have hbf:bb9=false:=by
     cases bb9 with
     | false=>rfl
     | true=>have:=(hy9.out rfl).1;rw [HN.out] at this;cases this
    subst hbf
    clear hy9 hn9
    have A1:Blk ((w5.alloc (.cells #[.int .i64 0,.int .i64 0,.bool false,.slice none 0 0,.slice none 0 0] 41)).alloc (.cells #[.int .u64 0,.int .u64 0,.int .u64 0,.int .u64 0,.int .u64 0,.int .u64 0,.int .u64 0,.int .u64 0,.int .u64 0,.int .u64 0,.int .u64 0,.int .u64 0] 27)) w5.heap.size [.int .i64 0,.int .i64 0,.bool false,.slice none 0 0,.slice none 0 0]:=(Blk.new w5 [.int .i64 0,.int .i64 0,.bool false,.slice none 0 0,.slice none 0 0] 41 w5.heap.size rfl).alloc (.cells #[.int .u64 0,.int .u64 0,.int .u64 0,.int .u64 0,.int .u64 0,.int .u64 0,.int .u64 0,.int .u64 0,.int .u64 0,.int .u64 0,.int .u64 0,.int .u64 0] 27)
    have A2:Blk ((w5.alloc (.cells #[.int .i64 0,.int .i64 0,.bool false,.slice none 0 0,.slice none 0 0] 41)).alloc (.cells #[.int .u64 0,.int .u64 0,.int .u64 0,.int .u64 0,.int .u64 0,.int .u64 0,.int .u64 0,.int .u64 0,.int .u64 0,.int .u64 0,.int .u64 0,.int .u64 0] 27)) (w5.heap.size + 1) [.int .u64 0,.int .u64 0,.int .u64 0,.int .u64 0,.int .u64 0,.int .u64 0,.int .u64 0,.int .u64 0,.int .u64 0,.int .u64 0,.int .u64 0,.int .u64 0]:=Blk.new (w5.alloc (.cells #[.int .i64 0,.int .i64 0,.bool false,.slice none 0 0,.slice none 0 0] 41)) [.int .u64 0,.int .u64 0,.int .u64 0,.int .u64 0,.int .u64 0,.int .u64 0,.int .u64 0,.int .u64 0,.int .u64 0,.int .u64 0,.int .u64 0,.int .u64 0] 27 (w5.heap.size + 1) (by simp)
    have A3:Blk (((w5.alloc (.cells #[.int .i64 0,.int .i64 0,.bool false,.slice none 0 0,.slice none 0 0] 41)).alloc (.cells #[.int .u64 0,.int .u64 0,.int .u64 0,.int .u64 0,.int .u64 0,.int .u64 0,.int .u64 0,.int .u64 0,.int .u64 0,.int .u64 0,.int .u64 0,.int .u64 0] 27)).setRow w5.heap.size us9.toArray) (w5.heap.size + 1) [.int .u64 0,.int .u64 0,.int .u64 0,.int .u64 0,.int .u64 0,.int .u64 0,.int .u64 0,.int .u64 0,.int .u64 0,.int .u64 0,.int .u64 0,.int .u64 0]:=A2.row (by omega)
    have A4:Blk ((((w5.alloc (.cells #[.int .i64 0,.int .i64 0,.bool false,.slice none 0 0,.slice none 0 0] 41)).alloc (.cells #[.int .u64 0,.int .u64 0,.int .u64 0,.int .u64 0,.int .u64 0,.int .u64 0,.int .u64 0,.int .u64 0,.int .u64 0,.int .u64 0,.int .u64 0,.int .u64 0] 27)).setRow w5.heap.size us9.toArray).setRow (w5.heap.size + 1) fs9.toArray) (w5.heap.size + 1) fs9:=A3.put
    obtain ⟨t1,hA1⟩:=A1
    obtain ⟨t2,hA2⟩:=A3
    have hbv:Below w5.heap.size w5 ((((w5.alloc (.cells #[.int .i64 0,.int .i64 0,.bool false,.slice none 0 0,.slice none 0 0] 41)).alloc (.cells #[.int .u64 0,.int .u64 0,.int .u64 0,.int .u64 0,.int .u64 0,.int .u64 0,.int .u64 0,.int .u64 0,.int .u64 0,.int .u64 0,.int .u64 0,.int .u64 0] 27)).setRow w5.heap.size us9.toArray).setRow (w5.heap.size + 1) fs9.toArray):=below_setRow (below_setRow (((Below.refl _ _).alloc (Nat.le_refl _) _).alloc (by simp) _) (Nat.le_refl _) _) (by omega) _
    replace Bs9:=Bs9.later hbv
    have HB9:Hid (Bs ((((w5.alloc (.cells #[.int .i64 0,.int .i64 0,.bool false,.slice none 0 0,.slice none 0 0] 41)).alloc (.cells #[.int .u64 0,.int .u64 0,.int .u64 0,.int .u64 0,.int .u64 0,.int .u64 0,.int .u64 0,.int .u64 0,.int .u64 0,.int .u64 0,.int .u64 0,.int .u64 0] 27)).setRow w5.heap.size us9.toArray).setRow (w5.heap.size + 1) fs9.toArray) (.slice ao9 n9 k9) nb9):=hB9.out.later hbv
    replace bel:=below_step bel hbv
    clear A2 hB9
    have hz1:=zero_tlv.out
    have hz2:=zero_sg8.out
    go_upto_region 9 with (first|((with_reducible show wpList _ _ _ ({ dst:=_,op:=.store _ _ _,type:=_,pos:=_,after:=_,guard:=_ } :: _) _ _);refine wpList_store_row rfl 41 _ _ rfl w5.heap.size us9.toArray rfl rfl t1 _ hA1 (by rw [size_tlv,HUs9.out]) (by rw [HUs9.out];rfl) HUo9.out ?_)|((with_reducible show wpList _ _ _ ({ dst:=_,op:=.store _ _ _,type:=_,pos:=_,after:=_,guard:=_ } :: _) _ _);refine wpList_store_row rfl 27 _ _ rfl (w5.heap.size + 1) fs9.toArray rfl rfl t2 _ hA2 (by rw [size_sg8,HFz9.out]) (by rw [HFz9.out];rfl) HFo9.out ?_)|fail)
    clear hz1 hz2 hA1 hA2 hbv
    generalize ((((w5.alloc (.cells #[.int .i64 0,.int .i64 0,.bool false,.slice none 0 0,.slice none 0 0] 41)).alloc (.cells #[.int .u64 0,.int .u64 0,.int .u64 0,.int .u64 0,.int .u64 0,.int .u64 0,.int .u64 0,.int .u64 0,.int .u64 0,.int .u64 0,.int .u64 0,.int .u64 0] 27)).setRow w5.heap.size us9.toArray).setRow (w5.heap.size + 1) fs9.toArray)=V9 at *
    clear A4
    have q1:∀ w:World,(binOp .eql 30 (.iface 46 (.int .i64 7)) (.iface 46 (.int .i64 7))).run Tryz.prog w=.ok (.bool true) w:=fun w=>eq_codeM 7 7 w
    have q8:=sig_same20 (fs:=[.int .u64 0,.int .u64 0,.int .u64 0,.int .u64 0,.int .u64 0,.int .u64 0,.int .u64 0,.int .u64 0,.int .u64 0,.int .u64 0,.int .u64 0,.int .u64 0]) (r2:=[.int .u64 0,.int .u64 0,.int .u64 0,.int .u64 0,.int .u64 0,.int .u64 0]) (s2:=[.int .u64 0,.int .u64 0,.int .u64 0,.int .u64 0,.int .u64 0,.int .u64 0]) HZs.out rfl U6.zero U6.zero U6.zero U6.zero
    have hz:=zero_sg8.out
    try clear hz12 hq12
    have hld:(loadVar 27 ⟨gs,0,none⟩).run Tryz.prog V9=.ok (.agg zs.toArray) V9:=Bs9.load Tryz.underlying27 rfl size_sg8 HL12.out
    have l0:=Bs9.lt
    go_wp2_with (first|((with_reducible show wpList _ _ _ ({ dst:=_,op:=.load _ _,type:=_,pos:=_,after:=_,guard:=_ } :: _) _ _);refine wpList_load_run (by rfl) (by rfl) (by rfl) hld ?_)|fail)
    go_ret
    exact ⟨rfl,bel⟩
   | some q9 =>
    obtain ⟨U,x,y⟩:=q9
    obtain ⟨v2,rs,ss,rfl,hv2,u1,u2⟩:=e3 T U x y HP.out hm
    have HM:Hid (opnD true T=some (U,x,y)):=hm
    have HU1:Hid (U6 rs x∧U6 ss y):=⟨u1,u2⟩
    obtain ⟨ts,hts⟩:∃ ts,rs++ss=ts:=⟨_,rfl⟩
    have HTs:Hid (rs++ss=ts):=hts
    have HLt:Hid (ts.length=12):=by show _=_;rw [← hts,List.length_append,u1.len,u2.len]
    have HSt:Hid (ts.toArray.size=12):=by show _=_;rw [List.size_toArray];exact HLt.out
    have HOt:Hid (OneC ts):=by rw [← hts];exact u1.ones.app u2.ones
    have HBd:Hid (Bs (w2.alloc (.cells ts.toArray 27)) v2 (bytesT U)):=hv2.later ((Below.refl _ _).alloc (Nat.le_refl _) _)
    rw [hts]
    obtain ⟨a2,c2v,hve,-,-,-⟩:=id hv2
    obtain ⟨L2,hL2⟩:∃ z,(bytesT U).length=z:=⟨_,rfl⟩
    have HL2:Hid ((bytesT U).length=L2):=hL2
    rw [hL2] at hve
    subst hve
    clear e2 e3 hm hv2 u1 u2 hts hL2
    have hz:=zero_sg8.out
    replace bel:=below_alloc (o:=.cells ts.toArray 27) bel
    have Bs9:=Blk.new w2 ts 27 w2.heap.size rfl
    go_upto_region 5 with (first|((with_reducible show wpList _ _ _ ({ dst:=_,op:=.store _ _ _,type:=_,pos:=_,after:=_,guard:=_ } :: _) _ _);refine wpList_store_row rfl 27 _ _ rfl w2.heap.size ts.toArray rfl rfl 27 _ (heap_alloc_last _ _) (by rw [size_sg8,HSt.out]) (by first|rfl|(rw [HSt.out];rfl)) HOt.out ?_;rw [World.setRow_alloc_new])|fail)
    obtain ⟨gs,hgs⟩:∃ g,g=w2.heap.size:=⟨_,rfl⟩
    rw [← hgs] at Bs9 ⊢
    generalize w2.alloc (.cells ts.toArray 27)=V2 at *
    clear hgs
    clear hz
    go_wp2_with fail
    refine (r12_Parse (HV.out.later bel) HY.out).mono ?_
    rintro e w3 ⟨dok,dbad⟩
    obtain ⟨cs,rfl,hd,hb⟩:=dok T HP.out
    have HL5:Hid (cs.length=5):=hd.now.five
    have HO5:Hid (OneC cs):=hd.now.ones
    have HS5:Hid (cs.toArray.size=5):=by show _=_;rw [List.size_toArray];exact HL5.out
    have HT:Hid (TlAt w3 T cs):=hd.now
    replace Bs9:=Bs9.later hb
    replace HBd:Hid (Bs w3 (.slice a2 L2 c2v) (bytesT U)):=HBd.out.later hb
    replace bel:=below_step bel hb
    clear dok dbad hd hb
    have hz:=zero_tlv.out
    replace HT:Hid (TlAt (w3.alloc (.cells cs.toArray 41)) T cs):=HT.out.later ((Below.refl _ _).alloc (Nat.le_refl _) _)
    replace HBd:Hid (Bs (w3.alloc (.cells cs.toArray 41)) (.slice a2 L2 c2v) (bytesT U)):=HBd.out.later ((Below.refl _ _).alloc (Nat.le_refl _) _)
    replace Bs9:=Bs9.alloc (.cells cs.toArray 41)
    replace bel:=below_alloc (o:=.cells cs.toArray 41) bel
    have Bt:=Blk.new w3 cs 41 w3.heap.size rfl
    go_upto_region 6 with (first|((with_reducible show wpList _ _ _ ({ dst:=_,op:=.store _ _ _,type:=_,pos:=_,after:=_,guard:=_ } :: _) _ _);refine wpList_store_row rfl 41 _ _ rfl w3.heap.size cs.toArray rfl rfl 41 _ (heap_alloc_last _ _) (by rw [size_tlv,HS5.out]) (by first|rfl|(rw [HS5.out];rfl)) HO5.out ?_;rw [World.setRow_alloc_new])|fail)
    obtain ⟨gt,hgt⟩:∃ g,g=w3.heap.size:=⟨_,rfl⟩
    rw [← hgt] at Bt ⊢
    generalize w3.alloc (.cells cs.toArray 41)=V4 at *
    clear hgt
    clear hz
    have d0:((0:Int) != 0)=false:=rfl
    have hld:(loadVar 41 ⟨gt,0,none⟩).run Tryz.prog V4=.ok (.agg cs.toArray) V4:=Bt.load Tryz.underlying41 rfl size_tlv HL5.out
    have l0:=Bt.lt
    go_wp2_with (first|((with_reducible show wpList _ _ _ ({ dst:=_,op:=.load _ _,type:=_,pos:=_,after:=_,guard:=_ } :: _) _ _);refine wpList_load_run (by rfl) (by rfl) (by rfl) hld ?_)|fail)
    refine (r17_OpenT HT.out HGd.out).mono ?_
    rintro e w5 ⟨hb,U9,us9,ao9,n9,k9,nb9,rs9,ss9,x9,y9,bb9,rfl,hU9,hB9,hl9,hr9,hs9,-,-,hy9,hn9⟩
    replace Bs9:=Bs9.later hb
    replace HBd:Hid (Bs w5 (.slice a2 L2 c2v) (bytesT U)):=HBd.out.later hb
    replace bel:=below_step bel hb
    clear hb hld l0 Bt d0
    have HU9:Hid (us9.length=5):=hU9.out.five
    have HUs9:Hid (us9.toArray.size=5):=by show _=_;rw [List.size_toArray];exact HU9.out
    have HUo9:Hid (OneC us9):=hU9.out.ones
    obtain ⟨fs9,hfs9⟩:∃ fs,rs9++ss9=fs:=⟨_,rfl⟩
    have HFs9:Hid (rs9++ss9=fs9):=hfs9
    have HFl9:Hid (fs9.length=12):=by show _=_;rw [← hfs9,List.length_append,hr9.out.len,hs9.out.len]
    have HFz9:Hid (fs9.toArray.size=12):=by show _=_;rw [List.size_toArray];exact HFl9.out
    have HFo9:Hid (OneC fs9):=by rw [← hfs9];exact hr9.out.ones.app hs9.out.ones
    rw [hfs9]
    clear hU9 hfs9
    have hbf:bb9=true:=by
     cases bb9 with
     | true=>rfl
     | false=>have:=hn9.out rfl;rw [HM.out] at this;cases this
    subst hbf
    obtain ⟨hq,hnb⟩:=hy9.out rfl
    rw [HM.out] at hq
    cases hq
    have HNb:Hid (nb9=bytesT U):=hnb
    have hnl:=hl9.out
    rw [hnb,HL2.out] at hnl
    subst hnl
    clear hy9 hn9 hnb
    have A1:Blk ((w5.alloc (.cells #[.int .i64 0,.int .i64 0,.bool false,.slice none 0 0,.slice none 0 0] 41)).alloc (.cells #[.int .u64 0,.int .u64 0,.int .u64 0,.int .u64 0,.int .u64 0,.int .u64 0,.int .u64 0,.int .u64 0,.int .u64 0,.int .u64 0,.int .u64 0,.int .u64 0] 27)) w5.heap.size [.int .i64 0,.int .i64 0,.bool false,.slice none 0 0,.slice none 0 0]:=(Blk.new w5 [.int .i64 0,.int .i64 0,.bool false,.slice none 0 0,.slice none 0 0] 41 w5.heap.size rfl).alloc (.cells #[.int .u64 0,.int .u64 0,.int .u64 0,.int .u64 0,.int .u64 0,.int .u64 0,.int .u64 0,.int .u64 0,.int .u64 0,.int .u64 0,.int .u64 0,.int .u64 0] 27)
    have A2:Blk ((w5.alloc (.cells #[.int .i64 0,.int .i64 0,.bool false,.slice none 0 0,.slice none 0 0] 41)).alloc (.cells #[.int .u64 0,.int .u64 0,.int .u64 0,.int .u64 0,.int .u64 0,.int .u64 0,.int .u64 0,.int .u64 0,.int .u64 0,.int .u64 0,.int .u64 0,.int .u64 0] 27)) (w5.heap.size + 1) [.int .u64 0,.int .u64 0,.int .u64 0,.int .u64 0,.int .u64 0,.int .u64 0,.int .u64 0,.int .u64 0,.int .u64 0,.int .u64 0,.int .u64 0,.int .u64 0]:=Blk.new (w5.alloc (.cells #[.int .i64 0,.int .i64 0,.bool false,.slice none 0 0,.slice none 0 0] 41)) [.int .u64 0,.int .u64 0,.int .u64 0,.int .u64 0,.int .u64 0,.int .u64 0,.int .u64 0,.int .u64 0,.int .u64 0,.int .u64 0,.int .u64 0,.int .u64 0] 27 (w5.heap.size + 1) (by simp)
    have A3:Blk (((w5.alloc (.cells #[.int .i64 0,.int .i64 0,.bool false,.slice none 0 0,.slice none 0 0] 41)).alloc (.cells #[.int .u64 0,.int .u64 0,.int .u64 0,.int .u64 0,.int .u64 0,.int .u64 0,.int .u64 0,.int .u64 0,.int .u64 0,.int .u64 0,.int .u64 0,.int .u64 0] 27)).setRow w5.heap.size us9.toArray) (w5.heap.size + 1) [.int .u64 0,.int .u64 0,.int .u64 0,.int .u64 0,.int .u64 0,.int .u64 0,.int .u64 0,.int .u64 0,.int .u64 0,.int .u64 0,.int .u64 0,.int .u64 0]:=A2.row (by omega)
    have A4:Blk ((((w5.alloc (.cells #[.int .i64 0,.int .i64 0,.bool false,.slice none 0 0,.slice none 0 0] 41)).alloc (.cells #[.int .u64 0,.int .u64 0,.int .u64 0,.int .u64 0,.int .u64 0,.int .u64 0,.int .u64 0,.int .u64 0,.int .u64 0,.int .u64 0,.int .u64 0,.int .u64 0] 27)).setRow w5.heap.size us9.toArray).setRow (w5.heap.size + 1) fs9.toArray) (w5.heap.size + 1) fs9:=A3.put
    obtain ⟨t1,hA1⟩:=A1
    obtain ⟨t2,hA2⟩:=A3
    have hbv:Below w5.heap.size w5 ((((w5.alloc (.cells #[.int .i64 0,.int .i64 0,.bool false,.slice none 0 0,.slice none 0 0] 41)).alloc (.cells #[.int .u64 0,.int .u64 0,.int .u64 0,.int .u64 0,.int .u64 0,.int .u64 0,.int .u64 0,.int .u64 0,.int .u64 0,.int .u64 0,.int .u64 0,.int .u64 0] 27)).setRow w5.heap.size us9.toArray).setRow (w5.heap.size + 1) fs9.toArray):=below_setRow (below_setRow (((Below.refl _ _).alloc (Nat.le_refl _) _).alloc (by simp) _) (Nat.le_refl _) _) (by omega) _
    replace Bs9:=Bs9.later hbv
    have HB9:Hid (Bs ((((w5.alloc (.cells #[.int .i64 0,.int .i64 0,.bool false,.slice none 0 0,.slice none 0 0] 41)).alloc (.cells #[.int .u64 0,.int .u64 0,.int .u64 0,.int .u64 0,.int .u64 0,.int .u64 0,.int .u64 0,.int .u64 0,.int .u64 0,.int .u64 0,.int .u64 0,.int .u64 0] 27)).setRow w5.heap.size us9.toArray).setRow (w5.heap.size + 1) fs9.toArray) (.slice ao9 L2 k9) nb9):=hB9.out.later hbv
    replace HBd:Hid (Bs ((((w5.alloc (.cells #[.int .i64 0,.int .i64 0,.bool false,.slice none 0 0,.slice none 0 0] 41)).alloc (.cells #[.int .u64 0,.int .u64 0,.int .u64 0,.int .u64 0,.int .u64 0,.int .u64 0,.int .u64 0,.int .u64 0,.int .u64 0,.int .u64 0,.int .u64 0,.int .u64 0] 27)).setRow w5.heap.size us9.toArray).setRow (w5.heap.size + 1) fs9.toArray) (.slice a2 L2 c2v) (bytesT U)):=HBd.out.later hbv
    replace bel:=below_step bel hbv
    clear A2 hB9
    have hz1:=zero_tlv.out
    have hz2:=zero_sg8.out
    go_upto_region 9 with (first|((with_reducible show wpList _ _ _ ({ dst:=_,op:=.store _ _ _,type:=_,pos:=_,after:=_,guard:=_ } :: _) _ _);refine wpList_store_row rfl 41 _ _ rfl w5.heap.size us9.toArray rfl rfl t1 _ hA1 (by rw [size_tlv,HUs9.out]) (by rw [HUs9.out];rfl) HUo9.out ?_)|((with_reducible show wpList _ _ _ ({ dst:=_,op:=.store _ _ _,type:=_,pos:=_,after:=_,guard:=_ } :: _) _ _);refine wpList_store_row rfl 27 _ _ rfl (w5.heap.size + 1) fs9.toArray rfl rfl t2 _ hA2 (by rw [size_sg8,HFz9.out]) (by rw [HFz9.out];rfl) HFo9.out ?_)|fail)
    clear hz1 hz2 hA1 hA2 hbv
    generalize ((((w5.alloc (.cells #[.int .i64 0,.int .i64 0,.bool false,.slice none 0 0,.slice none 0 0] 41)).alloc (.cells #[.int .u64 0,.int .u64 0,.int .u64 0,.int .u64 0,.int .u64 0,.int .u64 0,.int .u64 0,.int .u64 0,.int .u64 0,.int .u64 0,.int .u64 0,.int .u64 0] 27)).setRow w5.heap.size us9.toArray).setRow (w5.heap.size + 1) fs9.toArray)=V9 at *
    rw [HNb.out] at HB9
    obtain ⟨Z,hZ⟩:∃ z,strOfNums (bytesT U)=z:=⟨_,rfl⟩
    have x1:=conv_any HBd.out
    have x2:=conv_any HB9.out
    rw [hZ] at x1 x2
    have sq:(Z.toList == Z.toList)=true:=beq_self_eq_true _
    clear hZ
    have q1:=eq_nilM
    have q8:=sig_same20 HTs.out HFs9.out HU1.out.1 HU1.out.2 hr9.out hs9.out
    have hld:(loadVar 27 ⟨gs,0,none⟩).run Tryz.prog V9=.ok (.agg ts.toArray) V9:=Bs9.load Tryz.underlying27 rfl size_sg8 HLt.out
    have hld2:(loadVar 27 ⟨w5.heap.size + 1,0,none⟩).run Tryz.prog V9=.ok (.agg fs9.toArray) V9:=A4.load Tryz.underlying27 rfl size_sg8 HFl9.out
    have l0:=Bs9.lt
    have l2:=A4.lt
    go_wp2_with (first|((with_reducible show wpList _ _ _ ({ dst:=_,op:=.load _ _,type:=_,pos:=_,after:=_,guard:=_ } :: _) _ _);refine wpList_load_run (by rfl) (by rfl) (by rfl) hld ?_)|((with_reducible show wpList _ _ _ ({ dst:=_,op:=.load _ _,type:=_,pos:=_,after:=_,guard:=_ } :: _) _ _);refine wpList_load_run (by rfl) (by rfl) (by rfl) hld2 ?_)|fail)
    go_ret
    exact ⟨rfl,bel⟩
 ·clear c
  go_wp2_with fail
  refine (con_MSigned (HG.out.below bel) (HV.out.later bel) HY.out).mono ?_
  rintro e w2 ⟨hb,e1,e2,e3⟩
  replace bel:=below_step bel hb
  clear hb
  cases hp:parseP B with
  | error q =>
   obtain ⟨c,p⟩:=q
   obtain ⟨er,rfl,her⟩:=e1 c p hp
   have HP:Hid (parseP B=.error (c,p)):=hp
   have hcb:=parse_bad hp
   have HCb:Hid (1≤c∧c≤21):=⟨by omega,by omega⟩
   clear hcb e1 e2 e3 hp
   obtain ⟨zs,hzs⟩:∃ zs:List Value,[.int .u64 0,.int .u64 0,.int .u64 0,.int .u64 0,.int .u64 0,.int .u64 0,.int .u64 0,.int .u64 0,.int .u64 0,.int .u64 0,.int .u64 0,.int .u64 0]=zs:=⟨_,rfl⟩
   have hza:#[.int .u64 0,.int .u64 0,.int .u64 0,.int .u64 0,.int .u64 0,.int .u64 0,.int .u64 0,.int .u64 0,.int .u64 0,.int .u64 0,.int .u64 0,.int .u64 0]=zs.toArray:=by rw [← hzs]
   have HZs:Hid ([.int .u64 0,.int .u64 0,.int .u64 0,.int .u64 0,.int .u64 0,.int .u64 0]++[.int .u64 0,.int .u64 0,.int .u64 0,.int .u64 0,.int .u64 0,.int .u64 0]=zs):=hzs
   have HL12:Hid (zs.length=12):=by show _=_;rw [← hzs];rfl
   have HS12:Hid (zs.toArray.size=12):=by show _=_;rw [← hzs];rfl
   have HO12:Hid (OneC zs):=by show OneC zs;rw [← hzs];simp [OneC,Value.oneCell']
   have hz12:∀ w:World,(zeroValue 27).run Tryz.prog w=.ok (.agg zs.toArray) w:=fun w=>by rw [← hza];exact zero_sg8.out w
   have hq12:∀ w:World,(Instr.build 27 #[]).run Tryz.prog w=.ok (.agg zs.toArray) w:=fun w=>by rw [← hza];exact bld_sg20 w
   rw [hza]
   clear hzs hza
   obtain ⟨ty,pv,hev⟩:∃ ty pv,er=.iface ty pv:=by rcases her with ⟨_,h⟩|⟨_,g,h,_⟩;exact ⟨_,_,h⟩;exact ⟨_,_,h⟩
   subst hev
   have HEr:Hid (ErAt (w2.alloc (.cells zs.toArray 27)) c p (.iface ty pv)):=her.later ((Below.refl _ _).alloc (Nat.le_refl _) _)
   clear her
   have hz:=hz12
   replace bel:=below_alloc (o:=.cells zs.toArray 27) bel
   have Bs9:=Blk.new w2 zs 27 w2.heap.size rfl
   go_upto_region 5 with (first|((with_reducible show wpList _ _ _ ({ dst:=_,op:=.store _ _ _,type:=_,pos:=_,after:=_,guard:=_ } :: _) _ _);refine wpList_store_row rfl 27 _ _ rfl w2.heap.size zs.toArray rfl rfl 27 _ (heap_alloc_last _ _) (by rw [size_sg8,HS12.out]) (by first|rfl|(rw [HS12.out];rfl)) HO12.out ?_;rw [World.setRow_alloc_new])|fail)
   obtain ⟨gs,hgs⟩:∃ g,g=w2.heap.size:=⟨_,rfl⟩
   rw [← hgs] at Bs9 ⊢
   generalize w2.alloc (.cells zs.toArray 27)=V2 at *
   clear hgs
   clear hz
   go_wp2_with fail
   refine (r12_Parse (HV.out.later bel) HY.out).mono ?_
   rintro e w3 ⟨dok,dbad⟩
   obtain ⟨rfl,hb⟩:=dbad c p HP.out
   replace HEr:Hid (ErAt w3 c p (.iface ty pv)):=HEr.out.later hb
   replace Bs9:=Bs9.later hb
   replace bel:=below_step bel hb
   clear hb dok dbad
   have hz:=zero_tlv.out
   replace HEr:Hid (ErAt (w3.alloc (.cells #[.int .i64 0,.int .i64 0,.bool false,.slice none 0 0,.slice none 0 0] 41)) c p (.iface ty pv)):=HEr.out.later ((Below.refl _ _).alloc (Nat.le_refl _) _)
   replace Bs9:=Bs9.alloc (.cells #[.int .i64 0,.int .i64 0,.bool false,.slice none 0 0,.slice none 0 0] 41)
   replace bel:=below_alloc (o:=.cells #[.int .i64 0,.int .i64 0,.bool false,.slice none 0 0,.slice none 0 0] 41) bel
   obtain ⟨AT9,hAT⟩:∃ z,atP c p=z:=⟨_,rfl⟩
   have HAT:Hid (atP c p=AT9):=hAT
   rw [hAT]
   clear hAT
   go_upto_region 6 with (first|((with_reducible show wpList _ _ _ ({ dst:=_,op:=.store _ _ _,type:=_,pos:=_,after:=_,guard:=_ } :: _) _ _);refine wpList_store_row rfl 41 _ _ rfl w3.heap.size #[.int .i64 0,.int .i64 0,.bool false,.slice none 0 0,.slice none 0 0] rfl rfl 41 _ (heap_alloc_last _ _) (by rw [size_tlv];rfl) rfl (by simp [Value.oneCell']) ?_;rw [World.setRow_alloc_new])|fail)
   clear hz
   generalize w3.alloc (.cells #[.int .i64 0,.int .i64 0,.bool false,.slice none 0 0,.slice none 0 0] 41)=V4 at *
   have hc0:¬ (c:Int)=0:=by have:=HCb.out.1;omega
   have d1:((c:Int) == 0)=false:=by rw [beq_eq_false_iff_ne];exact hc0
   have d2:((c:Int) != 0)=true:=by rw [bne,d1];rfl
   go_wp2_with fail
   refine (con_toldS20 HAT.out (HGE.out.below bel) HEr.out HCb.out.1 HCb.out.2).mono ?_
   rintro e w5 ⟨rfl,hb⟩
   replace Bs9:=Bs9.later hb
   replace bel:=below_step bel hb
   clear hb d1 d2 hc0
   have q8:=sig_same20 (fs:=[.int .u64 0,.int .u64 0,.int .u64 0,.int .u64 0,.int .u64 0,.int .u64 0,.int .u64 0,.int .u64 0,.int .u64 0,.int .u64 0,.int .u64 0,.int .u64 0]) (r2:=[.int .u64 0,.int .u64 0,.int .u64 0,.int .u64 0,.int .u64 0,.int .u64 0]) (s2:=[.int .u64 0,.int .u64 0,.int .u64 0,.int .u64 0,.int .u64 0,.int .u64 0]) HZs.out rfl U6.zero U6.zero U6.zero U6.zero
   have hz:=zero_sg8.out
   try clear hz12 hq12
   have hld:(loadVar 27 ⟨gs,0,none⟩).run Tryz.prog w5=.ok (.agg zs.toArray) w5:=Bs9.load Tryz.underlying27 rfl size_sg8 HL12.out
   have l0:=Bs9.lt
   go_wp2_with (first|((with_reducible show wpList _ _ _ ({ dst:=_,op:=.load _ _,type:=_,pos:=_,after:=_,guard:=_ } :: _) _ _);refine wpList_load_run (by rfl) (by rfl) (by rfl) hld ?_)|fail)
   go_ret
   exact ⟨rfl,bel⟩
  | ok T =>
   have HP:Hid (parseP B=.ok T):=hp
   have HGd:Hid (GdT T):=GdT.of HY.out hp
   clear hp e1
   cases hm:opnD true T with
   | none =>
    obtain rfl:=e2 T HP.out hm
    have HN:Hid (opnD true T=none):=hm
    clear e2 e3 hm
    obtain ⟨zs,hzs⟩:∃ zs:List Value,[.int .u64 0,.int .u64 0,.int .u64 0,.int .u64 0,.int .u64 0,.int .u64 0,.int .u64 0,.int .u64 0,.int .u64 0,.int .u64 0,.int .u64 0,.int .u64 0]=zs:=⟨_,rfl⟩
    have hza:#[.int .u64 0,.int .u64 0,.int .u64 0,.int .u64 0,.int .u64 0,.int .u64 0,.int .u64 0,.int .u64 0,.int .u64 0,.int .u64 0,.int .u64 0,.int .u64 0]=zs.toArray:=by rw [← hzs]
    have HZs:Hid ([.int .u64 0,.int .u64 0,.int .u64 0,.int .u64 0,.int .u64 0,.int .u64 0]++[.int .u64 0,.int .u64 0,.int .u64 0,.int .u64 0,.int .u64 0,.int .u64 0]=zs):=hzs
    have HL12:Hid (zs.length=12):=by show _=_;rw [← hzs];rfl
    have HS12:Hid (zs.toArray.size=12):=by show _=_;rw [← hzs];rfl
    have HO12:Hid (OneC zs):=by show OneC zs;rw [← hzs];simp [OneC,Value.oneCell']
    have hz12:∀ w:World,(zeroValue 27).run Tryz.prog w=.ok (.agg zs.toArray) w:=fun w=>by rw [← hza];exact zero_sg8.out w
    have hq12:∀ w:World,(Instr.build 27 #[]).run Tryz.prog w=.ok (.agg zs.toArray) w:=fun w=>by rw [← hza];exact bld_sg20 w
    rw [hza]
    clear hzs hza
    have hz:=hz12
    replace bel:=below_alloc (o:=.cells zs.toArray 27) bel
    have Bs9:=Blk.new w2 zs 27 w2.heap.size rfl
    go_upto_region 5 with (first|((with_reducible show wpList _ _ _ ({ dst:=_,op:=.store _ _ _,type:=_,pos:=_,after:=_,guard:=_ } :: _) _ _);refine wpList_store_row rfl 27 _ _ rfl w2.heap.size zs.toArray rfl rfl 27 _ (heap_alloc_last _ _) (by rw [size_sg8,HS12.out]) (by first|rfl|(rw [HS12.out];rfl)) HO12.out ?_;rw [World.setRow_alloc_new])|fail)
    obtain ⟨gs,hgs⟩:∃ g,g=w2.heap.size:=⟨_,rfl⟩
    rw [← hgs] at Bs9 ⊢
    generalize w2.alloc (.cells zs.toArray 27)=V2 at *
    clear hgs
    clear hz hz12 hq12
    go_wp2_with fail
    refine (r12_Parse (HV.out.later bel) HY.out).mono ?_
    rintro e w3 ⟨dok,dbad⟩
    obtain ⟨cs,rfl,hd,hb⟩:=dok T HP.out
    have HL5:Hid (cs.length=5):=hd.now.five
    have HO5:Hid (OneC cs):=hd.now.ones
    have HS5:Hid (cs.toArray.size=5):=by show _=_;rw [List.size_toArray];exact HL5.out
    have HT:Hid (TlAt w3 T cs):=hd.now
    replace Bs9:=Bs9.later hb
    replace bel:=below_step bel hb
    clear dok dbad hd hb
    have hz:=zero_tlv.out
    replace HT:Hid (TlAt (w3.alloc (.cells cs.toArray 41)) T cs):=HT.out.later ((Below.refl _ _).alloc (Nat.le_refl _) _)
    replace Bs9:=Bs9.alloc (.cells cs.toArray 41)
    replace bel:=below_alloc (o:=.cells cs.toArray 41) bel
    have Bt:=Blk.new w3 cs 41 w3.heap.size rfl
    go_upto_region 6 with (first|((with_reducible show wpList _ _ _ ({ dst:=_,op:=.store _ _ _,type:=_,pos:=_,after:=_,guard:=_ } :: _) _ _);refine wpList_store_row rfl 41 _ _ rfl w3.heap.size cs.toArray rfl rfl 41 _ (heap_alloc_last _ _) (by rw [size_tlv,HS5.out]) (by first|rfl|(rw [HS5.out];rfl)) HO5.out ?_;rw [World.setRow_alloc_new])|fail)
    obtain ⟨gt,hgt⟩:∃ g,g=w3.heap.size:=⟨_,rfl⟩
    rw [← hgt] at Bt ⊢
    generalize w3.alloc (.cells cs.toArray 41)=V4 at *
    clear hgt
    clear hz
    have d0:((0:Int) != 0)=false:=rfl
    have hld:(loadVar 41 ⟨gt,0,none⟩).run Tryz.prog V4=.ok (.agg cs.toArray) V4:=Bt.load Tryz.underlying41 rfl size_tlv HL5.out
    have l0:=Bt.lt
    go_wp2_with (first|((with_reducible show wpList _ _ _ ({ dst:=_,op:=.load _ _,type:=_,pos:=_,after:=_,guard:=_ } :: _) _ _);refine wpList_load_run (by rfl) (by rfl) (by rfl) hld ?_)|fail)
    refine (r17_OpenT HT.out HGd.out).mono ?_
    rintro e w5 ⟨hb,U9,us9,ao9,n9,k9,nb9,rs9,ss9,x9,y9,bb9,rfl,hU9,hB9,hl9,hr9,hs9,-,-,hy9,hn9⟩
    replace Bs9:=Bs9.later hb
    replace bel:=below_step bel hb
    clear hb hld l0 Bt d0
    have HU9:Hid (us9.length=5):=hU9.out.five
    have HUs9:Hid (us9.toArray.size=5):=by show _=_;rw [List.size_toArray];exact HU9.out
    have HUo9:Hid (OneC us9):=hU9.out.ones
    obtain ⟨fs9,hfs9⟩:∃ fs,rs9++ss9=fs:=⟨_,rfl⟩
    have HFs9:Hid (rs9++ss9=fs9):=hfs9
    have HFl9:Hid (fs9.length=12):=by show _=_;rw [← hfs9,List.length_append,hr9.out.len,hs9.out.len]
    have HFz9:Hid (fs9.toArray.size=12):=by show _=_;rw [List.size_toArray];exact HFl9.out
    have HFo9:Hid (OneC fs9):=by rw [← hfs9];exact hr9.out.ones.app hs9.out.ones
    rw [hfs9]
    clear hU9 hfs9
    have hbf:bb9=false:=by
     cases bb9 with
     | false=>rfl
     | true=>have:=(hy9.out rfl).1;rw [HN.out] at this;cases this
    subst hbf
    clear hy9 hn9
    have A1:Blk ((w5.alloc (.cells #[.int .i64 0,.int .i64 0,.bool false,.slice none 0 0,.slice none 0 0] 41)).alloc (.cells #[.int .u64 0,.int .u64 0,.int .u64 0,.int .u64 0,.int .u64 0,.int .u64 0,.int .u64 0,.int .u64 0,.int .u64 0,.int .u64 0,.int .u64 0,.int .u64 0] 27)) w5.heap.size [.int .i64 0,.int .i64 0,.bool false,.slice none 0 0,.slice none 0 0]:=(Blk.new w5 [.int .i64 0,.int .i64 0,.bool false,.slice none 0 0,.slice none 0 0] 41 w5.heap.size rfl).alloc (.cells #[.int .u64 0,.int .u64 0,.int .u64 0,.int .u64 0,.int .u64 0,.int .u64 0,.int .u64 0,.int .u64 0,.int .u64 0,.int .u64 0,.int .u64 0,.int .u64 0] 27)
    have A2:Blk ((w5.alloc (.cells #[.int .i64 0,.int .i64 0,.bool false,.slice none 0 0,.slice none 0 0] 41)).alloc (.cells #[.int .u64 0,.int .u64 0,.int .u64 0,.int .u64 0,.int .u64 0,.int .u64 0,.int .u64 0,.int .u64 0,.int .u64 0,.int .u64 0,.int .u64 0,.int .u64 0] 27)) (w5.heap.size + 1) [.int .u64 0,.int .u64 0,.int .u64 0,.int .u64 0,.int .u64 0,.int .u64 0,.int .u64 0,.int .u64 0,.int .u64 0,.int .u64 0,.int .u64 0,.int .u64 0]:=Blk.new (w5.alloc (.cells #[.int .i64 0,.int .i64 0,.bool false,.slice none 0 0,.slice none 0 0] 41)) [.int .u64 0,.int .u64 0,.int .u64 0,.int .u64 0,.int .u64 0,.int .u64 0,.int .u64 0,.int .u64 0,.int .u64 0,.int .u64 0,.int .u64 0,.int .u64 0] 27 (w5.heap.size + 1) (by simp)
    have A3:Blk (((w5.alloc (.cells #[.int .i64 0,.int .i64 0,.bool false,.slice none 0 0,.slice none 0 0] 41)).alloc (.cells #[.int .u64 0,.int .u64 0,.int .u64 0,.int .u64 0,.int .u64 0,.int .u64 0,.int .u64 0,.int .u64 0,.int .u64 0,.int .u64 0,.int .u64 0,.int .u64 0] 27)).setRow w5.heap.size us9.toArray) (w5.heap.size + 1) [.int .u64 0,.int .u64 0,.int .u64 0,.int .u64 0,.int .u64 0,.int .u64 0,.int .u64 0,.int .u64 0,.int .u64 0,.int .u64 0,.int .u64 0,.int .u64 0]:=A2.row (by omega)
    have A4:Blk ((((w5.alloc (.cells #[.int .i64 0,.int .i64 0,.bool false,.slice none 0 0,.slice none 0 0] 41)).alloc (.cells #[.int .u64 0,.int .u64 0,.int .u64 0,.int .u64 0,.int .u64 0,.int .u64 0,.int .u64 0,.int .u64 0,.int .u64 0,.int .u64 0,.int .u64 0,.int .u64 0] 27)).setRow w5.heap.size us9.toArray).setRow (w5.heap.size + 1) fs9.toArray) (w5.heap.size + 1) fs9:=A3.put
    obtain ⟨t1,hA1⟩:=A1
    obtain ⟨t2,hA2⟩:=A3
    have hbv:Below w5.heap.size w5 ((((w5.alloc (.cells #[.int .i64 0,.int .i64 0,.bool false,.slice none 0 0,.slice none 0 0] 41)).alloc (.cells #[.int .u64 0,.int .u64 0,.int .u64 0,.int .u64 0,.int .u64 0,.int .u64 0,.int .u64 0,.int .u64 0,.int .u64 0,.int .u64 0,.int .u64 0,.int .u64 0] 27)).setRow w5.heap.size us9.toArray).setRow (w5.heap.size + 1) fs9.toArray):=below_setRow (below_setRow (((Below.refl _ _).alloc (Nat.le_refl _) _).alloc (by simp) _) (Nat.le_refl _) _) (by omega) _
    replace Bs9:=Bs9.later hbv
    have HB9:Hid (Bs ((((w5.alloc (.cells #[.int .i64 0,.int .i64 0,.bool false,.slice none 0 0,.slice none 0 0] 41)).alloc (.cells #[.int .u64 0,.int .u64 0,.int .u64 0,.int .u64 0,.int .u64 0,.int .u64 0,.int .u64 0,.int .u64 0,.int .u64 0,.int .u64 0,.int .u64 0,.int .u64 0] 27)).setRow w5.heap.size us9.toArray).setRow (w5.heap.size + 1) fs9.toArray) (.slice ao9 n9 k9) nb9):=hB9.out.later hbv
    replace bel:=below_step bel hbv
    clear A2 hB9
    have hz1:=zero_tlv.out
    have hz2:=zero_sg8.out
    go_upto_region 9 with (first|((with_reducible show wpList _ _ _ ({ dst:=_,op:=.store _ _ _,type:=_,pos:=_,after:=_,guard:=_ } :: _) _ _);refine wpList_store_row rfl 41 _ _ rfl w5.heap.size us9.toArray rfl rfl t1 _ hA1 (by rw [size_tlv,HUs9.out]) (by rw [HUs9.out];rfl) HUo9.out ?_)|((with_reducible show wpList _ _ _ ({ dst:=_,op:=.store _ _ _,type:=_,pos:=_,after:=_,guard:=_ } :: _) _ _);refine wpList_store_row rfl 27 _ _ rfl (w5.heap.size + 1) fs9.toArray rfl rfl t2 _ hA2 (by rw [size_sg8,HFz9.out]) (by rw [HFz9.out];rfl) HFo9.out ?_)|fail)
    clear hz1 hz2 hA1 hA2 hbv
    generalize ((((w5.alloc (.cells #[.int .i64 0,.int .i64 0,.bool false,.slice none 0 0,.slice none 0 0] 41)).alloc (.cells #[.int .u64 0,.int .u64 0,.int .u64 0,.int .u64 0,.int .u64 0,.int .u64 0,.int .u64 0,.int .u64 0,.int .u64 0,.int .u64 0,.int .u64 0,.int .u64 0] 27)).setRow w5.heap.size us9.toArray).setRow (w5.heap.size + 1) fs9.toArray)=V9 at *
    clear A4
    have q1:∀ w:World,(binOp .eql 30 (.iface 46 (.int .i64 7)) (.iface 46 (.int .i64 7))).run Tryz.prog w=.ok (.bool true) w:=fun w=>eq_codeM 7 7 w
    have q8:=sig_same20 (fs:=[.int .u64 0,.int .u64 0,.int .u64 0,.int .u64 0,.int .u64 0,.int .u64 0,.int .u64 0,.int .u64 0,.int .u64 0,.int .u64 0,.int .u64 0,.int .u64 0]) (r2:=[.int .u64 0,.int .u64 0,.int .u64 0,.int .u64 0,.int .u64 0,.int .u64 0]) (s2:=[.int .u64 0,.int .u64 0,.int .u64 0,.int .u64 0,.int .u64 0,.int .u64 0]) HZs.out rfl U6.zero U6.zero U6.zero U6.zero
    have hz:=zero_sg8.out
    try clear hz12 hq12
    have hld:(loadVar 27 ⟨gs,0,none⟩).run Tryz.prog V9=.ok (.agg zs.toArray) V9:=Bs9.load Tryz.underlying27 rfl size_sg8 HL12.out
    have l0:=Bs9.lt
    go_wp2_with (first|((with_reducible show wpList _ _ _ ({ dst:=_,op:=.load _ _,type:=_,pos:=_,after:=_,guard:=_ } :: _) _ _);refine wpList_load_run (by rfl) (by rfl) (by rfl) hld ?_)|fail)
    go_ret
    exact ⟨rfl,bel⟩
   | some q9 =>
    obtain ⟨U,x,y⟩:=q9
    obtain ⟨v2,rs,ss,rfl,hv2,u1,u2⟩:=e3 T U x y HP.out hm
    have HM:Hid (opnD true T=some (U,x,y)):=hm
    have HU1:Hid (U6 rs x∧U6 ss y):=⟨u1,u2⟩
    obtain ⟨ts,hts⟩:∃ ts,rs++ss=ts:=⟨_,rfl⟩
    have HTs:Hid (rs++ss=ts):=hts
    have HLt:Hid (ts.length=12):=by show _=_;rw [← hts,List.length_append,u1.len,u2.len]
    have HSt:Hid (ts.toArray.size=12):=by show _=_;rw [List.size_toArray];exact HLt.out
    have HOt:Hid (OneC ts):=by rw [← hts];exact u1.ones.app u2.ones
    have HBd:Hid (Bs (w2.alloc (.cells ts.toArray 27)) v2 (bytesT U)):=hv2.later ((Below.refl _ _).alloc (Nat.le_refl _) _)
    rw [hts]
    obtain ⟨a2,c2v,hve,-,-,-⟩:=id hv2
    obtain ⟨L2,hL2⟩:∃ z,(bytesT U).length=z:=⟨_,rfl⟩
    have HL2:Hid ((bytesT U).length=L2):=hL2
    rw [hL2] at hve
    subst hve
    clear e2 e3 hm hv2 u1 u2 hts hL2
    have hz:=zero_sg8.out
    replace bel:=below_alloc (o:=.cells ts.toArray 27) bel
    have Bs9:=Blk.new w2 ts 27 w2.heap.size rfl
    go_upto_region 5 with (first|((with_reducible show wpList _ _ _ ({ dst:=_,op:=.store _ _ _,type:=_,pos:=_,after:=_,guard:=_ } :: _) _ _);refine wpList_store_row rfl 27 _ _ rfl w2.heap.size ts.toArray rfl rfl 27 _ (heap_alloc_last _ _) (by rw [size_sg8,HSt.out]) (by first|rfl|(rw [HSt.out];rfl)) HOt.out ?_;rw [World.setRow_alloc_new])|fail)
    obtain ⟨gs,hgs⟩:∃ g,g=w2.heap.size:=⟨_,rfl⟩
    rw [← hgs] at Bs9 ⊢
    generalize w2.alloc (.cells ts.toArray 27)=V2 at *
    clear hgs
    clear hz
    go_wp2_with fail
    refine (r12_Parse (HV.out.later bel) HY.out).mono ?_
    rintro e w3 ⟨dok,dbad⟩
    obtain ⟨cs,rfl,hd,hb⟩:=dok T HP.out
    have HL5:Hid (cs.length=5):=hd.now.five
    have HO5:Hid (OneC cs):=hd.now.ones
    have HS5:Hid (cs.toArray.size=5):=by show _=_;rw [List.size_toArray];exact HL5.out
    have HT:Hid (TlAt w3 T cs):=hd.now
    replace Bs9:=Bs9.later hb
    replace HBd:Hid (Bs w3 (.slice a2 L2 c2v) (bytesT U)):=HBd.out.later hb
    replace bel:=below_step bel hb
    clear dok dbad hd hb
    have hz:=zero_tlv.out
    replace HT:Hid (TlAt (w3.alloc (.cells cs.toArray 41)) T cs):=HT.out.later ((Below.refl _ _).alloc (Nat.le_refl _) _)
    replace HBd:Hid (Bs (w3.alloc (.cells cs.toArray 41)) (.slice a2 L2 c2v) (bytesT U)):=HBd.out.later ((Below.refl _ _).alloc (Nat.le_refl _) _)
    replace Bs9:=Bs9.alloc (.cells cs.toArray 41)
    replace bel:=below_alloc (o:=.cells cs.toArray 41) bel
    have Bt:=Blk.new w3 cs 41 w3.heap.size rfl
    go_upto_region 6 with (first|((with_reducible show wpList _ _ _ ({ dst:=_,op:=.store _ _ _,type:=_,pos:=_,after:=_,guard:=_ } :: _) _ _);refine wpList_store_row rfl 41 _ _ rfl w3.heap.size cs.toArray rfl rfl 41 _ (heap_alloc_last _ _) (by rw [size_tlv,HS5.out]) (by first|rfl|(rw [HS5.out];rfl)) HO5.out ?_;rw [World.setRow_alloc_new])|fail)
    obtain ⟨gt,hgt⟩:∃ g,g=w3.heap.size:=⟨_,rfl⟩
    rw [← hgt] at Bt ⊢
    generalize w3.alloc (.cells cs.toArray 41)=V4 at *
    clear hgt
    clear hz
    have d0:((0:Int) != 0)=false:=rfl
    have hld:(loadVar 41 ⟨gt,0,none⟩).run Tryz.prog V4=.ok (.agg cs.toArray) V4:=Bt.load Tryz.underlying41 rfl size_tlv HL5.out
    have l0:=Bt.lt
    go_wp2_with (first|((with_reducible show wpList _ _ _ ({ dst:=_,op:=.load _ _,type:=_,pos:=_,after:=_,guard:=_ } :: _) _ _);refine wpList_load_run (by rfl) (by rfl) (by rfl) hld ?_)|fail)
    refine (r17_OpenT HT.out HGd.out).mono ?_
    rintro e w5 ⟨hb,U9,us9,ao9,n9,k9,nb9,rs9,ss9,x9,y9,bb9,rfl,hU9,hB9,hl9,hr9,hs9,-,-,hy9,hn9⟩
    replace Bs9:=Bs9.later hb
    replace HBd:Hid (Bs w5 (.slice a2 L2 c2v) (bytesT U)):=HBd.out.later hb
    replace bel:=below_step bel hb
    clear hb hld l0 Bt d0
    have HU9:Hid (us9.length=5):=hU9.out.five
    have HUs9:Hid (us9.toArray.size=5):=by show _=_;rw [List.size_toArray];exact HU9.out
    have HUo9:Hid (OneC us9):=hU9.out.ones
    obtain ⟨fs9,hfs9⟩:∃ fs,rs9++ss9=fs:=⟨_,rfl⟩
    have HFs9:Hid (rs9++ss9=fs9):=hfs9
    have HFl9:Hid (fs9.length=12):=by show _=_;rw [← hfs9,List.length_append,hr9.out.len,hs9.out.len]
    have HFz9:Hid (fs9.toArray.size=12):=by show _=_;rw [List.size_toArray];exact HFl9.out
    have HFo9:Hid (OneC fs9):=by rw [← hfs9];exact hr9.out.ones.app hs9.out.ones
    rw [hfs9]
    clear hU9 hfs9
    have hbf:bb9=true:=by
     cases bb9 with
     | true=>rfl
     | false=>have:=hn9.out rfl;rw [HM.out] at this;cases this
    subst hbf
    obtain ⟨hq,hnb⟩:=hy9.out rfl
    rw [HM.out] at hq
    cases hq
    have HNb:Hid (nb9=bytesT U):=hnb
    have hnl:=hl9.out
    rw [hnb,HL2.out] at hnl
    subst hnl
    clear hy9 hn9 hnb
    have A1:Blk ((w5.alloc (.cells #[.int .i64 0,.int .i64 0,.bool false,.slice none 0 0,.slice none 0 0] 41)).alloc (.cells #[.int .u64 0,.int .u64 0,.int .u64 0,.int .u64 0,.int .u64 0,.int .u64 0,.int .u64 0,.int .u64 0,.int .u64 0,.int .u64 0,.int .u64 0,.int .u64 0] 27)) w5.heap.size [.int .i64 0,.int .i64 0,.bool false,.slice none 0 0,.slice none 0 0]:=(Blk.new w5 [.int .i64 0,.int .i64 0,.bool false,.slice none 0 0,.slice none 0 0] 41 w5.heap.size rfl).alloc (.cells #[.int .u64 0,.int .u64 0,.int .u64 0,.int .u64 0,.int .u64 0,.int .u64 0,.int .u64 0,.int .u64 0,.int .u64 0,.int .u64 0,.int .u64 0,.int .u64 0] 27)
    have A2:Blk ((w5.alloc (.cells #[.int .i64 0,.int .i64 0,.bool false,.slice none 0 0,.slice none 0 0] 41)).alloc (.cells #[.int .u64 0,.int .u64 0,.int .u64 0,.int .u64 0,.int .u64 0,.int .u64 0,.int .u64 0,.int .u64 0,.int .u64 0,.int .u64 0,.int .u64 0,.int .u64 0] 27)) (w5.heap.size + 1) [.int .u64 0,.int .u64 0,.int .u64 0,.int .u64 0,.int .u64 0,.int .u64 0,.int .u64 0,.int .u64 0,.int .u64 0,.int .u64 0,.int .u64 0,.int .u64 0]:=Blk.new (w5.alloc (.cells #[.int .i64 0,.int .i64 0,.bool false,.slice none 0 0,.slice none 0 0] 41)) [.int .u64 0,.int .u64 0,.int .u64 0,.int .u64 0,.int .u64 0,.int .u64 0,.int .u64 0,.int .u64 0,.int .u64 0,.int .u64 0,.int .u64 0,.int .u64 0] 27 (w5.heap.size + 1) (by simp)
    have A3:Blk (((w5.alloc (.cells #[.int .i64 0,.int .i64 0,.bool false,.slice none 0 0,.slice none 0 0] 41)).alloc (.cells #[.int .u64 0,.int .u64 0,.int .u64 0,.int .u64 0,.int .u64 0,.int .u64 0,.int .u64 0,.int .u64 0,.int .u64 0,.int .u64 0,.int .u64 0,.int .u64 0] 27)).setRow w5.heap.size us9.toArray) (w5.heap.size + 1) [.int .u64 0,.int .u64 0,.int .u64 0,.int .u64 0,.int .u64 0,.int .u64 0,.int .u64 0,.int .u64 0,.int .u64 0,.int .u64 0,.int .u64 0,.int .u64 0]:=A2.row (by omega)
    have A4:Blk ((((w5.alloc (.cells #[.int .i64 0,.int .i64 0,.bool false,.slice none 0 0,.slice none 0 0] 41)).alloc (.cells #[.int .u64 0,.int .u64 0,.int .u64 0,.int .u64 0,.int .u64 0,.int .u64 0,.int .u64 0,.int .u64 0,.int .u64 0,.int .u64 0,.int .u64 0,.int .u64 0] 27)).setRow w5.heap.size us9.toArray).setRow (w5.heap.size + 1) fs9.toArray) (w5.heap.size + 1) fs9:=A3.put
    obtain ⟨t1,hA1⟩:=A1
    obtain ⟨t2,hA2⟩:=A3
    have hbv:Below w5.heap.size w5 ((((w5.alloc (.cells #[.int .i64 0,.int .i64 0,.bool false,.slice none 0 0,.slice none 0 0] 41)).alloc (.cells #[.int .u64 0,.int .u64 0,.int .u64 0,.int .u64 0,.int .u64 0,.int .u64 0,.int .u64 0,.int .u64 0,.int .u64 0,.int .u64 0,.int .u64 0,.int .u64 0] 27)).setRow w5.heap.size us9.toArray).setRow (w5.heap.size + 1) fs9.toArray):=below_setRow (below_setRow (((Below.refl _ _).alloc (Nat.le_refl _) _).alloc (by simp) _) (Nat.le_refl _) _) (by omega) _
    replace Bs9:=Bs9.later hbv
    have HB9:Hid (Bs ((((w5.alloc (.cells #[.int .i64 0,.int .i64 0,.bool false,.slice none 0 0,.slice none 0 0] 41)).alloc (.cells #[.int .u64 0,.int .u64 0,.int .u64 0,.int .u64 0,.int .u64 0,.int .u64 0,.int .u64 0,.int .u64 0,.int .u64 0,.int .u64 0,.int .u64 0,.int .u64 0] 27)).setRow w5.heap.size us9.toArray).setRow (w5.heap.size + 1) fs9.toArray) (.slice ao9 L2 k9) nb9):=hB9.out.later hbv
    replace HBd:Hid (Bs ((((w5.alloc (.cells #[.int .i64 0,.int .i64 0,.bool false,.slice none 0 0,.slice none 0 0] 41)).alloc (.cells #[.int .u64 0,.int .u64 0,.int .u64 0,.int .u64 0,.int .u64 0,.int .u64 0,.int .u64 0,.int .u64 0,.int .u64 0,.int .u64 0,.int .u64 0,.int .u64 0] 27)).setRow w5.heap.size us9.toArray).setRow (w5.heap.size + 1) fs9.toArray) (.slice a2 L2 c2v) (bytesT U)):=HBd.out.later hbv
    replace bel:=below_step bel hbv
    clear A2 hB9
    have hz1:=zero_tlv.out
    have hz2:=zero_sg8.out
    go_upto_region 9 with (first|((with_reducible show wpList _ _ _ ({ dst:=_,op:=.store _ _ _,type:=_,pos:=_,after:=_,guard:=_ } :: _) _ _);refine wpList_store_row rfl 41 _ _ rfl w5.heap.size us9.toArray rfl rfl t1 _ hA1 (by rw [size_tlv,HUs9.out]) (by rw [HUs9.out];rfl) HUo9.out ?_)|((with_reducible show wpList _ _ _ ({ dst:=_,op:=.store _ _ _,type:=_,pos:=_,after:=_,guard:=_ } :: _) _ _);refine wpList_store_row rfl 27 _ _ rfl (w5.heap.size + 1) fs9.toArray rfl rfl t2 _ hA2 (by rw [size_sg8,HFz9.out]) (by rw [HFz9.out];rfl) HFo9.out ?_)|fail)
    clear hz1 hz2 hA1 hA2 hbv
    generalize ((((w5.alloc (.cells #[.int .i64 0,.int .i64 0,.bool false,.slice none 0 0,.slice none 0 0] 41)).alloc (.cells #[.int .u64 0,.int .u64 0,.int .u64 0,.int .u64 0,.int .u64 0,.int .u64 0,.int .u64 0,.int .u64 0,.int .u64 0,.int .u64 0,.int .u64 0,.int .u64 0] 27)).setRow w5.heap.size us9.toArray).setRow (w5.heap.size + 1) fs9.toArray)=V9 at *
    rw [HNb.out] at HB9
    obtain ⟨Z,hZ⟩:∃ z,strOfNums (bytesT U)=z:=⟨_,rfl⟩
    have x1:=conv_any HBd.out
    have x2:=conv_any HB9.out
    rw [hZ] at x1 x2
    have sq:(Z.toList == Z.toList)=true:=beq_self_eq_true _
    clear hZ
    have q1:=eq_nilM
    have q8:=sig_same20 HTs.out HFs9.out HU1.out.1 HU1.out.2 hr9.out hs9.out
    have hld:(loadVar 27 ⟨gs,0,none⟩).run Tryz.prog V9=.ok (.agg ts.toArray) V9:=Bs9.load Tryz.underlying27 rfl size_sg8 HLt.out
    have hld2:(loadVar 27 ⟨w5.heap.size + 1,0,none⟩).run Tryz.prog V9=.ok (.agg fs9.toArray) V9:=A4.load Tryz.underlying27 rfl size_sg8 HFl9.out
    have l0:=Bs9.lt
    have l2:=A4.lt
    go_wp2_with (first|((with_reducible show wpList _ _ _ ({ dst:=_,op:=.load _ _,type:=_,pos:=_,after:=_,guard:=_ } :: _) _ _);refine wpList_load_run (by rfl) (by rfl) (by rfl) hld ?_)|((with_reducible show wpList _ _ _ ({ dst:=_,op:=.load _ _,type:=_,pos:=_,after:=_,guard:=_ } :: _) _ _);refine wpList_load_run (by rfl) (by rfl) (by rfl) hld2 ?_)|fail)
    go_ret
    exact ⟨rfl,bel⟩
end Go.Proofs.YtnkipgbnnhahbaaGreatDoor
