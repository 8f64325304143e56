/- A body, signed: plain facts. What Encode answers. Encode: what the program answers. -/
import Derived.Test.YtohcdbifhnfcbaaGreatDoorClWr
import Derived.Test.YtohcdbifhnfcbaaGreatDoorEdDecG
import Derived.Test.YtohcdbifhnfcbaaGreatDoorKrSpec
import Derived.Test.YtohcdbifhnfcbaaGreatDoorDrTG
import Derived.Test.YtohcdbifhnfcbaaGreatDoorDcG3
import Derived.Test.YtohcdbifhnfcbaaGreatDoorEdEncode
import Derived.Test.YtohcdbifhnfcbaaGreatDoorNlSG
import Derived.Test.YtohcdbifhnfcbaaGreatDoorDrDG
import Derived.Test.YtohcdbifhnfcbaaGreatDoorDcG1
import Derived.Test.YtohcdbifhnfcbaaGreatDoorKrEl
import Derived.Test.YtohcdbifhnfcbaaGreatDoorRows
import Derived.Deep.WholeRow
import Derived.Deep.RegionHeld3
import Derived.Deep.DeepCutAuto
import Derived.Deep.DeepFit
import Derived.Deep.OwnRows
import Derived.Deep.AppendLies
import Derived.Great.BuildSlice
import Derived.Laws.Rows
import Derived.BigQuiet
namespace Go.Proofs.YtohcdbifhnfcbaaGreatDoor
open Go.RowKit
/-- the bodies of a signature's two numbers -/
def SigB (r s:Int) (X Y x y:List Int):Prop:=Is48 X r∧Is48 Y s∧numOf X=.ok x∧numOf Y=.ok y
mutual
theorem sz_le:∀ T:Tl,szT T≤(bytesT T).length
 | .mk c t m b ks=>by
  have hz:=szL_le ks
  rw [szT,bytesT]
  simp
  omega
theorem szL_le:∀ ks:List Tl,szL ks≤(bytesL ks).length
 | []=>by rw [szL];omega
 | k :: ks=>by
  have h1:=sz_le k
  have h2:=szL_le ks
  rw [szL,bytesL,List.length_append]
  omega
end
/-- a body, perhaps the algorithm, a signature's bytes -/
def sealP (pl:Bool) (T:Tl) (sig:List Int):Tl:=listT (([T]++(if pl then [] else [algT]))++[.mk 0 3 false (0 :: sig) []])
theorem sm_alg:Sm 160 algT:=sm_list (SzmL.one (sm_oid _))
theorem sm_seal {pl:Bool} {T:Tl} {B sig:List Int} (b:byt B) (h:parseP B=.ok T) (hs:sig.length≤200):Sm 1050000 (sealP pl T sig):=by
 obtain ⟨e,-,-,-,l⟩:=parse_ok b h
 have k1:Sm 1048576 T:=⟨by rw [e];exact l,Nat.le_trans (sz_le T) (by rw [e];exact l)⟩
 have k2:SzmL 160 (if pl then [] else [algT]):=by
  cases pl
  ·exact SzmL.one sm_alg
  ·exact SzmL.nil.le (by omega)
 have k3:Sm 206 (.mk 0 3 false (0 :: sig) []):=sm_leaf (n:=201) (by rw [List.length_cons];omega)
 exact (sm_list (SzmL.app (SzmL.app (SzmL.one k1) k2) (SzmL.one k3))).le (by omega)
theorem le_some:∀ (k:Nat) (n:Int),0≤n→n < 256 ^ k→∃ X:List Int,X.length=k∧(∀ x∈X,0≤x∧x < 256)∧pv 256 X=n
 | 0,n,h0,h1=>⟨[],rfl,by simp,by rw [pv];simp at h1;omega⟩
 | k + 1,n,h0,h1=>by
  obtain ⟨X,l,b,e⟩:=le_some k (n / 256) (by omega) (by rw [Int.pow_succ] at h1;omega)
  refine ⟨n % 256 :: X,by rw [List.length_cons,l],fun x hx=>?_,by rw [pv,e];omega⟩
  rcases List.mem_cons.1 hx with rfl|hx
  ·omega
  ·exact b x hx
theorem is48_some {r:Int} (h:isSc r):∃ X,Is48 X r:=by
 obtain ⟨X,l,b,e⟩:=le_some 48 r (by have:=h.1;omega) (by have:=h.2;have q:QQ < 256 ^ 48:=(by decide);omega)
 exact ⟨X.reverse,by rw [List.length_reverse,l],byt_in (fun x hx=>b x (List.mem_reverse.1 hx)),by unfold beN;rw [List.reverse_reverse,e]⟩
theorem sigB_some {r s:Int} (h:isSc r∧isSc s):∃ X Y x y,SigB r s X Y x y∧x.length≤49∧y.length≤49:=by
 obtain ⟨X,hX⟩:=is48_some h.1
 obtain ⟨Y,hY⟩:=is48_some h.2
 obtain ⟨x,hx,lx⟩:=num48 hX.1
 obtain ⟨y,hy,ly⟩:=num48 hY.1
 exact ⟨X,Y,x,y,⟨hX,hY,hx,hy⟩,lx,ly⟩
/-- what Encode tells -/
def EncCR (w:World) (B:List Int) (r s:Int) (e:Ending) (w':World):Prop:=Below w.heap.size w w'∧(∀ c p,parseP B=.error (c,p)→∃ er:Value,e=.returned (.tuple #[.slice none 0 0,er])∧ErAt w' c p er)∧(∀ T,parseP B=.ok T→¬ (isSc r∧isSc s)→e=.returned (.tuple #[.slice none 0 0,erN 3]))∧(∀ T,parseP B=.ok T→isSc r∧isSc s→∃ (v:Value) (X Y x y:List Int),SigB r s X Y x y∧e=.returned (.tuple #[v,erN (wrN (sealP false T (bytesT (sigT x y))))])∧Bs w' v (wrB (sealP false T (bytesT (sigT x y)))))
theorem EncCR.bad {w w':World} {B:List Int} {r s:Int} {c p:Nat} {er:Value} (h:parseP B=.error (c,p)) (k:ErAt w' c p er) (hb:Below w.heap.size w w'):EncCR w B r s (.returned (.tuple #[.slice none 0 0,er])) w':=⟨hb,fun c' p' q=>(by rw [h] at q;cases q;exact ⟨er,rfl,k⟩),fun T q=>(by rw [h] at q;cases q),fun T q=>(by rw [h] at q;cases q)⟩
theorem EncCR.no {w w':World} {B:List Int} {r s:Int} {T:Tl} (h:parseP B=.ok T) (k:¬ (isSc r∧isSc s)) (hb:Below w.heap.size w w'):EncCR w B r s (.returned (.tuple #[.slice none 0 0,.iface 46 (.int .i64 3)])) w':=⟨hb,fun c' p' q=>(by rw [h] at q;cases q),fun T q _=>rfl,fun T q q2=>absurd q2 k⟩
theorem EncCR.yes {w w':World} {B:List Int} {r s:Int} {T:Tl} {v:Value} {X Y x y:List Int} (h:parseP B=.ok T) (k:isSc r∧isSc s) (hS:SigB r s X Y x y) (hv:Bs w' v (wrB (sealP false T (bytesT (sigT x y))))) (hb:Below w.heap.size w w'):EncCR w B r s (.returned (.tuple #[v,erN (wrN (sealP false T (bytesT (sigT x y))))])) w':=⟨hb,fun c' p' q=>(by rw [h] at q;cases q),fun T q q2=>absurd k q2,fun T' q _=>(by rw [h] at q;cases q;exact ⟨v,X,Y,x,y,hS,rfl,hv⟩)⟩
theorem uEncT {rs ss ts:List Value} {r s:Int} {w:World} (G:GlsO w) (hr:U6 rs r) (hs:U6 ss s) (hT:rs++ss=ts) :
  Calls Tryz.prog 23 #[.agg ts.toArray] w (EncR w r s):=by
 subst hT
 exact c14_Encode G hr hs
theorem size_sgL:(Tryz.prog.info? 31).map (·.size)=some 12:=by kernel_rfl
set_option linter.unusedSimpArgs false in
set_option maxRecDepth 100000 in
set_option maxHeartbeats 4000000 in
theorem con_KEncode {v:Value} {B:List Int} {rs ss:List Value} {r s:Int} {w:World} (G:GlsO w) (hv:Bs w v B) (b:byt B) (hr:U6 rs r) (hs:U6 ss s) :
  Calls Tryz.prog 12 #[v,.agg (rs++ss).toArray] w (EncCR w B r s):=by
 have HG:Hid (GlsO w):=G
 have HY:Hid (byt B):=b
 have HV:Hid (Bs w v B):=hv
 have HR:Hid (U6 rs r):=hr
 have HS:Hid (U6 ss s):=hs
 obtain ⟨ts,hts⟩:∃ ts,rs++ss=ts:=⟨_,rfl⟩
 have HT:Hid (rs++ss=ts):=hts
 have HLt:Hid (ts.length=12):=by show _=_;rw [← hts,List.length_append,hr.len,hs.len]
 obtain ⟨ao,cap,rfl,h1,h2,h3⟩:=hv
 rw [hts]
 clear G b h1 h2 h3 hr hs hts
 have B0:=Blk.new w ts 31 w.heap.size rfl
 have bel:=bal w (.cells ts.toArray 31)
 go_enter Tryz.func12,Tryz.ntmps12
 go_upto_region 1 with fail
 generalize w.alloc (.cells ts.toArray 31)=W at *
 go_wp2_with fail
 refine (con_Parse (HV.out.later bel) HY.out).mono ?_
 rintro e w1 ⟨hok,hbad⟩
 cases hp:parseP B with
 | error q =>
  obtain ⟨c,p⟩:=q
  obtain ⟨cs,er,rfl,htl,her,hfr,hb⟩:=hbad c p hp
  have HP:Hid (parseP B=.error (c,p)):=hp
  have HL5:Hid (cs.length=5):=htl.five
  have HO5:Hid (OneC cs):=htl.ones
  clear hok hbad hp B0
  replace bel:=below_alloc (o:=.cells cs.toArray 53) (below_step bel hb)
  have HEr:Hid (ErAt (w1.alloc (.cells cs.toArray 53)) c p er):=her.later ((Below.refl _ _).alloc (Nat.le_refl _) _)
  have q3:=her.ne
  clear her htl hb hfr
  obtain ⟨ty,pv,hev⟩:∃ ty pv,er=.iface ty pv:=by rcases HEr.out with ⟨_,h⟩|⟨_,g,h,_⟩;exact ⟨_,_,h⟩;exact ⟨_,_,h⟩
  subst hev
  have HS5:Hid (cs.toArray.size=5):=by show _=_;rw [List.size_toArray];exact HL5.out
  have hz:=zero_tlv.out
  go_wp2_with (first|((with_reducible show wpList _ _ _ ({ dst:=_,op:=.store _ _ _,type:=_,pos:=_,after:=_,guard:=_ } :: _) _ _);refine wpList_store_row rfl 53 _ _ rfl w1.heap.size cs.toArray rfl rfl 53 _ (heap_alloc_last _ _) (by rw [size_tlv,HS5.out]) (by rw [HS5.out];rfl) HO5.out ?_;rw [World.setRow_alloc_new])|fail)
  refine bodyPost_ret (results_tmp2 rfl _ _ _) rfl ?_
  exact EncCR.bad HP.out HEr.out bel
 | ok T =>
  obtain ⟨cs,rfl,hd,hb⟩:=hok T hp
  have H:Hid (parseP B=.ok T):=hp
  obtain ⟨N0,hN0⟩:∃ n,n=W.heap.size:=⟨_,rfl⟩
  have HL5:Hid (cs.length=5):=hd.now.five
  have HO5:Hid (OneC cs):=hd.now.ones
  have hb1:=bal w1 (.cells cs.toArray 53)
  have HD1:Hid (Dep (fun g=>N0≤g) (w1.alloc (.cells cs.toArray 53)) T cs):=by rw [hN0];exact hd.next (Agr.below hb1) (fun _ h _=>h)
  have hs:N0≤(w1.alloc (.cells cs.toArray 53)).heap.size:=by rw [hN0];exact Nat.le_trans hb.size hb1.size
  replace B0:=(B0.later hb).later hb1
  replace bel:=below_step (below_step bel hb) hb1
  clear hok hbad hp hd hb hb1 hN0
  have B1:=Blk.new w1 cs 53 w1.heap.size rfl
  have HS5:Hid (cs.toArray.size=5):=by show _=_;rw [List.size_toArray];exact HL5.out
  have hz:=zero_tlv.out
  go_upto_region 2 with (first|((with_reducible show wpList _ _ _ ({ dst:=_,op:=.store _ _ _,type:=_,pos:=_,after:=_,guard:=_ } :: _) _ _);refine wpList_store_row rfl 53 _ _ rfl w1.heap.size cs.toArray rfl rfl 53 _ (heap_alloc_last _ _) (by rw [size_tlv,HS5.out]) (by rw [HS5.out];rfl) HO5.out ?_;rw [World.setRow_alloc_new])|fail)
  clear hz
  obtain ⟨gt,hgt⟩:∃ g,g=w1.heap.size:=⟨_,rfl⟩
  rw [← hgt] at B1 ⊢
  generalize w1.alloc (.cells cs.toArray 53)=V1 at *
  clear hgt HS5 HO5
  have q3:=ne_nilL
  have l0:=B0.lt
  have hld:(loadVar 31 ⟨w.heap.size,0,none⟩).run Tryz.prog V1=.ok (.agg ts.toArray) V1:=B0.load Tryz.underlying31 rfl size_sgL HLt.out
  go_wp2_with (first|((with_reducible show wpList _ _ _ ({ dst:=_,op:=.load _ _,type:=_,pos:=_,after:=_,guard:=_ } :: _) _ _);refine wpList_load_run (by rfl) (by rfl) (by rfl) hld ?_)|fail)
  refine (uEncT (HG.out.below bel) HR.out HS.out HT.out).mono ?_
  rintro e w2 he
  clear hld l0 B0
  by_cases hsc:isSc r∧isSc s
  rotate_left
  ·obtain ⟨xo,xc,rfl,hb⟩:=he.1 hsc
   have HX:Hid (¬ (isSc r∧isSc s)):=hsc
   replace bel:=below_step bel hb
   have q4:=ne_codeL 3
   clear he hsc hb
   unfold codeV
   go_wp2_with fail
   refine bodyPost_ret (results_tmp2 rfl _ _ _) rfl ?_
   exact EncCR.no H.out HX.out bel
  obtain ⟨sv,rfl,hsv,hb⟩:=he.2 hsc.1 hsc.2
  have HX:Hid (isSc r∧isSc s):=hsc
  obtain ⟨X,Y,x,y,hSB,lx,ly⟩:=sigB_some hsc
  have HSB:Hid (SigB r s X Y x y):=hSB
  have HSl0:=sig_len lx ly
  have HBs0:=hsv X Y x y hSB.1 hSB.2.1 hSB.2.2.1 hSB.2.2.2
  obtain ⟨sg,hsg⟩:∃ z,bytesT (sigT x y)=z:=⟨_,rfl⟩
  have HSg:Hid (bytesT (sigT x y)=sg):=hsg
  rw [hsg] at HSl0 HBs0
  have HSl:Hid (sg.length≤200):=HSl0
  have HBs:Hid (Bs w2 sv sg):=HBs0
  replace HD1:=dpl HD1 hb
  replace B1:=B1.later hb
  replace hs:=hsl hs hb
  replace bel:=below_step bel hb
  obtain ⟨sa,sc,hsv2,-,-,-⟩:=id HBs0
  obtain ⟨SL,hSL⟩:∃ z,sg.length=z:=⟨_,rfl⟩
  rw [hSL] at hsv2
  subst hsv2
  clear he hsc hb hsv hSB lx ly HSl0 HBs0 hsg hSL
  go_upto_region 7 with fail
  obtain ⟨jt,hjt,ht0,ht1,ht2⟩:=info_partsD info_tlv
  obtain ⟨S1,hS1,KB1,KI1,KD1,KL1,KA1⟩:∃ S:World→Prop,Hd S w2∧Hid (∀ wx,Hd S wx→Below w2.heap.size w2 wx)∧Hid (∀ wx,Below w2.heap.size w2 wx→Hd S wx)∧Hid (∀ wx,Hd S wx→Hd S wx.drew)∧Hid (∀ w1 w2,Hd S w1→Below w1.heap.size w1 w2→Hd S w2)∧Hid (∀ w1 o,Hd S w1→Hd S (w1.alloc o)):=⟨fun wx=>Below w2.heap.size w2 wx,Below.refl _ _,fun _ h=>h,fun _ h=>h,fun wx h=>Below.drew h,fun w1 w2 h hb=>below_step h hb,fun w1 o h=>Below.alloc h h.size o⟩
  have R1:Hid (∀ wx,Hd S1 wx→(loadVar 53 ⟨gt,0,none⟩).run Tryz.prog wx=.ok (.agg cs.toArray) wx):=fun wx h=>(B1.later (KB1.out wx h)).load Tryz.underlying53 rfl size_tlv HL5.out
  have hz:=zero_tlv.out
  have HZ:Hid (Sm 1050000 (sealP false T sg)):=sm_seal HY.out H.out HSl.out
  refine wp_region_noPanic ?_
  refine wp_region_held_drew (S:=Hd S1) (by kernel_rfl) (KD1.out _ hS1) (fun hHeld=>?_)
  clear hS1
  generalize World.drew _=wd1 at *
  refine wpAnyH_take (i:=0) (v:=.agg cs.toArray) rfl (by kernel_rfl) (by kernel_rfl) (by kernel_rfl) (fun _ _ _ h=>h) (Or.inl ⟨by rfl,fun wx h=>exec_load rfl rfl (R1.out wx h)⟩) (by assumption) ?_
  refine wpAnyH_take (i:=2) (v:=?_) rfl (by kernel_rfl) (by kernel_rfl) (by kernel_rfl) (fun _ _ _ h=>h) (Or.inl ⟨by rfl,?_⟩) (by assumption) ?_
  rotate_left
  ·intro w hSw
   go_simp
   with_reducible rfl
  refine wpAnyH_ready (rs:=[1]) (by kernel_rfl) (by simp) ?_
  refine AllReadyH.cons rfl (fun K hK=>?_) ?_
  ·have HB0:Hid (Below w2.heap.size w2 wd1):=KB1.out _ hHeld
   go_simp
   refine c18_algorithm.mono ?_
   rintro e z1 ⟨da,rfl,hd,hb⟩
   refine hK.out _ _ ?_ (fun hHeld2=>?_)
   ·exact KL1.out _ _ hHeld hb
   ·clear hK K
    try clear hHeld
    have hHeld:=hHeld2
    clear hHeld2
    have hDa:Dep (fun g=>N0≤g) z1 (algT) da:=hd.next (Agr.refl _ _) (fun _ h _=>Nat.le_trans (Nat.le_trans hs HB0.out.size) h)
    have HLa:Hid (da.length=5):=hd.now.five
    clear hb hd HB0
    refine wpAnyH_ready (rs:=[3]) (by kernel_rfl) (by simp) ?_
    refine AllReadyH.cons rfl (fun K hK=>?_) ?_
    ·have HB0:Hid (Below w2.heap.size w2 z1):=KB1.out _ hHeld
     go_simp
     refine (c18_wholeBits (HBs.out.later HB0.out) (by have:=HSl.out;omega)).mono ?_
     rintro e z3 ⟨ds,rfl,hd,hb⟩
     refine hK.out _ _ ?_ (fun hHeld2=>?_)
     ·exact KL1.out _ _ hHeld hb
     ·clear hK K
      try clear hHeld
      have hHeld:=hHeld2
      clear hHeld2
      replace hDa:=dpm hDa hb
      have hDs:Dep (fun g=>N0≤g) z3 (Tl.mk 0 3 false (0 :: sg) []) ds:=hd.next (Agr.refl _ _) (fun _ h _=>Nat.le_trans (Nat.le_trans hs HB0.out.size) h)
      have HLd:Hid (ds.length=5):=hd.now.five
      clear hb hd HB0
      refine wpAnyH_ready (rs:=[4]) (by kernel_rfl) (by simp) ?_
      refine AllReadyH.cons rfl (fun K hK=>?_) ?_
      ·have HB0:Hid (Below w2.heap.size w2 z3):=KB1.out _ hHeld
       rw [if_pos (by rfl)]
       refine wp_buildSlice 51 53 3 _ rfl (cs++(da++(ds++[]))).toArray jt _ Tryz.underlying51 hjt ht0 (by rw [ht1];decide) (by rw [ht1];decide) (by rw [ht1];refine (congrArg _ (?_:_=[(0,Value.agg cs.toArray),(1,.agg da.toArray),(2,.agg ds.toArray)])).trans (fill_15 HL5.out HLa.out HLd.out);kernel_rfl) ?_
       refine hK.out _ _ ?_ (fun hHeld2=>?_)
       ·exact KA1.out _ _ hHeld
       ·clear hK K
        try clear hHeld
        have hHeld:=hHeld2
        clear hHeld2
        have hD8:Dep (fun g=>N0≤g) (z3.alloc (.cells (cs++(da++(ds++[]))).toArray 53)) (sealP false T sg) [.int .i64 0,.int .i64 16,.bool true,.slice none 0 0,.slice (some ⟨z3.heap.size,0,none⟩) 3 3]:=list_dep (ks:=[T,algT,Tl.mk 0 3 false (0 :: sg) []]) (by simp [HL5.out,HLa.out,HLd.out]) (Nat.le_trans hs HB0.out.size) (by show 3≤maxLen;decide) (kc_c (HD1.out.next (Agr.below HB0.out) (fun _ h _=>h)) HL5.out (kc_c hDa HLa.out (kc_c hDs HLd.out kc_n))) 0 16 true
        obtain ⟨g8,hg9⟩:∃ g,g=z3.heap.size:=⟨_,rfl⟩
        rw [← hg9] at hD8 ⊢
        clear hg9 HB0 hDa hDs
        generalize (z3.alloc (.cells (cs++(da++(ds++[]))).toArray 53))=z4 at *
        refine wpAnyH_ready (rs:=[5]) (by kernel_rfl) (by simp) ?_
        refine AllReadyH.cons rfl (fun K hK=>?_) ?_
        ·go_simp
         refine c18_list.mono ?_
         rintro e z5 ⟨rfl,hb⟩
         refine hK.out _ _ ?_ (fun hHeld2=>?_)
         ·exact KL1.out _ _ hHeld hb
         ·clear hK K
          try clear hHeld
          have hHeld:=hHeld2
          clear hHeld2
          replace hD8:=dpm hD8 hb
          clear hb
          refine wpAnyH_ready (rs:=[6]) (by kernel_rfl) (by simp) ?_
          refine AllReadyH.cons rfl (fun K hK=>?_) ?_
          ·go_simp
           refine (c17_Write hD8.now (by have:=HZ.out.1;omega)).mono ?_
           rintro e z6 ⟨v9,rfl,hv9,-,hb⟩
           refine hK.out _ _ ?_ (fun hHeld2=>?_)
           ·exact KL1.out _ _ hHeld hb
           ·clear hK K
            try clear hHeld
            have hHeld:=hHeld2
            clear hHeld2
            have HBd:Hid (Bs z6 v9 (wrB (sealP false T sg))):=hv9
            clear hb hv9 hD8
            obtain ⟨ER,hER⟩:∃ z,erN (wrN (sealP false T sg))=z:=⟨_,rfl⟩
            have HER:Hid (erN (wrN (sealP false T sg))=ER):=hER
            rw [hER]
            clear hER
            refine wpAnyH_take (i:=7) (v:=?_) rfl (by kernel_rfl) (by kernel_rfl) (by kernel_rfl) (fun _ _ _ h=>h) (Or.inl ⟨by rfl,?_⟩) (by assumption) ?_
            rotate_left
            ·intro w hSw
             go_simp
             with_reducible rfl
            refine wpAnyH_take (i:=8) (v:=?_) rfl (by kernel_rfl) (by kernel_rfl) (by kernel_rfl) (fun _ _ _ h=>h) (Or.inl ⟨by rfl,?_⟩) (by assumption) ?_
            rotate_left
            ·intro w hSw
             go_simp
             with_reducible rfl
            refine wpAnyH_ready (rs:=[9]) (by kernel_rfl) (by simp) ?_
            refine AllReadyH.cons rfl (fun K hK=>?_) ?_
            ·go_simp
             refine hK.out _ _ ?_ (fun hHeld2=>?_)
             ·exact hHeld
             ·clear hK K
              try clear hHeld
              have hHeld:=hHeld2
              clear hHeld2
              refine wpAnyH_ready (rs:=[10]) (by kernel_rfl) (by simp) ?_
              refine AllReadyH.cons rfl (fun K hK=>?_) ?_
              ·go_simp
               refine hK.out _ _ ?_ (fun hHeld2=>?_)
               ·exact hHeld
               ·clear hK K
                try clear hHeld
                have hHeld:=hHeld2
                clear hHeld2
                refine wpAnyH_done (by kernel_rfl) ?_ _
                refine NoPanic.normal ?_
                replace bel:=below_step bel (KB1.out _ hHeld)
                clear hHeld
                go_wp2_with fail
                refine bodyPost_ret (results_tmp2 rfl _ _ _) rfl ?_
                have HW9:Hid (ER=erN (wrN (sealP false T (bytesT (sigT x y))))):=by show _=_;rw [HSg.out];exact HER.out.symm
                rw [HW9.out]
                exact EncCR.yes H.out HX.out HSB.out (by rw [HSg.out];exact HBd.out) bel
              exact AllReadyH.nil
            exact AllReadyH.nil
          exact AllReadyH.nil
        exact AllReadyH.nil
      exact AllReadyH.nil
    exact AllReadyH.nil
  exact AllReadyH.nil
end Go.Proofs.YtohcdbifhnfcbaaGreatDoor
