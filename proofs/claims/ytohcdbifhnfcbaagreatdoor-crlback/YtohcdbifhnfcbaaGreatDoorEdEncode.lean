/- What ecdsa.Encode answers. -/
import Derived.Test.YtohcdbifhnfcbaaGreatDoorEdDecG
import Derived.Test.YtohcdbifhnfcbaaGreatDoorEcG
import Derived.Test.YtohcdbifhnfcbaaGreatDoorPrG
import Derived.Test.YtohcdbifhnfcbaaGreatDoorDcG2
import Derived.Test.YtohcdbifhnfcbaaGreatDoorDcG3
import Derived.Test.YtohcdbifhnfcbaaGreatDoorDrDG
import Derived.Test.YtohcdbifhnfcbaaGreatDoorDrTG
import Derived.Test.YtohcdbifhnfcbaaGreatDoorRows
import Derived.Deep.OwnRows
import Derived.Deep.AppendLies
import Derived.Great.BuildSlice
import Derived.Laws.Rows
import Derived.Deep.WholeRow
import Derived.Deep.RegionHeld3
import Derived.Deep.DeepCutAuto
import Derived.Deep.DeepFit
namespace Go.Proofs.YtohcdbifhnfcbaaGreatDoor
open Go.RowKit
/-- what Encode tells -/
def EncR (w:World) (r s:Int) (e:Ending) (w':World):Prop:=(¬ (isSc r∧isSc s)→∃ (ao:Option Addr) (cap:Nat),e=.returned (.tuple #[.slice ao 0 cap,codeV 3])∧Below w.heap.size w w')∧(isSc r→isSc s→∃ v':Value,e=.returned (.tuple #[v',.nilIface])∧(∀ X Y x y,Is48 X r→Is48 Y s→numOf X=.ok x→numOf Y=.ok y→Bs w' v' (bytesT (sigT x y)))∧Below w.heap.size w w')
theorem EncR.no {w w':World} {r s:Int} {ao:Option Addr} {cap:Nat} (h:¬ (isSc r∧isSc s)) (bel:Below w.heap.size w w'):EncR w r s (.returned (.tuple #[.slice ao 0 cap,.iface 46 (.int .i64 3)])) w':=⟨fun _=>⟨ao,cap,rfl,bel⟩,fun a b=>absurd ⟨a,b⟩ h⟩
theorem is48_one {X Y:List Int} {r:Int} (h:Is48 X r) (k:Is48 Y r):X=Y:=beN_inj X Y (by rw [h.1,k.1]) h.2.1 k.2.1 (by rw [h.2.2,k.2.2])
theorem EncR.yes {w w':World} {r s:Int} {v:Value} {X Y x y:List Int} (h:isSc r∧isSc s) (hX:Is48 X r) (hY:Is48 Y s) (hx:numOf X=.ok x) (hy:numOf Y=.ok y) (hv:Bs w' v (bytesT (sigT x y))) (bel:Below w.heap.size w w'):EncR w r s (.returned (.tuple #[v,.nilIface])) w' :=
 ⟨fun n=>absurd h n,fun _ _=>⟨v,rfl,fun X' Y' x' y' a b c d=>by
  obtain rfl:=is48_one a hX
  obtain rfl:=is48_one b hY
  rw [hx] at c
  rw [hy] at d
  cases c
  cases d
  exact hv,bel⟩⟩
/-- bytes in a block of S stay in every world that agrees there -/
theorem bs_agr {S:Nat→Prop} {w w':World} {v:Value} {n:List Int} (h:Bs w v n) (hv:∀ a m c,v=.slice (some a) m c→0 < m→S a.block) (ha:Agr S w w'):Bs w' v n:=by
 obtain ⟨ao,cp,e,h1,h2,h3⟩:=h
 refine ⟨ao,cp,e,h1,h2,fun h0=>?_⟩
 obtain ⟨b,o,e2,hb,hc⟩:=h3 h0
 have hs:S b:=hv ⟨b,o,none⟩ _ _ (by rw [e,e2]) h0
 refine ⟨b,o,e2,Nat.lt_of_lt_of_le hb ha.1,fun j hj=>?_⟩
 rw [← hc j hj]
 have:=ha.2 b hs hb
 unfold World.cell?
 simp only [this]
theorem leaf_bs {S:Nat→Prop} {w:World} {v:Value} {n:List Int} (h:Bs w v n) (hv:∀ a m c,v=.slice (some a) m c→0 < m→S a.block) (c t:Int) (m:Bool):Dep S w (.mk c t m n []) [.int .i64 c,.int .i64 t,.bool m,v,.slice none 0 0]:=fun w' ha=>by
 rw [TlAt]
 exact ⟨_,_,_,rfl,bs_agr h hv ha,by decide,by decide,fun h=>absurd h (by simp)⟩
/-- the kids that are told so far -/
def Kid (r s:Int) (acc:List Tl):Prop:=∀ j t,acc[j]?=some t→∃ X n,t=.mk 0 2 false n []∧Is48 X (if j=0 then r else s)∧numOf X=.ok n
theorem Kid.next {r s:Int} {acc:List Tl} {X n:List Int} (h:Kid r s acc) (hX:Is48 X (if acc.length=0 then r else s)) (hn:numOf X=.ok n):Kid r s (acc++[.mk 0 2 false n []]):=fun j t ht=>by
 by_cases hj:j < acc.length
 ·rw [List.getElem?_append_left hj] at ht
  exact h j t ht
 ·have hlt:=(List.getElem?_eq_some_iff.1 ht).1
  rw [List.length_append] at hlt
  obtain rfl:j=acc.length:=by simp at hlt;omega
  rw [List.getElem?_append_right (Nat.le_refl _),Nat.sub_self] at ht
  simp at ht
  subst ht
  exact ⟨X,n,rfl,hX,hn⟩
theorem Kid.two {r s:Int} {acc:List Tl} (h:Kid r s acc) (hl:acc.length=2):∃ X Y x y,acc=[.mk 0 2 false x [],.mk 0 2 false y []]∧Is48 X r∧Is48 Y s∧numOf X=.ok x∧numOf Y=.ok y:=by
 match acc,hl,h with
 | [a,b],_,h =>
  obtain ⟨X,x,rfl,h1,h2⟩:=h 0 a rfl
  obtain ⟨Y,y,rfl,h3,h4⟩:=h 1 b rfl
  exact ⟨X,Y,x,y,rfl,h1,h3,h2,h4⟩
theorem info_uu:(Tryz.prog.info? 29).map (fun i=>(i.zero,i.size,i.bytes))=some (some (.agg #[.int .u64 0,.int .u64 0,.int .u64 0,.int .u64 0,.int .u64 0,.int .u64 0]),6,48):=by kernel_rfl
theorem fill_uu {ps qs:List Value} {a b:Int} (ha:U6 ps a) (hb:U6 qs b):Instr.fill (fun i=>some (i * 6,6)) ((Array.range (2 * 6)).map ((Value.agg #[.int .u64 0,.int .u64 0,.int .u64 0,.int .u64 0,.int .u64 0,.int .u64 0]).cells[· % (Value.agg #[.int .u64 0,.int .u64 0,.int .u64 0,.int .u64 0,.int .u64 0,.int .u64 0]).cells.size]!)) [(0,.agg ps.toArray),(1,.agg qs.toArray)]=some (ps++qs).toArray:=by
 obtain ⟨z0,z1,z2,z3,z4,z5,rfl,_⟩:=ha
 obtain ⟨y0,y1,y2,y3,y4,y5,rfl,_⟩:=hb
 kernel_rfl
/-- one of two numbers in a row -/
theorem pick_u {w:World} {g i:Nat} {rs ss:List Value} {r s:Int} (B:Blk w g (rs++ss)) (hr:U6 rs r) (hs:U6 ss s) (hi:i < 2):∃ ds,(loadVar 29 ⟨g,0 + i * 6,none⟩).run Tryz.prog w=.ok (.agg ds.toArray) w∧(loadVar 29 ⟨g,i * 6,none⟩).run Tryz.prog w=.ok (.agg ds.toArray) w∧U6 ds (if i=0 then r else s):=by
 match i,hi with
 | 0,_=>exact ⟨rs,load_u B hr app_at0,load_u B hr app_at0,hr⟩
 | 1,_=>exact ⟨ss,load_u B hs (app_at2 (n:=6) hr.len),load_u B hs (app_at2 (n:=6) hr.len),hs⟩
set_option linter.unusedSimpArgs false in
set_option maxRecDepth 100000 in
set_option maxHeartbeats 4000000 in
theorem c14_Encode {rs ss:List Value} {r s:Int} {w:World} (G:GlsO w) (hr:U6 rs r) (hs:U6 ss s) :
  Calls Tryz.prog 23 #[.agg (rs++ss).toArray] w (EncR w r s):=by
 have HG:Hid (GlsO w):=G
 have hts:∃ ts,rs++ss=ts:=⟨_,rfl⟩
 obtain ⟨ts,hts⟩:=hts
 have HT:Hid (rs++ss=ts):=hts
 have HLt:Hid (ts.length=12):=by show _=_;rw [← hts,List.length_append,hr.len,hs.len]
 have HR:Hid (U6 rs r):=hr
 have HS:Hid (U6 ss s):=hs
 rw [hts]
 clear hts hr hs G
 have S0:=Blk.new w ts 31 w.heap.size rfl
 have bel:=bal w (.cells ts.toArray 31)
 go_enter Tryz.func23,Tryz.ntmps23
 go_upto_region 1 with fail
 generalize w.alloc (.cells ts.toArray 31)=W at *
 have l1:=S0.lt
 go_wp2_with (first|(refine wpList_load_run (by rfl) (by rfl) (by rfl) (S0.load Tryz.underlying31 rfl size_s HLt.out) ?_)|fail)
 refine (show Calls Tryz.prog 56 #[.agg ts.toArray] _ (fun e w'=>e=.returned (.bool (decide (isSc r∧isSc s)))∧Below _ _ w') by rw [← HT.out];exact c14_both (HG.out.below bel) HR.out HS.out).mono ?_
 rintro e w1 ⟨rfl,hb⟩
 replace S0:=S0.later hb
 replace bel:=below_step bel hb
 clear hb
 clear l1
 by_cases c1:isSc r∧isSc s
 rotate_left
 ·rw [decide_eq_false c1]
  have HN:Hid (¬ (isSc r∧isSc s)):=c1
  clear c1
  go_wp2_with fail
  refine bodyPost_ret (results_tmp2 rfl _ _ _) rfl ?_
  exact EncR.no HN.out bel
 have HW1:Hid (w.heap.size < w1.heap.size):=S0.lt
 rw [decide_eq_true c1]
 have HC1:Hid (isSc r∧isSc s):=c1
 clear c1
 have hz:=zero_tlv.out
 have KB:=Blk.new w1 [.int .i64 0,.int .i64 16,.bool true,.slice none 0 0,.slice none 0 0] 53 w1.heap.size rfl
 replace S0:=S0.alloc (.cells #[.int .i64 0,.int .i64 16,.bool true,.slice none 0 0,.slice none 0 0] 53)
 replace bel:=below_alloc (o:=.cells #[.int .i64 0,.int .i64 16,.bool true,.slice none 0 0,.slice none 0 0] 53) bel
 go_upto_region 4 with (first|(refine wpList_store_row rfl 53 _ _ rfl w1.heap.size #[.int .i64 0,.int .i64 16,.bool true,.slice none 0 0,.slice none 0 0] rfl rfl 53 _ (heap_alloc_last _ _) (by rw [size_tlv];rfl) rfl (by simp [Value.oneCell']) ?_;rw [World.setRow_alloc_new])|fail)
 clear hz
 obtain ⟨gl,hgl⟩:∃ g,g=w1.heap.size:=⟨_,rfl⟩
 rw [← hgl] at KB
 have HGl:Hid (w.heap.size < gl):=by show _ < _;rw [hgl];exact HW1.out
 generalize w1.alloc (.cells #[.int .i64 0,.int .i64 16,.bool true,.slice none 0 0,.slice none 0 0] 53)=V1 at *
 rw [← hgl]
 clear hgl HW1
 have HKl0:Hid (gl < V1.heap.size):=KB.lt
 obtain ⟨ju,hju,hu0,hu1,hu2⟩:=info_partsD info_uu
 obtain ⟨jt,hjt,ht0,ht1,ht2⟩:=info_partsD info_tlv
 have HF:Hid _:=fill_uu HR.out HS.out
 rw [HT.out] at HF
 have l1:=S0.lt
 have BB:=Blk.new V1 ts 29 V1.heap.size rfl
 replace KB:=KB.alloc (.cells ts.toArray 29)
 replace bel:=below_alloc (o:=.cells ts.toArray 29) bel
 have HKl:Hid (gl < V1.heap.size):=HKl0.out
 clear HKl0
 go_wp2_with (first|(refine wpList_load_run (by rfl) (by rfl) (by rfl) (load_u S0 HR.out (by rw [← HT.out];exact app_at0)) ?_)|((refine wpList_load_run (by rfl) (by rfl) (by rfl) (load_u (o:=6) S0 HS.out (by rw [← HT.out];exact app_at2 HR.out.len)) ?_);refine Go.wpList_buildSlice rfl 114 29 2 _ rfl ts.toArray ju _ Tryz.underlying114 hju hu0 (by rw [hu1];decide) (by rw [hu1];decide) (by rw [hu1];refine (congrArg _ (?_:_=[(0,Value.agg rs.toArray),(1,Value.agg ss.toArray)])).trans HF.out;kernel_rfl) ?_)|fail)
 clear l1 S0
 obtain ⟨gb,hgb⟩:∃ g,g=V1.heap.size:=⟨_,rfl⟩
 rw [← hgb] at BB
 generalize V1.alloc (.cells ts.toArray 29)=V2 at *
 rw [← hgb]
 have hglb:gl < gb:=by rw [hgb];exact HKl.out
 have hgbW:gb < V2.heap.size:=BB.lt
 clear hgb HKl
 obtain ⟨W0,hW0⟩:∃ z,z=V2.heap.size:=⟨_,rfl⟩
 rw [← hW0] at hgbW
 have hsV:W0≤V2.heap.size:=by omega
 clear hW0
 go_loopw [20] (fun iv wx=>∃ (acc:List Tl) (kv:Value) (xs:List Value),acc.length≤2∧iv=.int .i64 (acc.length:Int)∧Hid (Kid r s acc)∧Blk wx gl [.int .i64 0,.int .i64 16,.bool true,.slice none 0 0,kv]∧wx.ownsRow W0 53 5 kv acc.length xs∧Hid (∀ i t,acc[i]?=some t→Dep (fun b=>W0≤b∧kv.ownBlock≠some b) wx t ((xs.drop (5 * i)).take 5))∧Blk wx gb ts∧Below w.heap.size w wx∧W0≤wx.heap.size) (fun iv _=>2 - (intOf iv).toNat)
 case atStart=>exact ⟨[],.slice none 0 0,[],by decide,rfl,fun j t h=>by simp at h,KB,⟨rfl,.inl ⟨rfl,rfl⟩⟩,fun i t h=>by simp at h,BB,bel,hsV⟩
 case round =>
  clear KB BB bel hsV
  obtain ⟨acc,kv,xs,hi,rfl,HK,KB,own,HD,BB,bel,hsV⟩:=hrel
  have HKV:Hid (∃ va vc,kv=.slice va acc.length vc):=by rcases own.2 with ⟨h,h'⟩|⟨_,_,_,h,_⟩;exact ⟨none,0,by rw [h,h']⟩;exact ⟨_,_,h⟩
  by_cases hil:acc.length < 2
  ·have g1:((acc.length:Nat):Int) < 2:=by omega
   have g2:(0:Int)≤((acc.length:Nat):Int):=by omega
   have gi:IntKind.i64.wrap ((acc.length:Int) + 1)=(acc.length:Int) + 1:=by rw [IntKind.wrap_i64];omega
   obtain ⟨ds,hld,hld2,hu⟩:=pick_u (by rw [HT.out];exact BB) HR.out HS.out hil
   have HUd:Hid (U6 ds (if acc.length=0 then r else s)):=hu
   have HSd:Hid (ds.toArray.size=6):=by show _=_;rw [List.size_toArray];exact hu.len
   have HLd:Hid (ds.length=6):=hu.len
   have HOd:Hid (OneR ds):=hu.ones
   clear hu
   obtain ⟨na,hna⟩:∃ n,acc.length=n:=⟨_,rfl⟩
   have HNa:Hid (acc.length=na):=hna
   rw [hna] at g1 g2 gi hld hld2 own hil
   rw [hna]
   clear hna
   have hz:=zero_u.out
   have lb:=BB.lt
   have DB:=Blk.new wr ds 29 wr.heap.size rfl
   have hbd:=bal wr (.cells ds.toArray 29)
   go_upto_region 7 with (first|(refine wpList_load_run (by rfl) (by rfl) (by rfl) hld ?_)|(refine wpList_load_run (by rfl) (by rfl) (by rfl) hld2 ?_)|(refine wpList_store_row rfl 29 _ _ rfl wr.heap.size ds.toArray rfl rfl 29 _ (heap_alloc_last _ _) (by rw [size_u,HSd.out]) (by rw [HSd.out];rfl) HOd.out ?_;rw [World.setRow_alloc_new])|fail)
   clear hz hld hld2 lb
   obtain ⟨g9,hg9⟩:∃ g9,g9=wr.heap.size:=⟨_,rfl⟩
   rw [← hg9] at DB
   generalize wr.alloc (.cells ds.toArray 29)=V5 at *
   rw [← hg9]
   clear hg9
   have ld:=DB.lt
   go_wp2_with (first|(refine wpList_load_run (by rfl) (by rfl) (by rfl) (DB.load Tryz.underlying29 rfl size_u HLd.out) ?_)|fail)
   refine (uBytes HUd.out).mono ?_
   rintro e w6 ⟨gx,X,rfl,BX,lX,bX,eX,hb⟩
   have HX:Hid (Is48 X (if acc.length=0 then r else s)):=⟨lX,bX,eX⟩
   have HBx:Hid (Bs w6 (.slice (some ⟨gx,0,none⟩) 48 48) X):=BX.bs lX (by decide)
   obtain ⟨nn,hnn,hln⟩:=num48 lX
   have HNn:Hid (numOf X=.ok nn):=hnn
   have hb6:=below_stepD hbd hb
   clear hb hbd BX lX bX eX ld DB hnn
   go_wp2_with fail
   refine (con_NumberOf HBx.out HX.out.2.1 (by rw [HX.out.1];decide)).mono ?_
   rintro e w7 ⟨hok,-⟩
   obtain ⟨v7,rfl,bs7,hnw,hb⟩:=hok nn HNn.out
   have hb7:=below_stepD hb6 hb
   have HNw:Hid (NewV wr v7):=hnw.up hb6.size
   have HB7:Hid (Bs w7 v7 nn):=bs7
   obtain ⟨va,vc,rfl,-,-,-⟩:=bs7
   clear hok hb hb6 hnw HBx
   have HDp:Hid (Dep (fun b=>wr.heap.size≤b) w7 (.mk 0 2 false nn []) [.int .i64 0,.int .i64 2,.bool false,.slice va nn.length vc,.slice none 0 0]):=leaf_bs HB7.out (fun a m c e h0=>HNw.out a m c e h0) 0 2 false
   have KB7:=KB.later hb7
   have own7:=own_agr (S:=fun _=>True) own (Agr.below hb7) (fun _ _=>trivial)
   have bel7:=bel.trans (hb7.mono bel.size)
   obtain ⟨cs5,hcs5⟩:∃ cs5:List Value,[.int .i64 0,.int .i64 2,.bool false,.slice va nn.length vc,.slice none 0 0]=cs5:=⟨_,rfl⟩
   have HC5:Hid ([.int .i64 0,.int .i64 2,.bool false,.slice va nn.length vc,.slice none 0 0]=cs5):=hcs5
   have HL5:Hid (cs5.length=5):=by show _=_;rw [← hcs5];rfl
   have HF5:Hid _:=fill_5 HL5.out
   have NB:=Blk.new w7 cs5 53 w7.heap.size rfl
   have HNews:Hid (∀ j u,cs5[j]?=some u→(w7.alloc (.cells cs5.toArray 53)).cell? ((⟨w7.heap.size,0,none⟩:Addr).add j)=some u):=fun j u hu=>by
    have e:(⟨w7.heap.size,0,none⟩:Addr).add j=⟨w7.heap.size,j,none⟩:=by unfold Addr.add;split<;>simp_all
    rw [e]
    exact NB.cell j u hu
   have HO1:Hid (∀ u∈cs5,u.oneCell'=true):=fun u hu=>by rw [← hcs5] at hu;simp only [List.mem_cons,List.not_mem_nil,or_false] at hu;rcases hu with rfl|rfl|rfl|rfl|rfl<;>rfl
   have hca:#[.int .i64 0,.int .i64 2,.bool false,.slice va nn.length vc,.slice none 0 0]=cs5.toArray:=by rw [← hcs5]
   clear NB
   have HDq:Hid (Dep (fun b=>wr.heap.size≤b) w7 (.mk 0 2 false nn []) cs5):=by rw [← hcs5];exact HDp.out
   clear hcs5
   have hs7:=hb7.size
   have e4:=KB7.cell 4 _ rfl
   have f4:=KB7.frozen 4
   have lk:=KB7.lt
   have HS3:Hid (Below w7.heap.size w7 (w7.alloc (.cells cs5.toArray 53))):=(Below.refl _ _).alloc (Nat.le_refl _) _
   have q3:=ne_nilT
   have hz:=zero_tlv.out
   obtain ⟨kva,kvc,hkv⟩:=HKV.out
   rw [HNa.out] at hkv
   subst hkv
   go_wp2_with (first|(refine Go.wpList_buildSlice rfl 51 53 1 _ rfl cs5.toArray jt _ Tryz.underlying51 hjt ht0 (by rw [ht1];decide) (by rw [ht1];decide) (by rw [ht1];refine (congrArg _ (?_:_=[(0,Value.agg cs5.toArray)])).trans HF5.out;kernel_rfl) ?_)|(at_builtin;refine wpList_append_lies _ (by rfl) _ _ _ (by rfl) W0 53 jt _ 5 72 Tryz.underlying51 hjt ht0 ht1 ht2 rfl (by omega) _ na xs (by rfl) (own7.alloc _) ⟨w7.heap.size,0,none⟩ 1 1 cs5 (by rfl) HL5.out HNews.out HO1.out (by omega) (by unfold maxLen;omega) (by omega) (by simp;omega) (w7.heap.size + 1) (by simp) ?_;intro gg cap1 wz hownz hgrow hat hltz;have KBz:=(KB7.alloc (.cells cs5.toArray 53)).grown hgrow (fun k hk e=>by have:=(own_geK own7 hk).1;omega);have e4z:=KBz.cell 4 _ rfl;have f4z:=KBz.frozen 4;have lkz:=KBz.lt)|fail)
   have bel10:=Below.grown (below_alloc (o:=.cells cs5.toArray 53) bel7) hgrow (by have:=bel7.size;simp;omega) (fun k hk=>by have:=(own_geK own7 hk).1;have:=HGl.out;omega)
   have BBz:=((BB.later hb7).alloc (.cells cs5.toArray 53)).grown hgrow (fun k hk e=>by have:=(own_geK own7 hk).1;omega)
   have HST:Hid (∀ i t,(acc++[Tl.mk 0 2 false nn []])[i]?=some t→Dep (fun b=>W0≤b∧(Value.slice (some ⟨gg,0,none⟩) (acc.length + 1) cap1).ownBlock≠some b) wz t (((xs++cs5).drop (5 * i)).take 5)):=kids_stepN (by rw [HNa.out];exact own) HD.out hb7 HDq.out HL5.out HS3.out hgrow (by rcases hat with h|h;exact .inl h;exact .inr (by rw [h];simp)) hsV
   have rd:=RdB.cell (k:=4) KBz (.slice (some ⟨gg,0,none⟩) (na + 1) cap1)
   have hgz:=hgrow.size
   have HSz:Hid (W0≤wz.heap.size):=by show _≤_;simp at hgz;omega
   clear hgrow hat hltz e4 f4 lk q3 hz own7 KB7 bel7
   have HKn:Hid (Kid r s (acc++[.mk 0 2 false nn []])):=HK.out.next HX.out HNn.out
   go_roundw
   case rel =>
    refine ⟨acc++[.mk 0 2 false nn []],.slice (some ⟨gg,0,none⟩) (na + 1) cap1,xs++cs5,by rw [List.length_append,HNa.out];simp;omega,by rw [List.length_append,HNa.out];simp,HKn,rd.1,?_,?_,rd.2.1 _ _ (by omega) BBz,rd.2.2.1 _ _ (by have:=HGl.out;omega) bel10,Nat.le_trans HSz.out rd.2.2.2⟩
    ·rw [List.length_append,HNa.out]
     exact own_agr (S:=fun b=>b≠gl) hownz ((Agr.refl _ _).cell (by simp)) (fun g hg e=>by have:=(own_geK hownz hg).1;omega)
    ·exact fun i t ht=>by have h9:=HST.out i t ht;rw [HNa.out] at h9;exact h9.next ((Agr.refl _ _).cell (by simp only [not_and];intro h;omega)) (fun b hb _=>hb)
   case measure=>simp [intOf];omega
  ·have g1:¬ ((acc.length:Nat):Int) < 2:=by omega
   obtain ⟨X,Y,x,y,hacc,hX,hY,hx,hy⟩:=HK.out.two (by omega)
   subst hacc
   have HX:Hid (Is48 X r):=hX
   have HY:Hid (Is48 Y s):=hY
   have HNx:Hid (numOf X=.ok x):=hx
   have HNy:Hid (numOf Y=.ok y):=hy
   have HLx:Hid (x.length≤49):=by obtain ⟨z,hz,hl⟩:=num48 hX.1;rw [hx] at hz;cases hz;exact hl
   have HLy:Hid (y.length≤49):=by obtain ⟨z,hz,hl⟩:=num48 hY.1;rw [hy] at hz;cases hz;exact hl
   have HBx:Hid (byt x):=numOf_byt hX.2.1 hx
   have HBy:Hid (byt y):=numOf_byt hY.2.1 hy
   have HTl:Hid (TlAt wr (sigT x y) [.int .i64 0,.int .i64 16,.bool true,.slice none 0 0,kv]):=(kids_own (S':=fun _=>True) own HD.out 0 16 true (fun _ _=>trivial) (fun _ _=>trivial)).now
   clear hX hY hx hy own HD BB HK hil g1
   have g1:¬ ((2:Int) < 2):=by omega
   have lk:=KB.lt
   obtain ⟨kva,kvc,hkv⟩:=HKV.out
   subst hkv
   have hLL:∀ w:World,Blk w gl [.int .i64 0,.int .i64 16,.bool true,.slice none 0 0,.slice kva 2 kvc]→(loadVar 53 ⟨gl,0,none⟩).run Tryz.prog w=.ok (.agg #[.int .i64 0,.int .i64 16,.bool true,.slice none 0 0,.slice kva 2 kvc]) w:=fun w B=>B.load Tryz.underlying53 rfl size_tlv rfl
   go_wp2_with (first|(refine wpList_load_run (by rfl) (by rfl) (by rfl) (hLL _ KB) ?_)|fail)
   refine (con_Write HTl.out (sig_wf HBx.out HBy.out) (by rw [sig_sz];omega) (by have:=sig_len HLx.out HLy.out;omega)).mono ?_
   rintro e w7 ⟨wv,er,rfl,hw,hb⟩
   obtain ⟨hfd,rfl⟩:=hw.1 (sig_wr HLx.out HLy.out)
   have HBs:Hid (Bs w7 wv (bytesT (sigT x y))):=hfd.bs
   replace bel:=below_step bel hb
   clear hw hfd hb lk hLL KB
   go_wp2_with fail
   refine bodyPost_ret (results_tmp2 rfl _ _ _) rfl ?_
   exact EncR.yes HC1.out HX.out HY.out HNx.out HNy.out HBs.out bel
end Go.Proofs.YtohcdbifhnfcbaaGreatDoor
