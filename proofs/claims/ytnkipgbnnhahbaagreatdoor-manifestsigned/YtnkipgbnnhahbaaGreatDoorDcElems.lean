/- The program's elements. -/
import Derived.Test.YtnkipgbnnhahbaaGreatDoorDcHeld
import Derived.Test.YtnkipgbnnhahbaaGreatDoorRows
import Derived.Deep.OwnRows
import Derived.Deep.AppendLies
import Derived.Great.BuildSlice
import Derived.Deep.WholeRow
import Derived.Deep.RegionHeld3
import Derived.Deep.DeepCutAuto
import Derived.Deep.DeepFit
namespace Go.Proofs.YtnkipgbnnhahbaaGreatDoor
open Go.RowKit
theorem BadR.below {w w':World} {c p:Int} {er:Value} (h:BadR w w' c p er):Below w.heap.size w w':=by
 obtain ⟨_,_,_,_,h⟩:=h
 exact h
theorem BadR.form {w w':World} {c p:Int} {er:Value} (h:BadR w w' c p er):∃ g,er=.iface 98 (.pointer (some ⟨g,0,none⟩)):=by
 obtain ⟨g,h,_⟩:=h
 exact ⟨g,h⟩
theorem BadR.more {w w':World} {c p:Int} {er:Value} (h:BadR w w' c p er) (o:Obj):BadR w (w'.alloc o) c p er:=by
 obtain ⟨g,h1,h2,h3,h4⟩:=h
 exact ⟨g,h1,h2,h3.alloc o,h4.alloc h4.size o⟩
theorem BadR.cell {w w':World} {c p:Int} {er:Value} {k j:Nat} {u:Value} (h:BadR w w' c p er) (hk:k < w.heap.size) {w0:World} (bel:Below w0.heap.size w0 w) (hk0:w0.heap.size≤k):BadR w0 (w'.setCell ⟨k,j,none⟩ u) c p er:=by
 obtain ⟨g,h1,h2,h3,h4⟩:=h
 have:=bel.size
 exact ⟨g,h1,by omega,h3.other ⟨k,j,none⟩ u (by show g≠k;omega),(bel.trans (h4.mono bel.size)).setCell (p:=⟨k,j,none⟩) hk0 u⟩
theorem BadR.setrow {w w':World} {c p:Int} {er:Value} {k:Nat} {cs:Array Value} (h:BadR w w' c p er) (hk:w.heap.size=k) (hn:∀ g,er=.iface 98 (.pointer (some ⟨g,0,none⟩))→g≠k):BadR w (w'.setRow k cs) c p er:=by
 obtain ⟨g,h1,h2,h3,h4⟩:=h
 exact ⟨g,h1,h2,h3.row (hn g h1),below_setRow h4 (by omega) _⟩
theorem results_row_tmp2c {P:Program} {fn:Func} {p u v:Tmp} {ty:TypeId} (h:fn.results=#[.cell p ty,.tmp u,.tmp v]) (tmps:Array Value) (w:World) (g:Nat) (t:TypeId) (cs:Array Value) (fr:Nat × Nat) (d:TypeDesc)
  (hp:tmps.getD p undef=.pointer (some ⟨g,0,none⟩)) (hg:w.heap[g]?=some (.cells cs t fr))
  (hu:P.underlying ty=some d) (hd:(match d with|.struct _|.array _ _=>true|_=>false)=true) (hi:(P.info? ty).map (·.size)=some cs.size) :
  (results fn tmps).run P w=.ok (.tuple #[.agg cs,tmps.getD u undef,tmps.getD v undef]) w:=by
 have hp':tmps[p]?.getD undef=.pointer (some ⟨g,0,none⟩):=by simpa using hp
 simp [results,h,hp',asAddr,run_loadVar_row w g t ty cs fr d hg hu hd hi]
theorem heldP_ok {B:List Int} {a en f s:Nat} (b:byt B) (h:heldP B a en=.ok (f,s)):a + 1≤f∧f≤s∧s≤en:=by
 unfold heldP at h
 cases hq:lenP B a en with
 | error e=>rw [hq] at h;cases h
 | ok q =>
  obtain ⟨n,f'⟩:=q
  rw [hq] at h
  simp only at h
  split at h
  ·cases h
  ·cases h
   have:=len_ok b hq
   have h1:=lenB_pos n
   omega
theorem elemP_held {B:List Int} {d a en:Nat} (c1:¬ en≤a):elemP B (d + 1) a en=if byN B a % 32=31 then .error (7,a) else match heldP B (a + 1) en with|.error e=>.error e|.ok (f,s)=>if byN B a / 32 % 2=1 then (match kidsP (elemP B d) s (s - f) f [] with|.error e=>.error e|.ok (ks,z)=>.ok (.mk ((byN B a / 64:Nat):Int) ((byN B a % 32:Nat):Int) true [] ks,z)) else .ok (.mk ((byN B a / 64:Nat):Int) ((byN B a % 32:Nat):Int) false ((B.drop f).take (s - f)) [],s):=by
 rw [elemP,if_neg c1]
 unfold heldP
 cases hq:lenP B (a + 1) en with
 | error e=>rfl
 | ok q =>
  obtain ⟨n,f⟩:=q
  by_cases h:en < f + n
  ·simp only [if_pos h]
  ·simp only [if_neg h]
   rw [show f + n - f=n by omega]
   rfl
/-- one more element behind those in a row that is owned -/
theorem kids_stepN {wr w1 w3 wz:World} {base gg cap1:Nat} {e:TypeId} {kv:Value} {acc:List Tl} {xs cs:List Value} {T:Tl} (own:wr.ownsRow base e 5 kv acc.length xs)
    (HD:∀ i t,acc[i]?=some t→Dep (fun b=>base≤b∧kv.ownBlock≠some b) wr t ((xs.drop (5 * i)).take 5)) (hb:Below wr.heap.size wr w1) (hdep:Dep (fun b=>wr.heap.size≤b) w1 T cs) (l5:cs.length=5)
    (hb3:Below w1.heap.size w1 w3) (hgrow:w3.grownBy wz kv.ownBlock) (hat:kv.ownBlock=some gg∨gg=w3.heap.size) (hs:base≤wr.heap.size) :
      ∀ i t,(acc++[T])[i]?=some t→Dep (fun b=>base≤b∧(Value.slice (some ⟨gg,0,none⟩) (acc.length + 1) cap1).ownBlock≠some b) wz t (((xs++cs).drop (5 * i)).take 5):=by
  have s1:=hb.size
  have s3:=hb3.size
  have hxs:=own.1
  intro i t hi
  by_cases hil:i < acc.length
  · rw [List.getElem?_append_left hil] at hi
    rw [List.drop_append_of_le_length (by omega),List.take_append_of_le_length (by rw [List.length_drop];omega)]
    refine (HD i t hi).next (((Agr.below hb).trans (Agr.below hb3)).trans (Agr.grown hgrow (fun b hb=>hb.2))) (fun b hb hl=>⟨hb.1,fun e=>?_⟩)
    simp only [Value.ownBlock,Option.some.injEq] at e
    subst e
    rcases hat with h|h
    · exact hb.2 h
    · omega
  · have hlt:=(List.getElem?_eq_some_iff.1 hi).1
    rw [List.length_append] at hlt
    have ei:i=acc.length:=by simp at hlt;omega
    subst ei
    rw [List.getElem?_append_right (Nat.le_refl _),Nat.sub_self] at hi
    simp only [List.getElem?_cons_zero,Option.some.injEq] at hi
    subst hi
    rw [show 5 * acc.length=xs.length by omega,List.drop_left,List.take_of_length_le (by omega)]
    refine hdep.next ((Agr.below hb3).trans (Agr.grown hgrow (fun b hb e=>?_))) (fun b hb hl=>⟨by omega,fun e=>?_⟩)
    · have:=own_geK own e
      omega
    · simp only [Value.ownBlock,Option.some.injEq] at e
      subst e
      rcases hat with h|h
      · have:=own_geK own h
        omega
      · omega
/-- what element answers, to a depth -/
def ElemC (B:List Int) (d:Nat):Prop:=∀ (a en:Nat) (v:Value) (w:World),d≤16→a≤1048576→en≤B.length→Cut w v B en →
  Calls Tryz.prog 32 #[v,.int .i64 (a:Int),.int .i64 (16 - (d:Int))] w fun e w'=>(∀ T z,elemP B d a en=.ok (T,z)→∃ cs,e=.returned (.tuple #[.agg cs.toArray,.int .i64 (z:Int),.nilIface])∧Dep (fun b=>w.heap.size≤b) w' T cs∧Below w.heap.size w w')∧(∀ c p,elemP B d a en=.error (c,p)→∃ er,e=.returned (.tuple #[.agg #[.int .i64 0,.int .i64 0,.bool false,.slice none 0 0,.slice none 0 0],.int .i64 0,er])∧BadR w w' (c:Int) (p:Int) er)
set_option linter.unusedSimpArgs false in
set_option maxRecDepth 100000 in
set_option maxHeartbeats 4000000 in
theorem c12_elems {B:List Int} (b:byt B) (hl:B.length≤1048576) {d:Nat} (IH:ElemC B d):∀ (a n st:Nat) (v:Value) (w:World),d≤16→st≤B.length→a≤st→st≤a + n→Cut w v B st →
    Calls Tryz.prog 62 #[v,.int .i64 (a:Int),.int .i64 (16 - (d:Int))] w fun e w'=>(∀ ks z,kidsP (elemP B d) st n a []=.ok (ks,z)→∃ kv xs,e=.returned (.tuple #[kv,.nilIface])∧w'.ownsRow w.heap.size 41 5 kv ks.length xs∧(∀ i t,ks[i]?=some t→Dep (fun b=>w.heap.size≤b∧kv.ownBlock≠some b) w' t ((xs.drop (5 * i)).take 5))∧z=st∧Below w.heap.size w w')∧(∀ c p,kidsP (elemP B d) st n a []=.error (c,p)→∃ er,e=.returned (.tuple #[.slice none 0 0,er])∧BadR w w' (c:Int) (p:Int) er):=by
  intro a n st v w hd hst ha han hc
  have HB:Hid (byt B):=b
  have HC0:Hid (Cut w v B st):=hc
  obtain ⟨ao,cap,rfl,k1,k2,k3⟩:=hc
  clear k3 b
  unfold maxLen at k2
  obtain ⟨j0,hj0,hy0,hy1,hy2⟩:=info_partsD info_tlv
  obtain ⟨dn,hdn⟩:∃ dn:Int,16 - (d:Int)=dn:=⟨_,rfl⟩
  have HIH:Hid (∀ (a:Nat) (v:Value) (w:World),a≤1048576→Cut w v B st→Calls Tryz.prog 32 #[v,.int .i64 (a:Int),.int .i64 dn] w fun e w'=>(∀ T z,elemP B d a st=.ok (T,z)→∃ cs,e=.returned (.tuple #[.agg cs.toArray,.int .i64 (z:Int),.nilIface])∧Dep (fun b=>w.heap.size≤b) w' T cs∧Below w.heap.size w w')∧(∀ c p,elemP B d a st=.error (c,p)→∃ er,e=.returned (.tuple #[.agg #[.int .i64 0,.int .i64 0,.bool false,.slice none 0 0,.slice none 0 0],.int .i64 0,er])∧BadR w w' (c:Int) (p:Int) er)):=fun a v w h1 h2=>by rw [← hdn];exact IH a st v w hd h1 hst h2
  clear IH
  rw [hdn]
  clear hdn
  go_enter Tryz.func62,Tryz.ntmps62
  go_wp2_with fail
  go_loopw [1,8] (fun av kv wx=>∃ (y k:Nat) (acc:List Tl) (xs:List Value),y≤st∧av=.int .i64 (y:Int)∧Hid (kidsP (elemP B d) st n a []=kidsP (elemP B d) st k y acc)∧st≤y + k∧2 * acc.length≤y∧wx.ownsRow w.heap.size 41 5 kv acc.length xs∧Hid (∀ i t,acc[i]?=some t→Dep (fun b=>w.heap.size≤b∧kv.ownBlock≠some b) wx t ((xs.drop (5 * i)).take 5))∧Below w.heap.size w wx) (fun av _ _=>st - (intOf av).toNat)
  case atStart=>exact ⟨a,n,[],[],ha,rfl,rfl,by omega,by simp,⟨rfl,.inl ⟨rfl,rfl⟩⟩,fun i t h=>by simp at h,Below.refl _ _⟩
  case round =>
    obtain ⟨y,k,acc,xs,hy,rfl,HK,hyk,hac,own,HD,bel⟩:=hrel
    have HKV:Hid (∃ va vc,u8=.slice va acc.length vc):=by rcases own.2 with ⟨h,h'⟩|⟨_,_,_,h,_⟩;exact ⟨none,0,by rw [h,h']⟩;exact ⟨_,_,h⟩
    by_cases hyl:y < st
    · have g5:(y:Int) < (st:Int):=by omega
      obtain ⟨k',rfl⟩:∃ k',k=k' + 1:=⟨k - 1,by omega⟩
      have bsz:=bel.size
      go_wp2_with fail
      refine (HIH.out y _ wr (by omega) (HC0.out.later bel)).mono ?_
      rintro e w1 ⟨hok,hbad⟩
      cases hep:elemP B d y st with
      | error q =>
        obtain ⟨c,p⟩:=q
        obtain ⟨er,rfl,hr⟩:=hbad c p hep
        clear hok hbad
        have H:Hid (kidsP (elemP B d) st n a []=.error (c,p)):=by show _=_;rw [HK.out,kidsP,if_pos hyl,hep]
        clear hep HK own HD
        have HBad:Hid (BadR w (w1.alloc (.cells #[.int .i64 0,.int .i64 0,.bool false,.slice none 0 0,.slice none 0 0] 41)) (c:Int) (p:Int) er):=BadR.more (BadR.up bel hr) _
        obtain ⟨g9,rfl⟩:=hr.form
        clear hr
        have hz:=zero_tlv.out
        go_upto_region 4 with (first|(refine wpList_store_row rfl 41 _ _ rfl w1.heap.size #[.int .i64 0,.int .i64 0,.bool false,.slice none 0 0,.slice none 0 0] rfl rfl 41 _ (heap_alloc_last _ _) (by rw [size_tlv];rfl) rfl (by simp [Value.oneCell']) ?_;rw [World.setRow_alloc_new])|fail)
        clear hz
        generalize w1.alloc (.cells #[.int .i64 0,.int .i64 0,.bool false,.slice none 0 0,.slice none 0 0] 41)=w2 at *
        go_wp2_with fail
        refine bodyPost_ret (results_tmp2 rfl _ _ _) rfl ?_
        exact ⟨fun ks z h=>(by rw [H.out] at h;cases h),fun c p h=>(by rw [H.out] at h;cases h;exact ⟨_,rfl,HBad.out⟩)⟩
      | ok q =>
        obtain ⟨T,z⟩:=q
        obtain ⟨cs,rfl,hdep,hb⟩:=hok T z hep
        clear hok hbad
        have heo:=elem_ok HB.out d y st T z (by omega) hep
        have hb2:=bytesT_two T
        have hz1:y + 2≤z:=by have:=heo.1.1;omega
        have hz2:z≤st:=heo.2
        clear heo hb2
        have HK2:Hid (kidsP (elemP B d) st n a []=kidsP (elemP B d) st k' z (acc++[T])):=by show _=_;rw [HK.out,kidsP,if_pos hyl,hep]
        clear hep HK
        have HO5:Hid (OneC cs):=hdep.now.ones
        have l5:=hdep.now.five
        have HL5:Hid (cs.length=5):=l5
        have HS5:Hid (cs.toArray.size=5):=by show _=_;rw [List.size_toArray];exact l5
        have HDp:Hid (Dep (fun b=>wr.heap.size≤b) w1 T cs):=hdep
        have HOw:Hid _:=own
        have HBw:Hid _:=hb
        have bel1:=below_alloc (o:=.cells cs.toArray 41) (below_stepD bel hb)
        have KB:=Blk.new w1 cs 41 w1.heap.size rfl
        have own1:=own_agr (S:=fun _=>True) own (Agr.below (hb.trans (((Below.refl _ _).alloc (Nat.le_refl _) (.cells cs.toArray 41)).mono hb.size))) (fun _ _=>trivial)
        have HB2:Hid (Below w1.heap.size w1 (w1.alloc (.cells cs.toArray 41))):=(Below.refl _ _).alloc (Nat.le_refl _) _
        have hz:=zero_tlv.out
        have hs1:=hb.size
        clear hb own hdep bel
        go_upto_region 4 with (first|(refine wpList_store_row rfl 41 _ _ rfl w1.heap.size cs.toArray rfl rfl 41 _ (heap_alloc_last _ _) (by rw [size_tlv,HS5.out]) (by rw [HS5.out];rfl) HO5.out ?_;rw [World.setRow_alloc_new])|fail)
        clear hz
        obtain ⟨g1,hg1⟩:∃ g1,g1=w1.heap.size:=⟨_,rfl⟩
        rw [← hg1] at KB hs1
        generalize w1.alloc (.cells cs.toArray 41)=w2 at *
        rw [← hg1]
        clear hg1
        go_upto_region 6 with fail
        have HF:Hid _:=fill_5 HL5.out
        have NB:=Blk.new w2 cs 41 w2.heap.size rfl
        have HNews:Hid (∀ j u,cs[j]?=some u→(w2.alloc (.cells cs.toArray 41)).cell? ((⟨w2.heap.size,0,none⟩:Addr).add j)=some u):=fun j u hu=>by
          have e:(⟨w2.heap.size,0,none⟩:Addr).add j=⟨w2.heap.size,j,none⟩:=by unfold Addr.add;split<;>simp_all
          rw [e]
          exact NB.cell j u hu
        clear NB
        have HO1:Hid (∀ u∈cs,u.oneCell'=true):=by have:=HO5.out;unfold OneC at this;rw [Array.all_eq_true_iff_forall_mem] at this;exact fun u hu=>this u (by simpa using hu)
        have lk1:=KB.lt
        have HSz:Hid (w.heap.size≤w2.heap.size):=by show _≤_;omega
        have HS3:Hid (Below w1.heap.size w1 (w2.alloc (.cells cs.toArray 41))):=HB2.out.alloc HB2.out.size _
        go_upto_region 7 with (first
          | (refine wpList_load_run (by rfl) (by rfl) (by rfl) (KB.load Tryz.underlying41 rfl size_tlv HL5.out) ?_;refine Go.wpList_buildSlice rfl 39 41 1 _ rfl cs.toArray j0 _ Tryz.underlying39 hj0 hy0 (by rw [hy1];decide) (by rw [hy1];decide) (by rw [hy1];refine (congrArg _ (?_:_=[(0,Value.agg cs.toArray)])).trans HF.out;kernel_rfl) ?_)
          | (at_builtin;refine wpList_append_lies _ (by rfl) _ _ _ (by rfl) w.heap.size 41 j0 _ 5 72 Tryz.underlying39 hj0 hy0 hy1 hy2 rfl (by omega) u8 acc.length xs (by rfl) (own1.alloc _) ⟨w2.heap.size,0,none⟩ 1 1 cs (by rfl) HL5.out HNews.out HO1.out (by omega) (by unfold maxLen;omega) (by omega) (by simp;omega) (w2.heap.size + 1) (by simp) ?_;intro gg cap1 wz hownz hgrow hat hltz)
          | fail)
        have bel10:=Below.grown (bel1.alloc bel1.size (.cells cs.toArray 41)) hgrow (by simp;omega) (fun k hk=>(own_geK own1 hk).1)
        have HST:Hid (∀ i t,(acc++[T])[i]?=some t→Dep (fun b=>w.heap.size≤b∧(Value.slice (some ⟨gg,0,none⟩) (acc.length + 1) cap1).ownBlock≠some b) wz t (((xs++cs).drop (5 * i)).take 5)):=kids_stepN HOw.out HD.out HBw.out HDp.out HL5.out HS3.out hgrow (by rcases hat with h|h;exact .inl h;exact .inr (by rw [h];simp)) bsz
        clear hgrow hat hltz bel1 own1 KB lk1
        go_wp2_with fail
        go_roundw
        case rel=>exact ⟨z,k',acc++[T],xs++cs,hz2,rfl,HK2,by omega,by rw [List.length_append];simp;omega,by rw [List.length_append];exact hownz,HST,bel10⟩
        case measure=>simp [intOf];omega
    · have g5:¬ (y:Int) < (st:Int):=by omega
      have HY:Hid (y=st):=by show y=st;omega
      have H:Hid (kidsP (elemP B d) st n a []=.ok (acc,y)):=by
        show _=_
        rw [HK.out]
        cases k with
        | zero=>rw [kidsP]
        | succ k=>rw [kidsP,if_neg hyl]
      clear HK
      have HO:Hid _:=own
      clear own
      go_wp2_with fail
      refine bodyPost_ret (results_tmp2 rfl _ _ _) rfl ?_
      exact ⟨fun ks z h=>(by rw [H.out] at h;cases h;first|exact ⟨_,xs,rfl,HO.out,HD.out,HY.out,bel⟩|exact ⟨_,rfl,xs,HO.out,HD.out,HY.out,bel⟩),fun c p h=>(by rw [H.out] at h;cases h)⟩
end Go.Proofs.YtnkipgbnnhahbaaGreatDoor
