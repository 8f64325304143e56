import Derived.Test.YtdfmoghjimghhaaGreatDoorCtSize
import Derived.Test.YtdfmoghjimghhaaGreatDoorNlSG
import Derived.Test.YtdfmoghjimghhaaGreatDoorNlElem
import Derived.Test.YtdfmoghjimghhaaGreatDoorDrTG
import Derived.Test.YtdfmoghjimghhaaGreatDoorClEl
import Derived.Test.YtdfmoghjimghhaaGreatDoorRows
import Derived.Deep.OwnRows
import Derived.Deep.AppendLies
import Derived.Great.BuildSlice
import Derived.Laws.Rows
import Derived.BigQuiet
import Derived.Deep.WholeRow
import Derived.Deep.RegionHeld3
import Derived.Deep.DeepCutAuto
import Derived.Deep.DeepFit
namespace Go.Proofs.YtdfmoghjimghhaaGreatDoor
open Go.RowKit
theorem Zdh {T G:Prop} (main:T→G) (kp:T):G:=main kp
def ElR (w:World) (r:Option Tl) (e:Ending) (w':World):Prop:=Below w.heap.size w w'∧(r=none→∃ c:Int,e=.returned (.tuple #[.agg #[.int .i64 0,.int .i64 0,.bool false,.slice none 0 0,.slice none 0 0],.iface 53 (.int .i64 c)]))∧(∀ T,r=some T→∃ cs:List Value,e=.returned (.tuple #[.agg cs.toArray,.nilIface])∧Dep (fun g=>w.heap.size≤g) w' T cs)
theorem ElR.bad {w w':World} {r:Option Tl} {c:Int} (h:r=none) (hb:Below w.heap.size w w'):ElR w r (.returned (.tuple #[.agg #[.int .i64 0,.int .i64 0,.bool false,.slice none 0 0,.slice none 0 0],.iface 53 (.int .i64 c)])) w':=⟨hb,fun _=>⟨c,rfl⟩,fun T k=>(by rw[h] at k;cases k)⟩
theorem ElR.ok {w w':World} {r:Option Tl} {T:Tl} {cs:List Value} (h:r=some T) (hd:Dep (fun g=>w.heap.size≤g) w' T cs) (hb:Below w.heap.size w w'):ElR w r (.returned (.tuple #[.agg cs.toArray,.nilIface])) w':=⟨hb,fun k=>(by rw[h] at k;cases k),fun T' k=>(by rw[h] at k;cases k;exact ⟨cs,rfl,hd⟩)⟩
theorem RwT.cell {w:World} {N c k:Nat} {kv v:Value} {Ts:List Tl} (h:RwT w N kv Ts) (hc:c<N):RwT (w.setCell ⟨c,k,none⟩ v) N kv Ts:=by
 obtain⟨xs,h1,h2⟩:=h;exact ⟨xs,Zbr (S:=fun b=>N≤b) h1 ((Agr.refl _ _).cell (by omega)) (fun g hg=>(Zat h1 hg).1),fun i t ht=>(h2 i t ht).next ((Agr.refl _ _).cell (fun h=>by have:=h.1;omega)) (fun _ h _=>h)⟩
theorem RwT.ltE {w:World} {N b:Nat} {kv:Value} {Ts:List Tl} (h:RwT w N kv Ts) (hb:kv.ownBlock=some b):N≤b∧b<w.heap.size:=by
 obtain⟨xs,h1,_⟩:=h;exact Zat h1 hb
def Znw (n:List Int):Bool:=decide (¬ (n.length<1∨20<n.length∨n.getD 0 0=0))
theorem Zlx {n:List Int} (h:Znw n=false):Zd0 n=none:=by
 unfold Znw at h;unfold Zd0;rw[if_pos (Decidable.not_not.1 (of_decide_eq_false h))]
theorem Znx {n:List Int} (h:Znw n=true):∃ b,ZaK n=.ok b∧Zd0 n=some (.mk 0 2 false b []):=by
 have h1:=of_decide_eq_true h;unfold Zd0;rw[if_neg h1]
 cases hn:ZaK n with
 | ok b=>exact ⟨b,rfl,rfl⟩
 | error c =>
  exfalso
  unfold ZaK at hn;have hz:∀ X:List Int,(Za4 X).length≤X.length:=by
   intro X
   induction X with
   | nil=>simp[Za4]
   | cons x X ih =>
    rw[Za4]
    split
    ·rw[List.length_cons];omega
    ·exact Nat.le_refl _
  have:=hz n;rw[if_neg (by omega)] at hn
  split at hn<;>cases hn
def ZjA (f t:Int):Option Tl:=match ZcI f,ZcI t with|some a,some b=>some (Zak [a,b])|_,_=>none
theorem Zo6 {f t:Int} (h:ZcI f=none∨ZcI t=none):ZjA f t=none:=by
 unfold ZjA;rcases h with h|h
 ·rw[h]
 ·rw[h]
  cases ZcI f<;>rfl
theorem ZiL {f t:Int} {a b:Tl} (h:ZcI f=some a) (k:ZcI t=some b):ZjA f t=some (Zak [a,b]):=by
 unfold ZjA;rw[h,k]
theorem Zo5 {t:Int} {c:Nat} (h:ZaQ t=.error c):ZcI t=none:=by unfold ZcI;rw[h]
theorem ZnJ {t a:Int} {b:List Int} (h:ZaQ t=.ok (a,b)):ZcI t=some (.mk 0 a false b []):=by unfold ZcI;rw[h]
def ZcZ (n:List Pn):Option Tl:=if Zcl n=true then some (ZaH n) else none
theorem ZiK {α:Type} {L:List α} {i:Nat} {x:α} {P:α→Prop} (h:∀ l∈L.take i,P l) (hx:L[i]?=some x) (k:P x):∀ l∈L.take (i+1),P l:=fun l hl=>by
 rw[List.take_add_one,hx,List.mem_append] at hl;rcases hl with hl|hl
 ·exact h l hl
 ·simp at hl
  subst hl;exact k
theorem Ziq {α β:Type} {L:List α} {i:Nat} {x:α} {f:α→β} (hx:L[i]?=some x):(L.take (i+1)).map f=(L.take i).map f++[f x]:=by
 rw[List.take_add_one,hx,List.map_append]
 rfl
theorem Zeb {v:Value} {n:List Pn} {w:World} (hn:Zb3 w v n) (wn:WfN n):Calls Tryz.prog 54 #[v] w (ElR w (ZcZ n)):=by
 refine(Zkc hn wn).mono ?_;rintro e w' ⟨h1,h2⟩;unfold ZcZ
 cases hm:Zcl n with
 | false =>
  obtain⟨rfl,hb⟩:=h1 hm;exact ElR.bad (by simp) hb
 | true =>
  obtain⟨kv,xs,rfl,h3,h4,hb⟩:=h2 hm;exact ElR.ok (by simp) (ZcX.tl h3 h4) hb
theorem Zmw {c0 c1 c2:List Value} (h0:c0.length=5) (h1:c1.length=5) (h2:c2.length=5):Instr.fill (fun i=>some (i*5,5)) ((Array.range (3*5)).map ((Value.agg #[.int .i64 0,.int .i64 0,.bool false,.slice none 0 0,.slice none 0 0]).cells[· % (Value.agg #[.int .i64 0,.int .i64 0,.bool false,.slice none 0 0,.slice none 0 0]).cells.size]!)) [(0,.agg c0.toArray),(1,.agg c1.toArray),(2,.agg c2.toArray)]=some (c0++(c1++c2)).toArray:=by
 rw[Zoq h0 h1 h2,List.append_nil]
def exT (s:List Int) (must:Bool) (b:List Int):Tl:=Zak ([.mk 0 6 false s []]++(if must then [Zcm] else [])++[.mk 0 4 false b []])
theorem ZgQ {w:World} {S:Nat→Prop} {ks:List Tl} {xs:List Value} (hl:xs.length=ks.length*5) (hS:S w.heap.size) (hm:ks.length≤maxLen) (hk:∀ i k,ks[i]?=some k→Dep S w k ((xs.drop (5*i)).take 5)) (c t:Int) (m:Bool) :
  Dep S (w.alloc (.cells xs.toArray 57)) (.mk c t m [] ks) [.int .i64 c,.int .i64 t,.bool m,.slice none 0 0,.slice (some ⟨w.heap.size,0,none⟩) ks.length ks.length]:=by
 have own:(w.alloc (.cells xs.toArray 57)).ownsRow 0 57 5 (.slice (some ⟨w.heap.size,0,none⟩) ks.length ks.length) ks.length xs :=
  ⟨hl,.inr ⟨w.heap.size,ks.length,xs.toArray,rfl,Nat.zero_le _,by show (w.heap.push _)[w.heap.size]?=_;simp,Nat.le_refl _,hm,by simpa using hl,by rw[List.take_of_length_le (by simp;omega)]⟩⟩
 refine ZdV own (fun i k hi=>(hk i k hi).next (Agr.below ((Below.refl _ _).alloc (Nat.le_refl _) _)) (fun _ h _=>h)) c t m (fun _ h=>h) (fun g hg=>?_);simp only[Value.ownBlock,Option.some.injEq] at hg;rw[← hg];exact hS
set_option linter.unusedSimpArgs false in
set_option maxRecDepth 100000 in
set_option maxHeartbeats 2000000 in
theorem ZdP {s b:List Int} {z:ByteArray} {must:Bool} {v:Value} {N:Nat} {w:World} (hs9:byt s) (hl9:s.length≤maxLen) (hz9:strOfNums s=z) (hv:Bs w v b) (hn:∀ a m c,v=.slice (some a) m c→0<m→N≤a.block) (hN:N≤w.heap.size):Calls Tryz.prog 111 #[.string z,.bool must,v] w fun e w'=>∃ cs:List Value,e=.returned (.agg cs.toArray)∧Dep (fun g=>N≤g) w' (exT s must b) cs∧Below w.heap.size w w':=by
 have HV:Hid (Bs w v b):=hv;have HN:Hid (∀ a m c,v=.slice (some a) m c→0<m→N≤a.block∧a.block≠w.heap.size):=fun a m c e h0=>⟨hn a m c e h0,fun e2=>by
  obtain⟨bo,cp,e3,_,_,h6⟩:=hv;rw[e3] at e;simp only[Value.slice.injEq] at e;obtain ⟨b9,o9,e4,hlt,_⟩:=h6 (by omega);rw[e4] at e;simp only[Option.some.injEq] at e;rw[← e.1] at e2;simp only at e2;omega⟩
 have HY:Hid (byt s):=hs9;have HLs:Hid (s.length≤maxLen):=hl9;have HZ:Hid (strOfNums s=z):=hz9;obtain ⟨ao,cap,hve,-,-,-⟩:=id hv;obtain ⟨L,hL⟩:∃ L,b.length=L:=⟨_,rfl⟩;rw[hL] at hve;subst hve;clear hL hv hn hs9 hl9 hz9;have R0:=Blk.new w [.int .i64 0,.int .i64 0,.bool false,.slice none 0 0,.slice none 0 0] 57 w.heap.size rfl;have bel:=bal w (.cells #[.int .i64 0,.int .i64 0,.bool false,.slice none 0 0,.slice none 0 0] 57);have hz:=Zad.out;go_enter Tryz.func111,Tryz.ntmps111;go_upto_region 1 with fail;have lW:=bel.size;generalize w.alloc (.cells #[.int .i64 0,.int .i64 0,.bool false,.slice none 0 0,.slice none 0 0] 57)=W at *;clear hz;have lR:=R0.lt;have lN:N≤W.heap.size:=Nat.le_trans hN lW;obtain ⟨jt,hjt,ht0,ht1,ht2⟩:=Zap ZaI

 cases must with
 | false =>
  go_wp2_with fail;refine (Zbt HY.out HLs.out HZ.out).mono ?_;rintro e w1 ⟨cs1,rfl,hd9,hb⟩;have HD1:Hid (Dep (fun g=>N≤g∧g≠w.heap.size) w1 (Tl.mk 0 6 false s []) cs1):=hd9.next (Agr.refl _ _) (fun g h _=>⟨Nat.le_trans lN h,fun e=>by omega⟩);have HL1:Hid (cs1.length=5):=hd9.now.five;replace R0:=R0.later hb;replace bel:=Zaa bel hb;replace lR:w.heap.size<w1.heap.size:=Nat.lt_of_lt_of_le lR hb.size;replace lN:=hsl lN hb;clear hb hd9;go_wp2_with fail;refine Zfs.mono ?_;rintro e w2 ⟨cs3,rfl,hc3,hb⟩;have HD3:Hid (Dep (fun g=>N≤g∧g≠w.heap.size) w2 (Tl.mk 0 4 false b []) cs3):=by rw[hc3.out];exact ZcD ((HV.out.later bel).later hb) HN.out 0 4 false
  have HL3:Hid (cs3.length=5):=by rw[hc3.out];rfl
  replace HD1:=dpl HD1 hb;replace R0:=R0.later hb;replace bel:=Zaa bel hb;replace lR:w.heap.size<w2.heap.size:=Nat.lt_of_lt_of_le lR hb.size;replace lN:=hsl lN hb;clear hb hc3;have HT:Hid (Dep (fun g=>N≤g∧g≠w.heap.size) (w2.alloc (.cells (cs1++cs3).toArray 57)) (exT s false b) [.int .i64 0,.int .i64 16,.bool true,.slice none 0 0,.slice (some ⟨w2.heap.size,0,none⟩) 2 2]):=ZgQ (ks:=[Tl.mk 0 6 false s [],Tl.mk 0 4 false b []]) (w:=w2) (xs:=cs1++cs3) (by rw[List.length_append,HL1.out,HL3.out];rfl) ⟨lN,by omega⟩ (show 2≤maxLen by decide) (Zbo (P:=Dep (fun g=>N≤g∧g≠w.heap.size) w2) HD1.out HD3.out HL1.out HL3.out) 0 16 true;have HF:Hid _:=ZbO HL1.out HL3.out;replace R0:=R0.alloc (.cells (cs1++cs3).toArray 57);replace bel:=Zaf (o:=.cells (cs1++cs3).toArray 57) bel;have hz:=Zad.out;go_wp2_with (first|((with_reducible show wpList _ _ _ ({ dst:=_,op:=.buildSlice _ _ _,type:=_,pos:=_,after:=_,guard:=_ } :: _) _ _);refine Go.wpList_buildSlice rfl 55 57 2 _ rfl (cs1++cs3).toArray jt _ Tryz.underlying55 hjt ht0 (by rw[ht1];decide) (by rw[ht1];decide) (by rw[ht1];refine (congrArg _ (?_:_=[(0,Value.agg cs1.toArray),(1,Value.agg cs3.toArray)])).trans HF.out;kernel_rfl) ?_)|fail);clear hz HF;obtain ⟨g9,hg9⟩:∃ g,g=w2.heap.size:=⟨_,rfl⟩;rw[← hg9] at HT ⊢;generalize (w2.alloc (.cells (cs1++cs3).toArray 57))=V9 at *;clear hg9;refine Zbd.mono ?_;rintro e w8 ⟨rfl,hb⟩;replace HT:=dpl HT hb;replace R0:=R0.later hb;replace bel:=Zaa bel hb;clear hb;obtain ⟨tR,hR⟩:=R0;have HR1:Hid _:=hR;clear hR;go_wp2_with (first|((with_reducible show wpList _ _ _ ({ dst:=_,op:=.store _ _ _,type:=_,pos:=_,after:=_,guard:=_ } :: _) _ _);refine wpList_store_row rfl 57 _ _ rfl w.heap.size #[.int .i64 0,.int .i64 16,.bool true,.slice none 0 0,.slice (some ⟨g9,0,none⟩) 2 2] rfl rfl tR _ HR1.out (by rw[Zab];rfl) rfl (by simp[Value.oneCell']) ?_)|fail);refine bodyPost_ret (results_cell_row rfl _ _ w.heap.size tR #[.int .i64 0,.int .i64 16,.bool true,.slice none 0 0,.slice (some ⟨g9,0,none⟩) 2 2] (0,0) _ rfl (setRow_heap _ _ _ _ _ _ HR1.out) Tryz.underlying57 rfl (by rw[Zab];rfl)) rfl ?_;exact ⟨_,rfl,HT.out.next ((Agr.refl _ _).row (fun h=>h.2 rfl)) (fun b h _=>h.1),below_setRow bel (by omega) _⟩
 | true =>
  go_wp2_with fail;refine (Zbt HY.out HLs.out HZ.out).mono ?_;rintro e w1 ⟨cs1,rfl,hd9,hb⟩;have HD1:Hid (Dep (fun g=>N≤g∧g≠w.heap.size) w1 (Tl.mk 0 6 false s []) cs1):=hd9.next (Agr.refl _ _) (fun g h _=>⟨Nat.le_trans lN h,fun e=>by omega⟩);have HL1:Hid (cs1.length=5):=hd9.now.five;replace R0:=R0.later hb;replace bel:=Zaa bel hb;replace lR:w.heap.size<w1.heap.size:=Nat.lt_of_lt_of_le lR hb.size;replace lN:=hsl lN hb;clear hb hd9;go_wp2_with fail;refine ZeQ.mono ?_;rintro e w2 ⟨cs2,rfl,hd9,hb⟩;have HD2:Hid (Dep (fun g=>N≤g∧g≠w.heap.size) w2 (Zcm) cs2):=hd9.next (Agr.refl _ _) (fun g h _=>⟨Nat.le_trans lN h,fun e=>by omega⟩);have HL2:Hid (cs2.length=5):=hd9.now.five;replace HD1:=dpl HD1 hb;replace R0:=R0.later hb;replace bel:=Zaa bel hb;replace lR:w.heap.size<w2.heap.size:=Nat.lt_of_lt_of_le lR hb.size;replace lN:=hsl lN hb;clear hb hd9;go_wp2_with fail;refine Zfs.mono ?_;rintro e w3 ⟨cs3,rfl,hc3,hb⟩;have HD3:Hid (Dep (fun g=>N≤g∧g≠w.heap.size) w3 (Tl.mk 0 4 false b []) cs3):=by rw[hc3.out];exact ZcD ((HV.out.later bel).later hb) HN.out 0 4 false
  have HL3:Hid (cs3.length=5):=by rw[hc3.out];rfl
  replace HD1:=dpl HD1 hb;replace HD2:=dpl HD2 hb;replace R0:=R0.later hb;replace bel:=Zaa bel hb;replace lR:w.heap.size<w3.heap.size:=Nat.lt_of_lt_of_le lR hb.size;replace lN:=hsl lN hb;clear hb hc3;have HT:Hid (Dep (fun g=>N≤g∧g≠w.heap.size) (w3.alloc (.cells (cs1++(cs2++cs3)).toArray 57)) (exT s true b) [.int .i64 0,.int .i64 16,.bool true,.slice none 0 0,.slice (some ⟨w3.heap.size,0,none⟩) 3 3]):=ZgQ (ks:=[Tl.mk 0 6 false s [],Zcm,Tl.mk 0 4 false b []]) (w:=w3) (xs:=cs1++(cs2++cs3)) (by simp[HL1.out,HL2.out,HL3.out]) ⟨lN,by omega⟩ (show 3≤maxLen by decide) (ZlV (P:=Dep (fun g=>N≤g∧g≠w.heap.size) w3) HD1.out HL1.out (ZlV HD2.out HL2.out (ZaY HD3.out HL3.out))) 0 16 true;have HF:Hid _:=Zmw HL1.out HL2.out HL3.out;replace R0:=R0.alloc (.cells (cs1++(cs2++cs3)).toArray 57);replace bel:=Zaf (o:=.cells (cs1++(cs2++cs3)).toArray 57) bel;have hz:=Zad.out;go_wp2_with (first|((with_reducible show wpList _ _ _ ({ dst:=_,op:=.buildSlice _ _ _,type:=_,pos:=_,after:=_,guard:=_ } :: _) _ _);refine Go.wpList_buildSlice rfl 55 57 3 _ rfl (cs1++(cs2++cs3)).toArray jt _ Tryz.underlying55 hjt ht0 (by rw[ht1];decide) (by rw[ht1];decide) (by rw[ht1];refine (congrArg _ (?_:_=[(0,Value.agg cs1.toArray),(1,Value.agg cs2.toArray),(2,Value.agg cs3.toArray)])).trans HF.out;kernel_rfl) ?_)|fail);clear hz HF;obtain ⟨g9,hg9⟩:∃ g,g=w3.heap.size:=⟨_,rfl⟩;rw[← hg9] at HT ⊢;generalize (w3.alloc (.cells (cs1++(cs2++cs3)).toArray 57))=V9 at *;clear hg9;refine Zbd.mono ?_;rintro e w8 ⟨rfl,hb⟩;replace HT:=dpl HT hb;replace R0:=R0.later hb;replace bel:=Zaa bel hb;clear hb;obtain ⟨tR,hR⟩:=R0;have HR1:Hid _:=hR;clear hR;go_wp2_with (first|((with_reducible show wpList _ _ _ ({ dst:=_,op:=.store _ _ _,type:=_,pos:=_,after:=_,guard:=_ } :: _) _ _);refine wpList_store_row rfl 57 _ _ rfl w.heap.size #[.int .i64 0,.int .i64 16,.bool true,.slice none 0 0,.slice (some ⟨g9,0,none⟩) 3 3] rfl rfl tR _ HR1.out (by rw[Zab];rfl) rfl (by simp[Value.oneCell']) ?_)|fail);refine bodyPost_ret (results_cell_row rfl _ _ w.heap.size tR #[.int .i64 0,.int .i64 16,.bool true,.slice none 0 0,.slice (some ⟨g9,0,none⟩) 3 3] (0,0) _ rfl (setRow_heap _ _ _ _ _ _ HR1.out) Tryz.underlying57 rfl (by rw[Zab];rfl)) rfl ?_;exact ⟨_,rfl,HT.out.next ((Agr.refl _ _).row (fun h=>h.2 rfl)) (fun b h _=>h.1),below_setRow bel (by omega) _⟩
end Go.Proofs.YtdfmoghjimghhaaGreatDoor
