/- Identifiers, read and told as the program does it. Plain facts. The program's slices.Reverse and numberBytes of layer 13. The program's isOid and OidOf of layer 13. Elements made and looked at: what the program answers. A part's element: what the program answers. Names, part by part. A name's element: what the program answers. What each part of a body is, or none. What is read, or an error. The program's Small of layer 13. Lists, plain elements, small numbers, bytes: what manifest reads. -/
import Derived.Test.YtnkipgbnnhahbaaGreatDoorCtPl
import Derived.Test.YtnkipgbnnhahbaaGreatDoorPrNumber
import Derived.Test.YtnkipgbnnhahbaaGreatDoorClWr
import Derived.Test.YtnkipgbnnhahbaaGreatDoorHeld3
import Derived.Test.YtnkipgbnnhahbaaGreatDoorDcWrite
import Derived.Test.YtnkipgbnnhahbaaGreatDoorDcOut
import Derived.Test.YtnkipgbnnhahbaaGreatDoorDrDep
import Derived.Test.YtnkipgbnnhahbaaGreatDoorCtSig
import Derived.Test.YtnkipgbnnhahbaaGreatDoorCtSeal
import Derived.Test.YtnkipgbnnhahbaaGreatDoorEdDecode
import Derived.Test.YtnkipgbnnhahbaaGreatDoorRows
import Derived.Deep.OwnRows
import Derived.Deep.AppendLies
import Derived.Great.BuildSlice
import Derived.Deep.WholeRow
import Derived.Deep.RegionHeld3
import Derived.Deep.DeepCutAuto
import Derived.Deep.DeepFit
import Derived.Laws.Rows
import Derived.BigQuiet
import Derived.ChangeArms
import Derived.ChangeOld
import Derived.Lib.ConvBytes
import Derived.Laws.AppendOwn
namespace Go.Proofs.YtnkipgbnnhahbaaGreatDoor
open Go.RowKit
theorem getD_left {L m:List Int} {j:Nat} (hj:j < L.length):(L++m).getD j 0=L.getD j 0:=by
 simp [List.getD_eq_getElem?_getD,List.getElem?_append_left hj]
/-- values that may be told -/
def GoodL (L:List Int):Prop:=¬ 4294967375 < L.getD 0 0∧∀ j,j < L.length→0 < j→¬ 4294967295 < L.getD j 0
theorem GoodL.one {x:Int} (h:¬ 4294967375 < x):GoodL [x]:=⟨h,fun j h1 h2=>absurd h1 (by show ¬ j < 1;omega)⟩
theorem getD_last {L:List Int} {n:Int}:(L++[n]).getD L.length 0=n:=by simp [List.getD_eq_getElem?_getD]
theorem GoodL.add {L:List Int} {n:Int} (h:GoodL L) (h0:0 < L.length) (hn:¬ 4294967295 < n):GoodL (L++[n]):=by
 refine ⟨by rw [getD_left h0];exact h.1,fun j h1 h2=>?_⟩
 by_cases k:j < L.length
 ·rw [getD_left k];exact h.2 j k h2
 ·rw [List.length_append] at h1
  replace h1:j < L.length + 1:=h1
  rw [show j=L.length by omega,getD_last]
  exact hn
/-- a block known whole, with its type -/
def BlT (w:World) (g:Nat) (cs:List Value) (t:TypeId):Prop:=w.heap[g]?=some (.cells cs.toArray t)
theorem BlT.set {w:World} {g:Nat} {cs:List Value} {t:TypeId} (h:BlT w g cs t) (k:Nat) (v:Value):BlT (w.setCell ⟨g,k,none⟩ v) g (cs.set k v) t:=by
 unfold BlT at *
 simp [World.setCell,Array.getElem?_modify,h]
theorem BlT.drew {w:World} {g:Nat} {cs:List Value} {t:TypeId} (h:BlT w g cs t):BlT w.drew g cs t:=h
/-- whether words are an identifier -/
def RetI (w:World) (L:List Int) (e:Ending) (w':World):Prop:=((oidOf L=.ok (b7s (valsO L))∧2≤L.length∧L.length≤16∧L.getD 0 0≤2∧∀ j,j < L.length→L.getD j 0≤4294967295)∧e=.returned (.bool true)∧w'=w)∨(oidOf L=.error 1∧e=.returned (.bool false)∧w'=w)
theorem RetI.no {w:World} {L:List Int} (h:oidOf L=.error 1):RetI w L (.returned (.bool false)) w:=.inr ⟨h,rfl,rfl⟩
theorem RetI.yes {w:World} {L:List Int} (h:¬ (L.length < 2∨16 < L.length∨2 < L.getD 0 0∨(L.getD 0 0 < 2∧39 < L.getD 1 0))) (h2:∀ j,j < L.length→L.getD j 0≤4294967295):RetI w L (.returned (.bool true)) w:=by
 refine .inl ⟨⟨?_,by omega,by omega,by omega,h2⟩,rfl,rfl⟩
 unfold oidOf
 rw [if_neg h,if_neg (by rintro ⟨j,hj,k⟩;have:=h2 j hj;omega)]
/-- is it made of others, and holds no bytes? holds it bytes, and no others? -/
def madeB (tg:Int):Tl→Bool
 | .mk c t m b _=>decide (c=0∧t=tg∧m=true∧b.length=0)
def plainB (tg:Int):Tl→Bool
 | .mk c t m _ ks=>decide (c=0∧t=tg∧m=false∧ks.length=0)
/-- a text that may be one -/
def textL (B:List Int):Bool:=match textP B with|.ok _=>true|.error _=>false
/-- what setOf tells -/
def SetR (w:World) (p:Pn) (e:Ending) (w':World):Prop:=Below w.heap.size w w'∧(partN p=false→e=.returned (.tuple #[.agg #[.int .i64 0,.int .i64 0,.bool false,.slice none 0 0,.slice none 0 0],.iface 46 (.int .i64 1)]))∧(partN p=true→∃ cs:List Value,e=.returned (.tuple #[.agg cs.toArray,.nilIface])∧Dep (fun b=>w.heap.size≤b) w' (setN p) cs)
theorem SetR.bad {w w':World} {p:Pn} (h:partN p=false) (hb:Below w.heap.size w w'):SetR w p (.returned (.tuple #[.agg #[.int .i64 0,.int .i64 0,.bool false,.slice none 0 0,.slice none 0 0],.iface 46 (.int .i64 1)])) w':=⟨hb,fun _=>rfl,fun k=>(by rw [h] at k;cases k)⟩
theorem SetR.ok {w w':World} {p:Pn} {cs:List Value} (h:partN p=true) (hd:Dep (fun b=>w.heap.size≤b) w' (setN p) cs) (hb:Below w.heap.size w w'):SetR w p (.returned (.tuple #[.agg cs.toArray,.nilIface])) w':=⟨hb,fun k=>(by rw [h] at k;cases k),fun _=>⟨cs,rfl,hd⟩⟩
theorem take_one {n m:List Pn} {i:Nat} {p q:Pn} (h:n.take i=m.take i) (hp:n[i]?=some p) (hq:m[i]?=some q):n.take (i + 1)=m.take (i + 1)↔p=q:=by
 rw [List.take_add_one,List.take_add_one,hp,hq,h]
 constructor
 ·intro e
  have:=List.append_cancel_left e
  simpa using this
 ·rintro rfl
  rfl
theorem ElemR.bad {w w':World} {n:List Pn} (h:mayN n=false) (hb:Below w.heap.size w w'):ElemR w n (.returned (.tuple #[.agg #[.int .i64 0,.int .i64 0,.bool false,.slice none 0 0,.slice none 0 0],.iface 46 (.int .i64 1)])) w':=⟨fun _=>⟨rfl,hb⟩,fun k=>(by rw [h] at k;cases k)⟩
theorem ElemR.ok {w w':World} {n:List Pn} {kv:Value} (h:mayN n=true) (hr:RwT w' w.heap.size kv (n.map setN)) (hb:Below w.heap.size w w'):ElemR w n (.returned (.tuple #[.agg #[.int .i64 0,.int .i64 16,.bool true,.slice none 0 0,kv],.nilIface])) w':=by
 obtain ⟨xs,h1,h2⟩:=hr
 rw [List.length_map] at h1
 exact ⟨fun k=>(by rw [h] at k;cases k),fun _=>⟨kv,xs,rfl,h1,h2,hb⟩⟩
theorem RwT.below {w:World} {N b:Nat} {kv:Value} {Ts:List Tl} (h:RwT w N kv Ts) (hb:kv.ownBlock=some b):b < w.heap.size:=by
 obtain ⟨xs,h1,_⟩:=h
 exact (own_geK h1 hb).2
/-- what a function tells that makes an element, or an error -/
def ElR (w:World) (r:Option Tl) (e:Ending) (w':World):Prop:=Below w.heap.size w w'∧(r=none→∃ c:Int,e=.returned (.tuple #[.agg #[.int .i64 0,.int .i64 0,.bool false,.slice none 0 0,.slice none 0 0],.iface 46 (.int .i64 c)]))∧(∀ T,r=some T→∃ cs:List Value,e=.returned (.tuple #[.agg cs.toArray,.nilIface])∧Dep (fun g=>w.heap.size≤g) w' T cs)
theorem ElR.bad {w w':World} {r:Option Tl} {c:Int} (h:r=none) (hb:Below w.heap.size w w'):ElR w r (.returned (.tuple #[.agg #[.int .i64 0,.int .i64 0,.bool false,.slice none 0 0,.slice none 0 0],.iface 46 (.int .i64 c)])) w':=⟨hb,fun _=>⟨c,rfl⟩,fun T k=>(by rw [h] at k;cases k)⟩
theorem ElR.ok {w w':World} {r:Option Tl} {T:Tl} {cs:List Value} (h:r=some T) (hd:Dep (fun g=>w.heap.size≤g) w' T cs) (hb:Below w.heap.size w w'):ElR w r (.returned (.tuple #[.agg cs.toArray,.nilIface])) w':=⟨hb,fun k=>(by rw [h] at k;cases k),fun T' k=>(by rw [h] at k;cases k;exact ⟨cs,rfl,hd⟩)⟩
theorem RwT.cell {w:World} {N c k:Nat} {kv v:Value} {Ts:List Tl} (h:RwT w N kv Ts) (hc:c < N):RwT (w.setCell ⟨c,k,none⟩ v) N kv Ts:=by
 obtain ⟨xs,h1,h2⟩:=h
 exact ⟨xs,own_agr (S:=fun b=>N≤b) h1 ((Agr.refl _ _).cell (by omega)) (fun g hg=>(own_geK h1 hg).1),fun i t ht=>(h2 i t ht).next ((Agr.refl _ _).cell (fun h=>by have:=h.1;omega)) (fun _ h _=>h)⟩
/-- two blocks that are known whole -/
def Two (w:World) (g:Nat) (X:List Value) (h:Nat) (Y:List Value):Prop:=Blk w g X∧Blk w h Y
theorem Two.later {w w':World} {g h:Nat} {X Y:List Value} (B:Two w g X h Y) (hb:Below w.heap.size w w'):Two w' g X h Y:=⟨B.1.later hb,B.2.later hb⟩
theorem Two.alloc {w:World} {g h:Nat} {X Y:List Value} (B:Two w g X h Y) (o:Obj):Two (w.alloc o) g X h Y:=⟨B.1.alloc o,B.2.alloc o⟩
theorem Two.grown {w w':World} {row:Option Nat} {g h:Nat} {X Y:List Value} (B:Two w g X h Y) (hg:w.grownBy w' row) (hr:∀ k,row=some k→¬ (k=g∨k=h)):Two w' g X h Y:=⟨B.1.grown hg (fun k hk e=>hr k hk (.inl e)),B.2.grown hg (fun k hk e=>hr k hk (.inr e))⟩
theorem Two.other {w:World} {g h:Nat} {X Y:List Value} (B:Two w g X h Y) (a:Addr) (v:Value) (hne:¬ (g=a.block∨h=a.block)):Two (w.setCell a v) g X h Y:=⟨B.1.other a v (fun e=>hne (.inl e)),B.2.other a v (fun e=>hne (.inr e))⟩
/-- an error, whichever it is -/
def ErrV (er:Value):Prop:=(∃ ty pv,er=.iface ty pv)∧∀ w:World,(binOp .neq 30 er .nilIface).run Tryz.prog w=.ok (.bool true) w
theorem errV_code (c:Int):ErrV (.iface 46 (.int .i64 c)):=⟨⟨_,_,rfl⟩,ne_codeL c⟩
theorem errV_at {w:World} {c p:Nat} {er:Value} (h:ErAt w c p er):ErrV er:=⟨by rcases h with ⟨_,h⟩|⟨_,g,h,_⟩;exact ⟨_,_,h⟩;exact ⟨_,_,h⟩,h.ne⟩
/-- bytes, or an error -/
def BytO (w:World) (r:Option (List Int)) (e:Ending) (w':World):Prop:=Below w.heap.size w w'∧(r=none→∃ er,ErrV er∧e=.returned (.tuple #[.slice none 0 0,er]))∧(∀ n,r=some n→∃ v,e=.returned (.tuple #[v,.nilIface])∧Bs w' v n∧NewV w v)
theorem BytO.bad {w w':World} {r:Option (List Int)} {er:Value} (h:r=none) (k:ErrV er) (hb:Below w.heap.size w w'):BytO w r (.returned (.tuple #[.slice none 0 0,er])) w':=⟨hb,fun _=>⟨er,k,rfl⟩,fun n q=>(by rw [h] at q;cases q)⟩
theorem BytO.ok {w w':World} {r:Option (List Int)} {n:List Int} {v:Value} (h:r=some n) (hv:Bs w' v n) (hn:NewV w v) (hb:Below w.heap.size w w'):BytO w r (.returned (.tuple #[v,.nilIface])) w':=⟨hb,fun q=>(by rw [h] at q;cases q),fun m q=>(by rw [h] at q;cases q;exact ⟨v,rfl,hv,hn⟩)⟩
/-- an int, or an error -/
def IntO (w:World) (r:Option Int) (e:Ending) (w':World):Prop:=Below w.heap.size w w'∧(r=none→∃ er,ErrV er∧e=.returned (.tuple #[.int .i64 0,er]))∧(∀ n,r=some n→e=.returned (.tuple #[.int .i64 n,.nilIface]))
theorem IntO.bad {w w':World} {r:Option Int} {er:Value} (h:r=none) (k:ErrV er) (hb:Below w.heap.size w w'):IntO w r (.returned (.tuple #[.int .i64 0,er])) w':=⟨hb,fun _=>⟨er,k,rfl⟩,fun n q=>(by rw [h] at q;cases q)⟩
theorem IntO.ok {w w':World} {r:Option Int} {n:Int} (h:r=some n) (hb:Below w.heap.size w w'):IntO w r (.returned (.tuple #[.int .i64 n,.nilIface])) w':=⟨hb,fun q=>(by rw [h] at q;cases q),fun m q=>(by rw [h] at q;cases q;rfl)⟩
/-- a signature in bytes -/
noncomputable def sigD (b:List Int):Option (Int × Int):=open Classical in match parseP b with
 | .ok T=>(match sigP T with|some (x,y)=>if isSc (beN x)∧isSc (beN y) then some (beN x,beN y) else none|none=>none)
 | .error _=>none
/-- a signature, or an error -/
def SigO8 (w:World) (r:Option (Int × Int)) (e:Ending) (w':World):Prop:=Below w.heap.size w w'∧(r=none→∃ er,ErrV er∧e=.returned (.tuple #[.agg #[.int .u64 0,.int .u64 0,.int .u64 0,.int .u64 0,.int .u64 0,.int .u64 0,.int .u64 0,.int .u64 0,.int .u64 0,.int .u64 0,.int .u64 0,.int .u64 0],er]))∧(∀ x y,r=some (x,y)→∃ rs ss:List Value,e=.returned (.tuple #[.agg (rs++ss).toArray,.nilIface])∧U6 rs x∧U6 ss y)
theorem SigO8.bad {w w':World} {r:Option (Int × Int)} {er:Value} (h:r=none) (k:ErrV er) (hb:Below w.heap.size w w'):SigO8 w r (.returned (.tuple #[.agg #[.int .u64 0,.int .u64 0,.int .u64 0,.int .u64 0,.int .u64 0,.int .u64 0,.int .u64 0,.int .u64 0,.int .u64 0,.int .u64 0,.int .u64 0,.int .u64 0],er])) w':=⟨hb,fun _=>⟨er,k,rfl⟩,fun x y q=>(by rw [h] at q;cases q)⟩
theorem SigO8.ok {w w':World} {r:Option (Int × Int)} {x y:Int} {rs ss:List Value} (h:r=some (x,y)) (h1:U6 rs x) (h2:U6 ss y) (hb:Below w.heap.size w w'):SigO8 w r (.returned (.tuple #[.agg (rs++ss).toArray,.nilIface])) w':=⟨hb,fun q=>(by rw [h] at q;cases q),fun x' y' q=>(by rw [h] at q;cases q;exact ⟨rs,ss,rfl,h1,h2⟩)⟩
theorem sigD_e {B:List Int} {q:Nat × Nat} (h:parseP B=.error q):sigD B=none:=by unfold sigD;rw [h]
theorem sigD_n {B:List Int} {T:Tl} (h:parseP B=.ok T) (k:sigP T=none):sigD B=none:=by unfold sigD;simp only [h,k]
theorem sigD_s {B x y:List Int} {T:Tl} (h:parseP B=.ok T) (k:sigP T=some (x,y)) (l:isSc (beN x)∧isSc (beN y)):sigD B=some (beN x,beN y):=by
 unfold sigD
 simp only [h,k]
 rw [if_pos l]
theorem sigD_r {B x y:List Int} {T:Tl} (h:parseP B=.ok T) (k:sigP T=some (x,y)) (l:¬ (isSc (beN x)∧isSc (beN y))):sigD B=none:=by
 unfold sigD
 simp only [h,k]
 rw [if_neg l]
theorem u_sigD {v:Value} {B:List Int} {w:World} (G:GlsO w) (hv:Bs w v B) (b:byt B):Calls Tryz.prog 83 #[v] w (SigO8 w (sigD B)):=by
 refine (con_Decode G hv b).mono ?_
 rintro e w' ⟨h1,h2⟩
 cases hp:parseP B with
 | error q =>
  obtain ⟨c,p⟩:=q
  obtain ⟨er,rfl,her,hb⟩:=h1 c p hp
  exact SigO8.bad (sigD_e hp) (errV_at her) hb
 | ok T =>
  obtain ⟨h3,h4⟩:=h2 T hp
  cases hs:sigP T with
  | none =>
   obtain ⟨rfl,hb⟩:=h3 hs
   exact SigO8.bad (sigD_n hp hs) (errV_code 7) hb
  | some q =>
   obtain ⟨x,y⟩:=q
   obtain ⟨h5,h6⟩:=h4 x y hs
   by_cases k:isSc (beN x)∧isSc (beN y)
   ·obtain ⟨rs,ss,rfl,u1,u2,hb⟩:=h6 k.1 k.2
    exact SigO8.ok (sigD_s hp hs k) u1 u2 hb
   ·obtain ⟨rfl,hb⟩:=h5 k
    exact SigO8.bad (sigD_r hp hs k) (errV_code 3) hb
theorem bitD_mk {c t:Int} {m:Bool} {b:List Int} {ks:List Tl}:bitD (.mk c t m b ks)=if c=0∧t=3∧m=false then (match bitsP b with|.ok (x,n)=>if n=0 then some x else none|.error _=>none) else none:=rfl
theorem bitD_plain {b x:List Int} {n:Int} {ks:List Tl} (h:bitsP b=.ok (x,n)):bitD (.mk 0 3 false b ks)=if n=0 then some x else none:=by
 rw [bitD_mk,if_pos ⟨rfl,rfl,rfl⟩,h]
theorem bitD_bad {b:List Int} {c:Nat} {ks:List Tl} (h:bitsP b=.error c):bitD (.mk 0 3 false b ks)=none:=by
 rw [bitD_mk,if_pos ⟨rfl,rfl,rfl⟩,h]
theorem bitD_other {c t:Int} {m:Bool} {b:List Int} {ks:List Tl} (h:¬ (c=0∧t=3∧m=false)):bitD (.mk c t m b ks)=none:=by
 rw [bitD_mk,if_neg h]
theorem num_goodP {B n:List Int} (b:byt B) (h:numP B=.ok n):byt n∧n.length≤64:=by
 unfold numP at h
 obtain ⟨R,hR⟩:∃ R,(if B.getD 0 0=0 then B.drop 1 else B)=R:=⟨_,rfl⟩
 rw [hR] at h
 have hb:byt R:=by
  rw [← hR]
  split
  ·exact byt_dropM b 1
  ·exact b
 by_cases g:B.length=0∨127 < B.getD 0 0∨(1 < B.length∧B.getD 0 0=0∧B.getD 1 0 < 128)
 ·rw [if_pos g] at h;cases h
 ·rw [if_neg g] at h
  by_cases g2:64 < R.length
  ·rw [if_pos g2] at h;cases h
  ·rw [if_neg g2] at h;cases h;exact ⟨hb,by omega⟩
theorem drop_nextP {n:List Int} {i:Nat} (h:i < n.length) (v:Int):beW (n.drop i) v=beW (n.drop (i + 1)) (256 * v + n.getD i 0):=by
 rw [List.drop_eq_getElem_cons h,beW]
 congr 2
 simp [List.getD_eq_getElem?_getD,h]
set_option linter.unusedSimpArgs false in
set_option maxRecDepth 100000 in
set_option maxHeartbeats 1000000 in
theorem con_Small {v:Value} {B:List Int} {w:World} (hv:Bs w v B) (b:byt B) (hl:B.length≤140737488351232) :
  Calls Tryz.prog 85 #[v] w fun e w'=>(∀ n,smallP B=.ok n→e=.returned (.tuple #[.int .i64 n,.nilIface])∧Below w.heap.size w w')∧(∀ c,smallP B=.error c→e=.returned (.tuple #[.int .i64 0,.iface 46 (.int .i64 (c:Int))])∧Below w.heap.size w w'):=by
 have HV:Hid (Bs w v B):=hv
 have HB:Hid (byt B):=b
 clear hv b
 go_enter Tryz.func85,Tryz.ntmps85
 go_wp2_with fail
 refine (con_Number HV.out HB.out hl).mono ?_
 rintro e w1 ⟨hok,hbad⟩
 cases hp:numP B with
 | error c =>
  obtain ⟨ao,cap,rfl,bel⟩:=hbad c hp
  have H:Hid (smallP B=.error c):=by show _=_;unfold smallP;rw [hp]
  clear hok hbad hp
  go_wp2_with fail
  refine bodyPost_ret (results_tmp2 rfl _ _ _) rfl ?_
  exact ⟨fun n h=>(by rw [H.out] at h;cases h),fun c h=>(by rw [H.out] at h;cases h;exact ⟨rfl,bel⟩)⟩
 | ok n =>
  obtain ⟨v',rfl,bs,-,bel⟩:=hok n hp
  obtain ⟨hb,hn⟩:=num_goodP HB.out hp
  have H0:Hid (smallP B=if 2147483647 < beW n 0 then .error 3 else .ok (beW n 0)):=by show _=_;unfold smallP;rw [hp]
  have HBn:Hid (byt n):=hb
  obtain ⟨ao,cap,rfl,h1,h2,h3⟩:=bs
  obtain ⟨N,hN⟩:∃ N,n.length=N:=⟨_,rfl⟩
  have HN:Hid (n.length=N):=hN
  rw [hN] at h2 h3 hn ⊢
  have HC:Hid (∀ j,j < N→∃ g o,ao=some ⟨g,o,none⟩∧w1.cell? ⟨g,o + j,none⟩=some (.int .u8 (n.getD j 0))∧g < w1.heap.size):=fun j hj=>by
   obtain ⟨g,o,e1,e2,e3⟩:=h3 (by omega)
   exact ⟨g,o,e1,e3 j hj,e2⟩
  unfold maxLen at h1
  clear hok hbad hp hb h3 hN
  go_wp2_with fail
  go_loop [6,19] (fun xv iv=>∃ (i:Nat) (x:Nat),i≤N∧iv=.int .i64 (i:Int)∧xv=.int .i64 (x:Int)∧x≤2147483647∧Hid (beW n 0=beW (n.drop i) (x:Int))) (fun _ iv=>N - (intOf iv).toNat)
  case atStart=>exact ⟨0,0,by omega,rfl,rfl,by omega,rfl⟩
  case round =>
   obtain ⟨i,x,hi,rfl,rfl,hx,HE⟩:=hrel
   by_cases hil:i < N
   ·have g1:(i:Int) < (N:Int):=by omega
    have g2:(0:Int)≤(i:Int):=by omega
    have gi:IntKind.i64.wrap ((i:Int) + 1)=(i:Int) + 1:=by rw [IntKind.wrap_i64];omega
    obtain ⟨g,o,rfl,cy,lg⟩:=HC.out i hil
    have yb:=HBn.out i
    have HE2:Hid (beW n 0=beW (n.drop (i + 1)) (256 * (x:Int) + n.getD i 0)):=by show _=_;rw [HE.out,drop_nextP (by rw [HN.out];exact hil)]
    obtain ⟨y',hy⟩:∃ y,n.getD i 0=y:=⟨_,rfl⟩
    rw [hy] at cy yb HE2
    clear hy HE
    obtain ⟨y,rfl⟩:=Int.eq_ofNat_of_zero_le yb.1
    by_cases c1:8388607 < x
    ·have H:Hid (smallP B=.error 3):=by
      have:=beW_le (n.drop (i + 1)) (256 * (x:Int) + (y:Int)) (byt_dropM HBn.out _) (by omega)
      show _=_
      rw [H0.out,if_pos (by rw [HE2.out];omega)]
     have g3:(8388607:Int) < (x:Int):=by omega
     go_wp2_with fail
     refine bodyPost_ret (results_tmp2 rfl _ _ _) rfl ?_
     exact ⟨fun n h=>(by rw [H.out] at h;cases h),fun c h=>(by rw [H.out] at h;cases h;exact ⟨rfl,bel⟩)⟩
    ·have g3:¬ (8388607:Int) < (x:Int):=by omega
     have w1':IntKind.i64.wrap (y:Int)=(y:Int):=by rw [IntKind.wrap_i64];omega
     have w3:=or_byteP (n:=x) (x:=y) (by omega) (by omega)
     obtain ⟨m,hm⟩:∃ m,256 * x=m:=⟨_,rfl⟩
     have w2:IntKind.i64.wrap ((x:Int) * 256)=(m:Int):=by rw [IntKind.wrap_i64];omega
     rw [hm] at w3
     obtain ⟨z,hz⟩:∃ z,m + y=z:=⟨_,rfl⟩
     rw [hz] at w3
     have HE3:Hid (beW n 0=beW (n.drop (i + 1)) (z:Int)):=by
      show _=_
      rw [HE2.out]
      congr 1
      omega
     have hz2:z≤2147483647:=by omega
     clear hm hz
     go_wp2_with fail
     go_round
     case rel=>exact ⟨i + 1,z,by omega,by go_num,rfl,hz2,HE3⟩
     case measure=>simp [intOf];omega
   ·have g1:¬ (i:Int) < (N:Int):=by omega
    have H:Hid (smallP B=.ok (x:Int)):=by
     have e:beW n 0=(x:Int):=by
      have:=HE.out
      rw [List.drop_of_length_le (by rw [HN.out];omega),beW] at this
      exact this
     show _=_
     rw [H0.out,e,if_neg (by omega)]
    go_wp2_with fail
    refine bodyPost_ret (results_tmp2 rfl _ _ _) rfl ?_
    exact ⟨fun n h=>(by rw [H.out] at h;cases h;exact ⟨rfl,bel⟩),fun c h=>(by rw [H.out] at h;cases h)⟩
theorem smlD_kM {c t:Int} {m:Bool} {b:List Int} {ks:List Tl}:smlD (.mk c t m b ks)=if c=0∧t=2∧m=false then okO (smallP b) else none:=rfl
theorem smlD_plain {b:List Int} {n:Int} {ks:List Tl} (h:smallP b=.ok n):smlD (.mk 0 2 false b ks)=some n:=by
 rw [smlD_kM,if_pos ⟨rfl,rfl,rfl⟩,h]
 rfl
theorem smlD_bad {b:List Int} {c:Nat} {ks:List Tl} (h:smallP b=.error c):smlD (.mk 0 2 false b ks)=none:=by
 rw [smlD_kM,if_pos ⟨rfl,rfl,rfl⟩,h]
 rfl
theorem smlD_other {c t:Int} {m:Bool} {b:List Int} {ks:List Tl} (h:¬ (c=0∧t=2∧m=false)):smlD (.mk c t m b ks)=none:=by
 rw [smlD_kM,if_neg h]
set_option linter.unusedSimpArgs false in
set_option maxRecDepth 100000 in
set_option maxHeartbeats 400000 in
theorem c20_isList {c t:Int} {m:Bool} {b:List Int} {ks:List Tl} {cs:List Value} {w:World} (h:TlAt w (.mk c t m b ks) cs) :
  Calls Tryz.prog 50 #[.agg cs.toArray] w fun e w'=>e=.returned (.bool (isList (.mk c t m b ks)))∧Below w.heap.size w w':=by
 rw [TlAt] at h
 obtain ⟨bv,ka,kc,rfl,hbv,-,-,-⟩:=h
 obtain ⟨ba,bc,rfl,-,-,-⟩:=hbv
 have B0:=Blk.new w [.int .i64 c,.int .i64 t,.bool m,.slice ba b.length bc,.slice ka ks.length kc] 41 w.heap.size rfl
 have bel:Below w.heap.size w (w.alloc (.cells #[.int .i64 c,.int .i64 t,.bool m,.slice ba b.length bc,.slice ka ks.length kc] 41)):=(Below.refl _ _).alloc (Nat.le_refl _) _
 go_enter Tryz.func50,Tryz.ntmps50
 go_upto_region 1 with fail
 generalize w.alloc (.cells #[.int .i64 c,.int .i64 t,.bool m,.slice ba b.length bc,.slice ka ks.length kc] 41)=W at *
 have e0:=B0.cell 0 _ rfl
 have e1:=B0.cell 1 _ rfl
 have e2:=B0.cell 2 _ rfl
 have lt0:=B0.lt
 by_cases c1:c=0
 rotate_left
 ·have H:Hid (isList (.mk c t m b ks)=false):=decide_eq_false (fun h=>c1 h.1)
  have d1:(c == 0)=false:=by rw [beq_eq_false_iff_ne];exact c1
  clear c1
  go_wp2_with fail
  go_ret
  exact ⟨by rw [H.out];rfl,bel⟩
 subst c1
 by_cases c2:t=16
 rotate_left
 ·have H:Hid (isList (.mk 0 t m b ks)=false):=decide_eq_false (fun h=>c2 h.2.1)
  have d2:(t == 16)=false:=by rw [beq_eq_false_iff_ne];exact c2
  clear c2
  go_wp2_with fail
  go_ret
  exact ⟨by rw [H.out];rfl,bel⟩
 subst c2
 cases m
 all_goals
  go_wp2_with fail
  go_ret
  exact ⟨rfl,bel⟩
set_option linter.unusedSimpArgs false in
set_option maxRecDepth 100000 in
set_option maxHeartbeats 400000 in
theorem c20_isPlain {c t tg:Int} {m:Bool} {b:List Int} {ks:List Tl} {cs:List Value} {w:World} (h:TlAt w (.mk c t m b ks) cs):Calls Tryz.prog 81 #[.agg cs.toArray,.int .i64 tg] w fun e w'=>e=.returned (.bool (decide (c=0∧t=tg∧m=false)))∧Below w.heap.size w w':=by
 obtain ⟨pb,hpb⟩:∃ z:Bool,decide (c=0∧t=tg∧m=false)=z:=⟨_,rfl⟩
 rw [hpb]
 have HPB:Hid (decide (c=0∧t=tg∧m=false)=pb):=hpb
 clear hpb
 have HT9:Hid (TlAt w (.mk c t m b ks) cs):=h
 rw [TlAt] at h
 obtain ⟨bv,ao,kc,hcs,hbv,-,hkm,hkk⟩:=h
 have HBv:Hid (Bs w bv b):=hbv
 obtain ⟨ba,bc,rfl,-,-,-⟩:=hbv
 have HK:Hid (0 < ks.length→∃ g o,ao=some ⟨g,o,none⟩∧KidsAt w ks g o):=hkk
 obtain ⟨BL,hBL⟩:∃ z,b.length=z:=⟨_,rfl⟩
 obtain ⟨KL,hKL⟩:∃ z,ks.length=z:=⟨_,rfl⟩
 have HBL:Hid (b.length=BL):=hBL
 have HKL:Hid (ks.length=KL):=hKL
 have HKM:Hid (kc≤maxLen):=hkm
 rw [hBL] at hcs HBv
 rw [hKL] at hcs HK
 clear hBL hKL hkk hkm
 subst hcs
 have B0:=Blk.new w [.int .i64 c,.int .i64 t,.bool m,.slice ba BL bc,.slice ao KL kc] 41 w.heap.size rfl
 have bel:Below w.heap.size w (w.alloc (.cells #[.int .i64 c,.int .i64 t,.bool m,.slice ba BL bc,.slice ao KL kc] 41)):=(Below.refl _ _).alloc (Nat.le_refl _) _
 go_enter Tryz.func81,Tryz.ntmps81
 go_upto_region 1 with fail
 generalize w.alloc (.cells #[.int .i64 c,.int .i64 t,.bool m,.slice ba BL bc,.slice ao KL kc] 41)=W at *
 have e0:=B0.cell 0 _ rfl
 have e1:=B0.cell 1 _ rfl
 have e2:=B0.cell 2 _ rfl
 have lt0:=B0.lt
 clear HT9 HBv HK HBL HKL HKM
 by_cases c1:c=0
 rotate_left
 ·have H:Hid (pb=false):=by show _=_;rw [← HPB.out];exact decide_eq_false (fun h=>c1 h.1)
  have d1:(c == 0)=false:=by rw [beq_eq_false_iff_ne];exact c1
  clear c1
  go_wp2_with fail
  go_ret
  exact ⟨by rw [H.out];rfl,bel⟩
 subst c1
 by_cases c2:t=tg
 rotate_left
 ·have H:Hid (pb=false):=by show _=_;rw [← HPB.out];exact decide_eq_false (fun h=>c2 h.2.1)
  have d2:(t == tg)=false:=by rw [beq_eq_false_iff_ne];exact c2
  clear c2
  go_wp2_with fail
  go_ret
  exact ⟨by rw [H.out];rfl,bel⟩
 subst c2
 have d2:(t == t)=true:=beq_self_eq_true _
 cases m
 ·have H:Hid (pb=true):=by show _=_;rw [← HPB.out];exact decide_eq_true ⟨rfl,rfl,rfl⟩
  go_wp2_with fail
  go_ret
  exact ⟨by rw [H.out];rfl,bel⟩
 ·have H:Hid (pb=false):=by show _=_;rw [← HPB.out];exact decide_eq_false (fun h=>by cases h.2.2)
  go_wp2_with fail
  go_ret
  exact ⟨by rw [H.out];rfl,bel⟩
set_option linter.unusedSimpArgs false in
set_option maxRecDepth 100000 in
set_option maxHeartbeats 1000000 in
theorem c20_smallOf {c t:Int} {m:Bool} {b:List Int} {ks:List Tl} {cs:List Value} {w:World} (h:TlAt w (.mk c t m b ks) cs) (wf:WfT (.mk c t m b ks)) (hsz:b.length≤140737488351232):Calls Tryz.prog 58 #[.agg cs.toArray] w (IntO w (smlD (.mk c t m b ks))):=by
 have HSz:Hid (b.length≤140737488351232):=hsz
 have HBy:Hid (byt b):=by rw [WfT] at wf;exact wf.2.2.1
 clear wf hsz
 have HT9:Hid (TlAt w (.mk c t m b ks) cs):=h
 rw [TlAt] at h
 obtain ⟨bv,ao,kc,hcs,hbv,-,hkm,hkk⟩:=h
 have HBv:Hid (Bs w bv b):=hbv
 obtain ⟨ba,bc,rfl,-,-,-⟩:=hbv
 have HK:Hid (0 < ks.length→∃ g o,ao=some ⟨g,o,none⟩∧KidsAt w ks g o):=hkk
 obtain ⟨BL,hBL⟩:∃ z,b.length=z:=⟨_,rfl⟩
 obtain ⟨KL,hKL⟩:∃ z,ks.length=z:=⟨_,rfl⟩
 have HBL:Hid (b.length=BL):=hBL
 have HKL:Hid (ks.length=KL):=hKL
 have HKM:Hid (kc≤maxLen):=hkm
 rw [hBL] at hcs HBv
 rw [hKL] at hcs HK
 clear hBL hKL hkk hkm
 subst hcs
 have B0:=Blk.new w [.int .i64 c,.int .i64 t,.bool m,.slice ba BL bc,.slice ao KL kc] 41 w.heap.size rfl
 have bel:Below w.heap.size w (w.alloc (.cells #[.int .i64 c,.int .i64 t,.bool m,.slice ba BL bc,.slice ao KL kc] 41)):=(Below.refl _ _).alloc (Nat.le_refl _) _
 go_enter Tryz.func58,Tryz.ntmps58
 go_upto_region 1 with fail
 generalize w.alloc (.cells #[.int .i64 c,.int .i64 t,.bool m,.slice ba BL bc,.slice ao KL kc] 41)=W at *
 have hld:(loadVar 41 ⟨w.heap.size,0,none⟩).run Tryz.prog W=.ok (.agg #[.int .i64 c,.int .i64 t,.bool m,.slice ba BL bc,.slice ao KL kc]) W:=B0.load Tryz.underlying41 rfl size_tlv rfl
 have l0:=B0.lt
 go_wp2_with (first|((with_reducible show wpList _ _ _ ({ dst:=_,op:=.load _ _,type:=_,pos:=_,after:=_,guard:=_ } :: _) _ _);refine wpList_load_run (by rfl) (by rfl) (by rfl) hld ?_)|fail)
 refine (c20_isPlain (HT9.out.later bel)).mono ?_
 rintro e w1 ⟨rfl,hb⟩
 replace B0:=B0.later hb
 replace bel:=below_step bel hb
 clear hb hld l0
 by_cases hp:c=0∧t=2∧m=false
 rotate_left
 ·have H:Hid (smlD (.mk c t m b ks)=none):=smlD_other hp
  rw [decide_eq_false hp]
  clear hp
  go_wp2_with fail
  refine bodyPost_ret (results_tmp2 rfl _ _ _) rfl ?_
  exact IntO.bad H.out (errV_code 7) bel
 obtain ⟨rfl,rfl,rfl⟩:=hp
 rw [decide_eq_true (show (0:Int)=0∧(2:Int)=2∧false=false from ⟨rfl,rfl,rfl⟩)]
 have e3:=B0.cell 3 _ rfl
 have l0:=B0.lt
 go_wp2_with fail
 refine (con_Small (HBv.out.later bel) HBy.out HSz.out).mono ?_
 rintro e w2 ⟨hok,hbad⟩
 clear e3 l0
 cases hn:smallP b with
 | error c9 =>
  obtain ⟨rfl,hb⟩:=hbad c9 hn
  have H:Hid (smlD (.mk 0 2 false b ks)=none):=smlD_bad hn
  replace bel:=below_step bel hb
  clear hok hbad hb hn B0
  go_wp2_with fail
  refine bodyPost_ret (results_tmp2 rfl _ _ _) rfl ?_
  exact IntO.bad H.out (errV_code _) bel
 | ok n =>
  obtain ⟨rfl,hb⟩:=hok n hn
  have H:Hid (smlD (.mk 0 2 false b ks)=some n):=smlD_plain hn
  replace bel:=below_step bel hb
  clear hok hbad hb hn B0
  go_wp2_with fail
  refine bodyPost_ret (results_tmp2 rfl _ _ _) rfl ?_
  exact IntO.ok H.out bel
set_option linter.unusedSimpArgs false in
set_option maxRecDepth 100000 in
set_option maxHeartbeats 400000 in
theorem c20_areBytes {c t sz:Int} {m:Bool} {b:List Int} {ks:List Tl} {cs:List Value} {w:World} (h:TlAt w (.mk c t m b ks) cs):Calls Tryz.prog 59 #[.agg cs.toArray,.int .i64 sz] w fun e w'=>e=.returned (.bool (decide (c=0∧t=4∧m=false∧(b.length:Int)=sz)))∧Below w.heap.size w w':=by
 obtain ⟨pb,hpb⟩:∃ z:Bool,decide (c=0∧t=4∧m=false∧(b.length:Int)=sz)=z:=⟨_,rfl⟩
 rw [hpb]
 have HPB:Hid (decide (c=0∧t=4∧m=false∧(b.length:Int)=sz)=pb):=hpb
 clear hpb
 have HT9:Hid (TlAt w (.mk c t m b ks) cs):=h
 rw [TlAt] at h
 obtain ⟨bv,ao,kc,hcs,hbv,-,hkm,hkk⟩:=h
 have HBv:Hid (Bs w bv b):=hbv
 obtain ⟨ba,bc,rfl,-,-,-⟩:=hbv
 have HK:Hid (0 < ks.length→∃ g o,ao=some ⟨g,o,none⟩∧KidsAt w ks g o):=hkk
 obtain ⟨BL,hBL⟩:∃ z,b.length=z:=⟨_,rfl⟩
 obtain ⟨KL,hKL⟩:∃ z,ks.length=z:=⟨_,rfl⟩
 have HBL:Hid (b.length=BL):=hBL
 have HKL:Hid (ks.length=KL):=hKL
 have HKM:Hid (kc≤maxLen):=hkm
 rw [hBL] at hcs HBv
 rw [hKL] at hcs HK
 clear hBL hKL hkk hkm
 subst hcs
 have B0:=Blk.new w [.int .i64 c,.int .i64 t,.bool m,.slice ba BL bc,.slice ao KL kc] 41 w.heap.size rfl
 have bel:Below w.heap.size w (w.alloc (.cells #[.int .i64 c,.int .i64 t,.bool m,.slice ba BL bc,.slice ao KL kc] 41)):=(Below.refl _ _).alloc (Nat.le_refl _) _
 go_enter Tryz.func59,Tryz.ntmps59
 go_upto_region 1 with fail
 generalize w.alloc (.cells #[.int .i64 c,.int .i64 t,.bool m,.slice ba BL bc,.slice ao KL kc] 41)=W at *
 have hld:(loadVar 41 ⟨w.heap.size,0,none⟩).run Tryz.prog W=.ok (.agg #[.int .i64 c,.int .i64 t,.bool m,.slice ba BL bc,.slice ao KL kc]) W:=B0.load Tryz.underlying41 rfl size_tlv rfl
 have l0:=B0.lt
 go_wp2_with (first|((with_reducible show wpList _ _ _ ({ dst:=_,op:=.load _ _,type:=_,pos:=_,after:=_,guard:=_ } :: _) _ _);refine wpList_load_run (by rfl) (by rfl) (by rfl) hld ?_)|fail)
 refine (c20_isPlain (HT9.out.later bel)).mono ?_
 rintro e w1 ⟨rfl,hb⟩
 replace B0:=B0.later hb
 replace bel:=below_step bel hb
 clear hb hld l0
 by_cases hp:c=0∧t=4∧m=false
 rotate_left
 ·have H:Hid (pb=false):=by show _=_;rw [← HPB.out];exact decide_eq_false (fun h=>hp ⟨h.1,h.2.1,h.2.2.1⟩)
  rw [decide_eq_false hp]
  clear hp
  go_wp2_with fail
  go_ret
  exact ⟨by rw [H.out];rfl,bel⟩
 obtain ⟨rfl,rfl,rfl⟩:=hp
 rw [decide_eq_true (show (0:Int)=0∧(4:Int)=4∧false=false from ⟨rfl,rfl,rfl⟩)]
 have e3:=B0.cell 3 _ rfl
 have l0:=B0.lt
 have H:Hid (pb=((BL:Int) == sz)):=by
  show _=_
  rw [← HPB.out,HBL.out]
  by_cases k:(BL:Int)=sz
  ·rw [decide_eq_true ⟨rfl,rfl,rfl,k⟩,beq_iff_eq.2 k]
  ·rw [decide_eq_false (fun h=>k h.2.2.2),beq_eq_false_iff_ne.2 k]
 go_wp2_with fail
 go_ret
 exact ⟨by rw [H.out];rfl,bel⟩
end Go.Proofs.YtnkipgbnnhahbaaGreatDoor
