/- AES's states: columns mixed fourA times, rows turned fourA times, are as they were; each step is one to one. Plain facts. The program's Turned; a column's byte. The program's Mixed. -/
import Derived.Test.YtlkljfnenonfgaaGreatDoorAeLaneG
import Derived.Test.YtlkljfnenonfgaaGreatDoorAeNumG
import Derived.Test.YtlkljfnenonfgaaGreatDoorAeCodeX
import Derived.Test.YtlkljfnenonfgaaGreatDoorRows
import Derived.Deep.WholeRow
import Derived.Deep.RegionHeld3
import Derived.Deep.DeepCutAuto
import Derived.Deep.DeepFit
namespace Go.Proofs.YtlkljfnenonfgaaGreatDoor
open Go.RowKit
/-- byte k of column c -/
def cbN (S:List Int) (c k:Nat):Nat:=(S.getD (4 * c + k) 0).toNat
theorem cb_lt {S:List Int} (b:byt S) (c k:Nat):cbN S c k < 256:=by
 have:=b (4 * c + k)
 unfold cbN
 omega
theorem prd2 {x:Nat} (h:x < 256):prdN 2 x=dblN x:=prd_two ⟨x,h⟩
theorem prd1 {x:Nat} (h:x < 256):prdN 1 x=x:=prd_one ⟨x,h⟩
theorem prd3 {x:Nat} (h:x < 256):prdN 3 x=dblN x ^^^ x:=prd_three ⟨x,h⟩
theorem xor4 (a b c d:Nat):(((0 ^^^ a) ^^^ b) ^^^ c) ^^^ d=a ^^^ b ^^^ c ^^^ d:=by rw [Nat.zero_xor]
theorem acc_col {S:List Int} (b:byt S) (c:Nat):∀ r,r < 4→accN S c r 4=colN (cbN S c r) (cbN S c ((r + 1) % 4)) (cbN S c ((r + 2) % 4)) (cbN S c ((r + 3) % 4)):=by
 have l0:=cb_lt b c 0
 have l1:=cb_lt b c 1
 have l2:=cb_lt b c 2
 have l3:=cb_lt b c 3
 have e:∀ r,accN S c r 4=(((0 ^^^ prdN (tmN r 0) (cbN S c 0)) ^^^ prdN (tmN r 1) (cbN S c 1)) ^^^ prdN (tmN r 2) (cbN S c 2)) ^^^ prdN (tmN r 3) (cbN S c 3):=fun r=>rfl
 have fin:∀ x0 x1 x2 x3 y0 y1 y2 y3:Nat,(∀ i,(Nat.testBit x0 i ^^ Nat.testBit x1 i ^^ Nat.testBit x2 i ^^ Nat.testBit x3 i)=(Nat.testBit y0 i ^^ Nat.testBit y1 i ^^ Nat.testBit y2 i ^^ Nat.testBit y3 i))→x0 ^^^ x1 ^^^ x2 ^^^ x3=y0 ^^^ y1 ^^^ y2 ^^^ y3:=fun x0 x1 x2 x3 y0 y1 y2 y3 h=>Nat.eq_of_testBit_eq fun i=>by simp only [Nat.testBit_xor];exact h i
 refine fourA ?_ ?_ ?_ ?_
 ·rw [e,xor4,show tmN 0 0=2 from rfl,show tmN 0 1=3 from rfl,show tmN 0 2=1 from rfl,show tmN 0 3=1 from rfl,prd2 l0,prd3 l1,prd1 l2,prd1 l3]
  rfl
 ·rw [e,xor4,show tmN 1 0=1 from rfl,show tmN 1 1=2 from rfl,show tmN 1 2=3 from rfl,show tmN 1 3=1 from rfl,prd1 l0,prd2 l1,prd3 l2,prd1 l3]
  show _=colN (cbN S c 1) (cbN S c 2) (cbN S c 3) (cbN S c 0)
  unfold colN
  apply fin
  intro i
  simp only [Nat.testBit_xor]
  cases (cbN S c 0).testBit i<;>cases (cbN S c 3).testBit i<;>cases (dblN (cbN S c 1)).testBit i<;>cases (dblN (cbN S c 2)).testBit i<;>cases (cbN S c 2).testBit i<;>rfl
 ·rw [e,xor4,show tmN 2 0=1 from rfl,show tmN 2 1=1 from rfl,show tmN 2 2=2 from rfl,show tmN 2 3=3 from rfl,prd1 l0,prd1 l1,prd2 l2,prd3 l3]
  show _=colN (cbN S c 2) (cbN S c 3) (cbN S c 0) (cbN S c 1)
  unfold colN
  apply fin
  intro i
  simp only [Nat.testBit_xor]
  cases (cbN S c 0).testBit i<;>cases (cbN S c 1).testBit i<;>cases (dblN (cbN S c 2)).testBit i<;>cases (dblN (cbN S c 3)).testBit i<;>cases (cbN S c 3).testBit i<;>rfl
 ·rw [e,xor4,show tmN 3 0=3 from rfl,show tmN 3 1=1 from rfl,show tmN 3 2=1 from rfl,show tmN 3 3=2 from rfl,prd3 l0,prd1 l1,prd1 l2,prd2 l3]
  show _=colN (cbN S c 3) (cbN S c 0) (cbN S c 1) (cbN S c 2)
  unfold colN
  apply fin
  intro i
  simp only [Nat.testBit_xor]
  cases (cbN S c 1).testBit i<;>cases (cbN S c 2).testBit i<;>cases (dblN (cbN S c 3)).testBit i<;>cases (dblN (cbN S c 0)).testBit i<;>cases (cbN S c 0).testBit i<;>rfl
/-- rows turned: the first t places, one after the other -/
def turnY (S:List Int) (t:Nat):List Int:=(List.range 16).map fun j=>if j < t then S.getD (5 * j % 16) 0 else 0
theorem turnY_len (S:List Int) (t:Nat):(turnY S t).length=16:=by simp [turnY]
theorem turnY_0 (S:List Int):turnY S 0=List.replicate 16 0:=by simp [turnY];rfl
theorem turnY_16 (S:List Int):turnY S 16=turnN S:=by
 unfold turnY turnN
 apply List.map_congr_left
 intro j hj
 rw [if_pos (List.mem_range.1 hj)]
theorem turnY_set {S:List Int} {r c:Nat} (hr:r < 4) (_:c < 4):(turnY S (4 * c + r)).set (4 * c + r) (S.getD (4 * ((c + r) % 4) + r) 0)=turnY S (4 * c + (r + 1)):=by
 have e:=zset (f:=fun j=>S.getD (5 * j % 16) 0) (g:=fun _=>0) (k:=4 * c + r)
 rw [show 5 * (4 * c + r) % 16=4 * ((c + r) % 4) + r by omega] at e
 exact e
set_option maxRecDepth 100000 in
set_option maxHeartbeats 1000000 in
theorem con_Turned {S:List Int} {w:World} (l:S.length=16) (_:byt S) :
    Calls Tryz.prog 106 #[.agg (u8s S).toArray] w fun e w'=>e=.returned (.agg (u8s (turnN S)).toArray)∧Below w.heap.size w w':=by
  have hz:=zero_16.out
  have lS:Hid (S.length=16):=l
  clear l
  have B0:=((Blk.new w (u8s S) 91 w.heap.size rfl).alloc (.cells (u8s (List.replicate 16 0)).toArray 91)).alloc (.cells (u8s (List.replicate 16 0)).toArray 91)
  have R0:=(Blk.new (w.alloc (.cells (u8s S).toArray 91)) (u8s (List.replicate 16 0)) 91 (w.heap.size + 1) (by simp)).alloc (.cells (u8s (List.replicate 16 0)).toArray 91)
  have V0:=Blk.new ((w.alloc (.cells (u8s S).toArray 91)).alloc (.cells (u8s (List.replicate 16 0)).toArray 91)) (u8s (List.replicate 16 0)) 91 (w.heap.size + 1 + 1) (by simp)
  have bel:Below w.heap.size w (((w.alloc (.cells (u8s S).toArray 91)).alloc (.cells (u8s (List.replicate 16 0)).toArray 91)).alloc (.cells (u8s (List.replicate 16 0)).toArray 91)):=((((Below.refl _ _).alloc (Nat.le_refl _) _).alloc (by simp) _).alloc (by simp;omega) _)
  generalize (u8s (List.replicate 16 0)).toArray=cs at hz bel B0 R0 V0
  obtain ⟨ds,hds⟩:∃ z,(u8s S).toArray=z:=⟨_,rfl⟩
  rw [hds] at B0 R0 V0 bel ⊢
  clear hds
  go_enter Tryz.func106,Tryz.ntmps106
  go_wp2_with fail
  obtain ⟨W,hW⟩:∃ z,z=((w.alloc (Obj.cells ds 91)).alloc (Obj.cells cs 91)).alloc (Obj.cells cs 91):=⟨_,rfl⟩
  rw [← hW] at B0 R0 V0 bel ⊢
  clear hW hz
  rw [← turnY_0 S] at V0
  go_loopw [6] (fun rv wx=>∃ r:Nat,r≤4∧rv=.int .i64 r∧Blk wx (w.heap.size + 1 + 1) (u8s (turnY S (4 * r)))∧Blk wx w.heap.size (u8s S)∧Blk wx (w.heap.size + 1) (u8s (List.replicate 16 0))∧Below w.heap.size w wx) (fun rv _=>4 - (intOf rv).toNat)
  case atStart=>exact ⟨0,by omega,rfl,V0,B0,R0,bel⟩
  case round =>
    clear V0 B0 R0 bel
    obtain ⟨r,hr,rfl,V0,B0,R0,bel⟩:=hrel
    by_cases hrl:r < 4
    · have g1:(r:Int) < 4:=by omega
      go_wp2_with fail
      obtain ⟨W1,hW1⟩:∃ z,z=wr:=⟨_,rfl⟩
      rw [← hW1] at V0 B0 R0 bel ⊢
      clear hW1
      go_loopw [9] (fun cv wx=>∃ c:Nat,c≤4∧cv=.int .i64 c∧Blk wx (w.heap.size + 1 + 1) (u8s (turnY S (4 * r + c)))∧Blk wx w.heap.size (u8s S)∧Blk wx (w.heap.size + 1) (u8s (List.replicate 16 0))∧Below w.heap.size w wx) (fun cv _=>4 - (intOf cv).toNat)
      case atStart=>exact ⟨0,by omega,rfl,V0,B0,R0,bel⟩
      case round =>
        clear V0 B0 R0 bel
        obtain ⟨c,hc,rfl,V0,B0,R0,bel⟩:=hrel
        by_cases hcl:c < 4
        · have HS:Hid _:=turnY_set (S:=S) hcl hrl
          have g2:(c:Int) < 4:=by omega
          have i1:IntKind.i64.wrap (4 * (r:Int))=4 * (r:Int):=by rw [IntKind.wrap_i64];omega
          have i2:IntKind.i64.wrap (4 * (r:Int) + (c:Int))=((4 * r + c:Nat):Int):=by rw [IntKind.wrap_i64];omega
          have i3:IntKind.i64.wrap ((r:Int) + (c:Int))=(r:Int) + (c:Int):=by rw [IntKind.wrap_i64];omega
          have i4:((r:Int) + (c:Int)).tmod 4=(((r + c) % 4:Nat):Int):=by rw [Int.tmod_eq_emod_of_nonneg (by omega)];omega
          have i5:IntKind.i64.wrap (4 * (((r + c) % 4:Nat):Int))=4 * (((r + c) % 4:Nat):Int):=by rw [IntKind.wrap_i64];omega
          have i6:IntKind.i64.wrap (4 * (((r + c) % 4:Nat):Int) + (c:Int))=((4 * ((r + c) % 4) + c:Nat):Int):=by rw [IntKind.wrap_i64];omega
          have l1:((4 * r + c:Nat):Int) < 16:=by omega
          have l2:((4 * ((r + c) % 4) + c:Nat):Int) < 16:=by omega
          have k1:(0:Int)≤((4 * r + c:Nat):Int):=by omega
          have k2:(0:Int)≤((4 * ((r + c) % 4) + c:Nat):Int):=by omega
          have cs1:=B0.cell (4 * ((r + c) % 4) + c) _ (u8s_get S _ (by rw [lS.out];omega))
          have fz:=V0.frozen (4 * r + c)
          have cv:=V0.cell (4 * r + c) _ (u8s_get _ _ (by rw [turnY_len];omega))
          obtain ⟨x,hx⟩:∃ x,S.getD (4 * ((r + c) % 4) + c) 0=x:=⟨_,rfl⟩
          obtain ⟨m,hm⟩:∃ m,4 * ((r + c) % 4) + c=m:=⟨_,rfl⟩
          obtain ⟨d,hd⟩:∃ d,(r + c) % 4=d:=⟨_,rfl⟩
          obtain ⟨n,hn⟩:∃ n,4 * r + c=n:=⟨_,rfl⟩
          rw [hx] at cs1 HS
          rw [hm] at cs1 i6 l2 k2
          rw [hd] at i4 i5 i6
          rw [hn] at i2 l1 k1 fz cv HS V0
          clear hx hm hd hn
          have lv:=V0.lt
          have lb:=B0.lt
          have HV:=V0.setb n x
          rw [HS.out] at HV
          replace B0:=B0.other ⟨w.heap.size + 1 + 1,n,none⟩ (.int .u8 x) (by show w.heap.size≠w.heap.size + 1 + 1;omega)
          replace R0:=R0.other ⟨w.heap.size + 1 + 1,n,none⟩ (.int .u8 x) (by show w.heap.size + 1≠w.heap.size + 1 + 1;omega)
          replace bel:=bel.setCell (p:=⟨w.heap.size + 1 + 1,n,none⟩) (by show w.heap.size≤w.heap.size + 1 + 1;omega) (.int .u8 x)
          clear V0 HS
          go_wp2_with fail
          go_roundw
          case rel=>exact ⟨c + 1,by omega,by go_num,HV,B0,R0,bel⟩
          case measure=>simp [intOf];omega
        · have HC:Hid (c=4):=by show c=4;omega
          have g2:(4:Int)≤(c:Int):=by omega
          go_wp2_with fail
          go_roundw
          case rel=>exact ⟨r + 1,by omega,by go_num,by rw [HC.out,show 4 * r + 4=4 * (r + 1) by omega] at V0;exact V0,B0,R0,bel⟩
          case measure=>simp [intOf];omega
    · have HR:Hid (r=4):=by show r=4;omega
      have g1:(4:Int)≤(r:Int):=by omega
      rw [HR.out,show 4 * 4=16 from rfl,turnY_16] at V0
      obtain ⟨tV,hV⟩:=V0
      obtain ⟨tR,hR⟩:=R0
      have HL:Hid (16=(u8s (turnN S)).toArray.size):=by show 16=_;simp [turnN_len]
      have HO:Hid ((u8s (List.replicate 16 (0:Int))).toArray.size=(u8s (turnN S)).toArray.size):=by show _=_;simp [turnN_len]
      have H1:Hid _:=u8_ones (turnN S)
      obtain ⟨fs,hfs⟩:∃ z,(u8s (turnN S)).toArray=z:=⟨_,rfl⟩
      have HD:Hid _:=hfs
      rw [hfs] at hV HL HO H1
      generalize (u8s (List.replicate 16 (0:Int))).toArray=es at hR HO
      clear hfs
      go_wp2_with (first
        | (refine wpList_load_row rfl 91 _ rfl (w.heap.size + 1 + 1) rfl tV fs _ _ hV Tryz.underlying91 rfl (by rw [size_16,HL.out]) ?_)
        | (refine wpList_store_row rfl 91 _ _ rfl (w.heap.size + 1) fs rfl rfl tR es hR (by rw [size_16,HL.out]) HO.out H1.out ?_)
        | fail)
      refine bodyPost_ret (results_cell_row rfl _ _ (w.heap.size + 1) tR fs (0,0) _ rfl (setRow_heap _ _ _ _ _ _ hR) Tryz.underlying91 rfl (by rw [size_16,HL.out])) rfl ?_
      exact ⟨by rw [HD.out],below_setRow bel (by omega) _⟩
/-- columns mixed: the first t places -/
def mixY (S:List Int) (t:Nat):List Int:=(List.range 16).map fun j=>if j < t then ((accN S (j / 4) (j % 4) 4:Nat):Int) else 0
theorem mixY_len (S:List Int) (t:Nat):(mixY S t).length=16:=by simp [mixY]
theorem mixY_0 (S:List Int):mixY S 0=List.replicate 16 0:=by simp [mixY];rfl
theorem mixY_16 (S:List Int):mixY S 16=mixN S:=by
 unfold mixY mixN
 apply List.map_congr_left
 intro j hj
 rw [if_pos (List.mem_range.1 hj)]
theorem mixY_set {S:List Int} {c r:Nat} (hr:r < 4):(mixY S (4 * c + r)).set (4 * c + r) ((accN S c r 4:Nat):Int)=mixY S (4 * c + r + 1):=by
 have e:=zset (f:=fun j=>((accN S (j / 4) (j % 4) 4:Nat):Int)) (g:=fun _=>0) (k:=4 * c + r)
 rw [show (4 * c + r) / 4=c by omega,show (4 * c + r) % 4=r by omega] at e
 exact e
/-- a place of a mixed state, as the program goes -/
theorem mix_val {S:List Int} (b:byt S) {c r:Nat} (hr:r < 4) {x0 x1 x2 x3 d:Int} (e0:S.getD (4 * c + r % 4) 0=x0) (e1:S.getD (4 * c + (r + 1) % 4) 0=x1) (e2:S.getD (4 * c + (r + 2) % 4) 0=x2) (e3:S.getD (4 * c + (r + 3) % 4) 0=x3) (hd:d=((dL (bits .xor .u8 x0 x1).toNat:Nat):Int)):bits .xor .u8 (bits .xor .u8 (bits .xor .u8 d x1) x2) x3=((accN S c r 4:Nat):Int):=by
 have lx:∀ {x y:Nat},x < 256→y < 256→x ^^^ y < 256:=fun hx hy=>Nat.xor_lt_two_pow (n:=8) hx hy
 have c0:x0=((cbN S c r:Nat):Int):=by
  have:=b (4 * c + r)
  rw [← e0,show r % 4=r by omega]
  unfold cbN
  omega
 have cc:∀ k x,S.getD (4 * c + k) 0=x→x=((cbN S c k:Nat):Int):=fun k x h=>by
  have:=b (4 * c + k)
  rw [← h]
  unfold cbN
  omega
 have c1:=cc _ _ e1
 have c2:=cc _ _ e2
 have c3:=cc _ _ e3
 have l0:=cb_lt b c r
 have l1:=cb_lt b c ((r + 1) % 4)
 have l2:=cb_lt b c ((r + 2) % 4)
 have l3:=cb_lt b c ((r + 3) % 4)
 rw [acc_col b c r hr]
 clear e0 e1 e2 e3 cc
 generalize cbN S c r=y0 at *
 generalize cbN S c ((r + 1) % 4)=y1 at *
 generalize cbN S c ((r + 2) % 4)=y2 at *
 generalize cbN S c ((r + 3) % 4)=y3 at *
 subst c0 c1 c2 c3 hd
 have l01:=lx l0 l1
 have dd:dL (y0 ^^^ y1)=dblN y0 ^^^ dblN y1:=by rw [dL_all ⟨y0 ^^^ y1,l01⟩];exact dbl_xor l0 l1
 have ld:dL (y0 ^^^ y1) < 256:=dL_lt
 rw [u8_xor_nat _ _ l0 l1,Int.toNat_natCast,u8_xor_nat _ _ ld l1,u8_xor_nat _ _ (lx ld l1) l2,u8_xor_nat _ _ (lx (lx ld l1) l2) l3,dd]
 unfold colN
 rw [Nat.xor_assoc (dblN y0)]
set_option maxRecDepth 100000 in
theorem con_at {gs gc c r:Nat} {rr:Int} {S:List Int} {w:World} (hr:rr=(r:Int)) (r0:r < 100) (hc:c < 4) (lS:S.length=16) (B:Blk w gs (u8s S)) (C:Blk w gc [.int .i64 (c:Int)]) :
  Calls Tryz.prog 118 #[.int .i64 rr,.pointer (some ⟨gs,0,none⟩),.pointer (some ⟨gc,0,none⟩)] w fun e w'=>e=.returned (.int .u8 (S.getD (4 * c + r % 4) 0))∧w'=w:=by
 subst hr
 have cc:=C.cell 0 _ rfl
 have cs:=B.cell (4 * c + r % 4) _ (u8s_get S _ (by rw [lS];omega))
 have i1:IntKind.i64.wrap (4 * (c:Int))=4 * (c:Int):=by rw [IntKind.wrap_i64];omega
 have i2:((r:Int)).tmod 4=((r % 4:Nat):Int):=by rw [Int.tmod_eq_emod_of_nonneg (by omega)];omega
 have i3:IntKind.i64.wrap (4 * (c:Int) + ((r % 4:Nat):Int))=((4 * c + r % 4:Nat):Int):=by rw [IntKind.wrap_i64];omega
 have l1:((4 * c + r % 4:Nat):Int) < 16:=by omega
 have k1:(0:Int)≤((4 * c + r % 4:Nat):Int):=by omega
 obtain ⟨n,hn⟩:∃ n,4 * c + r % 4=n:=⟨_,rfl⟩
 rw [hn] at cs i3 l1 k1 ⊢
 obtain ⟨m,hm⟩:∃ m,r % 4=m:=⟨_,rfl⟩
 rw [hm] at i2 i3
 obtain ⟨x,hx⟩:∃ x,S.getD n 0=x:=⟨_,rfl⟩
 rw [hx] at cs ⊢
 have lb:=B.lt
 have lc:=C.lt
 clear hn hm hx
 go_enter Tryz.func118,Tryz.ntmps118
 go_wp2_with fail
 go_ret
 exact ⟨rfl,rfl⟩
theorem con_atL {gs gc c r:Nat} {rr x:Int} {S:List Int} {w:World} (hr:rr=(r:Int)) (hx:S.getD (4 * c + r % 4) 0=x) (r0:r < 100) (hc:c < 4) (lS:S.length=16) (B:Blk w gs (u8s S)) (C:Blk w gc [.int .i64 (c:Int)]) :
  Calls Tryz.prog 118 #[.int .i64 rr,.pointer (some ⟨gs,0,none⟩),.pointer (some ⟨gc,0,none⟩)] w fun e w'=>e=.returned (.int .u8 x)∧w'=w:=by
 subst hx
 exact con_at hr r0 hc lS B C
set_option linter.unusedSimpArgs false in
set_option maxRecDepth 100000 in
set_option maxHeartbeats 2000000 in
theorem con_Mixed {S:List Int} {w:World} (l:S.length=16) (b:byt S) :
    Calls Tryz.prog 105 #[.agg (u8s S).toArray] w fun e w'=>e=.returned (.agg (u8s (mixN S)).toArray)∧Below w.heap.size w w':=by
  have hz:=zero_16.out
  have lS:Hid (S.length=16):=l
  have HSb:Hid (byt S):=b
  clear l b
  have B0:=((Blk.new w (u8s S) 91 w.heap.size rfl).alloc (.cells (u8s (List.replicate 16 0)).toArray 91)).alloc (.cells (u8s (List.replicate 16 0)).toArray 91)
  have R0:=(Blk.new (w.alloc (.cells (u8s S).toArray 91)) (u8s (List.replicate 16 0)) 91 (w.heap.size + 1) (by simp)).alloc (.cells (u8s (List.replicate 16 0)).toArray 91)
  have V0:=Blk.new ((w.alloc (.cells (u8s S).toArray 91)).alloc (.cells (u8s (List.replicate 16 0)).toArray 91)) (u8s (List.replicate 16 0)) 91 (w.heap.size + 1 + 1) (by simp)
  have bel:Below w.heap.size w (((w.alloc (.cells (u8s S).toArray 91)).alloc (.cells (u8s (List.replicate 16 0)).toArray 91)).alloc (.cells (u8s (List.replicate 16 0)).toArray 91)):=((((Below.refl _ _).alloc (Nat.le_refl _) _).alloc (by simp) _).alloc (by simp;omega) _)
  generalize (u8s (List.replicate 16 0)).toArray=cs at hz bel B0 R0 V0
  obtain ⟨ds,hds⟩:∃ z,(u8s S).toArray=z:=⟨_,rfl⟩
  rw [hds] at B0 R0 V0 bel ⊢
  clear hds
  go_enter Tryz.func105,Tryz.ntmps105
  go_wp2_with fail
  obtain ⟨W,hW⟩:∃ z,z=((w.alloc (Obj.cells ds 91)).alloc (Obj.cells cs 91)).alloc (Obj.cells cs 91):=⟨_,rfl⟩
  rw [← hW] at B0 R0 V0 bel ⊢
  clear hW hz
  rw [← mixY_0 S] at V0
  go_loopw [8] (fun cv wx=>∃ c:Nat,c≤4∧cv=.int .i64 c∧Blk wx (w.heap.size + 1 + 1) (u8s (mixY S (4 * c)))∧Blk wx w.heap.size (u8s S)∧Blk wx (w.heap.size + 1) (u8s (List.replicate 16 0))∧Below w.heap.size w wx) (fun cv _=>4 - (intOf cv).toNat)
  case atStart=>exact ⟨0,by omega,rfl,V0,B0,R0,bel⟩
  case round =>
    clear V0 B0 R0 bel
    obtain ⟨c,hc,rfl,V0,B0,R0,bel⟩:=hrel
    by_cases hcl:c < 4
    · have g1:(c:Int) < 4:=by omega
      have gB:=bel.size
      have C0:=Blk.new wr [.int .i64 (c:Int)] 3 wr.heap.size rfl
      have lv:=V0.lt
      have lb:=B0.lt
      have lr:=R0.lt
      replace V0:=V0.alloc (.cells #[.int .i64 (c:Int)] 3)
      replace B0:=B0.alloc (.cells #[.int .i64 (c:Int)] 3)
      replace R0:=R0.alloc (.cells #[.int .i64 (c:Int)] 3)
      replace bel:=below_alloc (o:=.cells #[.int .i64 (c:Int)] 3) bel
      go_wp2_with fail
      obtain ⟨gc,hgc⟩:∃ g,g=wr.heap.size:=⟨_,rfl⟩
      generalize wr.alloc (Obj.cells #[.int .i64 (c:Int)] 3)=W1 at *
      rw [← hgc] at C0 lv lb lr gB ⊢
      clear hgc
      go_loopw [12] (fun rv wx=>∃ r:Nat,r≤4∧rv=.int .i64 r∧Blk wx gc [.int .i64 (c:Int)]∧Blk wx (w.heap.size + 1 + 1) (u8s (mixY S (4 * c + r)))∧Blk wx w.heap.size (u8s S)∧Blk wx (w.heap.size + 1) (u8s (List.replicate 16 0))∧Below w.heap.size w wx) (fun rv _=>4 - (intOf rv).toNat)
      case atStart=>exact ⟨0,by omega,rfl,C0,V0,B0,R0,bel⟩
      case round =>
        clear C0 V0 B0 R0 bel
        obtain ⟨r,hr,rfl,C0,V0,B0,R0,bel⟩:=hrel
        by_cases hrl:r < 4
        · have g2:(r:Int) < 4:=by omega
          have p1:IntKind.i64.wrap ((r:Int) + 1)=((r + 1:Nat):Int):=by rw [IntKind.wrap_i64];omega
          have p2:IntKind.i64.wrap ((r:Int) + 2)=((r + 2:Nat):Int):=by rw [IntKind.wrap_i64];omega
          have p3:IntKind.i64.wrap ((r:Int) + 3)=((r + 3:Nat):Int):=by rw [IntKind.wrap_i64];omega
          obtain ⟨x0,hx0⟩:∃ x,S.getD (4 * c + (r + 0) % 4) 0=x:=⟨_,rfl⟩
          have X0:Hid (S.getD (4 * c + (r + 0) % 4) 0=x0):=hx0
          have b0:=HSb.out (4 * c + (r + 0) % 4)
          rw [hx0] at b0
          clear hx0
          obtain ⟨x1,hx1⟩:∃ x,S.getD (4 * c + (r + 1) % 4) 0=x:=⟨_,rfl⟩
          have X1:Hid (S.getD (4 * c + (r + 1) % 4) 0=x1):=hx1
          have b1:=HSb.out (4 * c + (r + 1) % 4)
          rw [hx1] at b1
          clear hx1
          obtain ⟨x2,hx2⟩:∃ x,S.getD (4 * c + (r + 2) % 4) 0=x:=⟨_,rfl⟩
          have X2:Hid (S.getD (4 * c + (r + 2) % 4) 0=x2):=hx2
          have b2:=HSb.out (4 * c + (r + 2) % 4)
          rw [hx2] at b2
          clear hx2
          obtain ⟨x3,hx3⟩:∃ x,S.getD (4 * c + (r + 3) % 4) 0=x:=⟨_,rfl⟩
          have X3:Hid (S.getD (4 * c + (r + 3) % 4) 0=x3):=hx3
          have b3:=HSb.out (4 * c + (r + 3) % 4)
          rw [hx3] at b3
          clear hx3
          go_wp2_with fail
          refine (con_atL (r:=r + 0) rfl X0.out (by omega) hcl lS.out B0 C0).mono ?_
          rintro e w1 ⟨rfl,rfl⟩
          go_wp2_with fail
          refine (con_atL (r:=r + 1) rfl X1.out (by omega) hcl lS.out B0 C0).mono ?_
          rintro e w2 ⟨rfl,rfl⟩
          have by0:=xorb_byte b0 b1
          obtain ⟨y,hy⟩:∃ y,bits .xor .u8 x0 x1=y:=⟨_,rfl⟩
          rw [hy] at by0
          have HY:Hid (bits .xor .u8 x0 x1=y):=hy
          have wy:IntKind.u64.wrap y=y:=by rw [IntKind.wrap_u64];omega
          go_wp2_with fail
          refine (con_doubles (Ln.one by0)).mono ?_
          rintro e w3 ⟨d0,rfl,hd,rfl⟩
          clear hy wy
          obtain ⟨d,hdd⟩:∃ d,IntKind.u8.wrap d0=d:=⟨_,rfl⟩
          have HD:Hid (d=((dL (bits .xor .u8 x0 x1).toNat:Nat):Int)):=by rw [HY.out,← hdd];exact hd.low
          have HZ:Hid _:=mix_val HSb.out hrl (by simpa using X0.out) X1.out X2.out X3.out HD.out
          clear hd by0
          obtain ⟨z,hz⟩:∃ z,bits .xor .u8 (bits .xor .u8 (bits .xor .u8 d x1) x2) x3=z:=⟨_,rfl⟩
          have HZ2:Hid (z=((accN S c r 4:Nat):Int)):=by rw [← hz];exact HZ.out
          have HS:Hid _:=mixY_set (S:=S) (c:=c) hrl
          rw [← HZ2.out] at HS
          go_upto_region 10 with fail
          clear HD HY HZ HZ2 hdd
          have i1:IntKind.i64.wrap (4 * (c:Int))=4 * (c:Int):=by rw [IntKind.wrap_i64];omega
          have i2:IntKind.i64.wrap (4 * (c:Int) + (r:Int))=((4 * c + r:Nat):Int):=by rw [IntKind.wrap_i64];omega
          have l1:((4 * c + r:Nat):Int) < 16:=by omega
          have k1:(0:Int)≤((4 * c + r:Nat):Int):=by omega
          have n16:4 * c + r < 16:=by omega
          obtain ⟨n,hn⟩:∃ n,4 * c + r=n:=⟨_,rfl⟩
          rw [hn] at V0 HS i2 l1 k1 n16
          have HN:Hid (4 * c + r=n):=hn
          clear hn
          obtain ⟨S1,hS1,KL1,KA1,KD1,KS1,KQ1,KN1,KB1,KM1,KR1⟩:=held3 (w0:=w) (W:=w3) [(gc,[.int .i64 (c:Int)]),(w.heap.size,(u8s S)),(w.heap.size + 1,(u8s (List.replicate 16 0)))] (by
            intro b X h
            simp only [List.mem_cons,List.not_mem_nil,or_false,Prod.mk.injEq] at h
            rcases h with ⟨rfl,rfl⟩|⟨rfl,rfl⟩|⟨rfl,rfl⟩
            · exact C0
            · exact B0
            · exact R0) bel
          have rc:∀ wx,Hd S1 wx→wx.cell? ⟨gc,0,none⟩=some (.int .i64 (c:Int)):=fun wx h=>(KM1.out wx gc _ h (List.Mem.head _)).cell 0 _ rfl
          clear KL1 KA1 KS1 KN1 KR1 C0 B0 R0 bel
          refine wp_region_noPanic ?_
          refine wp_region_held_drew (S:=Hd S1) (by kernel_rfl) (KD1.out _ hS1) (fun hHeld=>?_)
          clear hS1
          replace V0:=V0.drew
          generalize World.drew _=wd at *
          refine wpAnyH_take (i:=0) (v:=?_) rfl (by kernel_rfl) (by kernel_rfl) (by kernel_rfl) (fun _ _ _ h=>h) (Or.inl ⟨by rfl,?_⟩) (by assumption) ?_
          rotate_left
          · intro w hSw
            go_simp
            with_reducible rfl
          try simp only [Act.put,List.getElem_toArray,List.getElem_cons_zero,List.getElem_cons_succ,List.setIfInBounds_toArray,List.set_cons_zero,List.set_cons_succ]
          refine wpAnyH_take (i:=1) (v:=?_) rfl (by kernel_rfl) (by kernel_rfl) (by kernel_rfl) (fun _ _ _ h=>h) (Or.inl ⟨by rfl,?_⟩) (by assumption) ?_
          rotate_left
          · intro w hSw
            go_simp
            with_reducible rfl
          try simp only [Act.put,List.getElem_toArray,List.getElem_cons_zero,List.getElem_cons_succ,List.setIfInBounds_toArray,List.set_cons_zero,List.set_cons_succ]
          refine wpAnyH_take (i:=2) (v:=?_) rfl (by kernel_rfl) (by kernel_rfl) (by kernel_rfl) (fun _ _ _ h=>h) (Or.inl ⟨by rfl,?_⟩) (by assumption) ?_
          rotate_left
          · intro w hSw
            go_simp
            with_reducible rfl
          try simp only [Act.put,List.getElem_toArray,List.getElem_cons_zero,List.getElem_cons_succ,List.setIfInBounds_toArray,List.set_cons_zero,List.set_cons_succ]
          refine wpAnyH_take (i:=3) (v:=?_) rfl (by kernel_rfl) (by kernel_rfl) (by kernel_rfl) (fun _ _ _ h=>h) (Or.inl ⟨by rfl,?_⟩) (by assumption) ?_
          rotate_left
          · intro w hSw
            go_simp
            with_reducible rfl
          try simp only [Act.put,List.getElem_toArray,List.getElem_cons_zero,List.getElem_cons_succ,List.setIfInBounds_toArray,List.set_cons_zero,List.set_cons_succ]
          refine wpAnyH_take (i:=4) (v:=?_) rfl (by kernel_rfl) (by kernel_rfl) (by kernel_rfl) (fun _ _ _ h=>h) (Or.inl ⟨by rfl,?_⟩) (by assumption) ?_
          rotate_left
          · intro w hSw
            go_simp
            with_reducible rfl
          try simp only [Act.put,List.getElem_toArray,List.getElem_cons_zero,List.getElem_cons_succ,List.setIfInBounds_toArray,List.set_cons_zero,List.set_cons_succ]
          refine wpAnyH_take (i:=5) (v:=?_) rfl (by kernel_rfl) (by kernel_rfl) (by kernel_rfl) (fun _ _ _ h=>h) (Or.inl ⟨by rfl,?_⟩) (by assumption) ?_
          rotate_left
          · intro w hSw
            go_simp
            with_reducible rfl
          try simp only [Act.put,List.getElem_toArray,List.getElem_cons_zero,List.getElem_cons_succ,List.setIfInBounds_toArray,List.set_cons_zero,List.set_cons_succ]
          refine wpAnyH_take (i:=6) (v:=?_) rfl (by kernel_rfl) (by kernel_rfl) (by kernel_rfl) (fun _ _ _ h=>h) (Or.inl ⟨by rfl,?_⟩) (by assumption) ?_
          rotate_left
          · intro w hSw
            go_simp
            with_reducible rfl
          try simp only [Act.put,List.getElem_toArray,List.getElem_cons_zero,List.getElem_cons_succ,List.setIfInBounds_toArray,List.set_cons_zero,List.set_cons_succ]
          refine wpAnyH_take (i:=7) (v:=?_) rfl (by kernel_rfl) (by kernel_rfl) (by kernel_rfl) (fun _ _ _ h=>h) (Or.inl ⟨by rfl,?_⟩) (by assumption) ?_
          rotate_left
          · intro w hSw
            go_simp
            with_reducible rfl
          try simp only [Act.put,List.getElem_toArray,List.getElem_cons_zero,List.getElem_cons_succ,List.setIfInBounds_toArray,List.set_cons_zero,List.set_cons_succ]
          refine wpAnyH_take (i:=10) (v:=?_) rfl (by kernel_rfl) (by kernel_rfl) (by kernel_rfl) (fun _ _ _ h=>h) (Or.inl ⟨by rfl,?_⟩) (by assumption) ?_
          rotate_left
          · intro w hSw
            go_simp
            with_reducible rfl
          try simp only [Act.put,List.getElem_toArray,List.getElem_cons_zero,List.getElem_cons_succ,List.setIfInBounds_toArray,List.set_cons_zero,List.set_cons_succ]
          refine wpAnyH_take (i:=11) (v:=?_) rfl (by kernel_rfl) (by kernel_rfl) (by kernel_rfl) (fun _ _ _ h=>h) (Or.inl ⟨by rfl,?_⟩) (by assumption) ?_
          rotate_left
          · intro w hSw
            go_simp
            with_reducible rfl
          try simp only [Act.put,List.getElem_toArray,List.getElem_cons_zero,List.getElem_cons_succ,List.setIfInBounds_toArray,List.set_cons_zero,List.set_cons_succ]
          refine wpAnyH_take (i:=12) (v:=?_) rfl (by kernel_rfl) (by kernel_rfl) (by kernel_rfl) (fun _ _ _ h=>h) (Or.inl ⟨by rfl,?_⟩) (by assumption) ?_
          rotate_left
          · intro w hSw
            go_simp
            with_reducible rfl
          try simp only [Act.put,List.getElem_toArray,List.getElem_cons_zero,List.getElem_cons_succ,List.setIfInBounds_toArray,List.set_cons_zero,List.set_cons_succ]
          refine wpAnyH_take (i:=15) (v:=?_) rfl (by kernel_rfl) (by kernel_rfl) (by kernel_rfl) (fun _ _ _ h=>h) (Or.inl ⟨by rfl,?_⟩) (by assumption) ?_
          rotate_left
          · intro w hSw
            go_simp
            with_reducible rfl
          try simp only [Act.put,List.getElem_toArray,List.getElem_cons_zero,List.getElem_cons_succ,List.setIfInBounds_toArray,List.set_cons_zero,List.set_cons_succ]
          refine wpAnyH_take (i:=16) (v:=?_) rfl (by kernel_rfl) (by kernel_rfl) (by kernel_rfl) (fun _ _ _ h=>h) (Or.inl ⟨by rfl,?_⟩) (by assumption) ?_
          rotate_left
          · intro w hSw
            go_simp
            with_reducible rfl
          try simp only [Act.put,List.getElem_toArray,List.getElem_cons_zero,List.getElem_cons_succ,List.setIfInBounds_toArray,List.set_cons_zero,List.set_cons_succ]
          refine wpAnyH_take (i:=17) (v:=?_) rfl (by kernel_rfl) (by kernel_rfl) (by kernel_rfl) (fun _ _ _ h=>h) (Or.inl ⟨by rfl,?_⟩) (by assumption) ?_
          rotate_left
          · intro w hSw
            go_simp
            with_reducible rfl
          try simp only [Act.put,List.getElem_toArray,List.getElem_cons_zero,List.getElem_cons_succ,List.setIfInBounds_toArray,List.set_cons_zero,List.set_cons_succ]
          refine wpAnyH_ready (rs:=[8]) (by kernel_rfl) (by simp) ?_
          refine AllReadyH.cons rfl (fun K hK=>?_) ?_
          · go_simp
            refine (con_atL (r:=r + 1) rfl X1.out (by omega) hcl lS.out (KM1.out _ _ _ hHeld (List.Mem.tail _ (List.Mem.head _))) (KM1.out _ _ _ hHeld (List.Mem.head _))).mono ?_
            rintro e w9 ⟨rfl,rfl⟩
            refine hK.out _ _ ?_ (fun hHeld2=>?_)
            · exact hHeld
            · clear hK K hHeld
              have hHeld:=hHeld2
              clear hHeld2
              try simp only [Act.put,List.getElem_toArray,List.getElem_cons_zero,List.getElem_cons_succ,List.setIfInBounds_toArray,List.set_cons_zero,List.set_cons_succ]
              refine wpAnyH_take (i:=9) (v:=?_) rfl (by kernel_rfl) (by kernel_rfl) (by kernel_rfl) (fun _ _ _ h=>h) (Or.inl ⟨by rfl,?_⟩) (by assumption) ?_
              rotate_left
              · intro w hSw
                go_simp
                with_reducible rfl
              try simp only [Act.put,List.getElem_toArray,List.getElem_cons_zero,List.getElem_cons_succ,List.setIfInBounds_toArray,List.set_cons_zero,List.set_cons_succ]
              refine wpAnyH_ready (rs:=[13]) (by kernel_rfl) (by simp) ?_
              refine AllReadyH.cons rfl (fun K hK=>?_) ?_
              · go_simp
                refine (con_atL (r:=r + 2) rfl X2.out (by omega) hcl lS.out (KM1.out _ _ _ hHeld (List.Mem.tail _ (List.Mem.head _))) (KM1.out _ _ _ hHeld (List.Mem.head _))).mono ?_
                rintro e w9 ⟨rfl,rfl⟩
                refine hK.out _ _ ?_ (fun hHeld2=>?_)
                · exact hHeld
                · clear hK K hHeld
                  have hHeld:=hHeld2
                  clear hHeld2
                  try simp only [Act.put,List.getElem_toArray,List.getElem_cons_zero,List.getElem_cons_succ,List.setIfInBounds_toArray,List.set_cons_zero,List.set_cons_succ]
                  refine wpAnyH_take (i:=14) (v:=?_) rfl (by kernel_rfl) (by kernel_rfl) (by kernel_rfl) (fun _ _ _ h=>h) (Or.inl ⟨by rfl,?_⟩) (by assumption) ?_
                  rotate_left
                  · intro w hSw
                    go_simp
                    with_reducible rfl
                  try simp only [Act.put,List.getElem_toArray,List.getElem_cons_zero,List.getElem_cons_succ,List.setIfInBounds_toArray,List.set_cons_zero,List.set_cons_succ]
                  refine wpAnyH_ready (rs:=[18]) (by kernel_rfl) (by simp) ?_
                  refine AllReadyH.cons rfl (fun K hK=>?_) ?_
                  · go_simp
                    refine (con_atL (r:=r + 3) rfl X3.out (by omega) hcl lS.out (KM1.out _ _ _ hHeld (List.Mem.tail _ (List.Mem.head _))) (KM1.out _ _ _ hHeld (List.Mem.head _))).mono ?_
                    rintro e w9 ⟨rfl,rfl⟩
                    refine hK.out _ _ ?_ (fun hHeld2=>?_)
                    · exact hHeld
                    · clear hK K hHeld
                      have hHeld:=hHeld2
                      clear hHeld2
                      try simp only [Act.put,List.getElem_toArray,List.getElem_cons_zero,List.getElem_cons_succ,List.setIfInBounds_toArray,List.set_cons_zero,List.set_cons_succ]
                      refine wpAnyH_take (i:=19) (v:=?_) rfl (by kernel_rfl) (by kernel_rfl) (by kernel_rfl) (fun _ _ _ h=>h) (Or.inl ⟨by rfl,?_⟩) (by assumption) ?_
                      rotate_left
                      · intro w hSw
                        go_simp
                        with_reducible rfl
                      try simp only [Act.put,List.getElem_toArray,List.getElem_cons_zero,List.getElem_cons_succ,List.setIfInBounds_toArray,List.set_cons_zero,List.set_cons_succ]
                      refine wpAnyH_take (i:=20) (v:=?_) rfl (by kernel_rfl) (by kernel_rfl) (by kernel_rfl) (fun _ _ _ h=>h) (Or.inl ⟨by rfl,?_⟩) (by assumption) ?_
                      rotate_left
                      · intro w hSw
                        go_simp
                        with_reducible rfl
                      try simp only [Act.put,List.getElem_toArray,List.getElem_cons_zero,List.getElem_cons_succ,List.setIfInBounds_toArray,List.set_cons_zero,List.set_cons_succ]
                      refine wpAnyH_ready (rs:=[21]) (by kernel_rfl) (by simp) ?_
                      refine AllReadyH.cons rfl (fun K hK=>?_) ?_
                      · have lts:=V0.lt
                        have fz:=V0.frozen n
                        have cv:=V0.cell n _ (u8s_get _ n (by rw [mixY_len];exact n16))
                        go_simp
                        refine hK.out _ _ ?_ (fun hHeld2=>?_)
                        · exact KQ1.out _ _ _ _ hHeld (.inr (by intro c X h;simp only [List.mem_cons,List.not_mem_nil,or_false,Prod.mk.injEq] at h;rcases h with ⟨rfl,rfl⟩|⟨rfl,rfl⟩|⟨rfl,rfl⟩<;>omega)) (by omega)
                        · clear hK K hHeld
                          have hHeld:=hHeld2
                          clear hHeld2
                          try simp only [Act.put,List.getElem_toArray,List.getElem_cons_zero,List.getElem_cons_succ,List.setIfInBounds_toArray,List.set_cons_zero,List.set_cons_succ]
                          clear lts fz cv
                          refine wpAnyH_done (by kernel_rfl) ?_ _
                          refine NoPanic.normal ?_
                          have C0:=KM1.out _ _ _ hHeld (List.Mem.head _)
                          have B0:=KM1.out _ _ _ hHeld (List.Mem.tail _ (List.Mem.head _))
                          have R0:=KM1.out _ _ _ hHeld (List.Mem.tail _ (List.Mem.tail _ (List.Mem.head _)))
                          have bel:=KB1.out _ hHeld
                          have HV:=V0.setb n z
                          rw [HS.out] at HV
                          clear hHeld V0
                          generalize World.setCell _ _ _=w9 at *
                          go_wp2_with fail
                          go_roundw
                          case rel=>exact ⟨r + 1,by omega,by go_num,C0,by rw [show 4 * c + (r + 1)=n + 1 by have:=HN.out;omega];exact HV,B0,R0,bel⟩
                          case measure=>simp [intOf];omega
                      exact AllReadyH.nil
                  exact AllReadyH.nil
              exact AllReadyH.nil
          exact AllReadyH.nil
        · have HR:Hid (r=4):=by show r=4;omega
          have g2:(4:Int)≤(r:Int):=by omega
          go_wp2_with fail
          go_roundw
          case rel=>exact ⟨c + 1,by omega,by go_num,by rw [HR.out,show 4 * c + 4=4 * (c + 1) by omega] at V0;exact V0,B0,R0,bel⟩
          case measure=>simp [intOf];omega
    · have HR:Hid (c=4):=by show c=4;omega
      have g1:(4:Int)≤(c:Int):=by omega
      rw [HR.out,show 4 * 4=16 from rfl,mixY_16] at V0
      obtain ⟨tV,hV⟩:=V0
      obtain ⟨tR,hR⟩:=R0
      have HL:Hid (16=(u8s (mixN S)).toArray.size):=by show 16=_;simp [mixN_len]
      have HO:Hid ((u8s (List.replicate 16 (0:Int))).toArray.size=(u8s (mixN S)).toArray.size):=by show _=_;simp [mixN_len]
      have H1:Hid _:=u8_ones (mixN S)
      obtain ⟨fs,hfs⟩:∃ z,(u8s (mixN S)).toArray=z:=⟨_,rfl⟩
      have HD:Hid _:=hfs
      rw [hfs] at hV HL HO H1
      generalize (u8s (List.replicate 16 (0:Int))).toArray=es at hR HO
      clear hfs
      go_wp2_with (first
        | (refine wpList_load_row rfl 91 _ rfl (w.heap.size + 1 + 1) rfl tV fs _ _ hV Tryz.underlying91 rfl (by rw [size_16,HL.out]) ?_)
        | (refine wpList_store_row rfl 91 _ _ rfl (w.heap.size + 1) fs rfl rfl tR es hR (by rw [size_16,HL.out]) HO.out H1.out ?_)
        | fail)
      refine bodyPost_ret (results_cell_row rfl _ _ (w.heap.size + 1) tR fs (0,0) _ rfl (setRow_heap _ _ _ _ _ _ hR) Tryz.underlying91 rfl (by rw [size_16,HL.out])) rfl ?_
      exact ⟨by rw [HD.out],below_setRow bel (by omega) _⟩
end Go.Proofs.YtlkljfnenonfgaaGreatDoor
