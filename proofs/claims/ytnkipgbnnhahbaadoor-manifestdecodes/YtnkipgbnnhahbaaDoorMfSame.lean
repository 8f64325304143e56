/- The law's same. -/
import Derived.Test.YtnkipgbnnhahbaaDoorMfSpec
import Derived.Test.YtnkipgbnnhahbaaDoorNmBase
import Derived.Test.YtnkipgbnnhahbaaDoorRows
import Derived.Deep.OwnRows
import Derived.Deep.AppendLies
import Derived.Great.BuildSlice
import Derived.Laws.Rows
import Derived.BigQuiet
import Derived.Deep.WholeRow
import Derived.Deep.RegionHeld3
import Derived.Deep.DeepCutAuto
import Derived.Deep.DeepFit
namespace Go.Proofs.YtnkipgbnnhahbaaDoor
open Go.RowKit
set_option linter.unusedSimpArgs false in
set_option maxRecDepth 100000 in
set_option maxHeartbeats 2000000 in
theorem con_same20 {m:Mf} {es fs:List Value} {w:World} (ha:MfAt w m es) (hb:MfAt w m fs):Calls Tryd.prog 8 #[.agg es.toArray,.agg fs.toArray] w fun e w'=>e=.returned (.bool true)∧Below w.heap.size w w':=by
 obtain ⟨na,ca,pa,da,sa,ta,⟨qa0,qa1,qa2,qa3⟩,⟨qa4,qa5,qa6⟩,ha1,ha2,ha3⟩:=ha.open
 obtain ⟨nb,cb,pb,db,sb,tb,⟨qb0,qb1,qb2,qb3⟩,⟨qb4,qb5,qb6⟩,hb1,hb2,hb3⟩:=hb.open
 obtain ⟨ver,hver⟩:∃ z,m.ver=z:=⟨_,rfl⟩
 obtain ⟨cls,hcls⟩:∃ z,m.cls=z:=⟨_,rfl⟩
 obtain ⟨ldn,hldn⟩:∃ z,m.ld=z:=⟨_,rfl⟩
 obtain ⟨lnn,hlnn⟩:∃ z,m.ln=z:=⟨_,rfl⟩
 obtain ⟨NL,hNL⟩:∃ z,m.nonce.length=z:=⟨_,rfl⟩
 obtain ⟨WL,hWL⟩:∃ z,m.wrapped.length=z:=⟨_,rfl⟩
 obtain ⟨DL,hDL⟩:∃ z,m.digest.length=z:=⟨_,rfl⟩
 rw [hver] at qa0 qb0
 rw [hcls] at qa1 qb1
 rw [hldn] at qa2 qb2
 rw [hlnn] at qa3 qb3
 rw [hNL] at qa4 qb4 ha1 hb1
 rw [hWL] at qa5 qb5 ha2 hb2
 rw [hDL] at qa6 qb6 ha3 hb3
 have HBa:Hid (Bs w (.slice na NL ca) m.nonce∧Bs w (.slice pa WL da) m.wrapped∧Bs w (.slice sa DL ta) m.digest):=⟨ha1,ha2,ha3⟩
 have HBb:Hid (Bs w (.slice nb NL cb) m.nonce∧Bs w (.slice pb WL db) m.wrapped∧Bs w (.slice sb DL tb) m.digest):=⟨hb1,hb2,hb3⟩
 clear hver hcls hldn hlnn hNL hWL hDL ha1 ha2 ha3 hb1 hb2 hb3 ha hb
 have A0:=(Blk.new w es 25 w.heap.size rfl).alloc (.cells fs.toArray 25)
 have B0:=Blk.new (w.alloc (.cells es.toArray 25)) fs 25 (w.heap.size + 1) (by simp)
 have bel:Below w.heap.size w ((w.alloc (.cells es.toArray 25)).alloc (.cells fs.toArray 25)):=((Below.refl _ _).alloc (Nat.le_refl _) _).alloc (by simp) _
 go_enter Tryd.func8,Tryd.ntmps8
 go_upto_region 1 with fail
 generalize ((w.alloc (.cells es.toArray 25)).alloc (.cells fs.toArray 25))=W at *
 have ea0:=A0.cell 0 _ qa0
 have eb0:=B0.cell 0 _ qb0
 have ea1:=A0.cell 1 _ qa1
 have eb1:=B0.cell 1 _ qb1
 have ea2:=A0.cell 2 _ qa2
 have eb2:=B0.cell 2 _ qb2
 have ea3:=A0.cell 3 _ qa3
 have eb3:=B0.cell 3 _ qb3
 have ea4:=A0.cell 4 _ qa4
 have eb4:=B0.cell 4 _ qb4
 have ea5:=A0.cell 5 _ qa5
 have eb5:=B0.cell 5 _ qb5
 have ea6:=A0.cell 6 _ qa6
 have eb6:=B0.cell 6 _ qb6
 have la:=A0.lt
 have lb:=B0.lt
 obtain ⟨Z0,hZ0⟩:∃ z,strOfNums m.nonce=z:=⟨_,rfl⟩
 have xa0:=conv_any (HBa.out.1.later bel)
 have xb0:=conv_any (HBb.out.1.later bel)
 rw [hZ0] at xa0 xb0
 have sq0:(Z0.toList == Z0.toList)=true:=beq_self_eq_true _
 obtain ⟨Z1,hZ1⟩:∃ z,strOfNums m.wrapped=z:=⟨_,rfl⟩
 have xa1:=conv_any (HBa.out.2.1.later bel)
 have xb1:=conv_any (HBb.out.2.1.later bel)
 rw [hZ1] at xa1 xb1
 have sq1:(Z1.toList == Z1.toList)=true:=beq_self_eq_true _
 obtain ⟨Z2,hZ2⟩:∃ z,strOfNums m.digest=z:=⟨_,rfl⟩
 have xa2:=conv_any (HBa.out.2.2.later bel)
 have xb2:=conv_any (HBb.out.2.2.later bel)
 rw [hZ2] at xa2 xb2
 have sq2:(Z2.toList == Z2.toList)=true:=beq_self_eq_true _
 have d0:(ver == ver)=true:=beq_self_eq_true _
 have d1:(cls == cls)=true:=beq_self_eq_true _
 have d2:(ldn == ldn)=true:=beq_self_eq_true _
 have d3:(lnn == lnn)=true:=beq_self_eq_true _
 clear hZ0 hZ1 hZ2
 go_wp2_with fail
 go_ret
 exact ⟨rfl,bel⟩
end Go.Proofs.YtnkipgbnnhahbaaDoor
