/- The document's Hidden. (Plain part.) The program's masked. -/
import Derived.Test.YtlkljfnenonfgaaGreatDoorGcCnt
import Derived.Test.YtlkljfnenonfgaaGreatDoorAeNumG
import Derived.Test.YtlkljfnenonfgaaGreatDoorBase
import Derived.Test.YtlkljfnenonfgaaGreatDoorGhNumG
import Derived.Test.YtlkljfnenonfgaaGreatDoorRows
import Derived.Deep.WholeRow
import Derived.Deep.RegionHeld3
import Derived.Deep.DeepCutAuto
import Derived.Deep.DeepFit
namespace Go.Proofs.YtlkljfnenonfgaaGreatDoor
open Go.RowKit
/-- hidden bytes while they are made -/
def hidW (K N B:List Int) (i:Nat):List Int:=hidZ K N B i++List.replicate (B.length - i) 0
theorem hidW_len {K N B:List Int} {i:Nat} (h:i≤B.length):(hidW K N B i).length=B.length:=by rw [hidW,List.length_append,hidZ_len,List.length_replicate];omega
theorem hidW_0 (K N B:List Int):hidW K N B 0=List.replicate B.length 0:=by simp [hidW,hidZ]
theorem hidW_all (K N B:List Int):hidW K N B B.length=hidN K N B:=by rw [hidW,Nat.sub_self];exact List.append_nil _
theorem hidZ_next (K N B:List Int) (i:Nat):hidZ K N B (i + 1)=hidZ K N B i++[bits .xor .u8 (B.getD i 0) (rwb K N i)]:=by simp [hidZ,List.range_succ]
theorem hidW_set {K N B:List Int} {i:Nat} (h:i < B.length):(hidW K N B i).set i (bits .xor .u8 (B.getD i 0) (rwb K N i))=hidW K N B (i + 1):=by
 rw [hidW,hidW,List.set_append_right _ _ (by rw [hidZ_len];exact Nat.le_refl _),hidZ_len,Nat.sub_self,show B.length - i=(B.length - (i + 1)) + 1 by omega,List.replicate_succ,List.set_cons_zero,hidZ_next,List.append_assoc]
 rfl
set_option linter.unusedSimpArgs false in
set_option maxRecDepth 100000 in
set_option maxHeartbeats 4000000 in
theorem con_masked {kv nv bv:Value} {K N B:List Int} {w:World} (hk:Bs w kv K) (hn:Bs w nv N) (hb:Bs w bv B) (bK:byt K) (lK:K.length=32) (bN:byt N) (lN:N.length=12) (l:B.length≤1000000000) :
    Calls Tryz.prog 37 #[kv,nv,bv] w fun e w'=>∃ g:Nat,e=.returned (.tuple #[.slice (some ⟨g,0,none⟩) B.length B.length,.nilIface])∧w'.ownsRow w.heap.size 5 1 (.slice (some ⟨g,0,none⟩) B.length B.length) B.length (u8s (hidN K N B))∧Below w.heap.size w w':=by
  have HK:Hid (Bs w kv K):=hk
  have HN:Hid (Bs w nv N):=hn
  have HKb:Hid (byt K):=bK
  have HKl:Hid (K.length=32):=lK
  have HNb:Hid (byt N):=bN
  have HNl:Hid (N.length=12):=lN
  clear hk hn bK lK bN lN
  obtain ⟨ao,cap,rfl,h1,h2,h3⟩:=hb
  have hz:=zero_16.out
  have hmk:=run_make_row' 27 5 (.int .u8 0) 1 Tryz.underlying27 info_b16 rfl .i64 .i64 B.length (by omega) (by omega) w
  rw [made_zero] at hmk
  have TY:=TyB.new w (u8s (List.replicate B.length 0)).toArray 5 w.heap.size rfl
  have V0:=Blk.new w (u8s (List.replicate B.length 0)) 5 w.heap.size rfl
  have bel:Below w.heap.size w (w.alloc (.cells (u8s (List.replicate B.length 0)).toArray 5)):=((Below.refl _ _).alloc (Nat.le_refl _) _)
  obtain ⟨Z,hZ⟩:∃ Z,(u8s (List.replicate 16 0))=Z:=⟨_,rfl⟩
  have HZl:Hid (Z.length=16):=by rw [← hZ];rfl
  rw [hZ] at hz
  clear hZ
  rw [← hidW_0 K N B] at hmk V0 bel TY
  obtain ⟨M,hM⟩:∃ M,u8s (hidW K N B 0)=M:=⟨_,rfl⟩
  have HM:Hid (u8s (hidW K N B 0)=M):=hM
  rw [hM] at hmk V0 bel TY
  clear hM
  obtain ⟨W,hW⟩:∃ W,W=w.alloc (.cells M.toArray 5):=⟨_,rfl⟩
  rw [← hW] at hmk bel V0 TY
  replace hmk:(Instr.makeSlice 27 (.int .i64 (B.length:Int)) (.int .i64 (B.length:Int))).run Tryz.prog w=.ok (.slice (some ⟨w.heap.size,0,none⟩) B.length B.length) W:=hmk
  clear hW
  go_enter Tryz.func37,Tryz.ntmps37
  go_wp2_with fail
  clear hmk
  rw [← HM.out] at V0
  clear HM
  go_loopw [9] (fun iv wx=>∃ q:Nat,16 * q≤B.length + 15∧iv=.int .i64 (16 * (q:Int))∧Blk wx w.heap.size (u8s (hidW K N B (min (16 * q) B.length)))∧Below w.heap.size w wx∧TyB wx w.heap.size 5) (fun iv _=>B.length + 16 - (intOf iv).toNat)
  case atStart=>exact ⟨0,by omega,rfl,by rw [Nat.mul_zero,Nat.zero_min];exact V0,bel,TY⟩
  case round =>
    clear V0 bel TY
    obtain ⟨q,hq,rfl,V0,bel,TY⟩:=hrel
    obtain ⟨n,hn⟩:∃ n,16 * q=n:=⟨_,rfl⟩
    have HNq:Hid (16 * q=n):=hn
    have en:16 * (q:Int)=(n:Int):=by omega
    rw [hn] at V0 hq
    rw [en]
    clear en
    by_cases hl:n < B.length
    · rw [Nat.min_eq_left (by omega)] at V0
      have gA:(n:Int) < ((B.length:Nat):Int):=by omega
      have g0:(0:Int)≤(n:Int):=by omega
      have gi:IntKind.i64.wrap ((n:Int) + 16)=(n:Int) + 16:=by rw [IntKind.wrap_i64];omega
      have d1:(n:Int).tdiv 16=(q:Int):=by rw [Int.tdiv_eq_ediv_of_nonneg (by omega)];omega
      have d2:IntKind.i64.wrap (q:Int)=(q:Int):=by rw [IntKind.wrap_i64];omega
      obtain ⟨p,hp⟩:∃ p,2 + q=p:=⟨_,rfl⟩
      have HP:Hid (2 + q=p):=hp
      have d3:IntKind.i64.wrap (2 + (q:Int))=(p:Int):=by rw [IntKind.wrap_i64];omega
      clear hn hp
      obtain ⟨b,o,rfl,hb0,hc0⟩:=h3 (by omega)
      have HC:Hid _:=hc0
      clear hc0 h3
      go_wp2_with fail
      refine (con_counted (HK.out.later bel) HKb.out HKl.out (HN.out.later bel) HNb.out HNl.out).mono ?_
      rintro e w5 ⟨rfl,hb⟩
      replace V0:=V0.later hb
      replace TY:=TY.later hb
      replace bel:=below_step bel hb
      clear hb
      obtain ⟨F,hF⟩:∃ F,u8s (rowN K N p)=F:=⟨_,rfl⟩
      have Fh:Hid (u8s (rowN K N p)=F):=hF
      have Fl:Hid (F.length=16):=by show _=_;rw [← hF,u8s,List.length_map];exact rowN_len _ _ _
      have Fo:Hid (F.toArray.all (·.oneCell')=true):=by rw [← hF];exact u8_ones _
      clear hF
      rw [Fh.out]
      have lV:=V0.lt
      have HA:Hid _:=heap_alloc_last w5 (.cells Z.toArray 91)
      replace V0:=(V0.alloc (.cells Z.toArray 91)).row (cs:=F.toArray) (c:=w5.heap.size) (by omega)
      replace TY:=(TY.alloc (.cells Z.toArray 91)).row (cs:=F.toArray) (c:=w5.heap.size) (by omega)
      replace bel:=below_setRow (below_alloc (o:=.cells Z.toArray 91) bel) (show w.heap.size≤w5.heap.size by omega) F.toArray
      have R0:Blk ((w5.alloc (.cells Z.toArray 91)).setRow w5.heap.size F.toArray) w5.heap.size F:=⟨_,setRow_heap _ _ _ _ _ _ HA.out⟩
      have k1:IntKind.i64.wrap (((B.length:Nat):Int) - (n:Int))=((B.length:Nat):Int) - (n:Int):=by rw [IntKind.wrap_i64];omega
      go_upto_region 8 with (first|(refine wpList_store_row rfl 91 _ _ rfl w5.heap.size F.toArray rfl rfl 91 Z.toArray HA.out (by rw [size_16,List.size_toArray,Fl.out]) (by rw [List.size_toArray,List.size_toArray,Fl.out,HZl.out]) Fo.out ?_)|fail)
      clear HA
      obtain ⟨g,hg⟩:∃ g,g=w5.heap.size:=⟨_,rfl⟩
      rw [← hg] at V0 TY bel R0 lV ⊢
      generalize (w5.alloc (.cells Z.toArray 91)).setRow g F.toArray=w6 at *
      clear hg
      go_wp2_with fail
      clear hz gA gi d1 d2 d3 k1 Fl Fo HZl
      obtain ⟨c,hc⟩:∃ c,min 16 (B.length - n)=c:=⟨_,rfl⟩
      have ec:min 16 (((B.length:Nat):Int) - (n:Int))=(c:Int):=by omega
      rw [ec]
      clear ec
      have c16:c≤16:=by omega
      have cB:n + c≤B.length:=by omega
      have HCc:Hid (n + c=min (n + 16) B.length):=by show _=_;omega
      clear hc
      obtain ⟨W6,hW6⟩:∃ z,z=w6:=⟨_,rfl⟩
      rw [← hW6] at V0 TY bel R0 ⊢
      clear hW6
      have HRw:Hid (∀ i,i < c→(rowN K N p).getD i 0=rwb K N (n + i)):=fun i hi=>by
        have:=HP.out
        have:=HNq.out
        unfold rwb
        rw [show (n + i) / 16=q by omega,show (n + i) % 16=i by omega,HP.out]
      rw [← Fh.out] at R0
      have HFl:Hid ((rowN K N p).length=16):=rowN_len _ _ _
      go_loopw [39] (fun iv wx=>∃ i:Nat,i≤c∧iv=.int .i64 (i:Int)∧Blk wx w.heap.size (u8s (hidW K N B (n + i)))∧Blk wx g (u8s (rowN K N p))∧Below w.heap.size w wx∧TyB wx w.heap.size 5) (fun iv _=>c - (intOf iv).toNat)
      case atStart=>exact ⟨0,by omega,rfl,V0,R0,bel,TY⟩
      case round =>
        clear V0 R0 bel TY
        obtain ⟨i,hi,rfl,V0,R0,bel,TY⟩:=hrel
        by_cases hil:i < c
        · have g1:(i:Int) < (c:Int):=by omega
          have g2:(0:Int)≤(i:Int):=by omega
          have g3:(i:Int) < 16:=by omega
          have gi:IntKind.i64.wrap ((i:Int) + 1)=(i:Int) + 1:=by rw [IntKind.wrap_i64];omega
          have hnl:n + i < B.length:=by omega
          have HS:Hid _:=hidW_set (K:=K) (N:=N) hnl
          have ga:IntKind.i64.wrap ((n:Int) + (i:Int))=((n + i:Nat):Int):=by rw [IntKind.wrap_i64];omega
          have cb:=(bel.cell (p:=⟨b,o + (n + i),none⟩) hb0).trans (HC.out (n + i) hnl)
          have cr:=R0.cell i _ (u8s_get _ _ (by rw [HFl.out];omega))
          have cv:=V0.cell (n + i) _ (u8s_get _ (n + i) (by rw [hidW_len (by omega)];exact hnl))
          have fz:=V0.frozen (n + i)
          rw [HRw.out i hil] at cr
          obtain ⟨y,hy⟩:∃ y,B.getD (n + i) 0=y:=⟨_,rfl⟩
          obtain ⟨x,hx⟩:∃ x,rwb K N (n + i)=x:=⟨_,rfl⟩
          rw [hy] at cb HS
          rw [hx] at cr HS
          obtain ⟨m,hm⟩:∃ m,n + i=m:=⟨_,rfl⟩
          have HMm:Hid (n + i=m):=hm
          rw [hm] at cb cv fz HS ga hnl
          have gm:(m:Int) < ((B.length:Nat):Int):=by omega
          have gn:(0:Int)≤(m:Int):=by omega
          have V1:Blk wr w.heap.size (u8s (hidW K N B m)):=by rw [← hm];exact V0
          clear hy hx hm V0
          have lv:=V1.lt
          have lr:=R0.lt
          have lb:b < wr.heap.size:=Nat.lt_of_lt_of_le hb0 bel.size
          have HV:Hid (Blk (World.setCell wr ⟨w.heap.size,m,none⟩ (.int .u8 (bits .xor .u8 y x))) w.heap.size (u8s (hidW K N B (m + 1)))):=by rw [← HS.out];exact V1.setb m (bits .xor .u8 y x)
          go_upto_region 11 with fail
          go_region
          all_goals go_wp2_with fail
          all_goals go_roundw
          all_goals first
            | exact ⟨i + 1,by omega,by go_num,by rw [show n + (i + 1)=m + 1 by have:=HMm.out;omega];exact HV.out.drew,(R0.other _ _ (by show g≠w.heap.size;omega)).drew,(bel.setCell (by show w.heap.size≤w.heap.size;omega) _).drew,(TY.set _ _).drew⟩
            | (simp [intOf];omega)
        · have HI:Hid (i=c):=by show i=c;omega
          have g1:¬ (i:Int) < (c:Int):=by omega
          have gi:IntKind.i64.wrap ((n:Int) + 16)=(n:Int) + 16:=by rw [IntKind.wrap_i64];omega
          rw [HI.out,HCc.out] at V0
          clear R0
          go_wp2_with fail
          go_roundw
          case rel=>exact ⟨q + 1,by have:=HNq.out;omega,by rw [show (n:Int) + 16=16 * ((q + 1:Nat):Int) by have:=HNq.out;omega],by rw [show 16 * (q + 1)=n + 16 by have:=HNq.out;omega];exact V0,bel,TY⟩
          case measure=>simp [intOf];omega
    · rw [Nat.min_eq_right (by omega),hidW_all] at V0
      have gA:¬ (n:Int) < ((B.length:Nat):Int):=by omega
      clear hz
      go_wp2_with fail
      refine bodyPost_ret (results_tmp2 rfl _ _ _) rfl ?_
      exact ⟨_,rfl,own_blk TY V0 (Nat.le_refl _) (hidN_len K N B) (by omega),bel⟩
end Go.Proofs.YtlkljfnenonfgaaGreatDoor
