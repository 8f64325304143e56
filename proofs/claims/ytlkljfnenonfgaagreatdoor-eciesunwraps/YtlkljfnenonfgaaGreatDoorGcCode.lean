/- The document's Hidden. (Plain part.) The program's masked. The program's tagOf. The program's Same: whether bytes are the same. What the program's gcm answers: fault, Seal, Open. -/
import Derived.Test.YtlkljfnenonfgaaGreatDoorGcCnt
import Derived.Test.YtlkljfnenonfgaaGreatDoorAeNumG
import Derived.Test.YtlkljfnenonfgaaGreatDoorBase
import Derived.Test.YtlkljfnenonfgaaGreatDoorGhNumG
import Derived.Test.YtlkljfnenonfgaaGreatDoorGhCodeW
import Derived.Test.YtlkljfnenonfgaaGreatDoorSCodeD
import Derived.Test.YtlkljfnenonfgaaGreatDoorRows
import Derived.Deep.WholeRow
import Derived.Deep.RegionHeld3
import Derived.Deep.DeepCutAuto
import Derived.Deep.DeepFit
import Derived.Laws.BitsAllLaws
import Derived.BigQuiet
import Derived.Deep.QuietTactic
namespace Go.Proofs.YtlkljfnenonfgaaGreatDoor
open Go.RowKit
/-- hidden bytes while they are made -/
def hidW (K N B:List Int) (i:Nat):List Int:=hidZ K N B i++List.replicate (B.length - i) 0
theorem hidW_len {K N B:List Int} {i:Nat} (h:i≤B.length):(hidW K N B i).length=B.length:=by rw [hidW,List.length_append,hidZ_len,List.length_replicate];omega
theorem hidW_0 (K N B:List Int):hidW K N B 0=List.replicate B.length 0:=by simp [hidW,hidZ]
theorem hidW_all (K N B:List Int):hidW K N B B.length=hidN K N B:=by rw [hidW,Nat.sub_self];exact List.append_nil _
theorem hidZ_next (K N B:List Int) (i:Nat):hidZ K N B (i + 1)=hidZ K N B i++[bits .xor .u8 (B.getD i 0) (rwb K N i)]:=by simp [hidZ,List.range_succ]
theorem hidW_set {K N B:List Int} {i:Nat} (h:i < B.length):(hidW K N B i).set i (bits .xor .u8 (B.getD i 0) (rwb K N i))=hidW K N B (i + 1):=by
 rw [hidW,hidW,List.set_append_right _ _ (by rw [hidZ_len];exact Nat.le_refl _),hidZ_len,Nat.sub_self,show B.length - i=(B.length - (i + 1)) + 1 by omega,List.replicate_succ,List.set_cons_zero,hidZ_next,List.append_assoc]
 rfl
set_option linter.unusedSimpArgs false in
set_option maxRecDepth 100000 in
set_option maxHeartbeats 4000000 in
theorem con_masked {kv nv bv:Value} {K N B:List Int} {w:World} (hk:Bs w kv K) (hn:Bs w nv N) (hb:Bs w bv B) (bK:byt K) (lK:K.length=32) (bN:byt N) (lN:N.length=12) (l:B.length≤1000000000) :
    Calls Tryz.prog 37 #[kv,nv,bv] w fun e w'=>∃ g:Nat,e=.returned (.tuple #[.slice (some ⟨g,0,none⟩) B.length B.length,.nilIface])∧w'.ownsRow w.heap.size 5 1 (.slice (some ⟨g,0,none⟩) B.length B.length) B.length (u8s (hidN K N B))∧Below w.heap.size w w':=by
  have HK:Hid (Bs w kv K):=hk
  have HN:Hid (Bs w nv N):=hn
  have HKb:Hid (byt K):=bK
  have HKl:Hid (K.length=32):=lK
  have HNb:Hid (byt N):=bN
  have HNl:Hid (N.length=12):=lN
  clear hk hn bK lK bN lN
  obtain ⟨ao,cap,rfl,h1,h2,h3⟩:=hb
  have hz:=zero_16.out
  have hmk:=run_make_row' 27 5 (.int .u8 0) 1 Tryz.underlying27 info_b16 rfl .i64 .i64 B.length (by omega) (by omega) w
  rw [made_zero] at hmk
  have TY:=TyB.new w (u8s (List.replicate B.length 0)).toArray 5 w.heap.size rfl
  have V0:=Blk.new w (u8s (List.replicate B.length 0)) 5 w.heap.size rfl
  have bel:Below w.heap.size w (w.alloc (.cells (u8s (List.replicate B.length 0)).toArray 5)):=((Below.refl _ _).alloc (Nat.le_refl _) _)
  obtain ⟨Z,hZ⟩:∃ Z,(u8s (List.replicate 16 0))=Z:=⟨_,rfl⟩
  have HZl:Hid (Z.length=16):=by rw [← hZ];rfl
  rw [hZ] at hz
  clear hZ
  rw [← hidW_0 K N B] at hmk V0 bel TY
  obtain ⟨M,hM⟩:∃ M,u8s (hidW K N B 0)=M:=⟨_,rfl⟩
  have HM:Hid (u8s (hidW K N B 0)=M):=hM
  rw [hM] at hmk V0 bel TY
  clear hM
  obtain ⟨W,hW⟩:∃ W,W=w.alloc (.cells M.toArray 5):=⟨_,rfl⟩
  rw [← hW] at hmk bel V0 TY
  replace hmk:(Instr.makeSlice 27 (.int .i64 (B.length:Int)) (.int .i64 (B.length:Int))).run Tryz.prog w=.ok (.slice (some ⟨w.heap.size,0,none⟩) B.length B.length) W:=hmk
  clear hW
  go_enter Tryz.func37,Tryz.ntmps37
  go_wp2_with fail
  clear hmk
  rw [← HM.out] at V0
  clear HM
  go_loopw [9] (fun iv wx=>∃ q:Nat,16 * q≤B.length + 15∧iv=.int .i64 (16 * (q:Int))∧Blk wx w.heap.size (u8s (hidW K N B (min (16 * q) B.length)))∧Below w.heap.size w wx∧TyB wx w.heap.size 5) (fun iv _=>B.length + 16 - (intOf iv).toNat)
  case atStart=>exact ⟨0,by omega,rfl,by rw [Nat.mul_zero,Nat.zero_min];exact V0,bel,TY⟩
  case round =>
    clear V0 bel TY
    obtain ⟨q,hq,rfl,V0,bel,TY⟩:=hrel
    obtain ⟨n,hn⟩:∃ n,16 * q=n:=⟨_,rfl⟩
    have HNq:Hid (16 * q=n):=hn
    have en:16 * (q:Int)=(n:Int):=by omega
    rw [hn] at V0 hq
    rw [en]
    clear en
    by_cases hl:n < B.length
    · rw [Nat.min_eq_left (by omega)] at V0
      have gA:(n:Int) < ((B.length:Nat):Int):=by omega
      have g0:(0:Int)≤(n:Int):=by omega
      have gi:IntKind.i64.wrap ((n:Int) + 16)=(n:Int) + 16:=by rw [IntKind.wrap_i64];omega
      have d1:(n:Int).tdiv 16=(q:Int):=by rw [Int.tdiv_eq_ediv_of_nonneg (by omega)];omega
      have d2:IntKind.i64.wrap (q:Int)=(q:Int):=by rw [IntKind.wrap_i64];omega
      obtain ⟨p,hp⟩:∃ p,2 + q=p:=⟨_,rfl⟩
      have HP:Hid (2 + q=p):=hp
      have d3:IntKind.i64.wrap (2 + (q:Int))=(p:Int):=by rw [IntKind.wrap_i64];omega
      clear hn hp
      obtain ⟨b,o,rfl,hb0,hc0⟩:=h3 (by omega)
      have HC:Hid _:=hc0
      clear hc0 h3
      go_wp2_with fail
      refine (con_counted (HK.out.later bel) HKb.out HKl.out (HN.out.later bel) HNb.out HNl.out).mono ?_
      rintro e w5 ⟨rfl,hb⟩
      replace V0:=V0.later hb
      replace TY:=TY.later hb
      replace bel:=below_step bel hb
      clear hb
      obtain ⟨F,hF⟩:∃ F,u8s (rowN K N p)=F:=⟨_,rfl⟩
      have Fh:Hid (u8s (rowN K N p)=F):=hF
      have Fl:Hid (F.length=16):=by show _=_;rw [← hF,u8s,List.length_map];exact rowN_len _ _ _
      have Fo:Hid (F.toArray.all (·.oneCell')=true):=by rw [← hF];exact u8_ones _
      clear hF
      rw [Fh.out]
      have lV:=V0.lt
      have HA:Hid _:=heap_alloc_last w5 (.cells Z.toArray 91)
      replace V0:=(V0.alloc (.cells Z.toArray 91)).row (cs:=F.toArray) (c:=w5.heap.size) (by omega)
      replace TY:=(TY.alloc (.cells Z.toArray 91)).row (cs:=F.toArray) (c:=w5.heap.size) (by omega)
      replace bel:=below_setRow (below_alloc (o:=.cells Z.toArray 91) bel) (show w.heap.size≤w5.heap.size by omega) F.toArray
      have R0:Blk ((w5.alloc (.cells Z.toArray 91)).setRow w5.heap.size F.toArray) w5.heap.size F:=⟨_,setRow_heap _ _ _ _ _ _ HA.out⟩
      have k1:IntKind.i64.wrap (((B.length:Nat):Int) - (n:Int))=((B.length:Nat):Int) - (n:Int):=by rw [IntKind.wrap_i64];omega
      go_upto_region 8 with (first|(refine wpList_store_row rfl 91 _ _ rfl w5.heap.size F.toArray rfl rfl 91 Z.toArray HA.out (by rw [size_16,List.size_toArray,Fl.out]) (by rw [List.size_toArray,List.size_toArray,Fl.out,HZl.out]) Fo.out ?_)|fail)
      clear HA
      obtain ⟨g,hg⟩:∃ g,g=w5.heap.size:=⟨_,rfl⟩
      rw [← hg] at V0 TY bel R0 lV ⊢
      generalize (w5.alloc (.cells Z.toArray 91)).setRow g F.toArray=w6 at *
      clear hg
      go_wp2_with fail
      clear hz gA gi d1 d2 d3 k1 Fl Fo HZl
      obtain ⟨c,hc⟩:∃ c,min 16 (B.length - n)=c:=⟨_,rfl⟩
      have ec:min 16 (((B.length:Nat):Int) - (n:Int))=(c:Int):=by omega
      rw [ec]
      clear ec
      have c16:c≤16:=by omega
      have cB:n + c≤B.length:=by omega
      have HCc:Hid (n + c=min (n + 16) B.length):=by show _=_;omega
      clear hc
      obtain ⟨W6,hW6⟩:∃ z,z=w6:=⟨_,rfl⟩
      rw [← hW6] at V0 TY bel R0 ⊢
      clear hW6
      have HRw:Hid (∀ i,i < c→(rowN K N p).getD i 0=rwb K N (n + i)):=fun i hi=>by
        have:=HP.out
        have:=HNq.out
        unfold rwb
        rw [show (n + i) / 16=q by omega,show (n + i) % 16=i by omega,HP.out]
      rw [← Fh.out] at R0
      have HFl:Hid ((rowN K N p).length=16):=rowN_len _ _ _
      go_loopw [39] (fun iv wx=>∃ i:Nat,i≤c∧iv=.int .i64 (i:Int)∧Blk wx w.heap.size (u8s (hidW K N B (n + i)))∧Blk wx g (u8s (rowN K N p))∧Below w.heap.size w wx∧TyB wx w.heap.size 5) (fun iv _=>c - (intOf iv).toNat)
      case atStart=>exact ⟨0,by omega,rfl,V0,R0,bel,TY⟩
      case round =>
        clear V0 R0 bel TY
        obtain ⟨i,hi,rfl,V0,R0,bel,TY⟩:=hrel
        by_cases hil:i < c
        · have g1:(i:Int) < (c:Int):=by omega
          have g2:(0:Int)≤(i:Int):=by omega
          have g3:(i:Int) < 16:=by omega
          have gi:IntKind.i64.wrap ((i:Int) + 1)=(i:Int) + 1:=by rw [IntKind.wrap_i64];omega
          have hnl:n + i < B.length:=by omega
          have HS:Hid _:=hidW_set (K:=K) (N:=N) hnl
          have ga:IntKind.i64.wrap ((n:Int) + (i:Int))=((n + i:Nat):Int):=by rw [IntKind.wrap_i64];omega
          have cb:=(bel.cell (p:=⟨b,o + (n + i),none⟩) hb0).trans (HC.out (n + i) hnl)
          have cr:=R0.cell i _ (u8s_get _ _ (by rw [HFl.out];omega))
          have cv:=V0.cell (n + i) _ (u8s_get _ (n + i) (by rw [hidW_len (by omega)];exact hnl))
          have fz:=V0.frozen (n + i)
          rw [HRw.out i hil] at cr
          obtain ⟨y,hy⟩:∃ y,B.getD (n + i) 0=y:=⟨_,rfl⟩
          obtain ⟨x,hx⟩:∃ x,rwb K N (n + i)=x:=⟨_,rfl⟩
          rw [hy] at cb HS
          rw [hx] at cr HS
          obtain ⟨m,hm⟩:∃ m,n + i=m:=⟨_,rfl⟩
          have HMm:Hid (n + i=m):=hm
          rw [hm] at cb cv fz HS ga hnl
          have gm:(m:Int) < ((B.length:Nat):Int):=by omega
          have gn:(0:Int)≤(m:Int):=by omega
          have V1:Blk wr w.heap.size (u8s (hidW K N B m)):=by rw [← hm];exact V0
          clear hy hx hm V0
          have lv:=V1.lt
          have lr:=R0.lt
          have lb:b < wr.heap.size:=Nat.lt_of_lt_of_le hb0 bel.size
          have HV:Hid (Blk (World.setCell wr ⟨w.heap.size,m,none⟩ (.int .u8 (bits .xor .u8 y x))) w.heap.size (u8s (hidW K N B (m + 1)))):=by rw [← HS.out];exact V1.setb m (bits .xor .u8 y x)
          go_upto_region 11 with fail
          go_region
          all_goals go_wp2_with fail
          all_goals go_roundw
          all_goals first
            | exact ⟨i + 1,by omega,by go_num,by rw [show n + (i + 1)=m + 1 by have:=HMm.out;omega];exact HV.out.drew,(R0.other _ _ (by show g≠w.heap.size;omega)).drew,(bel.setCell (by show w.heap.size≤w.heap.size;omega) _).drew,(TY.set _ _).drew⟩
            | (simp [intOf];omega)
        · have HI:Hid (i=c):=by show i=c;omega
          have g1:¬ (i:Int) < (c:Int):=by omega
          have gi:IntKind.i64.wrap ((n:Int) + 16)=(n:Int) + 16:=by rw [IntKind.wrap_i64];omega
          rw [HI.out,HCc.out] at V0
          clear R0
          go_wp2_with fail
          go_roundw
          case rel=>exact ⟨q + 1,by have:=HNq.out;omega,by rw [show (n:Int) + 16=16 * ((q + 1:Nat):Int) by have:=HNq.out;omega],by rw [show 16 * (q + 1)=n + 16 by have:=HNq.out;omega];exact V0,bel,TY⟩
          case measure=>simp [intOf];omega
    · rw [Nat.min_eq_right (by omega),hidW_all] at V0
      have gA:¬ (n:Int) < ((B.length:Nat):Int):=by omega
      clear hz
      go_wp2_with fail
      refine bodyPost_ret (results_tmp2 rfl _ _ _) rfl ?_
      exact ⟨_,rfl,own_blk TY V0 (Nat.le_refl _) (hidN_len K N B) (by omega),bel⟩
theorem con_WholeL {H A B:List Int} {F E:List Value} {av bv:Value} {w:World} (hF:u8s H=F) (hE:u8s (wholeB H A B)=E) (lH:H.length=16) (bH:byt H) (ha:Bs w av A) (bA:byt A) (hb:Bs w bv B) (bB:byt B) (lA:A.length≤100000000000) (lB:B.length≤100000000000) :
  Calls Tryz.prog 62 #[.agg F.toArray,av,bv] w fun e w'=>e=.returned (.agg E.toArray)∧Below w.heap.size w w':=by
 subst hF hE
 exact con_Whole lH bH ha bA hb bB lA lB
theorem xkZ_at {X Y:List Int} {k:Nat} (h:k < 16):(xkZ X Y k).getD k 0=X.getD k 0:=by
 rw [List.getD_eq_getElem?_getD,xkZ,List.getElem?_map,List.getElem?_range h]
 simp
set_option linter.unusedSimpArgs false in
set_option maxRecDepth 100000 in
set_option maxHeartbeats 4000000 in
theorem con_tagOf {kv nv av bv:Value} {K N AD B:List Int} {w:World} (hk:Bs w kv K) (hn:Bs w nv N) (ha:Bs w av AD) (hb:Bs w bv B) (bK:byt K) (lK:K.length=32) (bN:byt N) (lN:N.length=12) (bA:byt AD) (bB:byt B) (lA:AD.length≤100000000000) (lB:B.length≤100000000000) :
    Calls Tryz.prog 38 #[kv,nv,av,bv] w fun e w'=>∃ g:Nat,e=.returned (.tuple #[.slice (some ⟨g,0,none⟩) 16 16,.nilIface])∧Blk w' g (u8s (tagN K N AD B))∧w.heap.size≤g∧Below w.heap.size w w':=by
  have HK:Hid (Bs w kv K):=hk
  have HN:Hid (Bs w nv N):=hn
  have HVA:Hid (Bs w av AD):=ha
  have HVB:Hid (Bs w bv B):=hb
  have HKb:Hid (byt K):=bK
  have HKl:Hid (K.length=32):=lK
  have HNb:Hid (byt N):=bN
  have HNl:Hid (N.length=12):=lN
  have HAb:Hid (byt AD):=bA
  have HBb:Hid (byt B):=bB
  have HLA:Hid (AD.length≤100000000000):=lA
  have HLB:Hid (B.length≤100000000000):=lB
  clear hk hn ha hb bK lK bN lN bA bB lA lB
  have hz:=zero_16.out
  obtain ⟨Z,hZ⟩:∃ Z,(u8s (List.replicate 16 0))=Z:=⟨_,rfl⟩
  have HZ:Hid ((u8s (List.replicate 16 0))=Z):=hZ
  have HZl:Hid (Z.length=16):=by rw [← hZ];rfl
  rw [hZ] at hz
  clear hZ
  obtain ⟨H0,hH0⟩:∃ H,encN K (List.replicate 16 0) 15=H:=⟨_,rfl⟩
  have HH:Hid (byt H0∧H0.length=16):=by rw [← hH0];exact ⟨encN_byt (byt_zeros 16) HKb.out 15,encN_len List.length_replicate 15⟩
  have HT:Hid (tagN K N AD B=xkN (wholeB H0 AD B) (rowN K N 1)):=by show _=_;rw [← hH0];rfl
  obtain ⟨F1,hF1⟩:∃ F,u8s (H0)=F:=⟨_,rfl⟩
  have F1h:Hid (u8s (H0)=F1):=hF1
  have F1l:Hid (F1.length=16):=by show _=_;rw [← hF1,u8s,List.length_map];exact HH.out.2
  have F1o:Hid (F1.toArray.all (·.oneCell')=true):=by rw [← hF1];exact u8_ones _
  clear hF1
  have F1e:Hid (u8s (encN K (List.replicate 16 0) 15)=F1):=by show _=_;rw [hH0];exact F1h.out
  clear hH0
  obtain ⟨F2,hF2⟩:∃ F,u8s (rowN K N 1)=F:=⟨_,rfl⟩
  have F2h:Hid (u8s (rowN K N 1)=F2):=hF2
  have F2l:Hid (F2.length=16):=by show _=_;rw [← hF2,u8s,List.length_map];exact rowN_len _ _ _
  have F2o:Hid (F2.toArray.all (·.oneCell')=true):=by rw [← hF2];exact u8_ones _
  clear hF2
  obtain ⟨X,hX⟩:∃ X,wholeB H0 AD B=X:=⟨_,rfl⟩
  have HX:Hid (X.length=16):=by rw [← hX];exact hashB_len _ _
  rw [hX] at HT
  have HXe:Hid (wholeB H0 AD B=X):=hX
  clear hX
  obtain ⟨F3,hF3⟩:∃ F,u8s (X)=F:=⟨_,rfl⟩
  have F3h:Hid (u8s (X)=F3):=hF3
  have F3l:Hid (F3.length=16):=by show _=_;rw [← hF3,u8s,List.length_map];exact HX.out
  have F3o:Hid (F3.toArray.all (·.oneCell')=true):=by rw [← hF3];exact u8_ones _
  clear hF3
  have F3e:Hid (u8s (wholeB H0 AD B)=F3):=by show _=_;rw [HXe.out];exact F3h.out
  clear HXe
  go_enter Tryz.func38,Tryz.ntmps38
  go_wp2_with fail
  refine (con_EncryptL HZ.out F1e.out HK.out HKb.out HKl.out List.length_replicate (byt_zeros 16)).mono ?_
  rintro e w1 ⟨rfl,bel⟩
  have HA:Hid _:=heap_alloc_last w1 (.cells Z.toArray 91)
  have lw:=bel.size
  replace bel:=below_setRow (below_alloc (o:=.cells Z.toArray 91) bel) (show w.heap.size≤w1.heap.size by omega) F1.toArray
  have R1:Blk ((w1.alloc (.cells Z.toArray 91)).setRow w1.heap.size F1.toArray) w1.heap.size F1:=⟨_,setRow_heap _ _ _ _ _ _ HA.out⟩
  go_upto_region 2 with (first|(refine wpList_store_row rfl 91 _ _ rfl w1.heap.size F1.toArray rfl rfl 91 Z.toArray HA.out (by rw [size_16,List.size_toArray,F1l.out]) (by rw [List.size_toArray,List.size_toArray,F1l.out,HZl.out]) F1o.out ?_)|fail)
  clear HA
  obtain ⟨g1,hg1⟩:∃ g,g=w1.heap.size:=⟨_,rfl⟩
  rw [← hg1] at R1 bel lw  ⊢
  generalize (w1.alloc (.cells Z.toArray 91)).setRow g1 F1.toArray=w2 at *
  clear hg1
  go_wp2_with fail
  refine (con_counted (n:=1) (HK.out.later bel) HKb.out HKl.out (HN.out.later bel) HNb.out HNl.out).mono ?_
  rintro e w3 ⟨rfl,hb⟩
  rw [F2h.out]
  replace R1:=R1.later hb
  replace bel:=below_step bel hb
  clear hb
  have HA:Hid _:=heap_alloc_last w3 (.cells Z.toArray 91)
  have lR1:=R1.lt
  replace R1:=(R1.alloc (.cells Z.toArray 91)).row (cs:=F2.toArray) (c:=w3.heap.size) (by omega)
  have lw:=bel.size
  replace bel:=below_setRow (below_alloc (o:=.cells Z.toArray 91) bel) (show w.heap.size≤w3.heap.size by omega) F2.toArray
  have R2:Blk ((w3.alloc (.cells Z.toArray 91)).setRow w3.heap.size F2.toArray) w3.heap.size F2:=⟨_,setRow_heap _ _ _ _ _ _ HA.out⟩
  go_upto_region 5 with (first|(refine wpList_store_row rfl 91 _ _ rfl w3.heap.size F2.toArray rfl rfl 91 Z.toArray HA.out (by rw [size_16,List.size_toArray,F2l.out]) (by rw [List.size_toArray,List.size_toArray,F2l.out,HZl.out]) F2o.out ?_)|fail)
  clear HA
  obtain ⟨g2,hg2⟩:∃ g,g=w3.heap.size:=⟨_,rfl⟩
  rw [← hg2] at R2 bel lw R1 lR1 ⊢
  generalize (w3.alloc (.cells Z.toArray 91)).setRow g2 F2.toArray=w4 at *
  clear hg2
  go_wp2_with (first|(refine wpList_load_run (by rfl) (by rfl) (by rfl) (R1.load Tryz.underlying91 rfl size_16 F1l.out) ?_)|fail)
  refine (con_WholeL F1h.out F3e.out HH.out.2 HH.out.1 (HVA.out.later bel) HAb.out (HVB.out.later bel) HBb.out HLA.out HLB.out).mono ?_
  rintro e w5 ⟨rfl,hb⟩
  replace R2:=R2.later hb
  replace bel:=below_step bel hb
  clear hb R1
  have HA:Hid _:=heap_alloc_last w5 (.cells Z.toArray 91)
  have lR2:=R2.lt
  replace R2:=(R2.alloc (.cells Z.toArray 91)).row (cs:=F3.toArray) (c:=w5.heap.size) (by omega)
  have lw:=bel.size
  replace bel:=below_setRow (below_alloc (o:=.cells Z.toArray 91) bel) (show w.heap.size≤w5.heap.size by omega) F3.toArray
  have R3:Blk ((w5.alloc (.cells Z.toArray 91)).setRow w5.heap.size F3.toArray) w5.heap.size F3:=⟨_,setRow_heap _ _ _ _ _ _ HA.out⟩
  go_upto_region 8 with (first|(refine wpList_store_row rfl 91 _ _ rfl w5.heap.size F3.toArray rfl rfl 91 Z.toArray HA.out (by rw [size_16,List.size_toArray,F3l.out]) (by rw [List.size_toArray,List.size_toArray,F3l.out,HZl.out]) F3o.out ?_)|fail)
  clear HA
  obtain ⟨g3,hg3⟩:∃ g,g=w5.heap.size:=⟨_,rfl⟩
  rw [← hg3] at R3 bel lw R2 lR2 ⊢
  generalize (w5.alloc (.cells Z.toArray 91)).setRow g3 F3.toArray=w6 at *
  clear hg3
  rw [← F3h.out,← xkZ_0 (Y:=rowN K N 1) HX.out] at R3
  rw [← F2h.out] at R2
  obtain ⟨Y,hY⟩:∃ Y,rowN K N 1=Y:=⟨_,rfl⟩
  have HY:Hid (Y.length=16):=by rw [← hY];exact rowN_len _ _ _
  rw [hY] at R2 R3 HT
  clear hY F1h F1l F1o F1e F2h F2l F2o F3h F3l F3o F3e hz
  have hg:w.heap.size≤g3:=by omega
  go_wp2_with fail
  go_loopw [37] (fun iv wx=>∃ k:Nat,k≤16∧iv=.int .i64 (k:Int)∧Blk wx g3 (u8s (xkZ X Y k))∧Blk wx g2 (u8s Y)∧Below w.heap.size w wx) (fun iv _=>16 - (intOf iv).toNat)
  case atStart=>exact ⟨0,by omega,rfl,R3,R2,bel⟩
  case round =>
    clear R3 R2 bel
    obtain ⟨k,hk,rfl,R3,R2,bel⟩:=hrel
    by_cases hkl:k < 16
    · have c1:(k:Int) < 16:=by omega
      have c2:(0:Int)≤(k:Int):=by omega
      have gi:IntKind.i64.wrap ((k:Int) + 1)=(k:Int) + 1:=by rw [IntKind.wrap_i64];omega
      have HS:Hid _:=xkZ_set (X:=X) (Y:=Y) (k:=k)
      have cA:=R3.cell k _ (u8s_get (xkZ X Y k) k (by rw [xkZ_len];exact hkl))
      have cB:=R2.cell k _ (u8s_get Y k (by rw [HY.out];exact hkl))
      have fz:=R3.frozen k
      have l3:=R3.lt
      have l2:=R2.lt
      rw [xkZ_at (Y:=Y) hkl] at cA
      obtain ⟨x,hx⟩:∃ x,X.getD k 0=x:=⟨_,rfl⟩
      obtain ⟨y,hy⟩:∃ y,Y.getD k 0=y:=⟨_,rfl⟩
      rw [hx] at cA HS
      rw [hy] at cB HS
      clear hx hy
      have HV:Hid (Blk (World.setCell wr ⟨g3,k,none⟩ (.int .u8 (bits .xor .u8 x y))) g3 (u8s (xkZ X Y (k + 1)))):=by rw [← HS.out];exact R3.setb k (bits .xor .u8 x y)
      go_upto_region 11 with fail
      go_region
      all_goals go_wp2_with fail
      all_goals go_roundw
      all_goals first
        | exact ⟨k + 1,by omega,by go_num,HV.out.drew,(R2.other _ _ (by show g2≠g3;omega)).drew,(bel.setCell (by show w.heap.size≤g3;omega) _).drew⟩
        | (simp [intOf];omega)
    · have HI:Hid (k=16):=by show k=16;omega
      have c1:¬ (k:Int) < 16:=by omega
      rw [HI.out] at R3
      go_wp2_with fail
      refine bodyPost_ret (results_tmp2 rfl _ _ _) rfl ?_
      exact ⟨_,rfl,by rw [HT.out];exact R3,hg,bel⟩
/-- a byte that is 0 as long as the bytes so far are the same -/
def Alike (u:Int) (A B:List Int) (i:Nat):Prop:=0≤u∧u < 256∧(u=0↔∀ j,j < i→A.getD j 0=B.getD j 0)
theorem Alike.step {u:Int} {A B:List Int} {i:Nat} (h:Alike u A B i) (ba:byt A) (bb:byt B):Alike (bits .or .u8 u (bits .xor .u8 (A.getD i 0) (B.getD i 0))) A B (i + 1):=by
 obtain ⟨h0,h1,h2⟩:=h
 have a0:=ba i
 have b0:=bb i
 have hi:(∀ j,j < i + 1→A.getD j 0=B.getD j 0)↔(∀ j,j < i→A.getD j 0=B.getD j 0)∧A.getD i 0=B.getD i 0:=by
  constructor
  ·intro h
   exact ⟨fun j hj=>h j (by omega),h i (by omega)⟩
  ·rintro ⟨h,h'⟩ j hj
   by_cases hjk:j=i
   ·subst hjk;exact h'
   ·exact h j (by omega)
 obtain ⟨n,rfl⟩:=Int.eq_ofNat_of_zero_le h0
 generalize A.getD i 0=a at *
 generalize B.getD i 0=b at *
 obtain ⟨x,rfl⟩:=Int.eq_ofNat_of_zero_le a0.1
 obtain ⟨y,rfl⟩:=Int.eq_ofNat_of_zero_le b0.1
 have hx:x ^^^ y < 2 ^ 8:=Nat.xor_lt_two_pow (by omega) (by omega)
 have ho:n ||| (x ^^^ y) < 2 ^ 8:=Nat.or_lt_two_pow (by omega) hx
 rw [u8_xor_nat x y (by omega) (by omega),u8_or_nat n (x ^^^ y) (by omega) (by omega)]
 refine ⟨by omega,by omega,?_⟩
 rw [hi,← h2]
 have e1:x ^^^ y=0↔x=y:=by
  constructor
  ·intro h
   have:=congrArg (· ^^^ y) h
   simpa [Nat.xor_assoc] using this
  ·rintro rfl
   simp
 have e2:=Nat.or_eq_zero_iff (n:=n) (m:=x ^^^ y)
 rw [e1] at e2
 omega
theorem Alike.all {u:Int} {A B:List Int} (h:Alike u A B A.length) (l:A.length=B.length):decide (u=0)=decide (A=B):=by
 by_cases e:A=B
 ·rw [decide_eq_true e,decide_eq_true]
  subst e
  exact h.2.2.2 (fun _ _=>rfl)
 ·rw [decide_eq_false e,decide_eq_false]
  intro h0
  apply e
  have k:=h.2.2.1 h0
  apply List.ext_getElem l
  intro j h1 h2
  have:=k j h1
  simpa [List.getD_eq_getElem?_getD,h1,h2] using this
theorem ne_len {A B:List Int} (h:¬ A.length=B.length):decide (A=B)=false:=decide_eq_false (fun e=>h (by rw [e]))
set_option linter.unusedSimpArgs false in
set_option maxRecDepth 100000 in
set_option maxHeartbeats 2000000 in
theorem same_eq {av bv:Value} {A B:List Int} {w:World} (ha:Bs w av A) (ba:byt A) (hb:Bs w bv B) (bb:byt B) (hl:A.length=B.length) :
  Calls Tryz.prog 43 #[av,bv] w fun e w'=>e=.returned (.bool (decide (A=B)))∧Below w.heap.size w w':=by
 have HA:Hid (byt A):=ba
 have HB:Hid (byt B):=bb
 have HL:Hid (A.length=B.length):=hl
 obtain ⟨ao,ca,rfl,a1,a2,a3⟩:=ha
 obtain ⟨bo,cb,rfl,b1,b2,b3⟩:=hb
 rw [← hl] at b2 b3 ⊢
 have HA3:Hid _:=a3
 have HB3:Hid _:=b3
 clear a3 b3 ba bb hl
 unfold maxLen at a1 b1
 obtain ⟨n,hn⟩:∃ n,A.length=n:=⟨_,rfl⟩
 have HN:Hid (A.length=n):=hn
 rw [hn] at a2 b2 ⊢
 clear hn
 go_enter Tryz.func43,Tryz.ntmps43
 go_wp2_with fail
 go_loopw [5,14] (fun uv iv wx=>∃ (i:Nat) (u:Int),i≤n∧iv=.int .i64 i∧uv=.int .u8 u∧Hid (Alike u A B i)∧Below w.heap.size w wx) (fun _ iv _=>n - (intOf iv).toNat)
 case atStart=>exact ⟨0,0,by omega,rfl,rfl,⟨by decide,by decide,by simp⟩,Below.refl _ _⟩
 case round =>
  obtain ⟨i,u,hi,rfl,rfl,HK,bel⟩:=hrel
  by_cases hil:i < n
  ·obtain ⟨pa,oa,rfl,pl,pc⟩:=HA3.out (by have:=HN.out;omega)
   obtain ⟨pb,ob,rfl,ql,qc⟩:=HB3.out (by have:=HN.out;omega)
   have c1:=(bel.cell (p:=⟨pa,oa + i,none⟩) pl).trans (pc i (by have:=HN.out;omega))
   have c2:=(bel.cell (p:=⟨pb,ob + i,none⟩) ql).trans (qc i (by have:=HN.out;omega))
   have HS:Hid _:=HK.out.step HA.out HB.out
   obtain ⟨x,hx⟩:∃ x,A.getD i 0=x:=⟨_,rfl⟩
   obtain ⟨y,hy⟩:∃ y,B.getD i 0=y:=⟨_,rfl⟩
   rw [hx] at c1 HS
   rw [hy] at c2 HS
   clear hx hy pc qc HA3 HB3
   have g1:(i:Int) < (n:Int):=by omega
   have g2:(0:Int)≤(i:Int):=by omega
   have gi:IntKind.i64.wrap ((i:Int) + 1)=(i:Int) + 1:=by rw [IntKind.wrap_i64];omega
   have l1:=Nat.lt_of_lt_of_le pl bel.size
   have l2:=Nat.lt_of_lt_of_le ql bel.size
   go_upto_region 7 with fail
   go_quiet (fail)
   all_goals go_wp2_with fail
   all_goals go_roundw
   case rel=>exact ⟨i + 1,_,by omega,by go_num,rfl,HS,below_dN bel _⟩
   case measure=>simp [intOf];omega
  ·have HI:Hid (i=n):=by show i=n;omega
   have g1:(n:Int)≤(i:Int):=by omega
   go_wp2_with fail
   go_ret
   refine ⟨?_,bel⟩
   have hk:=HK.out
   rw [HI.out,← HN.out] at hk
   rw [← hk.all HL.out]
   rfl
set_option maxHeartbeats 1000000 in
theorem same_ne {av bv:Value} {A B:List Int} {w:World} (ha:Bs w av A) (hb:Bs w bv B) (hl:¬ A.length=B.length) :
  Calls Tryz.prog 43 #[av,bv] w fun e w'=>e=.returned (.bool (decide (A=B)))∧Below w.heap.size w w':=by
 obtain ⟨ao,ca,rfl,a1,a2,a3⟩:=ha
 obtain ⟨bo,cb,rfl,b1,b2,b3⟩:=hb
 clear a3 b3
 unfold maxLen at a1 b1
 rw [ne_len hl]
 have g1:¬ ((A.length:Nat):Int)=((B.length:Nat):Int):=by omega
 go_enter Tryz.func43,Tryz.ntmps43
 go_wp2_with fail
 go_ret
 exact ⟨rfl,Below.refl _ _⟩
theorem con_Same {av bv:Value} {A B:List Int} {w:World} (ha:Bs w av A) (ba:byt A) (hb:Bs w bv B) (bb:byt B) :
  Calls Tryz.prog 43 #[av,bv] w fun e w'=>e=.returned (.bool (decide (A=B)))∧Below w.heap.size w w':=by
 by_cases hl:A.length=B.length
 ·exact same_eq ha ba hb bb hl
 ·exact same_ne ha hb hl
set_option linter.unusedSimpArgs false in
set_option maxRecDepth 100000 in
set_option maxHeartbeats 1000000 in
theorem con_faultOk {kv nv av bv:Value} {K N AD B:List Int} {m:Nat} {w:World} (hk:Bs w kv K) (hn:Bs w nv N) (ha:Bs w av AD) (hb:Bs w bv B) (lK:K.length=32) (lN:N.length=12) (lA:AD.length≤16777232) (lB:B.length≤m) :
  Calls Tryz.prog 36 #[kv,nv,av,bv,.int .i64 (m:Int)] w fun e w'=>e=.returned .nilIface∧Below w.heap.size w w':=by
 obtain ⟨ko,kc,rfl,k1,k2,k3⟩:=hk
 obtain ⟨no,nc,rfl,n1,n2,n3⟩:=hn
 obtain ⟨ao,ac,rfl,a1,a2,a3⟩:=ha
 obtain ⟨bo,bc,rfl,b1,b2,b3⟩:=hb
 clear k3 n3 a3 b3
 unfold maxLen at k1 n1 a1 b1
 have g1:((K.length:Nat):Int)=32:=by omega
 have g2:((N.length:Nat):Int)=12:=by omega
 have g3:((AD.length:Nat):Int)≤16777232:=by omega
 have g4:((B.length:Nat):Int)≤(m:Int):=by omega
 clear lK lN
 go_enter Tryz.func36,Tryz.ntmps36
 go_wp2_with fail
 go_ret
 exact ⟨rfl,Below.refl _ _⟩
theorem bs_blkC {w:World} {g q:Nat} {P:List Int} (B:Blk w g (u8s P)) (l:P.length=q) (h:q≤maxLen):Bs w (.slice (some ⟨g,0,none⟩) q q) P :=
 ⟨some ⟨g,0,none⟩,q,by rw [l],h,by omega,fun _=>⟨g,0,rfl,B.lt,fun j hj=>by rw [Nat.zero_add];exact B.cell j _ (u8s_get P j hj)⟩⟩
theorem FreshB.mono {w0 w w':World} {v:Value} {X:List Int} (h:FreshB w w' v X) (hs:w0.heap.size≤w.heap.size):FreshB w0 w' v X:=by
 obtain ⟨g,o,cap,cur,h1,h2,h3,h4,h5⟩:=h
 exact ⟨g,o,cap,cur,h1,h2,h3,Nat.le_trans hs h4,h5⟩
theorem cat_twoC {w:World} {v1 v2:Value} {A P:List Int} (h1:Bs w v1 A) (h2:Bs w v2 P):CatOf w [v1,v2] [A,P] 2:=⟨rfl,rfl,fun i hi=>by
 match i,hi with
 | 0,_=>exact h1
 | 1,_=>exact h2⟩
theorem con_catF {gs:Nat} {v1 v2:Value} {A P:List Int} {w:World} (Bk:Blk w gs [v1,v2]) (h1:Bs w v1 A) (h2:Bs w v2 P) (hp:0 < A.length + P.length) (hl:A.length + P.length≤1099511627776) :
  Calls Tryz.prog 22 #[.slice (some ⟨gs,0,none⟩) 2 2] w fun e w'=>∃ v':Value,e=.returned v'∧w'.ownsRow w.heap.size 5 1 v' (A++P).length (u8s (A++P))∧Below w.heap.size w w':=by
 have e:[A,P].flatten=A++P:=by simp
 refine (con_cat Bk (cat_twoC h1 h2) (by decide) (by rw [e,List.length_append];exact hp) (by rw [e,List.length_append];exact hl)).mono ?_
 rintro _ w' ⟨v',rfl,ho,hb⟩
 rw [e] at ho
 exact ⟨v',rfl,ho,hb⟩
set_option linter.unusedSimpArgs false in
set_option maxRecDepth 100000 in
set_option maxHeartbeats 2000000 in
theorem con_Seal {kv nv av bv:Value} {K N AD B:List Int} {w:World} (hk:Bs w kv K) (hn:Bs w nv N) (ha:Bs w av AD) (hb:Bs w bv B) (bK:byt K) (lK:K.length=32) (bN:byt N) (lN:N.length=12) (bA:byt AD) (bB:byt B) (lA:AD.length≤16777232) (lB:B.length≤16777216) :
  Calls Tryz.prog 14 #[kv,nv,av,bv] w fun e w'=>∃ v':Value,e=.returned (.tuple #[v',.nilIface])∧FreshB w w' v' (sealN K N AD B)∧Below w.heap.size w w':=by
 have HK:Hid (Bs w kv K):=hk
 have HN:Hid (Bs w nv N):=hn
 have HVA:Hid (Bs w av AD):=ha
 have HVB:Hid (Bs w bv B):=hb
 have HKb:Hid (byt K):=bK
 have HKl:Hid (K.length=32):=lK
 have HNb:Hid (byt N):=bN
 have HNl:Hid (N.length=12):=lN
 have HAb:Hid (byt AD):=bA
 have HBb:Hid (byt B):=bB
 have HLA:Hid (AD.length≤16777232):=lA
 have HLB:Hid (B.length≤16777216):=lB
 clear hk hn ha hb bK lK bN lN bA bB lA lB
 go_enter Tryz.func14,Tryz.ntmps14
 go_wp2_with fail
 refine (con_faultOk (m:=16777216) HK.out HN.out HVA.out HVB.out HKl.out HNl.out HLA.out HLB.out).mono ?_
 rintro e w1 ⟨rfl,bel⟩
 go_wp2_with fail
 refine (con_masked (HK.out.later bel) (HN.out.later bel) (HVB.out.later bel) HKb.out HKl.out HNb.out HNl.out (by have:=HLB.out;omega)).mono ?_
 rintro e w2 ⟨g,rfl,own,hb⟩
 have HH:Hid (Bs w2 (.slice (some ⟨g,0,none⟩) B.length B.length) (hidN K N B)):=Bs.of_own own
 replace bel:=below_step bel hb
 clear own hb
 obtain ⟨C,hC⟩:∃ C,hidN K N B=C:=⟨_,rfl⟩
 have HCl:Hid (C.length=B.length):=by rw [← hC];exact hidN_len _ _ _
 have HCb:Hid (byt C):=by rw [← hC];exact hidN_byt HKb.out HNb.out HBb.out
 have HCe:Hid (hidN K N B=C):=hC
 rw [hC] at HH
 clear hC
 go_wp2_with fail
 refine (con_tagOf (HK.out.later bel) (HN.out.later bel) (HVA.out.later bel) HH.out HKb.out HKl.out HNb.out HNl.out HAb.out HCb.out (by have:=HLA.out;omega) (by have:=HLB.out;have:=HCl.out;omega)).mono ?_
 rintro e w3 ⟨g2,rfl,BT,hg2,hb⟩
 have HT:Hid (Bs w3 (.slice (some ⟨g2,0,none⟩) 16 16) (tagN K N AD C)):=bs_blkC BT (tagN_len _ _ _ _) (by unfold maxLen;omega)
 replace HH:Hid (Bs w3 (.slice (some ⟨g,0,none⟩) B.length B.length) C):=HH.out.later hb
 replace bel:=below_step bel hb
 clear BT hg2 hb
 have BN:=Blk.new w3 [.slice (some ⟨g,0,none⟩) B.length B.length,.slice (some ⟨g2,0,none⟩) 16 16] 27 w3.heap.size rfl
 have st:=(Below.refl w3.heap.size w3).alloc (Nat.le_refl _) (.cells #[.slice (some ⟨g,0,none⟩) B.length B.length,.slice (some ⟨g2,0,none⟩) 16 16] 27)
 replace HT:Hid _:=HT.out.later st
 replace HH:Hid _:=HH.out.later st
 replace bel:=below_step bel st
 clear st
 go_wp2_with fail
 refine (con_catF BN HH.out HT.out (by rw [tagN_len];omega) (by rw [tagN_len,HCl.out];have:=HLB.out;omega)).mono ?_
 rintro e w5 ⟨v5,rfl,own,hb⟩
 have fr:=(FreshB.of_own own (by rw [List.length_append,tagN_len];omega)).mono bel.size
 replace bel:=below_step bel hb
 clear hb BN HH HT own
 go_wp2_with fail
 refine bodyPost_ret (results_tmp2 rfl _ _ _) rfl ?_
 exact ⟨_,rfl,by rw [sealN,HCe.out];exact fr,bel⟩
set_option linter.unusedSimpArgs false in
set_option maxRecDepth 100000 in
set_option maxHeartbeats 2000000 in
theorem con_Open {kv nv av bv:Value} {K N AD B:List Int} {w:World} (hk:Bs w kv K) (hn:Bs w nv N) (ha:Bs w av AD) (hb:Bs w bv B) (bK:byt K) (lK:K.length=32) (bN:byt N) (lN:N.length=12) (bA:byt AD) (bB:byt B) (lA:AD.length≤16777232) (lB:B.length≤16777232) (l16:16≤B.length) (ht:B.drop (B.length - 16)=tagN K N AD (B.take (B.length - 16))) :
  Calls Tryz.prog 18 #[kv,nv,av,bv] w fun e w'=>∃ v':Value,e=.returned (.tuple #[v',.nilIface])∧Bs w' v' (hidN K N (B.take (B.length - 16)))∧Below w.heap.size w w':=by
 have HK:Hid (Bs w kv K):=hk
 have HN:Hid (Bs w nv N):=hn
 have HVA:Hid (Bs w av AD):=ha
 have HVB:Hid (Bs w bv B):=hb
 have HKb:Hid (byt K):=bK
 have HKl:Hid (K.length=32):=lK
 have HNb:Hid (byt N):=bN
 have HNl:Hid (N.length=12):=lN
 have HAb:Hid (byt AD):=bA
 have HBb:Hid (byt B):=bB
 have HLA:Hid (AD.length≤16777232):=lA
 have HLB:Hid (B.length≤16777232):=lB
 have h16:=l16
 have lB9:=lB
 obtain ⟨E,hE⟩:∃ E,B.length - 16=E:=⟨_,rfl⟩
 rw [hE] at ht ⊢
 have HD:Hid (decide (tagN K N AD (B.take E)=B.drop E)=true):=decide_eq_true ht.symm
 clear hk hn ha hb bK lK bN lN bA bB lA lB ht l16
 obtain ⟨bo,bc,rfl,b1,b2,b3⟩:=HVB.out
 obtain ⟨b,o,rfl,-,-⟩:=b3 (by omega)
 clear b3
 unfold maxLen at b1
 have g1:¬ ((B.length:Nat):Int) < 16:=by omega
 have g2:IntKind.i64.wrap (((B.length:Nat):Int) - 16)=(E:Int):=by rw [IntKind.wrap_i64];omega
 have g3:(0:Int)≤(E:Int):=by omega
 have g4:E≤bc:=by omega
 have g5:E≤B.length:=by omega
 have g6:(E:Int)≤(bc:Int):=by omega
 have g7:(E:Int)≤((B.length:Nat):Int):=by omega
 have g8:¬ bc=E:=by omega
 have HTk:Hid ((B.take E).length=E):=by show _=_;rw [List.length_take];omega
 have HE1:Hid (Bs w (.slice (some ⟨b,o,none⟩) E bc) (B.take E)):=bs_uptoC HVB.out rfl g5
 have HE2:Hid (Bs w (.slice (some ⟨b,o + E,none⟩) (B.length - E) (bc - E)) (B.drop E)):=bs_dropC HVB.out rfl (by omega)
 go_enter Tryz.func18,Tryz.ntmps18
 go_wp2_with fail
 refine (con_faultOk (m:=16777232) HK.out HN.out HVA.out HVB.out HKl.out HNl.out HLA.out HLB.out).mono ?_
 rintro e w1 ⟨rfl,bel⟩
 go_wp2_with fail
 refine (con_tagOf (HK.out.later bel) (HN.out.later bel) (HVA.out.later bel) (HE1.out.later bel) HKb.out HKl.out HNb.out HNl.out HAb.out (byt_takeC HBb.out E) (by have:=HLA.out;omega) (by rw [HTk.out];omega)).mono ?_
 rintro e w2 ⟨g,rfl,BT,hg,hb⟩
 have HT:Hid (Bs w2 (.slice (some ⟨g,0,none⟩) 16 16) (tagN K N AD (B.take E))):=bs_blkC BT (tagN_len _ _ _ _) (by unfold maxLen;omega)
 replace bel:=below_step bel hb
 clear BT hg hb
 go_wp2_with fail
 refine (con_Same HT.out (tagN_byt HKb.out HNb.out) (HE2.out.later bel) (byt_dropC HBb.out E)).mono ?_
 rintro e w3 ⟨rfl,hb⟩
 rw [HD.out]
 replace bel:=below_step bel hb
 clear hb HT HD
 go_wp2_with fail
 refine (con_masked (HK.out.later bel) (HN.out.later bel) (HE1.out.later bel) HKb.out HKl.out HNb.out HNl.out (by rw [HTk.out];omega)).mono ?_
 rintro e w4 ⟨g9,rfl,own,hb⟩
 rw [HTk.out] at own ⊢
 have HH:Hid (Bs w4 (.slice (some ⟨g9,0,none⟩) E E) (hidN K N (B.take E))):=Bs.of_own own
 replace bel:=below_step bel hb
 clear own hb
 go_wp2_with fail
 refine bodyPost_ret (results_tmp2 rfl _ _ _) rfl ?_
 exact ⟨_,rfl,HH.out,bel⟩
set_option linter.unusedSimpArgs false in
set_option maxRecDepth 100000 in
set_option maxHeartbeats 2000000 in
theorem con_OpenTag {kv nv av bv:Value} {K N AD B:List Int} {w:World} (hk:Bs w kv K) (hn:Bs w nv N) (ha:Bs w av AD) (hb:Bs w bv B) (bK:byt K) (lK:K.length=32) (bN:byt N) (lN:N.length=12) (bA:byt AD) (bB:byt B) (lA:AD.length≤16777232) (lB:B.length≤16777232) (l16:16≤B.length) (ht:¬ B.drop (B.length - 16)=tagN K N AD (B.take (B.length - 16))) :
  Calls Tryz.prog 18 #[kv,nv,av,bv] w fun e w'=>∃ (ao:Option Addr) (cap:Nat),e=.returned (.tuple #[.slice ao 0 cap,.iface 33 (.int .i64 5)])∧Below w.heap.size w w':=by
 have HK:Hid (Bs w kv K):=hk
 have HN:Hid (Bs w nv N):=hn
 have HVA:Hid (Bs w av AD):=ha
 have HVB:Hid (Bs w bv B):=hb
 have HKb:Hid (byt K):=bK
 have HKl:Hid (K.length=32):=lK
 have HNb:Hid (byt N):=bN
 have HNl:Hid (N.length=12):=lN
 have HAb:Hid (byt AD):=bA
 have HBb:Hid (byt B):=bB
 have HLA:Hid (AD.length≤16777232):=lA
 have HLB:Hid (B.length≤16777232):=lB
 have h16:=l16
 have lB9:=lB
 obtain ⟨E,hE⟩:∃ E,B.length - 16=E:=⟨_,rfl⟩
 rw [hE] at ht
 have HD:Hid (decide (tagN K N AD (B.take E)=B.drop E)=false):=decide_eq_false fun h=>ht h.symm
 clear hk hn ha hb bK lK bN lN bA bB lA lB ht l16
 obtain ⟨bo,bc,rfl,b1,b2,b3⟩:=HVB.out
 obtain ⟨b,o,rfl,-,-⟩:=b3 (by omega)
 clear b3
 unfold maxLen at b1
 have g1:¬ ((B.length:Nat):Int) < 16:=by omega
 have g2:IntKind.i64.wrap (((B.length:Nat):Int) - 16)=(E:Int):=by rw [IntKind.wrap_i64];omega
 have g3:(0:Int)≤(E:Int):=by omega
 have g4:E≤bc:=by omega
 have g5:E≤B.length:=by omega
 have g6:(E:Int)≤(bc:Int):=by omega
 have g7:(E:Int)≤((B.length:Nat):Int):=by omega
 have g8:¬ bc=E:=by omega
 have HTk:Hid ((B.take E).length=E):=by show _=_;rw [List.length_take];omega
 have HE1:Hid (Bs w (.slice (some ⟨b,o,none⟩) E bc) (B.take E)):=bs_uptoC HVB.out rfl g5
 have HE2:Hid (Bs w (.slice (some ⟨b,o + E,none⟩) (B.length - E) (bc - E)) (B.drop E)):=bs_dropC HVB.out rfl (by omega)
 go_enter Tryz.func18,Tryz.ntmps18
 go_wp2_with fail
 refine (con_faultOk (m:=16777232) HK.out HN.out HVA.out HVB.out HKl.out HNl.out HLA.out HLB.out).mono ?_
 rintro e w1 ⟨rfl,bel⟩
 go_wp2_with fail
 refine (con_tagOf (HK.out.later bel) (HN.out.later bel) (HVA.out.later bel) (HE1.out.later bel) HKb.out HKl.out HNb.out HNl.out HAb.out (byt_takeC HBb.out E) (by have:=HLA.out;omega) (by rw [HTk.out];omega)).mono ?_
 rintro e w2 ⟨g,rfl,BT,hg,hb⟩
 have HT:Hid (Bs w2 (.slice (some ⟨g,0,none⟩) 16 16) (tagN K N AD (B.take E))):=bs_blkC BT (tagN_len _ _ _ _) (by unfold maxLen;omega)
 replace bel:=below_step bel hb
 clear BT hg hb
 go_wp2_with fail
 refine (con_Same HT.out (tagN_byt HKb.out HNb.out) (HE2.out.later bel) (byt_dropC HBb.out E)).mono ?_
 rintro e w3 ⟨rfl,hb⟩
 rw [HD.out]
 replace bel:=below_step bel hb
 clear hb HT HD
 go_wp2_with fail
 refine bodyPost_ret (results_tmp2 rfl _ _ _) rfl ?_
 exact ⟨_,_,rfl,bel⟩
end Go.Proofs.YtlkljfnenonfgaaGreatDoor
