/- SHA-384's numbers: rotated words, a schedule, a round, a step; primes and roots by trial, as the document makes its tables. Plain facts. The document's Round. (Plain part.) The document's Schedule: a block's words. (Plain part.) The document's Step: a block's. (Plain part.) The reference's Bytes, 16 of them, and 8. (Plain part.) The document's Pad: what stands behind so many bytes. (Plain part.) The document's Sum: a digest. (Plain part.) Bits of words, in whichever way a choice, a majority or a rotation is written. Plain facts. The program's rotated word. The program's Round. The program's words of bytes: read (word), laid (putWord). The program's schedule: a block's words. -/
import Derived.Test.YtlkljfnenonfgaaGreatDoorBase
import Derived.Test.YtlkljfnenonfgaaGreatDoorAeNumG
import Derived.Test.YtlkljfnenonfgaaGreatDoorRefA
import Derived.Test.YtlkljfnenonfgaaGreatDoorCEncC
import Derived.Test.YtlkljfnenonfgaaGreatDoorRows
import Derived.Deep.WholeRow
import Derived.Deep.RegionHeld3
import Derived.Deep.DeepCutAuto
import Derived.Deep.DeepFit
import Derived.Deep.OwnRows
import Derived.BigQuiet
import Derived.Deep.QuietTactic
namespace Go.Proofs.YtlkljfnenonfgaaGreatDoor
open Go.RowKit
/-- rotated to the right, as the operations go -/
def ror (x:Int) (n:Nat):Int:=bits .or .u64 (x / 2 ^ n) (IntKind.u64.wrap (x * 2 ^ (64 - n)))
/-- what a round adds -/
def t1N (e f g h k m:Int):Int:=(h + bits .xor .u64 (bits .xor .u64 (ror e 14) (ror e 18)) (ror e 41) + bits .xor .u64 (bits .and .u64 e f) (bits .and .u64 (bits .xor .u64 IntKind.u64.max e) g) + k + m) % 18446744073709551616
def t2N (a b c:Int):Int:=(bits .xor .u64 (bits .xor .u64 (ror a 28) (ror a 34)) (ror a 39) + bits .xor .u64 (bits .xor .u64 (bits .and .u64 a b) (bits .and .u64 a c)) (bits .and .u64 b c)) % 18446744073709551616
/-- a round of eight words -/
def roundN:List Int→Int→Int→List Int
 | [a,b,c,d,e,f,g,h],k,m=>[(t1N e f g h k m + t2N a b c) % 18446744073709551616,a,b,c,(d + t1N e f g h k m) % 18446744073709551616,e,f,g]
 | _,_,_=>[]
/-- the first k bytes of word i, as a number -/
def wdN (B:List Int) (i:Nat):Nat→Int
 | 0=>0
 | k + 1=>256 * wdN B i k + B.getD (8 * i + k) 0
/-- the next word of a schedule -/
def s0N (x:Int):Int:=bits .xor .u64 (bits .xor .u64 (ror x 1) (ror x 8)) (x / 2 ^ 7)
def s1N (x:Int):Int:=bits .xor .u64 (bits .xor .u64 (ror x 19) (ror x 61)) (x / 2 ^ 6)
def nxN (B W:List Int) (k:Nat):Int:=if k < 16 then wdN B k 8 else (W.getD (k - 16) 0 + s0N (W.getD (k - 15) 0) + W.getD (k - 7) 0 + s1N (W.getD (k - 2) 0)) % 18446744073709551616
/-- the first k words of a block's schedule -/
def schN (B:List Int):Nat→List Int
 | 0=>[]
 | k + 1=>schN B k++[nxN B (schN B k) k]
theorem schN_len (B:List Int):∀ k,(schN B k).length=k
 | 0=>rfl
 | k + 1=>by rw [schN,List.length_append,schN_len B k];rfl
theorem wdN_bd {B:List Int} (h:∀ j,0≤B.getD j 0∧B.getD j 0 < 256) (i:Nat):∀ k,0≤wdN B i k∧wdN B i k < 256 ^ k
 | 0=>by simp [wdN]
 | k + 1=>by
  have ih:=wdN_bd h i k
  have hb:=h (8 * i + k)
  rw [wdN,Int.pow_succ]
  generalize (256:Int) ^ k=p at *
  generalize wdN B i k=x at *
  generalize B.getD (8 * i + k) 0=y at *
  omega
/-- k rounds -/
def rndsN (K H W:List Int):Nat→List Int
 | 0=>H
 | k + 1=>roundN (rndsN K H W k) (K.getD k 0) (W.getD k 0)
theorem roundN_len {V:List Int} (h:V.length=8) (k m:Int):(roundN V k m).length=8:=by
 match V,h with
 | [a,b,c,d,e,f,g,i],_=>rfl
theorem rndsN_len {K H W:List Int} (h:H.length=8):∀ k,(rndsN K H W k).length=8
 | 0=>h
 | k + 1=>roundN_len (rndsN_len h k) _ _
theorem eight {A:List Int} (h:A.length=8):∃ x0 x1 x2 x3 x4 x5 x6 x7,A=[x0,x1,x2,x3,x4,x5,x6,x7]:=by
 match A,h with
 | [x0,x1,x2,x3,x4,x5,x6,x7],_=>exact ⟨x0,x1,x2,x3,x4,x5,x6,x7,rfl⟩
/-- the first k words summed with those of H -/
def sumsN (A H:List Int) (k:Nat):List Int:=(List.range 8).map fun j=>if j < k then (A.getD j 0 + H.getD j 0) % 18446744073709551616 else A.getD j 0
theorem sumsN_0 {A H:List Int} (h:A.length=8):sumsN A H 0=A:=by
 match A,h with
 | [x0,x1,x2,x3,x4,x5,x6,x7],_=>rfl
theorem sumsN_len (A H:List Int) (k:Nat):(sumsN A H k).length=8:=by simp [sumsN]
theorem sumsN_get (A H:List Int) (k:Nat) (hk:k < 8):(sumsN A H k).getD k 0=A.getD k 0:=by
 simp [sumsN,List.getD_eq_getElem?_getD,hk]
theorem sumsN_set (A H:List Int) (k:Nat):(sumsN A H k).set k ((A.getD k 0 + H.getD k 0) % 18446744073709551616)=sumsN A H (k + 1):=by
 apply List.ext_getElem?
 intro j
 by_cases hj:j < 8
 ·by_cases e:k=j
  ·subst e
   rw [List.getElem?_set_self (by rw [sumsN_len];exact hj)]
   simp [sumsN,hj]
  ·rw [List.getElem?_set_ne e]
   simp only [sumsN,List.getElem?_map,List.getElem?_range hj,Option.map_some,Option.some.injEq]
   by_cases l:j < k
   ·rw [if_pos l,if_pos (by omega)]
   ·rw [if_neg l,if_neg (by omega)]
 ·rw [List.getElem?_eq_none (by simp [sumsN];omega),List.getElem?_eq_none (by simp [sumsN];omega)]
/-- a block's step -/
def stepN (K H B:List Int):List Int:=sumsN (rndsN K H (schN B 80) 80) H 8
theorem stepN_len (K H B:List Int):(stepN K H B).length=8:=sumsN_len _ _ _
def KS:List Int:=[4794697086780616226,8158064640168781261,13096744586834688815,16840607885511220156,4131703408338449720,6480981068601479193,10538285296894168987,12329834152419229976,15566598209576043074,1334009975649890238,2608012711638119052,6128411473006802146,8268148722764581231,9286055187155687089,11230858885718282805,13951009754708518548,16472876342353939154,17275323862435702243,1135362057144423861,2597628984639134821,3308224258029322869,5365058923640841347,6679025012923562964,8573033837759648693,10970295158949994411,12119686244451234320,12683024718118986047,13788192230050041572,14330467153632333762,15395433587784984357,489312712824947311,1452737877330783856,2861767655752347644,3322285676063803686,5560940570517711597,5996557281743188959,7280758554555802590,8532644243296465576,9350256976987008742,10552545826968843579,11727347734174303076,12113106623233404929,14000437183269869457,14369950271660146224,15101387698204529176,15463397548674623760,17586052441742319658,1182934255886127544,1847814050463011016,2177327727835720531,2830643537854262169,3796741975233480872,4115178125766777443,5681478168544905931,6601373596472566643,7507060721942968483,8399075790359081724,8693463985226723168,9568029438360202098,10144078919501101548,10430055236837252648,11840083180663258601,13761210420658862357,14299343276471374635,14566680578165727644,15097957966210449927,16922976911328602910,17689382322260857208,500013540394364858,748580250866718886,1242879168328830382,1977374033974150939,2944078676154940804,3659926193048069267,4368137639120453308,4836135668995329356,5532061633213252278,6448918945643986474,6902733635092675308,7801388544844847127]
def HS:List Int:=[14680500436340154072,7105036623409894663,10473403895298186519,1526699215303891257,7436329637833083697,10282925794625328401,15784041429090275239,5167115440072839076]
theorem below_put8 {B b:Nat} {a w:World} {u0 u1 u2 u3 u4 u5 u6 u7:Value} (h:Below B a w) (hb:B≤b):Below B a (((((((((w.setCell ⟨b,0,none⟩ u0).setCell ⟨b,1,none⟩ u1).setCell ⟨b,2,none⟩ u2).setCell ⟨b,3,none⟩ u3).setCell ⟨b,4,none⟩ u4).setCell ⟨b,5,none⟩ u5).setCell ⟨b,6,none⟩ u6).setCell ⟨b,7,none⟩ u7)):=((((((((h.setCell hb _).setCell hb _).setCell hb _).setCell hb _).setCell hb _).setCell hb _).setCell hb _).setCell hb _)
theorem round_is {v0 v1 v2 v3 v4 v5 v6 v7 k m one two:Int} (h1:t1N v4 v5 v6 v7 k m=one) (h2:t2N v0 v1 v2=two):roundN [v0,v1,v2,v3,v4,v5,v6,v7] k m=[IntKind.u64.wrap (one + two),v0,v1,v2,IntKind.u64.wrap (v3 + one),v4,v5,v6]:=by
 subst h1 h2
 simp only [IntKind.wrap_u64]
 rfl
theorem t1_is (e f g h k m:Int):IntKind.u64.wrap (IntKind.u64.wrap (IntKind.u64.wrap (IntKind.u64.wrap (h + bits .xor .u64 (bits .xor .u64 (ror e 14) (ror e 18)) (ror e 41)) + bits .xor .u64 (bits .and .u64 e f) (bits .and .u64 (bits .xor .u64 IntKind.u64.max e) g)) + k) + m)=t1N e f g h k m:=by
 unfold t1N
 simp only [IntKind.wrap_u64]
 omega
theorem t2_is (a b c:Int):IntKind.u64.wrap (bits .xor .u64 (bits .xor .u64 (ror a 28) (ror a 34)) (ror a 39) + bits .xor .u64 (bits .xor .u64 (bits .and .u64 a b) (bits .and .u64 a c)) (bits .and .u64 b c))=t2N a b c:=by
 unfold t2N
 rw [IntKind.wrap_u64]
theorem own_later {w w':World} {base:Nat} {e:TypeId} {v:Value} {n:Nat} {xs:List Value} (h:w.ownsRow base e 1 v n xs) (hb:Below w.heap.size w w'):w'.ownsRow base e 1 v n xs:=by
 obtain ⟨hl,h⟩:=h
 rcases h with h|⟨g,cap,cur,h1,h2,h3,h4⟩
 ·exact ⟨hl,.inl h⟩
 ·exact ⟨hl,.inr ⟨g,cap,cur,h1,h2,by rw [hb.block g (Array.getElem?_eq_some_iff.1 h3).1];exact h3,h4⟩⟩
theorem sum4 {r y0 s y1 x:Int} (h:IntKind.u64.wrap (IntKind.u64.wrap (IntKind.u64.wrap (r + y0) + s) + y1)=x):(r + y0 + s + y1) % 18446744073709551616=x:=by
 rw [← h]
 simp only [IntKind.wrap_u64]
 omega
theorem Blk.on_put8 {S:World→Prop} {w:World} {b:Nat} {x0 x1 x2 x3 x4 x5 x6 x7 y0 y1 y2 y3 y4 y5 y6 y7:Int} (B:Blk w b (us [x0,x1,x2,x3,x4,x5,x6,x7])) (_:Hd S (((((((((w.setCell ⟨b,0,none⟩ (.int .u64 y0)).setCell ⟨b,1,none⟩ (.int .u64 y1)).setCell ⟨b,2,none⟩ (.int .u64 y2)).setCell ⟨b,3,none⟩ (.int .u64 y3)).setCell ⟨b,4,none⟩ (.int .u64 y4)).setCell ⟨b,5,none⟩ (.int .u64 y5)).setCell ⟨b,6,none⟩ (.int .u64 y6)).setCell ⟨b,7,none⟩ (.int .u64 y7)))):Blk (((((((((w.setCell ⟨b,0,none⟩ (.int .u64 y0)).setCell ⟨b,1,none⟩ (.int .u64 y1)).setCell ⟨b,2,none⟩ (.int .u64 y2)).setCell ⟨b,3,none⟩ (.int .u64 y3)).setCell ⟨b,4,none⟩ (.int .u64 y4)).setCell ⟨b,5,none⟩ (.int .u64 y5)).setCell ⟨b,6,none⟩ (.int .u64 y6)).setCell ⟨b,7,none⟩ (.int .u64 y7))) b (us [y0,y1,y2,y3,y4,y5,y6,y7]) :=
 (((((((B.setu 0 y0).setu 1 y1).setu 2 y2).setu 3 y3).setu 4 y4).setu 5 y5).setu 6 y6).setu 7 y7
theorem made_u8S (n:Nat):madeCells #[.int .u8 0] n=(u8s (List.replicate n 0)).toArray:=by
 apply Array.ext
 ·simp [madeCells]
 ·intro i h1 h2
  simp [madeCells,Nat.mod_one]
theorem Blk.set8S {w:World} {b:Nat} {S:List Int} (h:Blk w b (u8s S)) (k:Nat) (s:Int):Blk (w.setCell ⟨b,k,none⟩ (.int .u8 s)) b (u8s (S.set k s)):=by
 have:u8s (S.set k s)=(u8s S).set k (.int .u8 s):=by simp [u8s,List.map_set]
 rw [this];exact h.set k _
/-- how many noughts -/
def zsN (n:Nat):Nat:=(239 - n % 128) % 128
/-- what stands behind n bytes -/
def PadIs (n:Nat) (P:List Int):Prop:=∃ X:List Int,X.length=16∧byt X∧beN X=8 * (n:Int)∧P=128 :: (List.replicate (zsN n) 0++X)
theorem PadIs.len {n:Nat} {P:List Int} (h:PadIs n P):P.length=17 + zsN n:=by
 obtain ⟨X,l,_,_,rfl⟩:=h
 simp [l];omega
theorem PadIs.one {n:Nat} {P Q:List Int} (h:PadIs n P) (k:PadIs n Q):P=Q:=by
 obtain ⟨X,l,b,e,rfl⟩:=h
 obtain ⟨Y,l',b',e',rfl⟩:=k
 rw [beN_inj X Y (by rw [l,l']) b b' (by rw [e,e'])]
theorem PadIs.byt {n:Nat} {P:List Int} (h:PadIs n P):byt P:=by
 obtain ⟨X,l,b,_,rfl⟩:=h
 apply byt_of
 intro j hj
 match j with
 | 0=>exact ⟨by show (0:Int)≤128;decide,by show (128:Int) < 256;decide⟩
 | j + 1 =>
  show 0≤(List.replicate (zsN n) 0++X).getD j 0∧(List.replicate (zsN n) 0++X).getD j 0 < 256
  by_cases hz:j < zsN n
  ·rw [List.getD_eq_getElem?_getD,List.getElem?_append_left (by simpa using hz)]
   simp [hz]
  ·rw [List.getD_eq_getElem?_getD,List.getElem?_append_right (by simpa using hz),← List.getD_eq_getElem?_getD]
   exact b _
theorem info_b8:(Tryz.prog.info? 5).map (fun i=>(i.zero,i.size,i.bytes))=some (some (.int .u8 0),1,1):=by kernel_rfl
/-- the words behind k blocks -/
def digN (K H M:List Int):Nat→List Int
 | 0=>H
 | k + 1=>stepN K (digN K H M k) ((M.drop (128 * k)).take 128)
theorem digN_len {K H M:List Int} (h:H.length=8):∀ k,(digN K H M k).length=8
 | 0=>h
 | _ + 1=>stepN_len _ _ _
theorem stepN_fits (K H B:List Int):fits (stepN K H B):=by
 intro j
 unfold stepN sumsN
 rw [List.getD_eq_getElem?_getD,List.getElem?_map]
 by_cases hj:j < 8
 ·rw [List.getElem?_range hj]
  simp only [Option.map_some,Option.getD_some]
  rw [if_pos hj]
  omega
 ·rw [List.getElem?_eq_none (by simpa using hj)]
  exact ⟨by simp,by simp⟩
theorem digN_fits {K H M:List Int} (h:fits H):∀ k,fits (digN K H M k)
 | 0=>h
 | _ + 1=>stepN_fits _ _ _
/-- the bytes of the first i words -/
def OutB (H:List Int):Nat→List Int→Prop
 | 0,O=>O=[]
 | i + 1,O=>∃ O' X,O=O'++X∧OutB H i O'∧X.length=8∧byt X∧beN X=H.getD i 0
theorem OutB.len {H:List Int}:∀ {i:Nat} {O:List Int},OutB H i O→O.length=8 * i
 | 0,O,h=>by rw [show O=[] from h];rfl
 | i + 1,O,h=>by
  obtain ⟨O',X,rfl,h1,h2,_,_⟩:=h
  rw [List.length_append,h1.len,h2];omega
theorem OutB.one {H:List Int}:∀ {i:Nat} {O Q:List Int},OutB H i O→OutB H i Q→O=Q
 | 0,O,Q,h,k=>by rw [show O=[] from h,show Q=[] from k]
 | i + 1,O,Q,h,k=>by
  obtain ⟨O',X,rfl,h1,h2,h3,h4⟩:=h
  obtain ⟨Q',Y,rfl,k1,k2,k3,k4⟩:=k
  rw [h1.one k1,beN_inj X Y (by rw [h2,k2]) h3 k3 (by rw [h4,k4])]
theorem byt_app {A B:List Int} (hA:byt A) (hB:byt B):byt (A++B):=by
 intro j
 by_cases h:j < A.length
 ·rw [List.getD_eq_getElem?_getD,List.getElem?_append_left h,← List.getD_eq_getElem?_getD];exact hA j
 ·rw [List.getD_eq_getElem?_getD,List.getElem?_append_right (by omega),← List.getD_eq_getElem?_getD];exact hB _
theorem drop_get (M:List Int) (a n j:Nat) (hj:j < n):((M.drop a).take n).getD j 0=M.getD (a + j) 0:=by
 rw [List.getD_eq_getElem?_getD,List.getElem?_take,if_pos hj,List.getElem?_drop,← List.getD_eq_getElem?_getD]
theorem len_cut {M:List Int} {k:Nat} (h:128 * k + 128≤M.length):((M.drop (128 * k)).take 128).length=128:=by
 rw [List.length_take,List.length_drop];omega
theorem byt_cut {M:List Int} {k:Nat} (h:byt M):byt ((M.drop (128 * k)).take 128):=by
 intro j
 by_cases hj:j < 128
 ·rw [drop_get _ _ _ _ hj];exact h _
 ·rw [List.getD_eq_getElem?_getD,List.getElem?_take,if_neg hj];exact ⟨by simp,by simp⟩
/-- a digest as it lies -/
def SumIs (K H B O:List Int):Prop:=∃ P:List Int,PadIs B.length P∧OutB (digN K H (B++P) ((B++P).length / 128)) 6 O
theorem SumIs.one {K H B O Q:List Int} (h:SumIs K H B O) (k:SumIs K H B Q):O=Q:=by
 obtain ⟨P,h1,h2⟩:=h
 obtain ⟨P',k1,k2⟩:=k
 obtain rfl:=h1.one k1
 exact h2.one k2
def w64 (x:Int):Prop:=0≤x∧x < 18446744073709551616
theorem w64_nat {x:Int} (h:w64 x):∃ n:Nat,x=(n:Int)∧n < 18446744073709551616:=⟨x.toNat,by have:=h.1;omega,by have:=h.2;omega⟩
theorem or_swap {a b:Int} (qa:w64 a) (qb:w64 b):bits .or .u64 a b=bits .or .u64 b a:=by
 obtain ⟨a,rfl,ha⟩:=w64_nat qa
 obtain ⟨b,rfl,hb⟩:=w64_nat qb
 rw [u64_or_nat _ _ ha hb,u64_or_nat _ _ hb ha,Nat.or_comm]
/-- shifted left first, as rotations to the left are written -/
theorem ror_swap {x:Int} {n:Nat} (hx:w64 x):bits .or .u64 (IntKind.u64.wrap (x * 2 ^ (64 - n))) (x / 2 ^ n)=ror x n:=by
 unfold ror
 refine or_swap ?_ ⟨Int.ediv_nonneg hx.1 (Int.le_of_lt (Int.pow_pos (by decide))),Int.lt_of_le_of_lt (Int.ediv_le_self _ hx.1) hx.2⟩
 rw [IntKind.wrap_u64]
 unfold w64
 omega
theorem rot_and {n:Nat} (h0:0 < n) (h1:n < 64):bits .and .u64 (18446744073709551616 - (n:Int)) 63=64 - (n:Int):=by
 have e:(18446744073709551616 - (n:Int))=((18446744073709551616 - n:Nat):Int):=by omega
 have e2:(63:Int)=((63:Nat):Int):=rfl
 rw [e,e2,u64_and_nat _ _ (by omega) (by decide)]
 have:=Nat.and_two_pow_sub_one_eq_mod (18446744073709551616 - n) 6
 rw [show (2 ^ 6 - 1:Nat)=63 from rfl] at this
 rw [this]
 omega
set_option maxRecDepth 100000 in
theorem con_rl {x:Int} {n:Nat} {w:World} (hx:w64 x) (h0:0 < n) (hn:n < 64) :
  Calls Tryz.prog 140 #[.int .u64 x,.int .i64 (-(n:Int))] w fun e w'=>e=.returned (.int .u64 (ror x n))∧w'=w:=by
 have g1:IntKind.u64.wrap (-(n:Int))=18446744073709551616 - (n:Int):=by rw [IntKind.wrap_u64];omega
 have g2:=rot_and h0 hn
 have g3:¬ (64 - (n:Int)) < 0:=by omega
 have g4:(64 - (n:Int)).toNat=64 - n:=by omega
 have g5:IntKind.u64.wrap (64 - (64 - (n:Int)))=(n:Int):=by rw [IntKind.wrap_u64];omega
 have g6:¬ (n:Int) < 0:=by omega
 have HX:Hid (bits .or .u64 (IntKind.u64.wrap (x * 2 ^ (64 - n))) (x / 2 ^ n)=ror x n):=ror_swap hx
 go_enter Tryz.func140,Tryz.ntmps140
 go_wp2
 go_ret
 exact ⟨by rw [← HX.out];rfl,rfl⟩
set_option maxRecDepth 100000 in
theorem con_rot {x:Int} {n:Nat} {w:World} (hx:w64 x) (h0:0 < n) (hn:n < 64) :
  Calls Tryz.prog 135 #[.int .u64 x,.int .i64 (n:Int)] w fun e w'=>e=.returned (.int .u64 (ror x n))∧w'=w:=by
 have g1:IntKind.i64.wrap (-(n:Int))=-(n:Int):=by rw [IntKind.wrap_i64];omega
 go_enter Tryz.func135,Tryz.ntmps135
 go_wp2_with fail
 refine (con_rl hx h0 hn).mono ?_
 rintro e w' ⟨rfl,rfl⟩
 go_wp2_with fail
 go_ret
 exact ⟨rfl,rfl⟩
theorem con_rotm {x m:Int} {w:World} (hx:w64 x) (h0:0 < m) (hn:m < 64) :
  Calls Tryz.prog 135 #[.int .u64 x,.int .i64 m] w fun e w'=>e=.returned (.int .u64 (ror x m.toNat))∧w'=w:=by
 obtain ⟨n,rfl⟩:=Int.eq_ofNat_of_zero_le (Int.le_of_lt h0)
 exact con_rot hx (by omega) (by omega)
theorem us64:(if IntKind.u64.signed=true then (-1:Int) else IntKind.u64.max)=IntKind.u64.max:=rfl
set_option maxRecDepth 100000 in
set_option maxHeartbeats 4000000 in
theorem con_Round {v0 v1 v2 v3 v4 v5 v6 v7 k m:Int} {w:World} (fV:fits [v0,v1,v2,v3,v4,v5,v6,v7]) (_:0≤k∧k < 18446744073709551616) (_:0≤m∧m < 18446744073709551616) :
  Calls Tryz.prog 128 #[.agg #[.int .u64 v0,.int .u64 v1,.int .u64 v2,.int .u64 v3,.int .u64 v4,.int .u64 v5,.int .u64 v6,.int .u64 v7],.int .u64 k,.int .u64 m] w fun e w'=>e=.returned (.agg (us (roundN [v0,v1,v2,v3,v4,v5,v6,v7] k m)).toArray)∧Below w.heap.size w w':=by
 have HF:Hid (fits [v0,v1,v2,v3,v4,v5,v6,v7]):=fV
 clear fV
 have B0:=(Blk.new w [.int .u64 v0,.int .u64 v1,.int .u64 v2,.int .u64 v3,.int .u64 v4,.int .u64 v5,.int .u64 v6,.int .u64 v7] 145 (w.heap.size) rfl).alloc (.cells [.int .u64 0,.int .u64 0,.int .u64 0,.int .u64 0,.int .u64 0,.int .u64 0,.int .u64 0,.int .u64 0].toArray 145)
 have B1:=Blk.new (w.alloc (.cells [.int .u64 v0,.int .u64 v1,.int .u64 v2,.int .u64 v3,.int .u64 v4,.int .u64 v5,.int .u64 v6,.int .u64 v7].toArray 145)) [.int .u64 0,.int .u64 0,.int .u64 0,.int .u64 0,.int .u64 0,.int .u64 0,.int .u64 0,.int .u64 0] 145 (w.heap.size + 1) (by simp)
 have bel:Below w.heap.size w ((w.alloc (.cells [.int .u64 v0,.int .u64 v1,.int .u64 v2,.int .u64 v3,.int .u64 v4,.int .u64 v5,.int .u64 v6,.int .u64 v7].toArray 145)).alloc (.cells [.int .u64 0,.int .u64 0,.int .u64 0,.int .u64 0,.int .u64 0,.int .u64 0,.int .u64 0,.int .u64 0].toArray 145)):=(((Below.refl _ _).alloc (Nat.le_refl _) _).alloc (by simp) _)
 go_enter Tryz.func128,Tryz.ntmps128
 go_upto_region 1 with fail
 try simp only [us,List.map_cons,List.map_nil] at bel
 generalize ((w.alloc (Obj.cells #[.int .u64 v0,.int .u64 v1,.int .u64 v2,.int .u64 v3,.int .u64 v4,.int .u64 v5,.int .u64 v6,.int .u64 v7] 145)).alloc (Obj.cells #[.int .u64 0,.int .u64 0,.int .u64 0,.int .u64 0,.int .u64 0,.int .u64 0,.int .u64 0,.int .u64 0] 145))=W at *
 have lt0:=B0.lt
 have c0:=B0.cell 0 _ rfl
 have c1:=B0.cell 1 _ rfl
 have c2:=B0.cell 2 _ rfl
 have c3:=B0.cell 3 _ rfl
 have c4:=B0.cell 4 _ rfl
 have c5:=B0.cell 5 _ rfl
 have c6:=B0.cell 6 _ rfl
 have c7:=B0.cell 7 _ rfl
 go_quiet (fail)
 go_upto_region 2 with fail
 clear lt0 c0 c1 c2 c3 c4 c5 c6 c7 B0
 replace B1:=B1.drewN nq
 replace bel:=below_dN bel nq
 generalize World.drewN _ nq=W1 at *
 go_wp2_with fail
 refine (con_rotm (m:=14) (show w64 v4 from HF.out 4) (by decide) (by decide)).mono ?_
 rintro e w1 ⟨rfl,rfl⟩
 go_wp2_with fail
 refine (con_rotm (m:=18) (show w64 v4 from HF.out 4) (by decide) (by decide)).mono ?_
 rintro e w2 ⟨rfl,rfl⟩
 go_wp2_with fail
 refine (con_rotm (m:=41) (show w64 v4 from HF.out 4) (by decide) (by decide)).mono ?_
 rintro e w3 ⟨rfl,rfl⟩
 go_upto_region 3 with fail
 simp only [us64] at *
 rw [t1_is]
 obtain ⟨one,hone⟩:∃ x,t1N v4 v5 v6 v7 k m=x:=⟨_,rfl⟩
 rw [hone]
 have H1:Hid _:=hone
 clear hone
 go_wp2_with fail
 refine (con_rotm (m:=28) (show w64 v0 from HF.out 0) (by decide) (by decide)).mono ?_
 rintro e w4 ⟨rfl,rfl⟩
 go_wp2_with fail
 refine (con_rotm (m:=34) (show w64 v0 from HF.out 0) (by decide) (by decide)).mono ?_
 rintro e w5 ⟨rfl,rfl⟩
 go_wp2_with fail
 refine (con_rotm (m:=39) (show w64 v0 from HF.out 0) (by decide) (by decide)).mono ?_
 rintro e w6 ⟨rfl,rfl⟩
 go_upto_region 4 with fail
 rw [t2_is]
 obtain ⟨two,htwo⟩:∃ x,t2N v0 v1 v2=x:=⟨_,rfl⟩
 rw [htwo]
 have H2:Hid _:=htwo
 clear htwo
 have lt1:=B1.lt
 have d0:=B1.cell 0 _ rfl;have g0:=B1.frozen 0;have d1:=B1.cell 1 _ rfl;have g1:=B1.frozen 1;have d2:=B1.cell 2 _ rfl;have g2:=B1.frozen 2;have d3:=B1.cell 3 _ rfl;have g3:=B1.frozen 3;have d4:=B1.cell 4 _ rfl;have g4:=B1.frozen 4;have d5:=B1.cell 5 _ rfl;have g5:=B1.frozen 5;have d6:=B1.cell 6 _ rfl;have g6:=B1.frozen 6;have d7:=B1.cell 7 _ rfl;have g7:=B1.frozen 7
 go_wp2_with fail
 exact bodyPost_ret (v:=.agg #[.int .u64 (IntKind.u64.wrap (one + two)),.int .u64 v0,.int .u64 v1,.int .u64 v2,.int .u64 (IntKind.u64.wrap (v3 + one)),.int .u64 v4,.int .u64 v5,.int .u64 v6]) (by simp [results,Tryz.results128,go_sem,d0,d1,d2,d3,d4,d5,d6,d7]) rfl ⟨by rw [round_is H1.out H2.out];rfl,below_put8 bel (by omega)⟩
theorem or_byte {x y:Int} (x0:0≤x) (x1:x < 72057594037927936) (y0:0≤y) (y1:y < 256):bits .or .u64 (x * 256) y=256 * x + y:=by
 obtain ⟨a,rfl⟩:=Int.eq_ofNat_of_zero_le x0
 obtain ⟨b,rfl⟩:=Int.eq_ofNat_of_zero_le y0
 have e:((a:Int) * 256)=((a * 256:Nat):Int):=by omega
 rw [e,u64_or_nat _ _ (by omega) (by omega)]
 have h:=Nat.shiftLeft_add_eq_or_of_lt (i:=8) (b:=b) (by omega) a
 rw [Nat.shiftLeft_eq] at h
 rw [← h]
 omega
set_option maxRecDepth 100000 in
theorem con_word {b o n cap i:Nat} {B:List Int} {w:World} (hB:byt B) (hn:8≤n) (hc0:∀ j,j < 8→w.cell? ⟨b,o + j,none⟩=some (.int .u8 (B.getD (8 * i + j) 0))) :
  Calls Tryz.prog 134 #[.slice (some ⟨b,o,none⟩) n cap] w fun e w'=>e=.returned (.int .u64 (wdN B i 8))∧Below w.heap.size w w':=by
 have HC:Hid _:=hc0
 have HB:Hid _:=hB
 clear hc0 hB
 go_enter Tryz.func134,Tryz.ntmps134
 go_wp2_with fail
 go_loop [3,5] (fun xv jv=>∃ j:Nat,j≤8∧jv=.int .i64 j∧xv=.int .u64 (wdN B i j)) (fun _ jv=>8 - (intOf jv).toNat)
 case atStart=>exact ⟨0,by omega,rfl,rfl⟩
 case round =>
  obtain ⟨j,hj,rfl,rfl⟩:=hrel
  by_cases hjl:j < 8
  ·have g2:(j:Int) < 8:=by omega
   have hc1:=HC.out j hjl
   have yb:=HB.out (8 * i + j)
   have xb:=wdN_bd HB.out i j
   have HN:Hid (wdN B i (j + 1)=256 * wdN B i j + B.getD (8 * i + j) 0):=rfl
   have pj:(256:Int) ^ j≤256 ^ 7:=by
    have:j=0∨j=1∨j=2∨j=3∨j=4∨j=5∨j=6∨j=7:=by omega
    rcases this with rfl|rfl|rfl|rfl|rfl|rfl|rfl|rfl<;>decide
   obtain ⟨y,hy⟩:∃ y,B.getD (8 * i + j) 0=y:=⟨_,rfl⟩
   obtain ⟨x,hx⟩:∃ x,wdN B i j=x:=⟨_,rfl⟩
   rw [hy] at hc1 yb HN
   rw [hx] at xb HN ⊢
   have x7:x < 256 ^ 7:=by omega
   have x0:=xb.1
   clear hx hy xb pj
   have e7:(256:Int) ^ 7=72057594037927936:=by decide
   rw [e7] at x7
   clear e7
   have w1:IntKind.u64.wrap (x * 2 ^ 8)=256 * x:=by rw [IntKind.wrap_u64];omega
   have w3:IntKind.u64.wrap y=y:=by rw [IntKind.wrap_u64];omega
   have w4:=or_byte x0 x7 yb.1 yb.2
   have g3:(0:Int)≤(j:Int):=by omega
   have g4:(j:Int) < (n:Int):=by omega
   go_wp2_with fail
   go_round
   case rel=>exact ⟨j + 1,by omega,by go_num,by rw [HN.out]⟩
   case measure=>simp [intOf];omega
  ·have g2:(8:Int)≤(j:Int):=by omega
   have hj8:j=8:=by omega
   subst hj8
   go_wp2_with fail
   go_ret
   exact ⟨rfl,Below.refl _ _⟩
/-- a word laid from place o on: the last byte first -/
def putsN (L:List Int) (o:Nat) (x:Int):Nat→List Int
 | 0=>L
 | k + 1=>(putsN L o x k).set (o + (7 - k)) (x / 256 ^ k % 256)
theorem putsN_len (L:List Int) (o:Nat) (x:Int):∀ k,(putsN L o x k).length=L.length
 | 0=>rfl
 | k + 1=>by rw [putsN,List.length_set,putsN_len L o x k]
/-- nothing but block g is other than it was -/
def PutB (w w':World) (g:Nat) (L:List Int):Prop:=Blk w' g (u8s L)∧(∀ c X,c≠g→Blk w c X→Blk w' c X)∧(∀ B a,B≤g→Below B a w→Below B a w')∧w'.heap.size=w.heap.size
theorem PutB.set {w w':World} {g:Nat} {L:List Int} (h:PutB w w' g L) (k:Nat) (y:Int):PutB w (w'.setCell ⟨g,k,none⟩ (.int .u8 y)) g (L.set k y):=by
 obtain ⟨h1,h2,h3,h4⟩:=h
 refine ⟨?_,fun c X hc hx=>(h2 c X hc hx).other _ _ hc,fun B a hB hb=>(h3 B a hB hb).setCell hB _,by rw [← h4];simp⟩
 have e:=h1.set k (.int .u8 y)
 rwa [show (u8s L).set k (.int .u8 y)=u8s (L.set k y) by simp [u8s,List.map_set]] at e
set_option maxRecDepth 100000 in
theorem con_put {g o n cap:Nat} {L:List Int} {x:Int} {w:World} (B:Blk w g (u8s L)) (hn:8≤n) (hl:o + 8≤L.length) (hx:w64 x) :
  Calls Tryz.prog 103 #[.slice (some ⟨g,o,none⟩) n cap,.int .u64 x] w fun e w'=>e=.returned (.tuple #[])∧PutB w w' g (putsN L o x 8):=by
 have HX:Hid (w64 x):=hx
 clear hx
 have P0:PutB w w g (putsN L o x 0):=⟨B,fun _ _ _ h=>h,fun _ _ _ h=>h,rfl⟩
 clear B
 go_enter Tryz.func103,Tryz.ntmps103
 go_wp2_with fail
 obtain ⟨W,hW⟩:∃ z,z=w:=⟨_,rfl⟩
 rw [← hW] at P0 ⊢
 have HW:Hid (W=w):=hW
 clear hW
 go_loopw [1,5] (fun xv jv wx=>∃ k:Nat,k≤8∧jv=.int .i64 k∧xv=.int .u64 (x / 256 ^ k)∧PutB W wx g (putsN L o x k)) (fun _ jv _=>8 - (intOf jv).toNat)
 case atStart=>exact ⟨0,by omega,rfl,by simp,P0⟩
 case round =>
  clear P0
  obtain ⟨k,hk,rfl,rfl,P⟩:=hrel
  by_cases hkl:k < 8
  ·have g2:(k:Int) < 8:=by omega
   have HS:Hid (PutB W (wr.setCell ⟨g,o + (7 - k),none⟩ (.int .u8 (x / 256 ^ k % 256))) g (putsN L o x (k + 1))):=P.set _ _
   have HD:Hid (x / 256 ^ k / 2 ^ 8=x / 256 ^ (k + 1)):=by
    show _=_
    rw [Int.pow_succ,Int.ediv_ediv_of_nonneg (Int.le_of_lt (Int.pow_pos (by decide)))]
    rfl
   have BG:=P.1
   have lt:=BG.lt
   have fz:=BG.frozen (o + (7 - k))
   have cg:=BG.cell (o + (7 - k)) _ (u8s_get _ _ (by rw [putsN_len];omega))
   obtain ⟨y,hy⟩:∃ y,x / 256 ^ k=y:=⟨_,rfl⟩
   rw [hy] at HS HD ⊢
   clear hy P BG
   have w1:IntKind.u8.wrap y=y % 256:=by rw [IntKind.wrap_u8]
   have w2:IntKind.i64.wrap (7 - (k:Int))=7 - (k:Int):=by rw [IntKind.wrap_i64];omega
   have g3:(0:Int)≤7 - (k:Int):=by omega
   have g4:7 - (k:Int) < (n:Int):=by omega
   have g5:(7 - (k:Int)).toNat=7 - k:=by omega
   go_wp2_with fail
   go_roundw
   case rel=>exact ⟨k + 1,by omega,by go_num,by rw [← HD.out];rfl,HS.out⟩
   case measure=>simp [intOf];omega
  ·have g2:(8:Int)≤(k:Int):=by omega
   have hk8:k=8:=by omega
   subst hk8
   go_wp2_with fail
   exact bodyPost_end (v:=.tuple #[]) (by simp [results,Tryz.results103,go_sem]) rfl ⟨rfl,by rw [← HW.out];exact P⟩
/-- a word's eight bytes, the highest first -/
def be8 (x:Int):List Int:=[x / 256 ^ 7 % 256,x / 256 ^ 6 % 256,x / 256 ^ 5 % 256,x / 256 ^ 4 % 256,x / 256 ^ 3 % 256,x / 256 ^ 2 % 256,x / 256 ^ 1 % 256,x / 256 ^ 0 % 256]
theorem puts_is (O R:List Int) (o:Nat) (x z0 z1 z2 z3 z4 z5 z6 z7:Int) (h:o=O.length):putsN (O++[z0,z1,z2,z3,z4,z5,z6,z7]++R) o x 8=O++be8 x++R:=by
 subst h
 have e:∀ (Y:List Int) (j:Nat) (y:Int),(O++Y).set (O.length + j) y=O++Y.set j y:=by
  intro Y j y
  rw [List.set_append_right _ _ (by omega),show O.length + j - O.length=j by omega]
 simp only [putsN,List.append_assoc,e]
 rfl
theorem be8_num {x:Int} (h:w64 x):beN (be8 x)=x:=by
 have h0:=h.1
 have h1:=h.2
 show x / 256 ^ 0 % 256 + 256 * (x / 256 ^ 1 % 256 + 256 * (x / 256 ^ 2 % 256 + 256 * (x / 256 ^ 3 % 256 + 256 * (x / 256 ^ 4 % 256 + 256 * (x / 256 ^ 5 % 256 + 256 * (x / 256 ^ 6 % 256 + 256 * (x / 256 ^ 7 % 256 + 256 * 0)))))))=x
 omega
theorem be8_len (x:Int):(be8 x).length=8:=rfl
theorem be8_byt (x:Int):byt (be8 x):=by
 apply byt_of
 intro j hj
 have hm:∀ y:Int,0≤y % 256∧y % 256 < 256:=fun y=>by omega
 match j,hj with
 | 0,_=>exact hm _
 | 1,_=>exact hm _
 | 2,_=>exact hm _
 | 3,_=>exact hm _
 | 4,_=>exact hm _
 | 5,_=>exact hm _
 | 6,_=>exact hm _
 | 7,_=>exact hm _
theorem zero_80:Hid (∀ w:World,(zeroValue 172).run Tryz.prog w=.ok (.agg (us (List.replicate 80 0)).toArray) w):=fun w=>by kernel_rfl
theorem size_80:(Tryz.prog.info? 172).map (·.size)=some 80:=by kernel_rfl
theorem us_ones (A:List Int):((us A).toArray).all (·.oneCell')=true:=by
 rw [Array.all_eq_true_iff_forall_mem]
 intro v hv
 simp only [us,List.mem_toArray,List.mem_map] at hv
 obtain ⟨x,_,rfl⟩:=hv
 rfl
theorem Blk.at_ {w:World} {b:Nat} {cs:List Value} (h:Blk w b cs) (j:Nat) (v:Value) (hc:w.cell? ⟨b,j,none⟩=some v):cs[j]?=some v:=by
 cases e:cs[j]? with
 | none =>
  obtain ⟨t,h⟩:=h
  rw [cell_of_row _ _ j _ t (0,0) h] at hc
  simp [e] at hc
 | some u =>
  have:=h.cell j u e
  rw [this] at hc
  exact hc
/-- two cells of a block that is written at a third place -/
theorem two_cells {W:World} {g i j k:Nat} {X:List Value} {p q:Value} (hp:X[i]?=some p) (hq:X[j]?=some q) (hi:i≠k) (hj:j≠k) (hB:Blk W g X) :
  ∃ S:World→Prop,Hd S W∧Hid (∀ wx,Hd S wx→Hd S wx.drew)∧Hid (∀ wx y,Hd S wx→Hd S (wx.setCell ⟨g,k,none⟩ y))∧(∀ wx,Hd S wx→wx.cell? ⟨g,i,none⟩=some p)∧(∀ wx,Hd S wx→wx.cell? ⟨g,j,none⟩=some q):=by
 refine ⟨fun wx=>∃ Y:List Value,Blk wx g Y∧Y[i]?=some p∧Y[j]?=some q,⟨X,hB,hp,hq⟩,?_,?_,?_,?_⟩
 ·rintro wx ⟨Y,h,h1,h2⟩
  exact ⟨Y,h.drew,h1,h2⟩
 ·rintro wx y ⟨Y,h,h1,h2⟩
  exact ⟨_,h.set k y,by rw [List.getElem?_set_ne hi.symm];exact h1,by rw [List.getElem?_set_ne hj.symm];exact h2⟩
 ·rintro wx ⟨Y,h,h1,h2⟩
  exact h.cell i p h1
 ·rintro wx ⟨Y,h,h1,h2⟩
  exact h.cell j q h2
/-- k words of the schedule, then noughts -/
def schZ (B:List Int) (k:Nat):List Int:=schN B k++List.replicate (80 - k) 0
theorem schZ_len {B:List Int} {k:Nat} (h:k≤80):(schZ B k).length=80:=by
 rw [schZ,List.length_append,schN_len,List.length_replicate];omega
theorem schZ_get {B:List Int} {k j:Nat} (h:j < k):(schZ B k).getD j 0=(schN B k).getD j 0:=by
 rw [schZ,List.getD_eq_getElem?_getD,List.getElem?_append_left (by rw [schN_len];exact h),← List.getD_eq_getElem?_getD]
theorem schZ_set {B:List Int} {k:Nat} (h:k < 80):(schZ B k).set k (nxN B (schN B k) k)=schZ B (k + 1):=by
 rw [schZ,schZ,List.set_append_right _ _ (by rw [schN_len];exact Nat.le_refl _),schN_len,show 80 - k=(80 - (k + 1)) + 1 by omega,List.replicate_succ,Nat.sub_self,List.set_cons_zero,schN,List.append_assoc]
 rfl
theorem schZ_80 (B:List Int):schZ B 80=schN B 80:=List.append_nil _
theorem schN_w64 {B:List Int} (hB:byt B):∀ k,∀ j,w64 ((schN B k).getD j 0)
 | 0,_=>⟨by simp [schN],by simp [schN]⟩
 | k + 1,j=>by
  rw [schN]
  by_cases h:j < k
  ·rw [List.getD_eq_getElem?_getD,List.getElem?_append_left (by rw [schN_len];exact h),← List.getD_eq_getElem?_getD]
   exact schN_w64 hB k j
  ·rw [List.getD_eq_getElem?_getD,List.getElem?_append_right (by rw [schN_len];omega),schN_len]
   by_cases h2:j=k
   ·subst h2
    rw [Nat.sub_self]
    show w64 (nxN B (schN B j) j)
    unfold nxN
    split
    ·have:=wdN_bd hB j 8
     exact ⟨this.1,Int.lt_of_lt_of_le this.2 (by decide)⟩
    ·exact ⟨Int.emod_nonneg _ (by decide),Int.emod_lt_of_pos _ (by decide)⟩
   ·rw [List.getElem?_eq_none (by simp;omega)]
    exact ⟨by decide,by decide⟩
set_option linter.unusedSimpArgs false in
set_option maxRecDepth 100000 in
set_option maxHeartbeats 2000000 in
theorem con_sched0 {v:Value} {B:List Int} {w:World} (h:Bs w v B) (hB:byt B) (l:B.length=128) :
    Calls Tryz.prog 127 #[v] w fun e w'=>e=.returned (.agg (us (schN B 80)).toArray)∧Below w.heap.size w w':=by
  obtain ⟨ao,cap,rfl,h1,h2,h3⟩:=h
  rw [l] at h3 h2 ⊢
  obtain ⟨b,o,rfl,hb0,hc0⟩:=h3 (by omega)
  have HC:Hid _:=hc0
  have HB:Hid _:=hB
  clear hc0 h3 hB
  unfold maxLen at h1
  have hz:=zero_80.out
  have R0:=(Blk.new w (us (List.replicate 80 0)) 172 w.heap.size rfl).alloc (.cells (us (List.replicate 80 0)).toArray 172)
  have V0:=Blk.new (w.alloc (.cells (us (List.replicate 80 0)).toArray 172)) (us (List.replicate 80 0)) 172 (w.heap.size + 1) (by simp)
  have bel:Below w.heap.size w ((w.alloc (.cells (us (List.replicate 80 0)).toArray 172)).alloc (.cells (us (List.replicate 80 0)).toArray 172)):=(((Below.refl _ _).alloc (Nat.le_refl _) _).alloc (by simp) _)
  generalize (us (List.replicate 80 0)).toArray=cs at hz bel R0 V0
  go_enter Tryz.func127,Tryz.ntmps127
  go_wp2_with fail
  have l0:(us (List.replicate 80 (0:Int))).toArray.size=80:=rfl
  clear hz
  obtain ⟨W,hW⟩:∃ z,z=(w.alloc (Obj.cells cs 172)).alloc (Obj.cells cs 172):=⟨_,rfl⟩
  rw [← hW] at R0 V0 bel ⊢
  clear hW l0
  go_loopw [8] (fun iv wx=>∃ k:Nat,k≤16∧iv=.int .i64 k∧Blk wx (w.heap.size + 1) (us (schZ B k))∧Blk wx w.heap.size (us (List.replicate 80 0))∧Below w.heap.size w wx) (fun iv _=>16 - (intOf iv).toNat)
  case atStart=>exact ⟨0,by omega,rfl,V0,R0,bel⟩
  case round =>
    clear V0 R0 bel
    obtain ⟨k,hk,rfl,V,R,bel⟩:=hrel
    by_cases hlt:k < 16
    · have g1:(k:Int) < 16:=by omega
      have g2:(0:Int)≤(k:Int):=by omega
      have g3:(k:Int) < 80:=by omega
      have w1:IntKind.i64.wrap ((k:Int) * 8)=8 * (k:Int):=by rw [IntKind.wrap_i64];omega
      have g4:(0:Int)≤8 * (k:Int):=by omega
      have g5:8 * (k:Int)≤128:=by omega
      have g6:(8 * (k:Int)).toNat=8 * k:=by omega
      have g7:¬ cap=8 * k:=by omega
      have HX:Hid (nxN B (schN B k) k=wdN B k 8):=by show _=_;unfold nxN;rw [if_pos hlt]
      have hcw:Hid (∀ j,j < 8→wr.cell? ⟨b,o + 8 * k + j,none⟩=some (.int .u8 (B.getD (8 * k + j) 0))):=fun j hj=>by
        rw [Nat.add_assoc]
        exact (bel.cell (p:=⟨b,o + (8 * k + j),none⟩) hb0).trans (HC.out (8 * k + j) (by omega))
      have lv:=V.lt
      go_wp2_with fail
      refine (con_word HB.out (by omega) hcw.out).mono ?_
      rintro e w1 ⟨rfl,hb⟩
      replace V:=V.later hb
      replace R:=R.later hb
      replace bel:=below_step bel hb
      clear hb hcw lv
      have lv:=V.lt
      have fz:=V.frozen k
      have cv:=V.cell k _ (us_get _ k (by rw [schZ_len (by omega)];omega))
      rw [← HX.out]
      have HV:=V.setu k (nxN B (schN B k) k)
      rw [schZ_set (by omega)] at HV
      replace R:=R.other ⟨w.heap.size + 1,k,none⟩ (.int .u64 (nxN B (schN B k) k)) (by show w.heap.size≠w.heap.size + 1;omega)
      replace bel:=bel.setCell (p:=⟨w.heap.size + 1,k,none⟩) (by show w.heap.size≤w.heap.size + 1;omega) (.int .u64 (nxN B (schN B k) k))
      obtain ⟨x,hx⟩:∃ x,nxN B (schN B k) k=x:=⟨_,rfl⟩
      rw [hx] at HV R bel ⊢
      clear hx HX V
      go_wp2_with fail
      go_roundw
      case rel=>exact ⟨k + 1,by omega,by go_num,HV,R,bel⟩
      case measure=>simp [intOf];omega
    · have HK:Hid (k=16):=by show k=16;omega
      have g1:(16:Int)≤(k:Int):=by omega
      obtain ⟨k0,hk0⟩:∃ z,k=z:=⟨_,rfl⟩
      subst hk0
      go_wp2_with fail
      obtain ⟨W1,hW1⟩:∃ z,z=wr:=⟨_,rfl⟩
      rw [← hW1] at V R bel ⊢
      clear hW1
      go_loopw [5] (fun iv wx=>∃ k:Nat,16≤k∧k≤80∧iv=.int .i64 k∧Blk wx (w.heap.size + 1) (us (schZ B k))∧Blk wx w.heap.size (us (List.replicate 80 0))∧Below w.heap.size w wx) (fun iv _=>80 - (intOf iv).toNat)
      case atStart=>exact ⟨16,by omega,by omega,rfl,by have e:=HK.out;rw [e] at V;exact V,R,bel⟩
      case round =>
        clear V R bel
        clear HK
        obtain ⟨k,h16,hk,rfl,V,R,bel⟩:=hrel
        by_cases hlt:k < 80
        · have g1:(k:Int) < 80:=by omega
          have g2:(0:Int)≤(k:Int):=by omega
          have HN:Hid (nxN B (schN B k) k=((schN B k).getD (k - 16) 0 + s0N ((schN B k).getD (k - 15) 0) + (schN B k).getD (k - 7) 0 + s1N ((schN B k).getD (k - 2) 0)) % 18446744073709551616):=by show _=_;unfold nxN;rw [if_neg (by omega)]
          have ip:IntKind.i64.wrap ((k:Int) - 15)=(k:Int) - 15:=by rw [IntKind.wrap_i64];omega
          have jp:0≤(k:Int) - 15:=by omega
          have lp:(k:Int) - 15 < 80:=by omega
          have mp:((k:Int) - 15).toNat=k - 15:=by omega
          have cp:=V.cell (k - 15) _ (us_get _ (k - 15) (by rw [schZ_len hk];omega))
          rw [schZ_get (show k - 15 < k by omega)] at cp
          have bp:Hid _:=schN_w64 HB.out k (k - 15)
          obtain ⟨p,hp⟩:∃ x,(schN B k).getD (k - 15) 0=x:=⟨_,rfl⟩
          rw [hp] at cp bp HN
          clear hp
          have iq:IntKind.i64.wrap ((k:Int) - 2)=(k:Int) - 2:=by rw [IntKind.wrap_i64];omega
          have jq:0≤(k:Int) - 2:=by omega
          have lq:(k:Int) - 2 < 80:=by omega
          have mq:((k:Int) - 2).toNat=k - 2:=by omega
          have cq:=V.cell (k - 2) _ (us_get _ (k - 2) (by rw [schZ_len hk];omega))
          rw [schZ_get (show k - 2 < k by omega)] at cq
          have bq:Hid _:=schN_w64 HB.out k (k - 2)
          obtain ⟨q,hq⟩:∃ x,(schN B k).getD (k - 2) 0=x:=⟨_,rfl⟩
          rw [hq] at cq bq HN
          clear hq
          have ir:IntKind.i64.wrap ((k:Int) - 16)=(k:Int) - 16:=by rw [IntKind.wrap_i64];omega
          have jr:0≤(k:Int) - 16:=by omega
          have lr:(k:Int) - 16 < 80:=by omega
          have mr:((k:Int) - 16).toNat=k - 16:=by omega
          have cr:=V.cell (k - 16) _ (us_get _ (k - 16) (by rw [schZ_len hk];omega))
          rw [schZ_get (show k - 16 < k by omega)] at cr
          have br:Hid _:=schN_w64 HB.out k (k - 16)
          obtain ⟨r,hr⟩:∃ x,(schN B k).getD (k - 16) 0=x:=⟨_,rfl⟩
          rw [hr] at cr br HN
          clear hr
          have is:IntKind.i64.wrap ((k:Int) - 7)=(k:Int) - 7:=by rw [IntKind.wrap_i64];omega
          have js:0≤(k:Int) - 7:=by omega
          have ls:(k:Int) - 7 < 80:=by omega
          have ms:((k:Int) - 7).toNat=k - 7:=by omega
          have cs:=V.cell (k - 7) _ (us_get _ (k - 7) (by rw [schZ_len hk];omega))
          rw [schZ_get (show k - 7 < k by omega)] at cs
          have bs:Hid _:=schN_w64 HB.out k (k - 7)
          obtain ⟨s,hs⟩:∃ x,(schN B k).getD (k - 7) 0=x:=⟨_,rfl⟩
          rw [hs] at cs bs HN
          clear hs
          have lv:=V.lt
          go_upto_region 10 with fail
          go_quiet (((go_at_call 135;exact Calls.quiet_of_same (con_rotm bp.out (by decide) (by decide)))))
          go_upto_region 11 with fail
          replace V:=V.drewN nq
          replace R:=R.drewN nq
          replace bel:=below_dN bel nq
          replace cq:(World.drewN _ nq).cell? _=_:=cq
          replace cr:(World.drewN _ nq).cell? _=_:=cr
          replace cs:(World.drewN _ nq).cell? _=_:=cs
          generalize World.drewN _ nq=wq at *
          clear cp ip jp lp mp
          replace lv:=V.lt
          go_quiet (((go_at_call 135;exact Calls.quiet_of_same (con_rotm bq.out (by decide) (by decide)))))
          go_upto_region 12 with fail
          replace V:=V.drewN nq
          replace R:=R.drewN nq
          replace bel:=below_dN bel nq
          replace cr:(World.drewN _ nq).cell? _=_:=cr
          replace cs:(World.drewN _ nq).cell? _=_:=cs
          generalize World.drewN _ nq=wq at *
          clear cq iq jq lq mq
          have HP:Hid (s0N p=bits .xor .u64 (bits .xor .u64 (ror p 1) (ror p 8)) (p / 128)):=rfl
          have HQ:Hid (s1N q=bits .xor .u64 (bits .xor .u64 (ror q 19) (ror q 61)) (q / 64)):=rfl
          generalize bits .xor .u64 (bits .xor .u64 (ror p 1) (ror p 8)) (p / 128)=y0 at *
          generalize bits .xor .u64 (bits .xor .u64 (ror q 19) (ror q 61)) (q / 64)=y1 at *
          rw [HP.out,HQ.out] at HN
          clear HP HQ bp bq br bs lv
          obtain ⟨x,hx⟩:∃ x,nxN B (schN B k) k=x:=⟨_,rfl⟩
          have HS:Hid ((schZ B k).set k x=schZ B (k + 1)):=by rw [← hx];exact schZ_set hlt
          have HX:Hid (x=IntKind.u64.wrap (IntKind.u64.wrap (IntKind.u64.wrap (r + y0) + s) + y1)):=by rw [← hx,HN.out];exact sum4 rfl
          clear hx HN
          obtain ⟨S1,hS1,KD,KQ,rr,rs⟩:=two_cells (k:=k) (V.at_ _ _ cr) (V.at_ _ _ cs) (by omega) (by omega) V
          clear cr cs
          have t16:(16:Int)≤(k:Int):=by omega
          have t7:(7:Int)≤(k:Int):=by omega
          refine wp_region_noPanic ?_
          refine wp_region_held_drew (S:=Hd S1) (by kernel_rfl) (KD.out _ hS1) (fun hHeld=>?_)
          clear hS1
          replace V:=V.drew
          replace R:=R.drew
          replace bel:=bel.drew
          generalize World.drew _=wd at *
          refine wpAnyH_take (i:=0) (v:=?_) rfl (by kernel_rfl) (by kernel_rfl) (by kernel_rfl) (fun _ _ _ h=>h) (Or.inl ⟨by rfl,?_⟩) (by assumption) ?_
          rotate_left
          · intro w hSw
            go_simp
            with_reducible rfl
          try simp only [Act.put,List.setIfInBounds_toArray,List.set_cons_zero,List.set_cons_succ]
          refine wpAnyH_take (i:=1) (v:=?_) rfl (by kernel_rfl) (by kernel_rfl) (by kernel_rfl) (fun _ _ _ h=>h) (Or.inl ⟨by rfl,?_⟩) (by assumption) ?_
          rotate_left
          · intro w hSw
            go_simp
            with_reducible rfl
          try simp only [Act.put,List.setIfInBounds_toArray,List.set_cons_zero,List.set_cons_succ]
          refine wpAnyH_take (i:=2) (v:=?_) rfl (by kernel_rfl) (by kernel_rfl) (by kernel_rfl) (fun _ _ _ h=>h) (Or.inl ⟨by rfl,?_⟩) (by assumption) ?_
          rotate_left
          · intro w hSw
            go_simp
            with_reducible rfl
          try simp only [Act.put,List.setIfInBounds_toArray,List.set_cons_zero,List.set_cons_succ]
          refine wpAnyH_take (i:=3) (v:=?_) rfl (by kernel_rfl) (by kernel_rfl) (by kernel_rfl) (fun _ _ _ h=>h) (Or.inl ⟨by rfl,?_⟩) (by assumption) ?_
          rotate_left
          · intro w hSw
            go_simp
            with_reducible rfl
          try simp only [Act.put,List.setIfInBounds_toArray,List.set_cons_zero,List.set_cons_succ]
          refine wpAnyH_take (i:=4) (v:=?_) rfl (by kernel_rfl) (by kernel_rfl) (by kernel_rfl) (fun _ _ _ h=>h) (Or.inl ⟨by rfl,?_⟩) (by assumption) ?_
          rotate_left
          · intro w hSw
            go_simp
            with_reducible rfl
          try simp only [Act.put,List.setIfInBounds_toArray,List.set_cons_zero,List.set_cons_succ]
          refine wpAnyH_take (i:=5) (v:=?_) rfl (by kernel_rfl) (by kernel_rfl) (by kernel_rfl) (fun _ _ _ h=>h) (Or.inl ⟨by rfl,?_⟩) (by assumption) ?_
          rotate_left
          · intro w hSw
            go_simp
            with_reducible rfl
          try simp only [Act.put,List.setIfInBounds_toArray,List.set_cons_zero,List.set_cons_succ]
          refine wpAnyH_take (i:=6) (v:=?_) rfl (by kernel_rfl) (by kernel_rfl) (by kernel_rfl) (fun _ _ _ h=>h) (Or.inl ⟨by rfl,?_⟩) (by assumption) ?_
          rotate_left
          · intro w hSw
            go_simp
            with_reducible rfl
          try simp only [Act.put,List.setIfInBounds_toArray,List.set_cons_zero,List.set_cons_succ]
          refine wpAnyH_take (i:=7) (v:=?_) rfl (by kernel_rfl) (by kernel_rfl) (by kernel_rfl) (fun _ _ _ h=>h) (Or.inl ⟨by rfl,?_⟩) (by assumption) ?_
          rotate_left
          · intro w hSw
            go_simp
            with_reducible rfl
          try simp only [Act.put,List.setIfInBounds_toArray,List.set_cons_zero,List.set_cons_succ]
          refine wpAnyH_take (i:=8) (v:=?_) rfl (by kernel_rfl) (by kernel_rfl) (by kernel_rfl) (fun _ _ _ h=>h) (Or.inl ⟨by rfl,?_⟩) (by assumption) ?_
          rotate_left
          · intro w hSw
            go_simp
            with_reducible rfl
          try simp only [Act.put,List.setIfInBounds_toArray,List.set_cons_zero,List.set_cons_succ]
          refine wpAnyH_take (i:=9) (v:=?_) rfl (by kernel_rfl) (by kernel_rfl) (by kernel_rfl) (fun _ _ _ h=>h) (Or.inl ⟨by rfl,?_⟩) (by assumption) ?_
          rotate_left
          · intro w hSw
            go_simp
            with_reducible rfl
          try simp only [Act.put,List.setIfInBounds_toArray,List.set_cons_zero,List.set_cons_succ]
          refine wpAnyH_take (i:=10) (v:=?_) rfl (by kernel_rfl) (by kernel_rfl) (by kernel_rfl) (fun _ _ _ h=>h) (Or.inl ⟨by rfl,?_⟩) (by assumption) ?_
          rotate_left
          · intro w hSw
            go_simp
            with_reducible rfl
          try simp only [Act.put,List.setIfInBounds_toArray,List.set_cons_zero,List.set_cons_succ]
          refine wpAnyH_take (i:=11) (v:=?_) rfl (by kernel_rfl) (by kernel_rfl) (by kernel_rfl) (fun _ _ _ h=>h) (Or.inl ⟨by rfl,?_⟩) (by assumption) ?_
          rotate_left
          · intro w hSw
            go_simp
            with_reducible rfl
          try simp only [Act.put,List.setIfInBounds_toArray,List.set_cons_zero,List.set_cons_succ]
          refine wpAnyH_take (i:=12) (v:=?_) rfl (by kernel_rfl) (by kernel_rfl) (by kernel_rfl) (fun _ _ _ h=>h) (Or.inl ⟨by rfl,?_⟩) (by assumption) ?_
          rotate_left
          · intro w hSw
            go_simp
            with_reducible rfl
          try simp only [Act.put,List.setIfInBounds_toArray,List.set_cons_zero,List.set_cons_succ]
          refine wpAnyH_take (i:=13) (v:=?_) rfl (by kernel_rfl) (by kernel_rfl) (by kernel_rfl) (fun _ _ _ h=>h) (Or.inl ⟨by rfl,?_⟩) (by assumption) ?_
          rotate_left
          · intro w hSw
            go_simp
            with_reducible rfl
          try simp only [Act.put,List.setIfInBounds_toArray,List.set_cons_zero,List.set_cons_succ]
          refine wpAnyH_take (i:=14) (v:=?_) rfl (by kernel_rfl) (by kernel_rfl) (by kernel_rfl) (fun _ _ _ h=>h) (Or.inl ⟨by rfl,?_⟩) (by assumption) ?_
          rotate_left
          · intro w hSw
            go_simp
            with_reducible rfl
          try simp only [Act.put,List.setIfInBounds_toArray,List.set_cons_zero,List.set_cons_succ]
          clear rr rs
          refine wpAnyH_ready (rs:=[15]) (by kernel_rfl) (by simp) ?_
          refine AllReadyH.cons rfl (fun K hK=>?_) ?_
          · have lts:=V.lt
            have fz:=V.frozen k
            have cv:=V.cell k _ (us_get _ k (by rw [schZ_len hk];omega))
            go_simp
            refine hK.out _ _ ?_ (fun hHeld2=>?_)
            · exact KQ.out _ _ hHeld
            · clear hK K hHeld
              have hHeld:=hHeld2
              clear hHeld2
              clear lts fz cv
              try simp only [Act.put,List.setIfInBounds_toArray,List.set_cons_zero,List.set_cons_succ]
              refine wpAnyH_done (by kernel_rfl) ?_ _
              refine NoPanic.normal ?_
              rw [← HX.out] at hHeld ⊢
              have HV:=V.setu k x
              rw [HS.out] at HV
              replace R:=R.other ⟨w.heap.size + 1,k,none⟩ (.int .u64 x) (by show w.heap.size≠w.heap.size + 1;omega)
              replace bel:=bel.setCell (p:=⟨w.heap.size + 1,k,none⟩) (by show w.heap.size≤w.heap.size + 1;omega) (.int .u64 x)
              clear hHeld V
              generalize World.setCell _ _ _=w9 at *
              go_wp2_with fail
              go_roundw
              case rel=>exact ⟨k + 1,by omega,by omega,by go_num,HV,R,bel⟩
              case measure=>simp [intOf];omega
          exact AllReadyH.nil
        · obtain rfl:k=80:=by omega
          have g1:(80:Int)≤((80:Nat):Int):=by omega
          rw [schZ_80] at V
          obtain ⟨tV,hV⟩:=V
          obtain ⟨tR,hR⟩:=R
          have HL:Hid (80=(us (schN B 80)).toArray.size):=by show 80=_;simp [schN_len]
          have HO:Hid ((us (List.replicate 80 (0:Int))).toArray.size=(us (schN B 80)).toArray.size):=by show _=_;simp [schN_len]
          have H1:Hid _:=us_ones (schN B 80)
          obtain ⟨ds,hds⟩:∃ z,(us (schN B 80)).toArray=z:=⟨_,rfl⟩
          have HD:Hid _:=hds
          rw [hds] at hV HL HO H1
          generalize (us (List.replicate 80 (0:Int))).toArray=es at hR HO
          clear hds
          go_wp2_with (first
            | (refine wpList_load_row rfl 172 _ rfl (w.heap.size + 1) rfl tV ds _ _ hV Tryz.underlying172 rfl (by rw [size_80,HL.out]) ?_)
            | (refine wpList_store_row rfl 172 _ _ rfl w.heap.size ds rfl rfl tR es hR (by rw [size_80,HL.out]) HO.out H1.out ?_)
            | fail)
          refine bodyPost_ret (results_cell_row rfl _ _ w.heap.size tR ds (0,0) _ rfl (setRow_heap _ _ _ _ _ _ hR) Tryz.underlying172 rfl (by rw [size_80,HL.out])) rfl ?_
          exact ⟨by rw [HD.out],below_setRow bel (Nat.le_refl _) _⟩
end Go.Proofs.YtlkljfnenonfgaaGreatDoor
