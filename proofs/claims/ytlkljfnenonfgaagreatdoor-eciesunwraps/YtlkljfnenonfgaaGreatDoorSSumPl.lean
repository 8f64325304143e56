/- SHA-384's numbers: rotated words, a schedule, a round, a step; primes and roots by trial, as the document makes its tables. Plain facts. The document's Round. (Plain part.) The document's Schedule: a block's words. (Plain part.) The document's Step: a block's. (Plain part.) The reference's Bytes, 16 of them, and 8. (Plain part.) The document's Pad: what stands behind so many bytes. (Plain part.) The document's Sum: a digest. (Plain part.) -/
import Derived.Test.YtlkljfnenonfgaaGreatDoorBase
import Derived.Test.YtlkljfnenonfgaaGreatDoorAeNumG
import Derived.Test.YtlkljfnenonfgaaGreatDoorFrom
import Derived.Test.YtlkljfnenonfgaaGreatDoorRefA
import Derived.Test.YtlkljfnenonfgaaGreatDoorCEncC
import Derived.Test.YtlkljfnenonfgaaGreatDoorRows
import Derived.Deep.WholeRow
import Derived.Deep.RegionHeld3
import Derived.Deep.DeepCutAuto
import Derived.Deep.DeepFit
import Derived.Deep.OwnRows
namespace Go.Proofs.YtlkljfnenonfgaaGreatDoor
open Go.RowKit
/-- rotated to the right, as the operations go -/
def ror (x:Int) (n:Nat):Int:=bits .or .u64 (x / 2 ^ n) (IntKind.u64.wrap (x * 2 ^ (64 - n)))
/-- what a round adds -/
def t1N (e f g h k m:Int):Int:=(h + bits .xor .u64 (bits .xor .u64 (ror e 14) (ror e 18)) (ror e 41) + bits .xor .u64 (bits .and .u64 e f) (bits .and .u64 (bits .xor .u64 IntKind.u64.max e) g) + k + m) % 18446744073709551616
def t2N (a b c:Int):Int:=(bits .xor .u64 (bits .xor .u64 (ror a 28) (ror a 34)) (ror a 39) + bits .xor .u64 (bits .xor .u64 (bits .and .u64 a b) (bits .and .u64 a c)) (bits .and .u64 b c)) % 18446744073709551616
/-- a round of eight words -/
def roundN:List Int→Int→Int→List Int
 | [a,b,c,d,e,f,g,h],k,m=>[(t1N e f g h k m + t2N a b c) % 18446744073709551616,a,b,c,(d + t1N e f g h k m) % 18446744073709551616,e,f,g]
 | _,_,_=>[]
/-- the first k bytes of word i, as a number -/
def wdN (B:List Int) (i:Nat):Nat→Int
 | 0=>0
 | k + 1=>256 * wdN B i k + B.getD (8 * i + k) 0
/-- the next word of a schedule -/
def s0N (x:Int):Int:=bits .xor .u64 (bits .xor .u64 (ror x 1) (ror x 8)) (x / 2 ^ 7)
def s1N (x:Int):Int:=bits .xor .u64 (bits .xor .u64 (ror x 19) (ror x 61)) (x / 2 ^ 6)
def nxN (B W:List Int) (k:Nat):Int:=if k < 16 then wdN B k 8 else (W.getD (k - 16) 0 + s0N (W.getD (k - 15) 0) + W.getD (k - 7) 0 + s1N (W.getD (k - 2) 0)) % 18446744073709551616
/-- the first k words of a block's schedule -/
def schN (B:List Int):Nat→List Int
 | 0=>[]
 | k + 1=>schN B k++[nxN B (schN B k) k]
theorem schN_len (B:List Int):∀ k,(schN B k).length=k
 | 0=>rfl
 | k + 1=>by rw [schN,List.length_append,schN_len B k];rfl
theorem wdN_bd {B:List Int} (h:∀ j,0≤B.getD j 0∧B.getD j 0 < 256) (i:Nat):∀ k,0≤wdN B i k∧wdN B i k < 256 ^ k
 | 0=>by simp [wdN]
 | k + 1=>by
  have ih:=wdN_bd h i k
  have hb:=h (8 * i + k)
  rw [wdN,Int.pow_succ]
  generalize (256:Int) ^ k=p at *
  generalize wdN B i k=x at *
  generalize B.getD (8 * i + k) 0=y at *
  omega
/-- k rounds -/
def rndsN (K H W:List Int):Nat→List Int
 | 0=>H
 | k + 1=>roundN (rndsN K H W k) (K.getD k 0) (W.getD k 0)
theorem roundN_len {V:List Int} (h:V.length=8) (k m:Int):(roundN V k m).length=8:=by
 match V,h with
 | [a,b,c,d,e,f,g,i],_=>rfl
theorem rndsN_len {K H W:List Int} (h:H.length=8):∀ k,(rndsN K H W k).length=8
 | 0=>h
 | k + 1=>roundN_len (rndsN_len h k) _ _
theorem eight {A:List Int} (h:A.length=8):∃ x0 x1 x2 x3 x4 x5 x6 x7,A=[x0,x1,x2,x3,x4,x5,x6,x7]:=by
 match A,h with
 | [x0,x1,x2,x3,x4,x5,x6,x7],_=>exact ⟨x0,x1,x2,x3,x4,x5,x6,x7,rfl⟩
/-- the first k words summed with those of H -/
def sumsN (A H:List Int) (k:Nat):List Int:=(List.range 8).map fun j=>if j < k then (A.getD j 0 + H.getD j 0) % 18446744073709551616 else A.getD j 0
theorem sumsN_0 {A H:List Int} (h:A.length=8):sumsN A H 0=A:=by
 match A,h with
 | [x0,x1,x2,x3,x4,x5,x6,x7],_=>rfl
theorem sumsN_len (A H:List Int) (k:Nat):(sumsN A H k).length=8:=by simp [sumsN]
theorem sumsN_get (A H:List Int) (k:Nat) (hk:k < 8):(sumsN A H k).getD k 0=A.getD k 0:=by
 simp [sumsN,List.getD_eq_getElem?_getD,hk]
theorem sumsN_set (A H:List Int) (k:Nat):(sumsN A H k).set k ((A.getD k 0 + H.getD k 0) % 18446744073709551616)=sumsN A H (k + 1):=by
 apply List.ext_getElem?
 intro j
 by_cases hj:j < 8
 ·by_cases e:k=j
  ·subst e
   rw [List.getElem?_set_self (by rw [sumsN_len];exact hj)]
   simp [sumsN,hj]
  ·rw [List.getElem?_set_ne e]
   simp only [sumsN,List.getElem?_map,List.getElem?_range hj,Option.map_some,Option.some.injEq]
   by_cases l:j < k
   ·rw [if_pos l,if_pos (by omega)]
   ·rw [if_neg l,if_neg (by omega)]
 ·rw [List.getElem?_eq_none (by simp [sumsN];omega),List.getElem?_eq_none (by simp [sumsN];omega)]
/-- a block's step -/
def stepN (K H B:List Int):List Int:=sumsN (rndsN K H (schN B 80) 80) H 8
theorem stepN_len (K H B:List Int):(stepN K H B).length=8:=sumsN_len _ _ _
def KS:List Int:=[4794697086780616226,8158064640168781261,13096744586834688815,16840607885511220156,4131703408338449720,6480981068601479193,10538285296894168987,12329834152419229976,15566598209576043074,1334009975649890238,2608012711638119052,6128411473006802146,8268148722764581231,9286055187155687089,11230858885718282805,13951009754708518548,16472876342353939154,17275323862435702243,1135362057144423861,2597628984639134821,3308224258029322869,5365058923640841347,6679025012923562964,8573033837759648693,10970295158949994411,12119686244451234320,12683024718118986047,13788192230050041572,14330467153632333762,15395433587784984357,489312712824947311,1452737877330783856,2861767655752347644,3322285676063803686,5560940570517711597,5996557281743188959,7280758554555802590,8532644243296465576,9350256976987008742,10552545826968843579,11727347734174303076,12113106623233404929,14000437183269869457,14369950271660146224,15101387698204529176,15463397548674623760,17586052441742319658,1182934255886127544,1847814050463011016,2177327727835720531,2830643537854262169,3796741975233480872,4115178125766777443,5681478168544905931,6601373596472566643,7507060721942968483,8399075790359081724,8693463985226723168,9568029438360202098,10144078919501101548,10430055236837252648,11840083180663258601,13761210420658862357,14299343276471374635,14566680578165727644,15097957966210449927,16922976911328602910,17689382322260857208,500013540394364858,748580250866718886,1242879168328830382,1977374033974150939,2944078676154940804,3659926193048069267,4368137639120453308,4836135668995329356,5532061633213252278,6448918945643986474,6902733635092675308,7801388544844847127]
def HS:List Int:=[14680500436340154072,7105036623409894663,10473403895298186519,1526699215303891257,7436329637833083697,10282925794625328401,15784041429090275239,5167115440072839076]
theorem below_put8 {B b:Nat} {a w:World} {u0 u1 u2 u3 u4 u5 u6 u7:Value} (h:Below B a w) (hb:B≤b):Below B a (((((((((w.setCell ⟨b,0,none⟩ u0).setCell ⟨b,1,none⟩ u1).setCell ⟨b,2,none⟩ u2).setCell ⟨b,3,none⟩ u3).setCell ⟨b,4,none⟩ u4).setCell ⟨b,5,none⟩ u5).setCell ⟨b,6,none⟩ u6).setCell ⟨b,7,none⟩ u7)):=((((((((h.setCell hb _).setCell hb _).setCell hb _).setCell hb _).setCell hb _).setCell hb _).setCell hb _).setCell hb _)
theorem round_is {v0 v1 v2 v3 v4 v5 v6 v7 k m one two:Int} (h1:t1N v4 v5 v6 v7 k m=one) (h2:t2N v0 v1 v2=two):roundN [v0,v1,v2,v3,v4,v5,v6,v7] k m=[IntKind.u64.wrap (one + two),v0,v1,v2,IntKind.u64.wrap (v3 + one),v4,v5,v6]:=by
 subst h1 h2
 simp only [IntKind.wrap_u64]
 rfl
theorem t1_is (e f g h k m:Int):IntKind.u64.wrap (IntKind.u64.wrap (IntKind.u64.wrap (IntKind.u64.wrap (h + bits .xor .u64 (bits .xor .u64 (ror e 14) (ror e 18)) (ror e 41)) + bits .xor .u64 (bits .and .u64 e f) (bits .and .u64 (bits .xor .u64 IntKind.u64.max e) g)) + k) + m)=t1N e f g h k m:=by
 unfold t1N
 simp only [IntKind.wrap_u64]
 omega
theorem t2_is (a b c:Int):IntKind.u64.wrap (bits .xor .u64 (bits .xor .u64 (ror a 28) (ror a 34)) (ror a 39) + bits .xor .u64 (bits .xor .u64 (bits .and .u64 a b) (bits .and .u64 a c)) (bits .and .u64 b c))=t2N a b c:=by
 unfold t2N
 rw [IntKind.wrap_u64]
theorem own_later {w w':World} {base:Nat} {e:TypeId} {v:Value} {n:Nat} {xs:List Value} (h:w.ownsRow base e 1 v n xs) (hb:Below w.heap.size w w'):w'.ownsRow base e 1 v n xs:=by
 obtain ⟨hl,h⟩:=h
 rcases h with h|⟨g,cap,cur,h1,h2,h3,h4⟩
 ·exact ⟨hl,.inl h⟩
 ·exact ⟨hl,.inr ⟨g,cap,cur,h1,h2,by rw [hb.block g (Array.getElem?_eq_some_iff.1 h3).1];exact h3,h4⟩⟩
theorem sum4 {r y0 s y1 x:Int} (h:IntKind.u64.wrap (IntKind.u64.wrap (IntKind.u64.wrap (r + y0) + s) + y1)=x):(r + y0 + s + y1) % 18446744073709551616=x:=by
 rw [← h]
 simp only [IntKind.wrap_u64]
 omega
theorem Blk.on_put8 {S:World→Prop} {w:World} {b:Nat} {x0 x1 x2 x3 x4 x5 x6 x7 y0 y1 y2 y3 y4 y5 y6 y7:Int} (B:Blk w b (us [x0,x1,x2,x3,x4,x5,x6,x7])) (_:Hd S (((((((((w.setCell ⟨b,0,none⟩ (.int .u64 y0)).setCell ⟨b,1,none⟩ (.int .u64 y1)).setCell ⟨b,2,none⟩ (.int .u64 y2)).setCell ⟨b,3,none⟩ (.int .u64 y3)).setCell ⟨b,4,none⟩ (.int .u64 y4)).setCell ⟨b,5,none⟩ (.int .u64 y5)).setCell ⟨b,6,none⟩ (.int .u64 y6)).setCell ⟨b,7,none⟩ (.int .u64 y7)))):Blk (((((((((w.setCell ⟨b,0,none⟩ (.int .u64 y0)).setCell ⟨b,1,none⟩ (.int .u64 y1)).setCell ⟨b,2,none⟩ (.int .u64 y2)).setCell ⟨b,3,none⟩ (.int .u64 y3)).setCell ⟨b,4,none⟩ (.int .u64 y4)).setCell ⟨b,5,none⟩ (.int .u64 y5)).setCell ⟨b,6,none⟩ (.int .u64 y6)).setCell ⟨b,7,none⟩ (.int .u64 y7))) b (us [y0,y1,y2,y3,y4,y5,y6,y7]) :=
 (((((((B.setu 0 y0).setu 1 y1).setu 2 y2).setu 3 y3).setu 4 y4).setu 5 y5).setu 6 y6).setu 7 y7
theorem made_u8S (n:Nat):madeCells #[.int .u8 0] n=(u8s (List.replicate n 0)).toArray:=by
 apply Array.ext
 ·simp [madeCells]
 ·intro i h1 h2
  simp [madeCells,Nat.mod_one]
theorem Blk.set8S {w:World} {b:Nat} {S:List Int} (h:Blk w b (u8s S)) (k:Nat) (s:Int):Blk (w.setCell ⟨b,k,none⟩ (.int .u8 s)) b (u8s (S.set k s)):=by
 have:u8s (S.set k s)=(u8s S).set k (.int .u8 s):=by simp [u8s,List.map_set]
 rw [this];exact h.set k _
/-- how many noughts -/
def zsN (n:Nat):Nat:=(239 - n % 128) % 128
/-- what stands behind n bytes -/
def PadIs (n:Nat) (P:List Int):Prop:=∃ X:List Int,X.length=16∧byt X∧beN X=8 * (n:Int)∧P=128 :: (List.replicate (zsN n) 0++X)
theorem PadIs.len {n:Nat} {P:List Int} (h:PadIs n P):P.length=17 + zsN n:=by
 obtain ⟨X,l,_,_,rfl⟩:=h
 simp [l];omega
theorem PadIs.one {n:Nat} {P Q:List Int} (h:PadIs n P) (k:PadIs n Q):P=Q:=by
 obtain ⟨X,l,b,e,rfl⟩:=h
 obtain ⟨Y,l',b',e',rfl⟩:=k
 rw [beN_inj X Y (by rw [l,l']) b b' (by rw [e,e'])]
theorem PadIs.byt {n:Nat} {P:List Int} (h:PadIs n P):byt P:=by
 obtain ⟨X,l,b,_,rfl⟩:=h
 apply byt_of
 intro j hj
 match j with
 | 0=>exact ⟨by show (0:Int)≤128;decide,by show (128:Int) < 256;decide⟩
 | j + 1 =>
  show 0≤(List.replicate (zsN n) 0++X).getD j 0∧(List.replicate (zsN n) 0++X).getD j 0 < 256
  by_cases hz:j < zsN n
  ·rw [List.getD_eq_getElem?_getD,List.getElem?_append_left (by simpa using hz)]
   simp [hz]
  ·rw [List.getD_eq_getElem?_getD,List.getElem?_append_right (by simpa using hz),← List.getD_eq_getElem?_getD]
   exact b _
theorem info_b8:(Tryz.prog.info? 5).map (fun i=>(i.zero,i.size,i.bytes))=some (some (.int .u8 0),1,1):=by kernel_rfl
/-- the words behind k blocks -/
def digN (K H M:List Int):Nat→List Int
 | 0=>H
 | k + 1=>stepN K (digN K H M k) ((M.drop (128 * k)).take 128)
theorem digN_len {K H M:List Int} (h:H.length=8):∀ k,(digN K H M k).length=8
 | 0=>h
 | _ + 1=>stepN_len _ _ _
theorem stepN_fits (K H B:List Int):fits (stepN K H B):=by
 intro j
 unfold stepN sumsN
 rw [List.getD_eq_getElem?_getD,List.getElem?_map]
 by_cases hj:j < 8
 ·rw [List.getElem?_range hj]
  simp only [Option.map_some,Option.getD_some]
  rw [if_pos hj]
  omega
 ·rw [List.getElem?_eq_none (by simpa using hj)]
  exact ⟨by simp,by simp⟩
theorem digN_fits {K H M:List Int} (h:fits H):∀ k,fits (digN K H M k)
 | 0=>h
 | _ + 1=>stepN_fits _ _ _
/-- the bytes of the first i words -/
def OutB (H:List Int):Nat→List Int→Prop
 | 0,O=>O=[]
 | i + 1,O=>∃ O' X,O=O'++X∧OutB H i O'∧X.length=8∧byt X∧beN X=H.getD i 0
theorem OutB.len {H:List Int}:∀ {i:Nat} {O:List Int},OutB H i O→O.length=8 * i
 | 0,O,h=>by rw [show O=[] from h];rfl
 | i + 1,O,h=>by
  obtain ⟨O',X,rfl,h1,h2,_,_⟩:=h
  rw [List.length_append,h1.len,h2];omega
theorem OutB.one {H:List Int}:∀ {i:Nat} {O Q:List Int},OutB H i O→OutB H i Q→O=Q
 | 0,O,Q,h,k=>by rw [show O=[] from h,show Q=[] from k]
 | i + 1,O,Q,h,k=>by
  obtain ⟨O',X,rfl,h1,h2,h3,h4⟩:=h
  obtain ⟨Q',Y,rfl,k1,k2,k3,k4⟩:=k
  rw [h1.one k1,beN_inj X Y (by rw [h2,k2]) h3 k3 (by rw [h4,k4])]
theorem byt_app {A B:List Int} (hA:byt A) (hB:byt B):byt (A++B):=by
 intro j
 by_cases h:j < A.length
 ·rw [List.getD_eq_getElem?_getD,List.getElem?_append_left h,← List.getD_eq_getElem?_getD];exact hA j
 ·rw [List.getD_eq_getElem?_getD,List.getElem?_append_right (by omega),← List.getD_eq_getElem?_getD];exact hB _
theorem drop_get (M:List Int) (a n j:Nat) (hj:j < n):((M.drop a).take n).getD j 0=M.getD (a + j) 0:=by
 rw [List.getD_eq_getElem?_getD,List.getElem?_take,if_pos hj,List.getElem?_drop,← List.getD_eq_getElem?_getD]
theorem len_cut {M:List Int} {k:Nat} (h:128 * k + 128≤M.length):((M.drop (128 * k)).take 128).length=128:=by
 rw [List.length_take,List.length_drop];omega
theorem byt_cut {M:List Int} {k:Nat} (h:byt M):byt ((M.drop (128 * k)).take 128):=by
 intro j
 by_cases hj:j < 128
 ·rw [drop_get _ _ _ _ hj];exact h _
 ·rw [List.getD_eq_getElem?_getD,List.getElem?_take,if_neg hj];exact ⟨by simp,by simp⟩
/-- a digest as it lies -/
def SumIs (K H B O:List Int):Prop:=∃ P:List Int,PadIs B.length P∧OutB (digN K H (B++P) ((B++P).length / 128)) 6 O
theorem SumIs.one {K H B O Q:List Int} (h:SumIs K H B O) (k:SumIs K H B Q):O=Q:=by
 obtain ⟨P,h1,h2⟩:=h
 obtain ⟨P',k1,k2⟩:=k
 obtain rfl:=h1.one k1
 exact h2.one k2
end Go.Proofs.YtlkljfnenonfgaaGreatDoor
