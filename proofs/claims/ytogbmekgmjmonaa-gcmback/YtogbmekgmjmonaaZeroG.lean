/- The code of a block of noughts by a key of noughts. Plain facts. The tag of no bytes by a key and a nonce of noughts. Plain facts. -/
import Derived.Test.YtogbmekgmjmonaaAeNumG
import Derived.Test.YtogbmekgmjmonaaGhNumG
namespace Go.Proofs.Ytogbmekgmjmonaa
open Go.RowKit

def Z32 : List Int := List.replicate 32 0
def Z16 : List Int := List.replicate 16 0
theorem zw0 : WN Z32 0 = [0, 0, 0, 0] := by rw [WN_lo (by decide)]; rfl
theorem zw1 : WN Z32 1 = [0, 0, 0, 0] := by rw [WN_lo (by decide)]; rfl
theorem zw2 : WN Z32 2 = [0, 0, 0, 0] := by rw [WN_lo (by decide)]; rfl
theorem zw3 : WN Z32 3 = [0, 0, 0, 0] := by rw [WN_lo (by decide)]; rfl
theorem zw4 : WN Z32 4 = [0, 0, 0, 0] := by rw [WN_lo (by decide)]; rfl
theorem zw5 : WN Z32 5 = [0, 0, 0, 0] := by rw [WN_lo (by decide)]; rfl
theorem zw6 : WN Z32 6 = [0, 0, 0, 0] := by rw [WN_lo (by decide)]; rfl
theorem zw7 : WN Z32 7 = [0, 0, 0, 0] := by rw [WN_lo (by decide)]; rfl
theorem zw8 : WN Z32 8 = [98, 99, 99, 99] := by rw [WN_hi (by decide), show 8 - 1 = 7 from rfl, show 8 - 8 = 0 from rfl, zw7, zw0]; decide +kernel
theorem zw9 : WN Z32 9 = [98, 99, 99, 99] := by rw [WN_hi (by decide), show 9 - 1 = 8 from rfl, show 9 - 8 = 1 from rfl, zw8, zw1]; decide +kernel
theorem zw10 : WN Z32 10 = [98, 99, 99, 99] := by rw [WN_hi (by decide), show 10 - 1 = 9 from rfl, show 10 - 8 = 2 from rfl, zw9, zw2]; decide +kernel
theorem zw11 : WN Z32 11 = [98, 99, 99, 99] := by rw [WN_hi (by decide), show 11 - 1 = 10 from rfl, show 11 - 8 = 3 from rfl, zw10, zw3]; decide +kernel
theorem zw12 : WN Z32 12 = [170, 251, 251, 251] := by rw [WN_hi (by decide), show 12 - 1 = 11 from rfl, show 12 - 8 = 4 from rfl, zw11, zw4]; decide +kernel
theorem zw13 : WN Z32 13 = [170, 251, 251, 251] := by rw [WN_hi (by decide), show 13 - 1 = 12 from rfl, show 13 - 8 = 5 from rfl, zw12, zw5]; decide +kernel
theorem zw14 : WN Z32 14 = [170, 251, 251, 251] := by rw [WN_hi (by decide), show 14 - 1 = 13 from rfl, show 14 - 8 = 6 from rfl, zw13, zw6]; decide +kernel
theorem zw15 : WN Z32 15 = [170, 251, 251, 251] := by rw [WN_hi (by decide), show 15 - 1 = 14 from rfl, show 15 - 8 = 7 from rfl, zw14, zw7]; decide +kernel
theorem zw16 : WN Z32 16 = [111, 108, 108, 207] := by rw [WN_hi (by decide), show 16 - 1 = 15 from rfl, show 16 - 8 = 8 from rfl, zw15, zw8]; decide +kernel
theorem zw17 : WN Z32 17 = [13, 15, 15, 172] := by rw [WN_hi (by decide), show 17 - 1 = 16 from rfl, show 17 - 8 = 9 from rfl, zw16, zw9]; decide +kernel
theorem zw18 : WN Z32 18 = [111, 108, 108, 207] := by rw [WN_hi (by decide), show 18 - 1 = 17 from rfl, show 18 - 8 = 10 from rfl, zw17, zw10]; decide +kernel
theorem zw19 : WN Z32 19 = [13, 15, 15, 172] := by rw [WN_hi (by decide), show 19 - 1 = 18 from rfl, show 19 - 8 = 11 from rfl, zw18, zw11]; decide +kernel
theorem zw20 : WN Z32 20 = [125, 141, 141, 106] := by rw [WN_hi (by decide), show 20 - 1 = 19 from rfl, show 20 - 8 = 12 from rfl, zw19, zw12]; decide +kernel
theorem zw21 : WN Z32 21 = [215, 118, 118, 145] := by rw [WN_hi (by decide), show 21 - 1 = 20 from rfl, show 21 - 8 = 13 from rfl, zw20, zw13]; decide +kernel
theorem zw22 : WN Z32 22 = [125, 141, 141, 106] := by rw [WN_hi (by decide), show 22 - 1 = 21 from rfl, show 22 - 8 = 14 from rfl, zw21, zw14]; decide +kernel
theorem zw23 : WN Z32 23 = [215, 118, 118, 145] := by rw [WN_hi (by decide), show 23 - 1 = 22 from rfl, show 23 - 8 = 15 from rfl, zw22, zw15]; decide +kernel
theorem zw24 : WN Z32 24 = [83, 84, 237, 193] := by rw [WN_hi (by decide), show 24 - 1 = 23 from rfl, show 24 - 8 = 16 from rfl, zw23, zw16]; decide +kernel
theorem zw25 : WN Z32 25 = [94, 91, 226, 109] := by rw [WN_hi (by decide), show 25 - 1 = 24 from rfl, show 25 - 8 = 17 from rfl, zw24, zw17]; decide +kernel
theorem zw26 : WN Z32 26 = [49, 55, 142, 162] := by rw [WN_hi (by decide), show 26 - 1 = 25 from rfl, show 26 - 8 = 18 from rfl, zw25, zw18]; decide +kernel
theorem zw27 : WN Z32 27 = [60, 56, 129, 14] := by rw [WN_hi (by decide), show 27 - 1 = 26 from rfl, show 27 - 8 = 19 from rfl, zw26, zw19]; decide +kernel
theorem zw28 : WN Z32 28 = [150, 138, 129, 193] := by rw [WN_hi (by decide), show 28 - 1 = 27 from rfl, show 28 - 8 = 20 from rfl, zw27, zw20]; decide +kernel
theorem zw29 : WN Z32 29 = [65, 252, 247, 80] := by rw [WN_hi (by decide), show 29 - 1 = 28 from rfl, show 29 - 8 = 21 from rfl, zw28, zw21]; decide +kernel
theorem zw30 : WN Z32 30 = [60, 113, 122, 58] := by rw [WN_hi (by decide), show 30 - 1 = 29 from rfl, show 30 - 8 = 22 from rfl, zw29, zw22]; decide +kernel
theorem zw31 : WN Z32 31 = [235, 7, 12, 171] := by rw [WN_hi (by decide), show 31 - 1 = 30 from rfl, show 31 - 8 = 23 from rfl, zw30, zw23]; decide +kernel
theorem zw32 : WN Z32 32 = [158, 170, 143, 40] := by rw [WN_hi (by decide), show 32 - 1 = 31 from rfl, show 32 - 8 = 24 from rfl, zw31, zw24]; decide +kernel
theorem zw33 : WN Z32 33 = [192, 241, 109, 69] := by rw [WN_hi (by decide), show 33 - 1 = 32 from rfl, show 33 - 8 = 25 from rfl, zw32, zw25]; decide +kernel
theorem zw34 : WN Z32 34 = [241, 198, 227, 231] := by rw [WN_hi (by decide), show 34 - 1 = 33 from rfl, show 34 - 8 = 26 from rfl, zw33, zw26]; decide +kernel
theorem zw35 : WN Z32 35 = [205, 254, 98, 233] := by rw [WN_hi (by decide), show 35 - 1 = 34 from rfl, show 35 - 8 = 27 from rfl, zw34, zw27]; decide +kernel
theorem zw36 : WN Z32 36 = [43, 49, 43, 223] := by rw [WN_hi (by decide), show 36 - 1 = 35 from rfl, show 36 - 8 = 28 from rfl, zw35, zw28]; decide +kernel
theorem zw37 : WN Z32 37 = [106, 205, 220, 143] := by rw [WN_hi (by decide), show 37 - 1 = 36 from rfl, show 37 - 8 = 29 from rfl, zw36, zw29]; decide +kernel
theorem zw38 : WN Z32 38 = [86, 188, 166, 181] := by rw [WN_hi (by decide), show 38 - 1 = 37 from rfl, show 38 - 8 = 30 from rfl, zw37, zw30]; decide +kernel
theorem zw39 : WN Z32 39 = [189, 187, 170, 30] := by rw [WN_hi (by decide), show 39 - 1 = 38 from rfl, show 39 - 8 = 31 from rfl, zw38, zw31]; decide +kernel
theorem zw40 : WN Z32 40 = [100, 6, 253, 82] := by rw [WN_hi (by decide), show 40 - 1 = 39 from rfl, show 40 - 8 = 32 from rfl, zw39, zw32]; decide +kernel
theorem zw41 : WN Z32 41 = [164, 247, 144, 23] := by rw [WN_hi (by decide), show 41 - 1 = 40 from rfl, show 41 - 8 = 33 from rfl, zw40, zw33]; decide +kernel
theorem zw42 : WN Z32 42 = [85, 49, 115, 240] := by rw [WN_hi (by decide), show 42 - 1 = 41 from rfl, show 42 - 8 = 34 from rfl, zw41, zw34]; decide +kernel
theorem zw43 : WN Z32 43 = [152, 207, 17, 25] := by rw [WN_hi (by decide), show 43 - 1 = 42 from rfl, show 43 - 8 = 35 from rfl, zw42, zw35]; decide +kernel
theorem zw44 : WN Z32 44 = [109, 187, 169, 11] := by rw [WN_hi (by decide), show 44 - 1 = 43 from rfl, show 44 - 8 = 36 from rfl, zw43, zw36]; decide +kernel
theorem zw45 : WN Z32 45 = [7, 118, 117, 132] := by rw [WN_hi (by decide), show 45 - 1 = 44 from rfl, show 45 - 8 = 37 from rfl, zw44, zw37]; decide +kernel
theorem zw46 : WN Z32 46 = [81, 202, 211, 49] := by rw [WN_hi (by decide), show 46 - 1 = 45 from rfl, show 46 - 8 = 38 from rfl, zw45, zw38]; decide +kernel
theorem zw47 : WN Z32 47 = [236, 113, 121, 47] := by rw [WN_hi (by decide), show 47 - 1 = 46 from rfl, show 47 - 8 = 39 from rfl, zw46, zw39]; decide +kernel
theorem zw48 : WN Z32 48 = [231, 176, 232, 156] := by rw [WN_hi (by decide), show 48 - 1 = 47 from rfl, show 48 - 8 = 40 from rfl, zw47, zw40]; decide +kernel
theorem zw49 : WN Z32 49 = [67, 71, 120, 139] := by rw [WN_hi (by decide), show 49 - 1 = 48 from rfl, show 49 - 8 = 41 from rfl, zw48, zw41]; decide +kernel
theorem zw50 : WN Z32 50 = [22, 118, 11, 123] := by rw [WN_hi (by decide), show 50 - 1 = 49 from rfl, show 50 - 8 = 42 from rfl, zw49, zw42]; decide +kernel
theorem zw51 : WN Z32 51 = [142, 185, 26, 98] := by rw [WN_hi (by decide), show 51 - 1 = 50 from rfl, show 51 - 8 = 43 from rfl, zw50, zw43]; decide +kernel
theorem zw52 : WN Z32 52 = [116, 237, 11, 161] := by rw [WN_hi (by decide), show 52 - 1 = 51 from rfl, show 52 - 8 = 44 from rfl, zw51, zw44]; decide +kernel
theorem zw53 : WN Z32 53 = [115, 155, 126, 37] := by rw [WN_hi (by decide), show 53 - 1 = 52 from rfl, show 53 - 8 = 45 from rfl, zw52, zw45]; decide +kernel
theorem zw54 : WN Z32 54 = [34, 81, 173, 20] := by rw [WN_hi (by decide), show 54 - 1 = 53 from rfl, show 54 - 8 = 46 from rfl, zw53, zw46]; decide +kernel
theorem zw55 : WN Z32 55 = [206, 32, 212, 59] := by rw [WN_hi (by decide), show 55 - 1 = 54 from rfl, show 55 - 8 = 47 from rfl, zw54, zw47]; decide +kernel
theorem zw56 : WN Z32 56 = [16, 248, 10, 23] := by rw [WN_hi (by decide), show 56 - 1 = 55 from rfl, show 56 - 8 = 48 from rfl, zw55, zw48]; decide +kernel
theorem zw57 : WN Z32 57 = [83, 191, 114, 156] := by rw [WN_hi (by decide), show 57 - 1 = 56 from rfl, show 57 - 8 = 49 from rfl, zw56, zw49]; decide +kernel
theorem zw58 : WN Z32 58 = [69, 201, 121, 231] := by rw [WN_hi (by decide), show 58 - 1 = 57 from rfl, show 58 - 8 = 50 from rfl, zw57, zw50]; decide +kernel
theorem zw59 : WN Z32 59 = [203, 112, 99, 133] := by rw [WN_hi (by decide), show 59 - 1 = 58 from rfl, show 59 - 8 = 51 from rfl, zw58, zw51]; decide +kernel
theorem key_lit {K : List Int} {i : Nat} {a b c d : List Int} (ha : WN K (4 * i) = a) (hb : WN K (4 * i + 1) = b) (hc : WN K (4 * i + 2) = c) (hd : WN K (4 * i + 3) = d) : keyN K i = [a.getD 0 0, a.getD 1 0, a.getD 2 0, a.getD 3 0, b.getD 0 0, b.getD 1 0, b.getD 2 0, b.getD 3 0, c.getD 0 0, c.getD 1 0, c.getD 2 0, c.getD 3 0, d.getD 0 0, d.getD 1 0, d.getD 2 0, d.getD 3 0] := by
  subst ha hb hc hd
  rfl
theorem zk0 : keyN Z32 0 = [0, 0, 0, 0, 0, 0, 0, 0, 0, 0, 0, 0, 0, 0, 0, 0] := key_lit (i := 0) zw0 zw1 zw2 zw3
theorem zk1 : keyN Z32 1 = [0, 0, 0, 0, 0, 0, 0, 0, 0, 0, 0, 0, 0, 0, 0, 0] := key_lit (i := 1) zw4 zw5 zw6 zw7
theorem zk2 : keyN Z32 2 = [98, 99, 99, 99, 98, 99, 99, 99, 98, 99, 99, 99, 98, 99, 99, 99] := key_lit (i := 2) zw8 zw9 zw10 zw11
theorem zk3 : keyN Z32 3 = [170, 251, 251, 251, 170, 251, 251, 251, 170, 251, 251, 251, 170, 251, 251, 251] := key_lit (i := 3) zw12 zw13 zw14 zw15
theorem zk4 : keyN Z32 4 = [111, 108, 108, 207, 13, 15, 15, 172, 111, 108, 108, 207, 13, 15, 15, 172] := key_lit (i := 4) zw16 zw17 zw18 zw19
theorem zk5 : keyN Z32 5 = [125, 141, 141, 106, 215, 118, 118, 145, 125, 141, 141, 106, 215, 118, 118, 145] := key_lit (i := 5) zw20 zw21 zw22 zw23
theorem zk6 : keyN Z32 6 = [83, 84, 237, 193, 94, 91, 226, 109, 49, 55, 142, 162, 60, 56, 129, 14] := key_lit (i := 6) zw24 zw25 zw26 zw27
theorem zk7 : keyN Z32 7 = [150, 138, 129, 193, 65, 252, 247, 80, 60, 113, 122, 58, 235, 7, 12, 171] := key_lit (i := 7) zw28 zw29 zw30 zw31
theorem zk8 : keyN Z32 8 = [158, 170, 143, 40, 192, 241, 109, 69, 241, 198, 227, 231, 205, 254, 98, 233] := key_lit (i := 8) zw32 zw33 zw34 zw35
theorem zk9 : keyN Z32 9 = [43, 49, 43, 223, 106, 205, 220, 143, 86, 188, 166, 181, 189, 187, 170, 30] := key_lit (i := 9) zw36 zw37 zw38 zw39
theorem zk10 : keyN Z32 10 = [100, 6, 253, 82, 164, 247, 144, 23, 85, 49, 115, 240, 152, 207, 17, 25] := key_lit (i := 10) zw40 zw41 zw42 zw43
theorem zk11 : keyN Z32 11 = [109, 187, 169, 11, 7, 118, 117, 132, 81, 202, 211, 49, 236, 113, 121, 47] := key_lit (i := 11) zw44 zw45 zw46 zw47
theorem zk12 : keyN Z32 12 = [231, 176, 232, 156, 67, 71, 120, 139, 22, 118, 11, 123, 142, 185, 26, 98] := key_lit (i := 12) zw48 zw49 zw50 zw51
theorem zk13 : keyN Z32 13 = [116, 237, 11, 161, 115, 155, 126, 37, 34, 81, 173, 20, 206, 32, 212, 59] := key_lit (i := 13) zw52 zw53 zw54 zw55
theorem zk14 : keyN Z32 14 = [16, 248, 10, 23, 83, 191, 114, 156, 69, 201, 121, 231, 203, 112, 99, 133] := key_lit (i := 14) zw56 zw57 zw58 zw59
theorem ze0 : encN Z32 Z16 0 = [0, 0, 0, 0, 0, 0, 0, 0, 0, 0, 0, 0, 0, 0, 0, 0] := rfl
theorem ze1 : encN Z32 Z16 1 = [0, 0, 0, 0, 0, 0, 0, 0, 0, 0, 0, 0, 0, 0, 0, 0] := by rw [encN, ze0, zk0]; decide +kernel
theorem ze2 : encN Z32 Z16 2 = [99, 99, 99, 99, 99, 99, 99, 99, 99, 99, 99, 99, 99, 99, 99, 99] := by rw [encN, ze1, zk1]; decide +kernel
theorem ze3 : encN Z32 Z16 3 = [153, 152, 152, 152, 153, 152, 152, 152, 153, 152, 152, 152, 153, 152, 152, 152] := by rw [encN, ze2, zk2]; decide +kernel
theorem ze4 : encN Z32 Z16 4 = [167, 21, 21, 94, 167, 21, 21, 94, 167, 21, 21, 94, 167, 21, 21, 94] := by rw [encN, ze3, zk3]; decide +kernel
theorem ze5 : encN Z32 Z16 5 = [61, 49, 51, 155, 95, 82, 80, 248, 61, 49, 51, 155, 95, 82, 80, 248] := by rw [encN, ze4, zk4]; decide +kernel
theorem ze6 : encN Z32 Z16 6 = [177, 181, 244, 66, 71, 205, 228, 103, 177, 181, 244, 66, 71, 205, 228, 103] := by rw [encN, ze5, zk5]; decide +kernel
theorem ze7 : encN Z32 Z16 7 = [62, 162, 105, 145, 36, 221, 49, 114, 92, 193, 10, 242, 70, 190, 82, 17] := by rw [encN, ze6, zk6]; decide +kernel
theorem ze8 : encN Z32 Z16 8 = [84, 138, 161, 181, 36, 187, 33, 107, 248, 44, 183, 51, 95, 242, 121, 177] := by rw [encN, ze7, zk7]; decide +kernel
theorem ze9 : encN Z32 Z16 9 = [154, 109, 79, 128, 92, 49, 57, 105, 190, 167, 206, 97, 244, 18, 108, 189] := by rw [encN, ze8, zk8]; decide +kernel
theorem ze10 : encN Z32 Z16 10 = [227, 224, 215, 180, 135, 2, 38, 220, 44, 245, 194, 248, 97, 165, 39, 47] := by rw [encN, ze9, zk9]; decide +kernel
theorem ze11 : encN Z32 Z16 11 = [239, 131, 238, 25, 250, 245, 110, 5, 53, 216, 137, 124, 211, 186, 41, 167] := by rw [encN, ze10, zk10]; decide +kernel
theorem ze12 : encN Z32 Z16 12 = [2, 29, 33, 136, 143, 185, 15, 132, 34, 188, 92, 154, 128, 126, 230, 214] := by rw [encN, ze11, zk11]; decide +kernel
theorem ze13 : encN Z32 Z16 13 = [79, 67, 92, 238, 64, 179, 62, 102, 135, 91, 107, 101, 54, 5, 76, 151] := by rw [encN, ze12, zk12]; decide +kernel
theorem ze14 : encN Z32 Z16 14 = [39, 186, 159, 47, 43, 179, 100, 126, 200, 125, 16, 106, 21, 145, 99, 6] := by rw [encN, ze13, zk13]; decide +kernel
theorem ze15 : encN Z32 Z16 15 = [220, 149, 192, 120, 162, 64, 137, 137, 173, 72, 162, 20, 146, 132, 32, 135] := by rw [encN, ze14, zk14]; decide +kernel
theorem enc_zero : encN (List.replicate 32 0) (List.replicate 16 0) 15 = [220, 149, 192, 120, 162, 64, 137, 137, 173, 72, 162, 20, 146, 132, 32, 135] := ze15
end Go.Proofs.Ytogbmekgmjmonaa

namespace Go.Proofs.Ytogbmekgmjmonaa
open Go.RowKit

def C16 : List Int := ctrN (List.replicate 12 0) 1
theorem zo0 : encN Z32 C16 0 = [0, 0, 0, 0, 0, 0, 0, 0, 0, 0, 0, 0, 0, 0, 0, 1] := by decide +kernel
theorem zo1 : encN Z32 C16 1 = [0, 0, 0, 0, 0, 0, 0, 0, 0, 0, 0, 0, 0, 0, 0, 1] := by rw [encN, zo0, zk0]; decide +kernel
theorem zo2 : encN Z32 C16 2 = [124, 124, 66, 93, 99, 99, 99, 99, 99, 99, 99, 99, 99, 99, 99, 99] := by rw [encN, zo1, zk1]; decide +kernel
theorem zo3 : encN Z32 C16 3 = [84, 115, 115, 190, 46, 47, 90, 237, 78, 250, 45, 79, 191, 85, 115, 115] := by rw [encN, zo2, zk2]; decide +kernel
theorem zo4 : encN Z32 C16 4 = [130, 13, 239, 83, 158, 180, 11, 77, 49, 232, 210, 83, 10, 171, 140, 193] := by rw [encN, zo3, zk3]; decide +kernel
theorem zo5 : encN Z32 C16 5 = [8, 194, 11, 50, 36, 104, 123, 143, 96, 246, 82, 253, 103, 77, 197, 56] := by rw [encN, zo4, zk4]; decide +kernel
theorem zo6 : encN Z32 C16 6 = [213, 48, 241, 113, 248, 22, 48, 105, 160, 142, 125, 47, 220, 142, 104, 169] := by rw [encN, zo5, zk5]; decide +kernel
theorem zo7 : encN Z32 C16 7 = [176, 16, 34, 193, 17, 68, 206, 175, 153, 228, 62, 200, 54, 175, 52, 181] := by rw [encN, zo6, zk6]; decide +kernel
theorem zo8 : encN Z32 C16 8 = [9, 67, 102, 235, 133, 252, 164, 76, 154, 186, 91, 11, 199, 227, 237, 46] := by rw [encN, zo7, zk7]; decide +kernel
theorem zo9 : encN Z32 C16 9 = [95, 170, 31, 192, 78, 131, 132, 143, 179, 32, 87, 68, 22, 252, 81, 189] := by rw [encN, zo8, zk8]; decide +kernel
theorem zo10 : encN Z32 C16 10 = [160, 170, 48, 214, 157, 69, 40, 247, 244, 130, 117, 148, 152, 69, 210, 18] := by rw [encN, zo9, zk9]; decide +kernel
theorem zo11 : encN Z32 C16 11 = [89, 79, 18, 19, 110, 189, 173, 164, 238, 54, 18, 144, 237, 180, 245, 15] := by rw [encN, zo10, zk10]; decide +kernel
theorem zo12 : encN Z32 C16 12 = [209, 178, 11, 18, 182, 175, 191, 39, 13, 234, 36, 159, 36, 243, 57, 1] := by rw [encN, zo11, zk11]; decide +kernel
theorem zo13 : encN Z32 C16 13 = [90, 90, 71, 105, 150, 227, 213, 69, 83, 10, 200, 188, 104, 34, 125, 170] := by rw [encN, zo12, zk12]; decide +kernel
theorem zo14 : encN Z32 C16 14 = [100, 254, 128, 194, 231, 38, 124, 255, 131, 20, 58, 215, 251, 98, 134, 131] := by rw [encN, zo13, zk13]; decide +kernel
theorem zo15 : encN Z32 C16 15 = [83, 15, 138, 251, 199, 69, 54, 185, 169, 99, 180, 241, 196, 203, 115, 139] := by rw [encN, zo14, zk14]; decide +kernel
theorem tag_zero : tagN (List.replicate 32 0) (List.replicate 12 0) [] [] = [83, 15, 138, 251, 199, 69, 54, 185, 169, 99, 180, 241, 196, 203, 115, 139] := by
  have e : rowN (List.replicate 32 0) (List.replicate 12 0) 1 = [83, 15, 138, 251, 199, 69, 54, 185, 169, 99, 180, 241, 196, 203, 115, 139] := zo15
  rw [tagN, e, show encN (List.replicate 32 0) (List.replicate 16 0) 15 = _ from enc_zero]
  decide +kernel
theorem seal_zero : sealN (List.replicate 32 0) (List.replicate 12 0) [] [] = [83, 15, 138, 251, 199, 69, 54, 185, 169, 99, 180, 241, 196, 203, 115, 139] := by
  rw [sealN, show hidN (List.replicate 32 0) (List.replicate 12 0) [] = [] from rfl, tag_zero]
  rfl
end Go.Proofs.Ytogbmekgmjmonaa
