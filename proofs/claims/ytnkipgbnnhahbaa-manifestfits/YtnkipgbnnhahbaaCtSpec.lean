/- Certificates and their elements, as functions. -/
import Derived.Test.YtnkipgbnnhahbaaCtBase
import Derived.Test.YtnkipgbnnhahbaaNmSpec
import Derived.Test.YtnkipgbnnhahbaaPmOidN
import Derived.Test.YtnkipgbnnhahbaaPmNum
import Derived.Test.YtnkipgbnnhahbaaPmTof
import Derived.Test.YtnkipgbnnhahbaaDrPar
import Derived.Test.YtnkipgbnnhahbaaCFaultN
namespace Go.Proofs.Ytnkipgbnnhahbaa
open Go.RowKit
/-- a list, an element of class 2, a truth that is true -/
def listT (ks : List Tl) : Tl := .mk 0 16 true [] ks
def ownT (tag : Int) (ks : List Tl) : Tl := .mk 2 tag true [] ks
def yesT : Tl := .mk 0 1 false [255] []
/-- what is answered, or no bytes -/
def orNil : Except Nat (List Int) → List Int
  | .ok b => b
  | .error _ => []
/-- an identifier's element -/
def oidT (l : List Int) : Tl := .mk 0 6 false (orNil (oidOf l)) []
def algT : Tl := listT [oidT [1, 2, 840, 10045, 4, 3, 3]]
def curveT : Tl := listT [oidT [1, 2, 840, 10045, 2, 1], oidT [1, 3, 132, 0, 34]]
/-- the bits of a byte, the other way round -/
def rev8 (n : Nat) : Nat := 128 * (n % 2) + 64 * (n / 2 % 2) + 32 * (n / 4 % 2) + 16 * (n / 8 % 2) + 8 * (n / 16 % 2) + 4 * (n / 32 % 2) + 2 * (n / 64 % 2) + n / 128 % 2
/-- how many of the lowest bits of a byte are 0 -/
def low0 : Nat → Nat → Nat
  | 0, _ => 0
  | k + 1, n => if n % 2 = 0 then 1 + low0 k (n / 2) else 0
/-- the bytes of a usage -/
def useB (n : Nat) : List Int := if rev8 (n / 256) = 0 then [(low0 8 (rev8 n) : Int), (rev8 n : Int)] else [(low0 8 (rev8 (n / 256)) : Int), (rev8 n : Int), (rev8 (n / 256) : Int)]
def useT (n : Nat) : Tl := .mk 0 3 false (useB n) []
/-- of Permit, or of Exclude -/
def namesT (tag : Int) (l : List (List Pn)) : Tl := ownT tag (l.map fun n => listT [ownT 4 [elemN n]])
/-- the bytes of an element, or none -/
noncomputable def wrB (T : Tl) : List Int := if wrN T = 0 then bytesT T else []
/-- an extension -/
noncomputable def extT (kind : Int) (must : Bool) (T : Tl) : Tl := listT ([oidT [2, 5, 29, kind]] ++ (if must then [yesT] else []) ++ [.mk 0 4 false (wrB T) []])
/-- a serial number's element, a time's; or none -/
def serT (n : List Int) : Option Tl := if n.length < 1 ∨ 20 < n.length ∨ n.getD 0 0 = 0 then none else some (.mk 0 2 false (orNil (numOf n)) [])
def timT (v : Int) : Option Tl := match timeOf v with | .ok (a, b) => some (.mk 0 a false b []) | .error _ => none
/-- may it be a certificate? -/
def MayC (c : Ct) : Prop := c.odd = false ∧ ¬ c.path < -1 ∧ ¬ (-1 < c.path ∧ c.ca = false) ∧ ¬ 2147483647 < c.path ∧ ¬ c.usage = 0 ∧ ¬ c.usage < -1 ∧ ¬ 65535 < c.usage ∧ c.uses.length ≤ 8 ∧ c.permit.length ≤ 8 ∧ c.exclude.length ≤ 8 ∧ (∀ l ∈ c.uses, ∃ b, oidOf l = .ok b) ∧ (∀ n ∈ [c.issuer, c.subject] ++ c.permit ++ c.exclude, mayN n = true) ∧ (∃ T, serT c.serial = some T) ∧ (∃ T, timT c.frm = some T) ∧ (∃ T, timT c.til = some T) ∧ IsOn c.kn c.kx c.ky ∧ c.kn = false
/-- a point's bytes -/
def pntB (X Y : Int) (p : List Int) : Prop := ∃ XB YB, XB.length = 48 ∧ byt XB ∧ beN XB = X ∧ YB.length = 48 ∧ byt YB ∧ beN YB = Y ∧ p = 4 :: (XB ++ YB)
noncomputable def orT : Option Tl → Tl
  | some T => T
  | none => .mk 0 0 false [] []
/-- what is said of Ca and Path -/
def basicL (c : Ct) : List Tl := (if c.ca = true then [yesT] else []) ++ (if 0 ≤ c.path then [.mk 0 2 false (orNil (smallOf c.path)) []] else [])
def limitL (c : Ct) : List Tl := (if 0 < c.permit.length then [namesT 0 c.permit] else []) ++ (if 0 < c.exclude.length then [namesT 1 c.exclude] else [])
/-- the extensions -/
noncomputable def moreL (c : Ct) : List Tl := [extT 19 true (listT (basicL c))] ++ (if 0 < c.usage then [extT 15 true (useT c.usage.toNat)] else []) ++ (if 0 < c.uses.length then [extT 37 false (listT (c.uses.map oidT))] else []) ++ (if 0 < (limitL c).length then [extT 30 true (listT (limitL c))] else [])
/-- a certificate's body, with a point's bytes -/
noncomputable def ctBody (c : Ct) (p : List Int) : Tl :=
  listT [ownT 0 [.mk 0 2 false [2] []], orT (serT c.serial), algT, elemN c.issuer, listT [orT (timT c.frm), orT (timT c.til)], elemN c.subject, listT [curveT, .mk 0 3 false (0 :: p) []], ownT 3 [listT (moreL c)]]
/-- a body, signed -/
def sealT (T : Tl) (sig : List Int) : Tl := listT [T, algT, .mk 0 3 false (0 :: sig) []]
end Go.Proofs.Ytnkipgbnnhahbaa
