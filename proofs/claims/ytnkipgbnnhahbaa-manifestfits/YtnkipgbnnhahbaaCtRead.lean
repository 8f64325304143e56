/- Certificates as they are read, as functions. -/
import Derived.Test.YtnkipgbnnhahbaaCtSpec
import Derived.Test.YtnkipgbnnhahbaaPmTim
import Derived.Test.YtnkipgbnnhahbaaPmOid
import Derived.Test.YtnkipgbnnhahbaaCFaultN
namespace Go.Proofs.Ytnkipgbnnhahbaa
open Go.RowKit
open Classical
/-- an answer that is no error -/
def okO {α : Type} : Except Nat α → Option α
  | .ok a => some a
  | .error _ => none
/-- a number in an element; a small one; a serial number; a time; bits that all count -/
def numD : Tl → Option (List Int)
  | .mk c t m b _ => if c = 0 ∧ t = 2 ∧ m = false then okO (numP b) else none
def smlD : Tl → Option Int
  | .mk c t m b _ => if c = 0 ∧ t = 2 ∧ m = false then okO (smallP b) else none
def serD (T : Tl) : Option (List Int) := match numD T with
  | some n => if 0 < n.length ∧ n.length ≤ 20 then some n else none
  | none => none
def timD : Tl → Option Int
  | .mk c t m b _ => if c = 0 ∧ m = false then okO (timeP t b) else none
def bitD : Tl → Option (List Int)
  | .mk c t m b _ => if c = 0 ∧ t = 3 ∧ m = false then (match bitsP b with | .ok (x, n) => if n = 0 then some x else none | .error _ => none) else none
/-- a name in an element -/
noncomputable def namD (T : Tl) : Option (List Pn) := match readN T with
  | .ok n => if T = elemN n then some n else none
  | .error _ => none
/-- an identifier in an element -/
noncomputable def oidD : Tl → Option (List Int)
  | .mk c t m b ks => match oidP b with
    | .ok l => if Tl.mk c t m b ks = oidT l then some l else none
    | .error _ => none
/-- lists of names -/
def oneName : Tl → Option Tl
  | .mk _ _ _ _ [.mk _ _ _ _ [n]] => some n
  | _ => none
noncomputable def namsD (T : Tl) : Option (List (List Pn)) := match T with
  | .mk c t m b ks => match ks.mapM (fun k => (oneName k).bind namD) with
    | some l => if 0 < l.length ∧ l.length ≤ 8 ∧ Tl.mk c t m b ks = namesT t l then some l else none
    | none => none
/-- what the extensions say -/
structure Ex where
  ca : Bool
  path : Int
  usage : Int
  uses : List (List Int)
  permit : List (List Pn)
  exclude : List (List Pn)
  odd : Bool
/-- the number whose bits stand in the bytes -/
def useN : List Int → Nat
  | [x] => rev8 x.toNat
  | [x, y] => rev8 x.toNat + 256 * rev8 y.toNat
  | _ => 0
def isList : Tl → Bool
  | .mk c t m _ _ => decide (c = 0 ∧ t = 16 ∧ m = true)
def kidsT : Tl → List Tl
  | .mk _ _ _ _ ks => ks
def bodyB : Tl → List Int
  | .mk _ _ _ b _ => b
def tagOfT : Tl → Int
  | .mk _ t _ _ _ => t
noncomputable def inBasic (e : Ex) (T : Tl) : Option Ex :=
  if isList T = true then (match kidsT T with
    | [] => some { e with ca := false }
    | [y] => if y = yesT then some { e with ca := true } else none
    | [y, p] => if y = yesT then (match smlD p with | some v => some { e with ca := true, path := v } | none => none) else none
    | _ => none) else none
noncomputable def inUsage (e : Ex) (T : Tl) : Option Ex := match bodyB T with
  | _ :: bs => if (bs.length = 1 ∨ bs.length = 2) ∧ 0 < useN bs ∧ T = useT (useN bs) then some { e with usage := (useN bs : Int) } else none
  | [] => none
noncomputable def inUses (e : Ex) (T : Tl) : Option Ex := match (kidsT T).mapM oidD with
  | some l => if isList T = true ∧ 0 < l.length ∧ l.length ≤ 8 then some { e with uses := e.uses ++ l } else none
  | none => none
noncomputable def inLimits (e : Ex) (T : Tl) : Option Ex := if isList T = true then (match kidsT T with
    | [a] => (match namsD a with
      | some l => if tagOfT a = 0 then some { e with permit := l } else if tagOfT a = 1 then some { e with exclude := l } else none
      | none => none)
    | [a, b] => (match namsD a, namsD b with
      | some l, some k => if tagOfT a = 0 ∧ tagOfT b = 1 then some { e with permit := l, exclude := k } else none
      | _, _ => none)
    | _ => none) else none
/-- an extension, behind those that were seen -/
noncomputable def extD (e : Ex) (T : Tl) (seen : List (List Int)) : Option Ex :=
  if isList T = true then (match kidsT T with
    | [o, b] => extK e o false b seen
    | [o, y, b] => if y = yesT then extK e o true b seen else none
    | _ => none) else none
where extK (e : Ex) (o : Tl) (must : Bool) (b : Tl) (seen : List (List Int)) : Option Ex := match oidD o, b with
  | some l, .mk c t m x _ => if c = 0 ∧ t = 4 ∧ m = false ∧ bodyB o ∉ seen then
      (if l = [2, 5, 29, 19] ∨ l = [2, 5, 29, 15] ∨ l = [2, 5, 29, 37] ∨ l = [2, 5, 29, 30] then (match parseP x with
        | .ok X => if l = [2, 5, 29, 19] then inBasic e X else if l = [2, 5, 29, 15] then inUsage e X else if l = [2, 5, 29, 37] then inUses e X else inLimits e X
        | .error _ => none)
      else some { e with odd := e.odd || must }) else none
  | none, _ => none
noncomputable def extsD (e : Ex) : List Tl → List (List Int) → Option Ex
  | [], _ => some e
  | T :: Ts, seen => match extD e T seen with
    | some e' => extsD e' Ts (seen ++ [(kidsT T).head?.elim [] bodyB])
    | none => none
/-- a point's bytes, read -/
noncomputable def pntD (b : List Int) : Option (Int × Int) := if DecOk b then some (beN (ptX b), beN (ptY b)) else none
/-- a certificate's body, read: all but its bytes and its signature -/
noncomputable def bodyD (T : Tl) : Option Ct := match T with
  | .mk c t m _ [v, s, a, i, .mk c4 t4 m4 _ [f, u], j, .mk c6 t6 m6 _ [q, p], .mk c7 t7 m7 _ [x]] =>
    if c = 0 ∧ t = 16 ∧ m = true ∧ v = ownT 0 [.mk 0 2 false [2] []] ∧ a = algT ∧ c4 = 0 ∧ t4 = 16 ∧ m4 = true ∧ c6 = 0 ∧ t6 = 16 ∧ m6 = true ∧ q = curveT ∧ c7 = 2 ∧ t7 = 3 ∧ m7 = true ∧ isList x = true ∧ 0 < (kidsT x).length then
      (match serD s, namD i, timD f, timD u, namD j, (bitD p).bind pntD, extsD ⟨false, -1, -1, [], [], [], false⟩ (kidsT x) [] with
      | some s, some i, some f, some u, some j, some (kx, ky), some e => some ⟨s, i, j, f, u, kx, ky, false, e.ca, e.path, e.usage, e.uses, e.permit, e.exclude, e.odd, [], 0, 0⟩
      | _, _, _, _, _, _, _ => none)
    else none
  | _ => none
end Go.Proofs.Ytnkipgbnnhahbaa
