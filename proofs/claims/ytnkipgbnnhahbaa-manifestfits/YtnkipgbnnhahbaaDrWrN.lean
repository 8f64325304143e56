/- What is amiss with an element that is to be written. -/
import Derived.Test.YtnkipgbnnhahbaaDrByN
namespace Go.Proofs.Ytnkipgbnnhahbaa
/-- what is amiss with an element that is to be written; none: 0 -/
noncomputable def wrN (T : Tl) : Nat := if fineT T = true then (if 16 < depT T then 9 else if 1048576 < (bytesT T).length then 2 else 0) else 1
end Go.Proofs.Ytnkipgbnnhahbaa
