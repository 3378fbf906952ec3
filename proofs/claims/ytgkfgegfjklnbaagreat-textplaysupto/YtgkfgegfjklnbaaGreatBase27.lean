import Derived.Test.YtgkfgegfjklnbaaGreatBase24
import Derived.Test.YtgkfgegfjklnbaaGreatBase26
import Derived.BigQuiet
import Derived.Test.YtgkfgegfjklnbaaGreatBase17
import Derived.Test.YtgkfgegfjklnbaaGreatBase14
import Derived.OwnWalk
import Derived.Test.YtgkfgegfjklnbaaGreatBase25
/- Package heap: load and Get, of a buffer and of a view. -/
namespace Go.Proofs.YtgkfgegfjklnbaaGreat.W
open Go.ChangeShapes Go.WideShapes Go.RowKit Go.Shelf
set_option linter.unusedVariables false
section
variable {W W' : World} {hb sb : Nat} {vc : Value} {T : Nat → Prop} {H : List (Option Hc)} {u h : Nat}
end
end Go.Proofs.YtgkfgegfjklnbaaGreat.W
/- Package heap: right and Put, of a buffer. -/
namespace Go.Proofs.YtgkfgegfjklnbaaGreat.W
open Go.ChangeShapes Go.WideShapes Go.RowKit Go.Shelf
set_option linter.unusedVariables false
section
variable {W W' : World} {hb sb : Nat} {vc : Value} {T : Nat → Prop} {H : List (Option Hc)} {u h : Nat}
end
end Go.Proofs.YtgkfgegfjklnbaaGreat.W
/- Package heap: right and Put, of a view. -/
namespace Go.Proofs.YtgkfgegfjklnbaaGreat.W
open Go.ChangeShapes Go.WideShapes Go.RowKit Go.Shelf
set_option linter.unusedVariables false
section
variable {W W' : World} {hb sb : Nat} {vc : Value} {T : Nat → Prop} {H : List (Option Hc)} {u h : Nat}
end
end Go.Proofs.YtgkfgegfjklnbaaGreat.W
/- Package heap: where bytes stand (place); Read, Write, of buffers and views; Set. -/
namespace Go.Proofs.YtgkfgegfjklnbaaGreat.W
open Go.ChangeShapes Go.WideShapes Go.RowKit Go.Shelf
set_option linter.unusedVariables false
section
variable {W W' : World} {hb sb : Nat} {vc : Value} {T : Nat → Prop} {H : List (Option Hc)} {u h : Nat}
end
end Go.Proofs.YtgkfgegfjklnbaaGreat.W
/- Package heap: place, of a view; Read, Write, of buffers and views; Set. -/
namespace Go.Proofs.YtgkfgegfjklnbaaGreat.W
open Go.ChangeShapes Go.WideShapes Go.RowKit Go.Shelf
set_option linter.unusedVariables false
section
variable {W W' : World} {hb sb : Nat} {vc : Value} {T : Nat → Prop} {H : List (Option Hc)} {u h : Nat}
/-- where the elements of a thing of bytes stand: cell t, of kind k2 and with the bytes bs, from p on; n bytes -/
structure Spot (H : List (Option Hc)) (w : Nat) (k : Int) (t p n : Nat) (k2 : Int) (bs : List Nat) : Prop where
  w64 : w < 18446744073709551616
  cell : H[t]? = some (some (.buf k2 bs))
  fit : p + n ≤ bs.length
  road : ∃ id, hit H w = some id ∧ ((H[id]? = some (some (.buf k bs)) ∧ t = id ∧ p = 0 ∧ n = bs.length ∧ k2 = k) ∨ ∃ ba c, H[id]? = some (some (.view k ba p c)) ∧ hit H ba = some t ∧ n = c * elB k)
end
section
variable {W0 W W1 W' : World} {hb : Nat} {H : List (Option Hc)} {u : Nat} {K : Nat → Prop}
theorem Hf.lay (q : Hf W0 W1 hb H u K) : ∃ sb vc T, HLay W1 hb sb vc T H u (sumH H) := by
  obtain ⟨_, S, h2, _⟩ := q
  exact h2.lay
end
end Go.Proofs.YtgkfgegfjklnbaaGreat.W
/- Put of buffers and rows, beside what a statement keeps. -/
namespace Go.Proofs.YtgkfgegfjklnbaaGreat.W
open Go.ChangeShapes Go.WideShapes Go.RowKit Go.Shelf
set_option linter.unusedVariables false
section
variable {W0 W W1 W' : World} {hb : Nat} {H : List (Option Hc)} {u : Nat} {K K' : Nat → Prop}
end
end Go.Proofs.YtgkfgegfjklnbaaGreat.W
