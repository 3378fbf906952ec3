import Derived.Test.YtndkfjoaiinjoaaGreatBase27
import Derived.BigQuiet
import Derived.Test.YtndkfjoaiinjoaaGreatBase17
import Derived.Test.YtndkfjoaiinjoaaGreatBase14
import Derived.OwnWalk
import Derived.Test.YtndkfjoaiinjoaaGreatBase26
import Derived.Test.YtndkfjoaiinjoaaGreatBase13
import Derived.Test.YtndkfjoaiinjoaaGreatBase25
/- Package heap: right and Put, of a view. -/
namespace Go.Proofs.YtndkfjoaiinjoaaGreat.W
open Go.ChangeShapes Go.WideShapes Go.RowKit Go.Shelf
set_option linter.unusedVariables false
section
variable {W W' : World} {hb sb : Nat} {vc : Value} {T : Nat → Prop} {H : List (Option Hc)} {u h : Nat}
end
end Go.Proofs.YtndkfjoaiinjoaaGreat.W
/- Package heap: where bytes stand (place); Read, Write, of buffers and views; Set. -/
namespace Go.Proofs.YtndkfjoaiinjoaaGreat.W
open Go.ChangeShapes Go.WideShapes Go.RowKit Go.Shelf
set_option linter.unusedVariables false
section
variable {W W' : World} {hb sb : Nat} {vc : Value} {T : Nat → Prop} {H : List (Option Hc)} {u h : Nat}
end
end Go.Proofs.YtndkfjoaiinjoaaGreat.W
/- Package heap: place, of a view; Read, Write, of buffers and views; Set. -/
namespace Go.Proofs.YtndkfjoaiinjoaaGreat.W
open Go.ChangeShapes Go.WideShapes Go.RowKit Go.Shelf
set_option linter.unusedVariables false
section
variable {W W' : World} {hb sb : Nat} {vc : Value} {T : Nat → Prop} {H : List (Option Hc)} {u h : Nat}
/-- where the elements of a thing of bytes stand: cell t, of kind k2 and with the bytes bs, from p on; n bytes -/
structure Spot (H : List (Option Hc)) (w : Nat) (k : Int) (t p n : Nat) (k2 : Int) (bs : List Nat) : Prop where
  w64 : w < 18446744073709551616
  cell : H[t]? = some (some (.buf k2 bs))
  fit : p + n ≤ bs.length
  road : ∃ id, hit H w = some id ∧ ((H[id]? = some (some (.buf k bs)) ∧ t = id ∧ p = 0 ∧ n = bs.length ∧ k2 = k) ∨ ∃ ba c, H[id]? = some (some (.view k ba p c)) ∧ hit H ba = some t ∧ n = c * elB k)
end
section
variable {W0 W W1 W' : World} {hb : Nat} {H : List (Option Hc)} {u : Nat} {K : Nat → Prop}
theorem Hf.lay (q : Hf W0 W1 hb H u K) : ∃ sb vc T, HLay W1 hb sb vc T H u (sumH H) := by
  obtain ⟨_, S, h2, _⟩ := q
  exact h2.lay
end
end Go.Proofs.YtndkfjoaiinjoaaGreat.W
/- Put of buffers and rows, beside what a statement keeps. -/
namespace Go.Proofs.YtndkfjoaiinjoaaGreat.W
open Go.ChangeShapes Go.WideShapes Go.RowKit Go.Shelf
set_option linter.unusedVariables false
section
variable {W0 W W1 W' : World} {hb : Nat} {H : List (Option Hc)} {u : Nat} {K K' : Nat → Prop}
end
end Go.Proofs.YtndkfjoaiinjoaaGreat.W
/- slices.AppendSeq over a row's words; load and Get, of a row. -/
namespace Go.Proofs.YtndkfjoaiinjoaaGreat.W
open Go.ChangeShapes Go.WideShapes Go.RowKit Go.Shelf
set_option linter.unusedVariables false
section
variable {W W' : World} {hb sb : Nat} {vc : Value} {T : Nat → Prop} {H : List (Option Hc)} {u h : Nat}
/-- along AppendSeq: i words are there -/
structure AqI (B0 : Nat) (W : World) (hb sb : Nat) (vc : Value) (T : Nat → Prop) (H : List (Option Hc)) (u h id Bh Bi Bs : Nat) (ws : List Nat) (i : Nat) (W' : World) : Prop where
  lay : HLay W' hb sb vc T H u h
  b0 : Boxed W' Bh 22 (.pointer (some ⟨hb, 0, none⟩))
  b1 : Boxed W' Bi 3 (.int .i64 id)
  s : ∃ v, Boxed W' Bs 29 v ∧ W'.ownsRow B0 26 1 v i ((ws.take i).map (fun x => .int .u64 (x : Nat)))
  bel : Below B0 W W'
theorem AqI.upd {B0 id Bh Bi Bs i : Nat} {ws : List Nat} {w2 : World} {S : Nat → Prop} (hlo : hb < B0 ∧ (∀ k, vc.ownBlock = some k → k < B0) ∧ ∀ k, T k → k < B0) (q : AqI B0 W hb sb vc T H u h id Bh Bi Bs ws i W') (hu : Upd S W' w2) (hS : ∀ k, S k → B0 ≤ k) (h0 : ¬ S Bh) (h1 : ¬ S Bi) (h2 : ¬ S Bs) (h3 : ∀ v, Boxed W' Bs 29 v → ∀ k, v.ownBlock = some k → ¬ S k) (hz : B0 ≤ W.heap.size) : AqI B0 W hb sb vc T H u h id Bh Bi Bs ws i w2 := by
  obtain ⟨v, hv1, hv2⟩ := q.s
  have z := q.bel.size
  refine ⟨q.lay.upd hu (fun e => by have := hS _ e; omega) (fun k e e2 => by have := hlo.2.1 k e; have := hS _ e2; omega) (fun k e e2 => by have := hlo.2.2 k e; have := hS _ e2; omega), box_of (hu.block _ q.b0.lt h0) q.b0, box_of (hu.block _ q.b1.lt h1) q.b1, ⟨v, box_of (hu.block _ hv1.lt h2) hv1, owns_on hv2 (fun k e => hu.block k (hv2.lt k e).2 (h3 v hv1 k e))⟩, q.bel.trans (hu.below (by omega) hS)⟩
end
end Go.Proofs.YtndkfjoaiinjoaaGreat.W
