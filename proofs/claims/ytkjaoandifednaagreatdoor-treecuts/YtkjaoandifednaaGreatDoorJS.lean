import Derived.Test.YtkjaoandifednaaGreatDoorJC
import Derived.Test.YtkjaoandifednaaGreatDoorJP
import Derived.Test.YtkjaoandifednaaGreatDoorJR
import Derived.Sort.Grow
import Derived.Deep.QuietTactic
import Derived.BigQuiet
/- Chapter 11 in plain words: the texts of numbers are one piece each. -/
namespace Go.Proofs.YtkjaoandifednaaGreatDoor.W
set_option linter.unusedVariables false
theorem orPc_none {a b : Pc} (h : a.size = 0) : orPc a b = b := if_pos h
theorem orPc_some {a b : Pc} (h : ¬ a.size = 0) : orPc a b = a := if_neg h
theorem gap_none (c : UInt8) (r : List UInt8) (h1 : c ≠ 35) (h2 : blankB c = false) : (gapP (c :: r)).size = 0 := by
  show gapN (c :: r) = 0
  unfold gapN
  rw [if_neg (by intro h; injection h with h; exact h1 h), runN_cons_f h2]
end Go.Proofs.YtkjaoandifednaaGreatDoor.W
/- Chapter 11 in plain words: the text of a double is one piece. -/
namespace Go.Proofs.YtkjaoandifednaaGreatDoor.W
set_option linter.unusedVariables false
end Go.Proofs.YtkjaoandifednaaGreatDoor.W
/- What Tokens tells of the texts of numbers. -/
namespace Go.Proofs.YtkjaoandifednaaGreatDoor.W
set_option linter.unusedVariables false
end Go.Proofs.YtkjaoandifednaaGreatDoor.W
/- What Tokens tells of the texts of numbers, as plain data. -/
namespace Go.Proofs.YtkjaoandifednaaGreatDoor.W
set_option linter.unusedVariables false
section
variable {f a : Nat} {l : List UInt8} {p : Pc}
end
/-- the three ways of a number's text -/
inductive NumY (b : Bool) (i u : Int) (l : List UInt8) : Prop where
  | least (h1 : b = true) (h2 : i = -9223372036854775808) (h3 : srcY l = [⟨⟨3, bytesOf [45], 0, 0⟩, 0, 0, 0⟩, ⟨noTk, 0, 62, 1⟩]) : NumY b i u l
  | minus (t : Tk) (r : List UInt8) (h1 : b = true → i ≠ -9223372036854775808) (h2 : l = 45 :: r) (h3 : srcY l = [⟨⟨3, bytesOf [45], 0, 0⟩, 0, 0, 0⟩, ⟨t, 1, 0, 0⟩, ⟨endTk, (l.length : Nat), 0, 0⟩]) : NumY b i u l
  | plain (t : Tk) (h1 : b = true → i ≠ -9223372036854775808) (h2 : l.head? ≠ some 45) (h3 : srcY l = [⟨t, 0, 0, 0⟩, ⟨endTk, (l.length : Nat), 0, 0⟩]) (h4 : b = true → t.kind = 4 ∧ t.int = i) (h5 : b = false → t.kind = 5 ∧ t.bits = (readF l).1) : NumY b i u l
end Go.Proofs.YtkjaoandifednaaGreatDoor.W
/- Package lex: All, where there is no fault, and where there is one; awake. -/
namespace Go.Proofs.YtkjaoandifednaaGreatDoor.W
open Go.ChangeShapes Go.WideShapes Go.RowKit Go.Shelf
set_option linter.unusedVariables false
/-- tokens in a row of one's own -/
def TokRow (W : World) (B g cap : Nat) (Ys : List Yd) : Prop := B ≤ g ∧ g < W.heap.size ∧ Ys.length ≤ cap ∧ ∀ k, k < 5 * Ys.length → W.cell? ⟨g, k, none⟩ = (rowsY Ys)[k]?
theorem TokRow.below {W W' : World} {B g cap : Nat} {Ys : List Yd} (h : TokRow W B g cap Ys) (hB : Below W.heap.size W W') : TokRow W' B g cap Ys :=
  ⟨h.1, Nat.lt_of_lt_of_le h.2.1 hB.size, h.2.2.1, fun k hk => (hB.cell (p := ⟨g, k, none⟩) h.2.1).trans (h.2.2.2 k hk)⟩
end Go.Proofs.YtkjaoandifednaaGreatDoor.W
/- Along the statements of package lex. -/
namespace Go.Proofs.YtkjaoandifednaaGreatDoor.W
open Go.ChangeShapes Go.WideShapes Go.RowKit Go.Shelf
set_option linter.unusedVariables false
/-- a world with what lies below it -/
structure BW (w : World) where
  w' : World
  h : Below w.heap.size w w'
theorem wp_region_quiet_below {id : Nat} {Q : Exit → Act → World → Prop} {a : Act} {w : World} {l : List Oper} (hm : Tryz.prog.follows .mixedOrders = true) (hB : Region.lexB .any l.toArray = true)
    (h : wpQuiet Tryz.prog l.toArray (fun w' => ∃ p : BW w, w' = p.w') (fun a' => ∀ w', (∃ p : BW w, w' = p.w') → Q .normal a' w') l a) : (Code.region id l.toArray true).wp Tryz.prog Q a w :=
  wp_region_quiet (C := fun w' => ∃ p : BW w, w' = p.w') hm hB ⟨⟨w.drew, (Below.refl _ w).drew⟩, rfl⟩ (by simpa using h)
theorem BW.calls {P : Program} {f : FuncId} {args : Array Value} {w : World} {p : BW w} {v : Value} (h : Calls P f args p.w' fun e w' => e = .returned v ∧ Below p.w'.heap.size p.w' w') : Calls P f args p.w' fun e w'' => e = .returned v ∧ ∃ p' : BW w, w'' = p'.w' :=
  h.mono fun _ w'' ⟨he, hB⟩ => ⟨he, ⟨w'', p.h.trans (hB.mono p.h.size)⟩, rfl⟩
theorem BW.cell {w : World} {a : Addr} {v : Value} (h : w.cell? a = some v) (p : BW w) : p.w'.cell? a = some v := It.below_cell p.h h
/-- along a statement: all is kept that was there, the tables and the marks lie where they lie -/
structure Sx (w W : World) : Prop where
  bel : Below w.heap.size w W
  tabs : Tabs W
  marks : MarksIn W
theorem Sx.go {w W W' : World} (h : Sx w W) (hb : Below W.heap.size W W') : Sx w W' := ⟨h.bel.trans (hb.mono h.bel.size), h.tabs.below hb, h.marks.below hb⟩
theorem Sx.alloc {w W : World} (h : Sx w W) (o : Obj) : Sx w (W.alloc o) := h.go ((Below.refl _ W).alloc (Nat.le_refl _) o)
theorem Sx.refl {w : World} (ht : Tabs w) (hm : MarksIn w) : Sx w w := ⟨Below.refl _ w, ht, hm⟩
structure Blk (w : World) (b : Nat) (c : Array Value) : Prop where
  lt : b < w.heap.size
  cells : ∀ i, w.cell? ⟨b, i, none⟩ = c[i]?
theorem Blk.go {w w2 : World} {b : Nat} {c : Array Value} (h : Blk w b c) (hb : Below w.heap.size w w2) : Blk w2 b c :=
  ⟨Nat.lt_of_lt_of_le h.lt hb.size, fun i => by rw [hb.cell h.lt]; exact h.cells i⟩
theorem Blk.alloc {w : World} {b : Nat} {c : Array Value} (h : Blk w b c) (o : Obj) : Blk (w.alloc o) b c := h.go ((Below.refl _ _).alloc (Nat.le_refl _) o)
end Go.Proofs.YtkjaoandifednaaGreatDoor.W
