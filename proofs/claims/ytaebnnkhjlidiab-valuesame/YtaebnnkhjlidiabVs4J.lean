import Derived.Test.YtaebnnkhjlidiabVs3J
/- Two values in boxes of their own. -/
namespace Go.Proofs.Ytaebnnkhjlidiab.W
open Go.ChangeShapes Go.WideShapes Go.RowKit Go.Shelf
set_option linter.unusedVariables false
theorem Un.bits {H : List (Option Hc)} {w : Nat} {x : Pl} (h : Un H w x) : 0 ≤ x.bi ∧ x.bi < 18446744073709551616 := by
  rcases h with ⟨rfl, _⟩ | ⟨b, rfl, _⟩ | ⟨i, rfl, _⟩ | ⟨b, rfl, b0, b1, _⟩ | ⟨t, rfl, _⟩ | ⟨id, rfl, _⟩
  · exact ⟨by decide, by decide⟩
  · exact ⟨by simp [pBool], by simp [pBool]⟩
  · exact ⟨by simp [pInt], by simp [pInt]⟩
  · exact ⟨b0, b1⟩
  · exact ⟨by simp [pTxt], by simp [pTxt]⟩
  · exact ⟨by simp [pRow], by simp [pRow]⟩
theorem Vs.wordAt {W0 W : World} {hb u n : Nat} {H : List (Option Hc)} {K : Nat → Prop} {vl : Value} {xs : List Pl} {ws : List Nat} {wb m cap : Nat} (s : Vs W0 W hb u n H K vl (.slice (some ⟨wb, 0, none⟩) m cap) xs ws) (hm : ws.length = m) (k x : Nat) (hx : ws[k]? = some x) : W.cell? ⟨wb, k, none⟩ = some (.int .u64 (x : Nat)) := by
  subst hm
  have hk := (List.getElem?_eq_some_iff.1 hx).1
  rw [s.w.row.cellAt k (by omega)]
  unfold wds
  rw [List.getElem?_map, hx]
  rfl
/-- five cells are written -/
def put5 (W : World) (b : Nat) (x : Pl) : World := ((((W.setCell ⟨b, 0, none⟩ (.int .i64 x.kd)).setCell ⟨b, 1, none⟩ (.int .i64 x.i)).setCell ⟨b, 2, none⟩ (.int .u64 x.bi)).setCell ⟨b, 3, none⟩ (.string x.t)).setCell ⟨b, 4, none⟩ (.int .u64 x.re)
theorem put5_far (W : World) (b : Nat) (x : Pl) (k : Nat) (h : k ≠ b) : (put5 W b x).heap[k]? = W.heap[k]? := by
  unfold put5
  rw [Below.heap_setCell _ _ _ _ h, Below.heap_setCell _ _ _ _ h, Below.heap_setCell _ _ _ _ h, Below.heap_setCell _ _ _ _ h, Below.heap_setCell _ _ _ _ h]
/-- two boxes that were laid behind W0 -/
structure Bx (W0 W : World) (xb yb : Nat) (x y : Pl) : Prop where
  bel : Below W0.heap.size W0 W
  ne : xb ≠ yb
  gx : W0.heap.size ≤ xb
  gy : W0.heap.size ≤ yb
  fx : W.heap[xb]? = some (.cells #[.int .i64 x.kd, .int .i64 x.i, .int .u64 x.bi, .string x.t, .int .u64 x.re] 40 (0, 0))
  fy : W.heap[yb]? = some (.cells #[.int .i64 y.kd, .int .i64 y.i, .int .u64 y.bi, .string y.t, .int .u64 y.re] 40 (0, 0))
section
variable {W0 W : World} {xb yb : Nat} {x y : Pl}
theorem Bx.swap (h : Bx W0 W xb yb x y) : Bx W0 W yb xb y x := ⟨h.bel, fun e => h.ne e.symm, h.gy, h.gx, h.fy, h.fx⟩
theorem Bx.putx (h : Bx W0 W xb yb x y) (x' : Pl) : Bx W0 (put5 W xb x') xb yb x' y :=
  ⟨five_below h.bel h.gx _ _ _ _ _, h.ne, h.gx, h.gy, five_set h.fx _ _ _ _ _, (put5_far W xb x' yb (fun e => h.ne e.symm)).trans h.fy⟩
theorem Bx.puty (h : Bx W0 W xb yb x y) (y' : Pl) : Bx W0 (put5 W yb y') xb yb x y' := (h.swap.putx y').swap
theorem Bx.setx (h : Bx W0 W xb yb x y) (b : Int) : Bx W0 (W.setCell ⟨xb, 2, none⟩ (.int .u64 b)) xb yb { x with bi := b } y := by
  have f : W.heap[xb]? = some (.cells [Value.int .i64 x.kd, .int .i64 x.i, .int .u64 x.bi, .string x.t, .int .u64 x.re].toArray 40 (0, 0)) := h.fx
  exact ⟨h.bel.setCell (p := ⟨xb, 2, none⟩) h.gx _, h.ne, h.gx, h.gy, heap_set f 2 _, (Below.heap_setCell _ _ _ _ (fun e => h.ne e.symm)).trans h.fy⟩
theorem Bx.sety (h : Bx W0 W xb yb x y) (b : Int) : Bx W0 (W.setCell ⟨yb, 2, none⟩ (.int .u64 b)) xb yb x { y with bi := b } := (h.swap.setx b).swap
theorem Bx.drew (h : Bx W0 W xb yb x y) : Bx W0 W.drew xb yb x y := ⟨h.bel.drew, h.ne, h.gx, h.gy, h.fx, h.fy⟩
/-- what lies in the first box -/
def Five (W : World) (b : Nat) (x : Pl) : Prop := W.cell? ⟨b, 0, none⟩ = some (.int .i64 x.kd) ∧ W.cell? ⟨b, 1, none⟩ = some (.int .i64 x.i) ∧ W.cell? ⟨b, 2, none⟩ = some (.int .u64 x.bi) ∧ W.cell? ⟨b, 3, none⟩ = some (.string x.t) ∧ W.cell? ⟨b, 4, none⟩ = some (.int .u64 x.re) ∧ ∀ j, W.frozen? ⟨b, j, none⟩ = false
theorem Bx.cx (h : Bx W0 W xb yb x y) : Five W xb x := by
  have c := fun j => cell_of_row W xb j _ _ _ h.fx
  exact ⟨c 0, c 1, c 2, c 3, c 4, fun j => by simp [World.frozen?, h.fx]⟩
theorem Bx.cy (h : Bx W0 W xb yb x y) : Five W yb y := h.swap.cx
theorem Bx.on {W' : World} (h : Bx W0 W xb yb x y) (hB : Below W.heap.size W W') : Bx W0 W' xb yb x y :=
  ⟨h.bel.trans (hB.mono h.bel.size), h.ne, h.gx, h.gy, (hB.block xb (Array.getElem?_eq_some_iff.1 h.fx).1).trans h.fx, (hB.block yb (Array.getElem?_eq_some_iff.1 h.fy).1).trans h.fy⟩
/-- laid, one behind the other -/
theorem bx_next {Wa : World} (hB : Below W.heap.size W Wa) (f : Wa.heap[W.heap.size]? = some (.cells #[.int .i64 0, .int .i64 0, .int .u64 0, .string ⟨#[]⟩, .int .u64 0] 40 (0, 0))) : Bx W (Wa.alloc (.cells #[.int .i64 0, .int .i64 0, .int .u64 0, .string ⟨#[]⟩, .int .u64 0] 40)) W.heap.size Wa.heap.size pNil pNil := by
  have hl := (Array.getElem?_eq_some_iff.1 f).1
  exact ⟨hB.alloc hB.size _, by omega, Nat.le_refl _, hB.size, (Below.heap_alloc _ _ _ hl).trans f, World.alloc_heap_new Wa _⟩
end
end Go.Proofs.Ytaebnnkhjlidiab.W
