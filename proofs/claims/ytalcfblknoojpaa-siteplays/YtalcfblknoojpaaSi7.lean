/- A site along a row of pairs; what a statement keeps beside it. -/
import Derived.Test.YtalcfblknoojpaaSi6
import Derived.Test.YtalcfblknoojpaaSiOpen
import Derived.Deep.RegionHeld3
namespace Go.Proofs.Ytalcfblknoojpaa.W.Si
open Go.ChangeShapes Go.WideShapes Go.RowKit
set_option linter.unusedVariables false
/-- behind k pairs -/
def runS (N : Nat → Int) : Nat → Sp
  | 0 => new
  | k + 1 => onS (runS N k) (N k)
theorem run_ok (N : Nat → Int) (k : Nat) : Ok (2 * k) (runS N k) := by
  induction k with
  | zero => exact ok_new
  | succ k ih =>
    have := (ok_on ih (N k)).1
    show Ok (2 * ((k + 1 : Nat) : Int)) _
    rw [show 2 * ((k + 1 : Nat) : Int) = 2 * (k : Int) + 2 by omega]
    exact this
theorem run_stop (N : Nat → Int) (k : Nat) : StopI (runS N k) := by
  induction k with
  | zero => exact (⟨by decide, fun _ => rfl⟩ : StopI new)
  | succ k ih => exact (stop_step (N k) ih).1
/-- behind k acts -/
def playS (F : Nat → Bool) (N : Nat → Int) : Nat → Sp
  | 0 => new
  | k + 1 => if F k = true then forceS (playS F N k) (N k) else onS (playS F N k) (N k)
theorem play_ok (F : Nat → Bool) (N : Nat → Int) (k : Nat) : Ok (2 * k) (playS F N k) := by
  induction k with
  | zero => exact ok_new
  | succ k ih =>
    show Ok (2 * ((k + 1 : Nat) : Int)) (if F k = true then _ else _)
    rw [show 2 * ((k + 1 : Nat) : Int) = 2 * (k : Int) + 2 by omega]
    split
    · exact ok_force ih (N k)
    · exact (ok_on ih (N k)).1
/-- behind m more of one kind -/
def moreS (s : Sp) (k : Int) : Nat → Sp
  | 0 => s
  | m + 1 => onS (moreS s k m) k
theorem more_ok {n : Int} {s : Sp} (h : Ok n s) (k : Int) (m : Nat) : Ok (n + 2 * m) (moreS s k m) := by
  induction m with
  | zero => show Ok (n + 2 * ((0 : Nat) : Int)) s; simpa using h
  | succ m ih =>
    have := (ok_on ih k).1
    show Ok (n + 2 * ((m + 1 : Nat) : Int)) _
    rw [show n + 2 * ((m + 1 : Nat) : Int) = n + 2 * (m : Int) + 2 by omega]
    exact this
theorem more_warm {n : Int} {s : Sp} (h : Ok n s) (k : Int) (hk : k = 1 ∨ k = 2) (hf : s.fails < 4) (hF : s.form = 0 ∨ s.form = k) (m : Nat) : WarmI s.gen s.fast s.fails k m (moreS s k m) := by
  induction m with
  | zero => exact warm_start h k hf hF
  | succ m ih => exact warm_step hk hf ih
theorem norm_told (a : Int) (s : Sp) : told a (norm s) = .agg #[.int .i64 a, .int .i64 s.form, .int .i64 s.gen, .int .i64 s.fast, .int .i64 s.fails] := rfl
theorem IntsAt.cell {w w' : World} {a : Addr} {l c : Nat} {N : Nat → Int} (h : IntsAt w (some a) l c N) (hb : Below w.heap.size w w') {i : Nat} (hi : i < l) : w'.cell? (a.add i) = some (.int .i64 (N i)) := by
  rcases h with ⟨e, _⟩ | ⟨b, e, _, _, h⟩
  · cases e
  · injection e with e
    subst e
    have hc := h i hi
    exact (hb.cell (World.block_lt_of_cell? w _ hc)).trans hc
theorem IntsAt.some {w : World} {o : Option Addr} {l c : Nat} {N : Nat → Int} (h : IntsAt w o l c N) : (o = none ∧ l = 0) ∨ ∃ a, o = some a := by
  rcases h with h | ⟨b, e, _⟩
  · exact .inl h
  · exact .inr ⟨b, e⟩
theorem add_next (a : Addr) (n : Nat) : a.add (n + 1) = ⟨(a.add n).block, (a.add n).off + 1, none⟩ := by
  unfold Addr.add
  rw [if_neg (by omega)]
  split
  · rename_i h; subst h; rfl
  · simp; omega
theorem ActsAt.cell {w w' : World} {a : Addr} {l c : Nat} {F : Nat → Bool} {N : Nat → Int} (h : ActsAt w (some a) l c F N) (hb : Below w.heap.size w w') {i : Nat} (hi : i < l) : w'.cell? (a.add (i * 2)) = some (.bool (F i)) ∧ w'.cell? ⟨(a.add (i * 2)).block, (a.add (i * 2)).off + 1, none⟩ = some (.int .i64 (N i)) := by
  rcases h with ⟨e, _⟩ | ⟨b, e, _, _, h⟩
  · cases e
  · injection e with e
    subst e
    obtain ⟨h1, h2⟩ := h i hi
    rw [← add_next]
    exact ⟨(hb.cell (World.block_lt_of_cell? w _ h1)).trans h1, (hb.cell (World.block_lt_of_cell? w _ h2)).trans h2⟩
theorem ActsAt.some {w : World} {o : Option Addr} {l c : Nat} {F : Nat → Bool} {N : Nat → Int} (h : ActsAt w o l c F N) : (o = none ∧ l = 0) ∨ ∃ a, o = some a := by
  rcases h with h | ⟨b, e, _⟩
  · exact .inl h
  · exact .inr ⟨b, e⟩
/-- what was told, in a block of its own -/
def Tv (W : World) (b : Nat) (x0 x1 x2 x3 x4 : Int) : Prop := W.heap[b]? = some (.cells #[Value.int .i64 x0, .int .i64 x1, .int .i64 x2, .int .i64 x3, .int .i64 x4] 27 (0, 0))
section
variable {W W' : World} {b m : Nat} {x0 x1 x2 x3 x4 : Int}
theorem Tv.cells (h : Tv W b x0 x1 x2 x3 x4) : ∀ j, W.cell? ⟨b, j, none⟩ = #[Value.int .i64 x0, .int .i64 x1, .int .i64 x2, .int .i64 x3, .int .i64 x4][j]? := fun j => cell_of_row W b j _ _ (0, 0) h
theorem Tv.lt (h : Tv W b x0 x1 x2 x3 x4) : b < W.heap.size := by
  unfold Tv at h
  false_or_by_contra
  rw [Array.getElem?_eq_none (by omega)] at h
  cases h
theorem Tv.below (h : Tv W b x0 x1 x2 x3 x4) (hb : Below W.heap.size W W') : Tv W' b x0 x1 x2 x3 x4 := (hb.block b h.lt).trans h
theorem Tv.upd (h : Tv W b x0 x1 x2 x3 x4) (u : Upd (fun x => x = m) W W') (hm : b ≠ m) : Tv W' b x0 x1 x2 x3 x4 := (u.block b h.lt hm).trans h
theorem Tv.new (W : World) (x0 x1 x2 x3 x4 : Int) : Tv (W.alloc (.cells #[.int .i64 x0, .int .i64 x1, .int .i64 x2, .int .i64 x3, .int .i64 x4] 27)) W.heap.size x0 x1 x2 x3 x4 := heap_alloc_new W _
end
/-- a site, one block beside it -/
theorem SvS.alloc {W W' : World} {t : TypeId} {b : Nat} {a : Int} {s : Sp} (h : SvS W t b a s) (hb : Below W.heap.size W W') (o : Obj) : SvS (W'.alloc o) t b a s := Sv.below (Sv.below h hb) ((Below.refl _ W').alloc (Nat.le_refl _) o)
theorem bel_alloc {n : Nat} {a b c : World} (h : Below n a b) (hn : n ≤ a.heap.size) (k : Below b.heap.size b c) (o : Obj) : Below n a (c.alloc o) := (h.trans (k.mono (Nat.le_trans hn h.size))).alloc (Nat.le_trans hn (Nat.le_trans h.size k.size)) o
/-- what the two tellings of SiteStops say -/
structure Stop (F G A L F' G' A' L' X : Int) : Prop where
  l1 : ¬ L' > 4
  l2 : ¬ L' < L
  w1 : IntKind.i64.wrap (G' + A') = G' + A'
  w2 : IntKind.i64.wrap (G + A) = G + A
  w3 : IntKind.i64.wrap (G + A + 1) = G + A + 1
  e : (G' + A' != G + A + 1) = false
  way : (L = 4 ∧ X = 0 ∧ F' = 0) ∨ ((L == 4) = false ∧ X = 0) ∨ ((L == 4) = false ∧ (X != 0) = true ∧ X = F ∧ F' = F)
theorem stop_of (N : Nat → Int) (j : Nat) (hj : j ≤ 500) : Stop (runS N j).form (runS N j).gen (runS N j).fast (runS N j).fails (runS N (j + 1)).form (runS N (j + 1)).gen (runS N (j + 1)).fast (runS N (j + 1)).fails (onA (runS N j) (N j)) := by
  have ok := run_ok N j
  have ok' := run_ok N (j + 1)
  obtain ⟨p1, p2, p3⟩ := stop_step (N j) (run_stop N j)
  obtain ⟨_, q2, q3⟩ := ok_on ok (N j)
  have g1 := ok.gen
  have g2 := ok.fast
  have g3 := ok'.gen
  have g4 := ok'.fast
  have e : onS (runS N j) (N j) = runS N (j + 1) := rfl
  rw [e] at p1 p2 p3 q2 q3
  refine ⟨by have := p1.1; omega, by omega, by rw [IntKind.wrap_i64]; omega, by rw [IntKind.wrap_i64]; omega, by rw [IntKind.wrap_i64]; omega, by simp; omega, ?_⟩
  by_cases c : (runS N j).fails = 4
  · exact .inl ⟨c, p2 c⟩
  · by_cases d : onA (runS N j) (N j) = 0
    · exact .inr (.inl ⟨by simp [c], d⟩)
    · exact .inr (.inr ⟨by simp [c], by simp [d], p3 d⟩)
end Go.Proofs.Ytalcfblknoojpaa.W.Si
