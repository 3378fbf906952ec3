/- Package site: contracts of its functions, in plain words of chapter 14. -/
import Derived.Test.YtalcfblknoojpaaSi1
import Derived.WalkKit
import Derived.WalkLawsBesides
import Derived.KernelRfl
import Derived.Deep.QuietTactic
import Derived.BigQuiet
import Derived.Below
import Derived.Deep.Cut
import Derived.Deep.DeepCutAuto
import Derived.Laws.Rows
import Derived.Laws.OwnMore
namespace Go.Proofs.Ytalcfblknoojpaa.W.Si
open Go.ChangeShapes Go.WideShapes Go.RowKit
set_option linter.unusedVariables false

theorem hid {p : Prop} (h : p) : Hid p := h
/-- what a call may change: of what was there, the blocks of S -/
structure Upd (S : Nat → Prop) (W W' : World) : Prop where
  os : W'.os = W.os
  tape : W'.tape = W.tape
  output : W'.output = W.output
  size : W.heap.size ≤ W'.heap.size
  block : ∀ k, k < W.heap.size → ¬ S k → W'.heap[k]? = W.heap[k]?
theorem Upd.refl (S : Nat → Prop) (W : World) : Upd S W W := ⟨rfl, rfl, rfl, Nat.le_refl _, fun _ _ _ => rfl⟩
theorem Upd.trans {S : Nat → Prop} {a b c : World} (h : Upd S a b) (k : Upd S b c) : Upd S a c :=
  ⟨k.os.trans h.os, k.tape.trans h.tape, k.output.trans h.output, Nat.le_trans h.size k.size, fun i hi hn => (k.block i (Nat.lt_of_lt_of_le hi h.size) hn).trans (h.block i hi hn)⟩
theorem Upd.below {S : Nat → Prop} {a b : World} (h : Upd S a b) {n : Nat} (hn : n ≤ a.heap.size) (hs : ∀ k, S k → n ≤ k) : Below n a b :=
  ⟨h.os, h.tape, h.output, h.size, fun k hk => h.block k (by omega) (fun g => by have := hs k g; omega)⟩
theorem Upd.of_below {S : Nat → Prop} {a b : World} (h : Below a.heap.size a b) : Upd S a b := ⟨h.os, h.tape, h.output, h.size, fun k hk _ => h.block k hk⟩
theorem Upd.setCell {S : Nat → Prop} {a b : World} (h : Upd S a b) {p : Addr} (hp : S p.block) (u : Value) : Upd S a (b.setCell p u) :=
  h.trans ⟨rfl, rfl, rfl, by simp [World.setCell], fun k _ hn => Below.heap_setCell _ _ _ _ (by rintro rfl; exact hn hp)⟩
theorem Upd.one {b : Nat} {a w : World} (h : Upd (fun x => x = b) a w) (j : Nat) (u : Value) : Upd (fun x => x = b) a (w.setCell ⟨b, j, none⟩ u) := h.setCell (p := ⟨b, j, none⟩) rfl u
theorem heap_set {W : World} {b : Nat} {c : List Value} {t : TypeId} (hb : W.heap[b]? = some (.cells c.toArray t (0, 0))) (j : Nat) (u : Value) : (W.setCell ⟨b, j, none⟩ u).heap[b]? = some (.cells (c.set j u).toArray t (0, 0)) := by
  simp only [World.setCell, Array.getElem?_modify]
  rw [hb]
  simp
/-- seven numbers in a block of type t -/
def Sv (W : World) (t : TypeId) (b : Nat) (x0 x1 x2 x3 x4 x5 x6 : Int) : Prop := W.heap[b]? = some (.cells [Value.int .i64 x0, .int .i64 x1, .int .i64 x2, .int .i64 x3, .int .i64 x4, .int .i64 x5, .int .i64 x6].toArray t (0, 0))
section
variable {W : World} {t : TypeId} {b : Nat} {x0 x1 x2 x3 x4 x5 x6 : Int}
theorem Sv.cells (h : Sv W t b x0 x1 x2 x3 x4 x5 x6) : ∀ j, W.cell? ⟨b, j, none⟩ = #[Value.int .i64 x0, .int .i64 x1, .int .i64 x2, .int .i64 x3, .int .i64 x4, .int .i64 x5, .int .i64 x6][j]? := fun j => cell_of_row W b j _ _ (0, 0) h
theorem Sv.thaw (h : Sv W t b x0 x1 x2 x3 x4 x5 x6) (j : Nat) : W.frozen? ⟨b, j, none⟩ = false := by
  unfold Sv at h
  simp [World.frozen?, h]
theorem Sv.lt (h : Sv W t b x0 x1 x2 x3 x4 x5 x6) : b < W.heap.size := by
  unfold Sv at h
  false_or_by_contra
  rw [Array.getElem?_eq_none (by omega)] at h
  cases h
theorem Sv.set0 (h : Sv W t b x0 x1 x2 x3 x4 x5 x6) (y : Int) : Sv (W.setCell ⟨b, 0, none⟩ (.int .i64 y)) t b y x1 x2 x3 x4 x5 x6 := heap_set h 0 _
theorem Sv.set1 (h : Sv W t b x0 x1 x2 x3 x4 x5 x6) (y : Int) : Sv (W.setCell ⟨b, 1, none⟩ (.int .i64 y)) t b x0 y x2 x3 x4 x5 x6 := heap_set h 1 _
theorem Sv.set2 (h : Sv W t b x0 x1 x2 x3 x4 x5 x6) (y : Int) : Sv (W.setCell ⟨b, 2, none⟩ (.int .i64 y)) t b x0 x1 y x3 x4 x5 x6 := heap_set h 2 _
theorem Sv.set3 (h : Sv W t b x0 x1 x2 x3 x4 x5 x6) (y : Int) : Sv (W.setCell ⟨b, 3, none⟩ (.int .i64 y)) t b x0 x1 x2 y x4 x5 x6 := heap_set h 3 _
theorem Sv.set4 (h : Sv W t b x0 x1 x2 x3 x4 x5 x6) (y : Int) : Sv (W.setCell ⟨b, 4, none⟩ (.int .i64 y)) t b x0 x1 x2 x3 y x5 x6 := heap_set h 4 _
theorem Sv.set5 (h : Sv W t b x0 x1 x2 x3 x4 x5 x6) (y : Int) : Sv (W.setCell ⟨b, 5, none⟩ (.int .i64 y)) t b x0 x1 x2 x3 x4 y x6 := heap_set h 5 _
theorem Sv.set6 (h : Sv W t b x0 x1 x2 x3 x4 x5 x6) (y : Int) : Sv (W.setCell ⟨b, 6, none⟩ (.int .i64 y)) t b x0 x1 x2 x3 x4 x5 y := heap_set h 6 _
theorem Sv.on {W' : World} (h : Sv W t b x0 x1 x2 x3 x4 x5 x6) (hb : W'.heap[b]? = W.heap[b]?) : Sv W' t b x0 x1 x2 x3 x4 x5 x6 := hb.trans h
theorem Sv.below {W' : World} (h : Sv W t b x0 x1 x2 x3 x4 x5 x6) (hb : Below W.heap.size W W') : Sv W' t b x0 x1 x2 x3 x4 x5 x6 := h.on (hb.block b h.lt)
end
theorem isFast_c (f : Int) (w : World) : Calls Try.prog 15 #[.int .i64 f] w fun e w' => e = .returned (.bool (f == 1 || f == 2)) ∧ w' = w := by
  go_enter Try.func15, Try.ntmps15
  go_wp2
  all_goals go_ret
  all_goals exact ⟨by simp_all, rfl⟩
/-- the row behind a pair -/
def nxK (k p : Int) : Int := if p = 0 then 0 else p
def nxR (k r p : Int) : Int := if p = 0 then 0 else if p = k then min (r + 1) 3 else 1
theorem rowT : (Try.prog.underlying 41).map (fun d => match d with | .struct _ | .array _ _ => true | _ => false) = some true := by kernel_rfl
theorem rowSz : (Try.prog.info? 41).map (·.size) = some 2 := by kernel_rfl
theorem row_ret {fn : Func} {p : Tmp} (h : fn.results = #[.cell p 41]) (tmps : Array Value) (w : World) (gb : Nat) (v0 v1 : Value) (fr : Nat × Nat) (hp : tmps.getD p undef = .pointer (some ⟨gb, 0, none⟩)) (hg : w.heap[gb]? = some (.cells #[v0, v1] 41 fr)) : (results fn tmps).run Try.prog w = .ok (.agg #[v0, v1]) w := by
  have ht := rowT
  cases hu : Try.prog.underlying 41 with
  | none => rw [hu] at ht; cases ht
  | some d =>
    rw [hu] at ht
    simp only [Option.map_some, Option.some.injEq] at ht
    refine results_cell_row h tmps w gb _ _ fr d hp hg hu ?_ (by rw [rowSz]; rfl)
    cases d <;> first | rfl | exact ht
theorem new2 (w : World) (o p : Obj) : ((w.alloc o).alloc p).heap[w.heap.size + 1]? = some p := by
  have := heap_alloc_new (w.alloc o) p
  rwa [World.size_alloc] at this
theorem below2 (w : World) (o p : Obj) : Below w.heap.size w ((w.alloc o).alloc p) := ((Below.refl _ w).alloc (Nat.le_refl _) o).alloc (by rw [World.size_alloc]; omega) p
theorem next_c (k r p : Int) (h0 : 0 ≤ r) (h1 : r ≤ 3) (w : World) : Calls Try.prog 18 #[.agg #[.int .i64 k, .int .i64 r], .int .i64 p] w fun e w' => e = .returned (.agg #[.int .i64 (nxK k p), .int .i64 (nxR k r p)]) ∧ Below w.heap.size w w' := by
  have N0 : Hid (p = 0 → nxK k p = 0 ∧ nxR k r p = 0) := by intro h; unfold nxK nxR; rw [if_pos h, if_pos h]; exact ⟨rfl, rfl⟩
  have N1 : Hid (p ≠ 0 → ¬ p = k → nxK k p = p ∧ nxR k r p = 1) := by intro h g; unfold nxK nxR; rw [if_neg h, if_neg h, if_neg g]; exact ⟨rfl, rfl⟩
  have N2 : Hid (p ≠ 0 → p = k → nxK k p = p ∧ nxR k r p = min (r + 1) 3) := by intro h g; unfold nxK nxR; rw [if_neg h, if_neg h, if_pos g]; exact ⟨rfl, rfl⟩
  have hw : IntKind.i64.wrap (r + 1) = r + 1 := by rw [IntKind.wrap_i64]; omega
  clear h0 h1
  go_enter Try.func18, Try.ntmps18
  go_wp2
  all_goals refine bodyPost_ret (row_ret rfl _ _ (w.heap.size + 1) _ _ (0, 0) rfl (new2 w _ _)) rfl ?_
  all_goals refine ⟨?_, below2 w _ _⟩
  · obtain ⟨a, b⟩ := N0.out (by simp_all); rw [a, b]
  · obtain ⟨a, b⟩ := N1.out (by simp_all) (by simp_all); rw [a, b]
  · obtain ⟨a, b⟩ := N2.out (by simp_all) (by simp_all); rw [a, b, Int.min_eq_right (by omega)]
  · obtain ⟨a, b⟩ := N2.out (by simp_all) (by simp_all); rw [a, b, Int.min_eq_left (by omega)]
theorem become_c {W : World} {sb : Nat} {a f g fa fl k r : Int} (h : Sv W 43 sb a f g fa fl k r) (y : Int) : Calls Try.prog 14 #[.pointer (some ⟨sb, 0, none⟩), .int .i64 y] W fun e w' => e = .returned (.tuple #[]) ∧ Sv w' 43 sb a y g fa fl 0 0 ∧ Upd (· = sb) W w' := by
  have c := h.cells
  have z := h.thaw
  have H := hid h
  clear h
  go_enter Try.func14, Try.ntmps14
  go_wp2
  go_end0
  exact ⟨rfl, ((H.out.set1 y).set5 0).set6 0, (((Upd.refl _ W).one 1 _).one 5 _).one 6 _⟩
set_option maxHeartbeats 1000000 in
theorem onGeneric_no {W : World} {sb : Nat} {a f g fa fl k r : Int} (h : Sv W 43 sb a f g fa fl k r) (p : Int) (h0 : 0 ≤ r) (h1 : r ≤ 3) (g0 : 0 ≤ g) (g1 : g ≤ 1000000000) (hn : ¬ (nxR k r p = 3 ∧ fl < 4)) : Calls Try.prog 16 #[.pointer (some ⟨sb, 0, none⟩), .int .i64 p] W fun e w' => e = .returned (.tuple #[]) ∧ Sv w' 43 sb a f (g + 1) fa fl (nxK k p) (nxR k r p) ∧ Upd (· = sb) W w' := by
  (have cN := next_c k r p h0 h1); generalize nxK k p = K at *; generalize nxR k r p = R at *; (have c := h.cells); (have z := h.thaw); (have wg : IntKind.i64.wrap (g + 1) = g + 1 := by rw [IntKind.wrap_i64]; omega); (have h2 := h.set2 (g + 1)); (have u1 : Upd (· = sb) W (W.setCell ⟨sb, 2, none⟩ (.int .i64 (g + 1))) := (Upd.refl _ W).one 2 _)
  have Hn := hid hn
  clear hn g0 g1 h0 h1
  go_enter Try.func16, Try.ntmps16
  go_upto_region 1 with fail; generalize World.setCell W _ _ = W1 at *; clear c z h wg; (have c := h2.cells); go_upto_region 2 with (go_at_call 18; refine (cN _).mono ?_; rintro e w2 ⟨rfl, hb2⟩; (have h3 := h2.below hb2); (have u2 := u1.trans (Upd.of_below hb2)); (have c := h3.cells); (have z := h3.thaw)); (have h4 := (h3.set5 K).set6 R); (have u4 := (u2.one 5 (.int .i64 K)).one 6 (.int .i64 R)); generalize World.setCell (World.setCell w2 _ _) _ _ = W4 at *; clear c z h3 u2 hb2 cN h2 u1; (have c := h4.cells)
  have HH := hid h4
  have HU := hid u4
  clear h4 u4
  by_cases c1 : R = 3
  · have c2 : ¬ fl < 4 := fun e => Hn.out ⟨c1, e⟩
    subst c1
    go_wp2
    go_end0
    exact ⟨rfl, HH.out, HU.out⟩
  · have c1' : (R == 3) = false := by simp [c1]
    clear c1
    go_wp2
    go_end0
    exact ⟨rfl, HH.out, HU.out⟩
set_option maxHeartbeats 1000000 in
theorem onGeneric_yes {W : World} {sb : Nat} {a f g fa fl k r : Int} (h : Sv W 43 sb a f g fa fl k r) (p : Int) (h0 : 0 ≤ r) (h1 : r ≤ 3) (g0 : 0 ≤ g) (g1 : g ≤ 1000000000) (hn : nxR k r p = 3) (hf : fl < 4) : Calls Try.prog 16 #[.pointer (some ⟨sb, 0, none⟩), .int .i64 p] W fun e w' => e = .returned (.tuple #[]) ∧ Sv w' 43 sb a (nxK k p) (g + 1) fa fl 0 0 ∧ Upd (· = sb) W w' := by
  (have cN := next_c k r p h0 h1); generalize nxK k p = K at *; generalize nxR k r p = R at *; (have c := h.cells); (have z := h.thaw); (have wg : IntKind.i64.wrap (g + 1) = g + 1 := by rw [IntKind.wrap_i64]; omega); (have h2 := h.set2 (g + 1)); (have u1 : Upd (· = sb) W (W.setCell ⟨sb, 2, none⟩ (.int .i64 (g + 1))) := (Upd.refl _ W).one 2 _)
  have Hn := hid hn
  clear g0 g1 h0 h1 hn
  go_enter Try.func16, Try.ntmps16
  go_upto_region 1 with fail; generalize World.setCell W _ _ = W1 at *; clear c z h wg; (have c := h2.cells); go_upto_region 2 with (go_at_call 18; refine (cN _).mono ?_; rintro e w2 ⟨rfl, hb2⟩; (have h3 := h2.below hb2); (have u2 := u1.trans (Upd.of_below hb2)); (have c := h3.cells); (have z := h3.thaw)); (have h4 := (h3.set5 K).set6 R); (have u4 := (u2.one 5 (.int .i64 K)).one 6 (.int .i64 R)); generalize World.setCell (World.setCell w2 _ _) _ _ = W4 at *; clear c z h3 u2 hb2 cN h2 u1; (have c := h4.cells)
  obtain rfl := Hn.out
  have cB := become_c h4 K
  go_wp2_with (go_at_call 14; refine cB.mono ?_; rintro e w5 ⟨rfl, h5, u5⟩)
  go_end0
  exact ⟨rfl, h5, u4.trans u5⟩
/-- a site in a block -/
def SvS (W : World) (t : TypeId) (b : Nat) (a : Int) (s : Sp) : Prop := Sv W t b a s.form s.gen s.fast s.fails s.kind s.row
/-- as the program keeps it: a row of none has no kind -/
def norm (s : Sp) : Sp := { s with kind := if s.row = 0 then 0 else s.kind }
theorem nx_row {n : Int} {s : Sp} (h : Ok n s) (p : Int) (hp : p = 0 ∨ p = 1 ∨ p = 2) : nxR (norm s).kind s.row p = (rowS s p).row ∧ nxK (norm s).kind p = (norm (rowS s p)).kind := by
  obtain ⟨f, g, fa, fl, r, k, hs, fu⟩ := h
  unfold nxR nxK rowS norm
  by_cases c1 : p = 0
  · rw [if_pos c1, if_pos c1, if_pos c1]; simp
  · rw [if_neg c1, if_neg c1, if_neg c1]
    by_cases c2 : 0 < s.row ∧ s.kind = p
    · rw [if_pos c2]
      simp only
      rw [if_neg (show ¬ s.row = 0 by omega), if_pos c2.2.symm]
      constructor
      · split <;> omega
      · rw [if_neg (by split <;> omega)]; exact c2.2.symm
    · rw [if_neg c2]
      simp only
      rw [if_neg (by split <;> omega)]
      simp
theorem ok_row {n : Int} {s : Sp} (h : Ok n s) (p : Int) : (rowS s p).fails = s.fails ∧ (rowS s p).gen = s.gen + 1 ∧ (rowS s p).fast = s.fast ∧ (rowS s p).form = s.form ∧ (rowS s p).row ≤ 3 := by
  have := h.row
  unfold rowS
  split
  · simp
  · split
    · simp only [true_and]; split <;> omega
    · simp
theorem onGeneric_c {W : World} {sb : Nat} {a n : Int} {s : Sp} (o : Ok n s) (hn : n ≤ 1000000000) (h : SvS W 43 sb a (norm s)) (p : Int) (hp : p = 0 ∨ p = 1 ∨ p = 2) : Calls Try.prog 16 #[.pointer (some ⟨sb, 0, none⟩), .int .i64 p] W fun e w' => e = .returned (.tuple #[]) ∧ SvS w' 43 sb a (norm (genS s p)) ∧ Upd (· = sb) W w' := by
  obtain ⟨e1, e2⟩ := nx_row o p hp
  obtain ⟨r1, r2, r3, r4, r5⟩ := ok_row o p
  have hr := o.row
  have hg := o.gen
  unfold genS turnS
  by_cases c : 3 ≤ (rowS s p).row ∧ (rowS s p).fails < 4
  · rw [if_pos c]
    refine (onGeneric_yes h p hr.1 hr.2 hg.1 (by show s.gen ≤ _; omega) (by show nxR (norm s).kind s.row p = 3; omega) (by show s.fails < 4; omega)).mono ?_
    rintro e w' ⟨he, hs, hu⟩
    refine ⟨he, ?_, hu⟩
    unfold SvS
    rw [e2] at hs
    have e3 : (norm (rowS s p)).kind = (rowS s p).kind := by unfold norm; simp only; rw [if_neg (by omega)]
    rw [e3] at hs
    show Sv w' _ sb a (rowS s p).kind (rowS s p).gen (rowS s p).fast (rowS s p).fails (if (0 : Int) = 0 then 0 else (rowS s p).kind) 0
    rw [if_pos rfl, r1, r2, r3]
    exact hs
  · rw [if_neg c]
    refine (onGeneric_no h p hr.1 hr.2 hg.1 (by show s.gen ≤ _; omega) (by show ¬ (nxR (norm s).kind s.row p = 3 ∧ s.fails < 4); omega)).mono ?_
    rintro e w' ⟨he, hs, hu⟩
    refine ⟨he, ?_, hu⟩
    unfold SvS
    rw [e2, show (norm s).row = s.row from rfl, e1] at hs
    show Sv w' _ sb a (rowS s p).form (rowS s p).gen (rowS s p).fast (rowS s p).fails (norm (rowS s p)).kind (rowS s p).row
    rw [r1, r2, r3, r4]
    exact hs
end Go.Proofs.Ytalcfblknoojpaa.W.Si
