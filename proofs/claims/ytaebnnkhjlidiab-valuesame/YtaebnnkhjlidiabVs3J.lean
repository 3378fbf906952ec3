import Derived.Test.YtaebnnkhjlidiabVs2J
/- Values and their words, in two rows of one's own beside a heap. -/
namespace Go.Proofs.Ytaebnnkhjlidiab.W
open Go.ChangeShapes Go.WideShapes Go.RowKit Go.Shelf
set_option linter.unusedVariables false
def Pl.cells (x : Pl) : List Value := [.int .i64 x.kd, .int .i64 x.i, .int .u64 x.bi, .string x.t, .int .u64 x.re]
theorem Pl.cells_len (x : Pl) : x.cells.length = 5 := rfl
def flatV (xs : List Pl) : List Value := xs.flatMap Pl.cells
theorem flatV_len (xs : List Pl) : (flatV xs).length = xs.length * 5 := by
  induction xs with
  | nil => rfl
  | cons b r ih => simp only [flatV, List.flatMap_cons, List.length_append, Pl.cells_len, List.length_cons] at ih ⊢; omega
theorem flatV_get (xs : List Pl) (i j : Nat) (x : Pl) (h : xs[i]? = some x) (hj : j < 5) : (flatV xs)[i * 5 + j]? = x.cells[j]? := by
  induction xs generalizing i with
  | nil => simp at h
  | cons b r ih =>
    cases i with
    | zero =>
      simp at h; subst h
      unfold flatV
      rw [List.flatMap_cons, List.getElem?_append_left (by rw [Pl.cells_len]; omega)]
      simp
    | succ i =>
      simp at h
      have := ih i h
      unfold flatV at this ⊢
      rw [List.flatMap_cons, List.getElem?_append_right (by rw [Pl.cells_len]; omega), Pl.cells_len, show (i + 1) * 5 + j - 5 = i * 5 + j by omega]
      exact this
theorem flatV_snoc (xs : List Pl) (x : Pl) : flatV (xs ++ [x]) = flatV xs ++ x.cells := by simp [flatV]
theorem infoVa : (Try.prog.info? 40).map (fun i => (i.zero, i.size, i.bytes)) = some (some (.agg #[.int .i64 0, .int .i64 0, .int .u64 0, .string ⟨#[]⟩, .int .u64 0]), 5, 48) := by kernel_rfl
theorem underVa : Try.prog.underlying 41 = some (.slice 40) := by kernel_rfl
/-- something behind a row of one's own -/
theorem own_more (W0 W : World) (t e : TypeId) (z : Value) (sz bs : Nat) (hu : Try.prog.underlying t = some (.slice e)) (hI : (Try.prog.info? e).map (fun i => (i.zero, i.size, i.bytes)) = some (some z, sz, bs)) (hz : z.cells.size = sz) (hs : 0 < sz) (hbs : bs ≤ 64) (v : Value) (n : Nat) (xs : List Value) (ho : W.ownsRow W0.heap.size e sz v n xs) (h0 : W0.heap.size ≤ W.heap.size) (cs : List Value) (hc : cs.length = sz) (h1 : ∀ x ∈ cs, x.oneCell' = true) (hn : n ≤ 1000000) (ty : TypeId) :
    ∃ v' w', (Builtin.append_ #[t, t] ty #[v, .slice (some ⟨W.heap.size, 0, none⟩) 1 1]).run Try.prog (W.alloc (.cells cs.toArray e)) = .ok v' w' ∧ w'.ownsRow W0.heap.size e sz v' (n + 1) (xs ++ cs) ∧ Upd (fun k => v.ownBlock = some k) W w' ∧ ∀ k, v'.ownBlock = some k → v.ownBlock = some k ∨ (W.heap.size ≤ k ∧ k < w'.heap.size) := by
  obtain ⟨i0, hi, hz0, hz1, hz2⟩ := info_parts hI
  have hB1 : Below W.heap.size W (W.alloc (.cells cs.toArray e)) := (Below.refl _ W).alloc (Nat.le_refl _) _
  have z1 : (W.alloc (.cells cs.toArray e)).heap.size = W.heap.size + 1 := World.size_alloc ..
  have e0 := World.cell?_alloc_new W cs.toArray e
  have ho1 := ho.alloc (.cells cs.toArray e)
  obtain ⟨v', w', hrun, ho', hg, hk⟩ := append_at (P := Try.prog) (W.alloc (.cells cs.toArray e)) t ty e i0 z sz bs hu hi hz0 hz1 hz2 hz hs v n xs (owns_base ho1 (fun _ _ => Nat.zero_le _)) ⟨W.heap.size, 0, none⟩ 1 1 cs (by omega) (by
    intro j y hj
    have e1 : ((⟨W.heap.size, 0, none⟩ : Addr).add j) = ⟨W.heap.size, j, none⟩ := by unfold Addr.add; split <;> simp_all
    rw [e1, e0 j]
    simpa using hj) h1 (by omega) hbs (by omega)
  have hlo : ∀ k, v.ownBlock = some k → W0.heap.size ≤ k ∧ k < W.heap.size := fun k e => ho.lt k e
  have hU1 : Upd (fun k => v.ownBlock = some k) (W.alloc (.cells cs.toArray e)) w' := (Upd.refl _ _).grown hg (fun k e => .inl e)
  have hU : Upd (fun k => v.ownBlock = some k) W w' := (Upd.of_below hB1).trans' hU1
  refine ⟨v', w', hrun, owns_base ho' (fun g e => ?_), hU, fun k e => ?_⟩
  · rcases hk g e with e | e
    · exact (hlo g e).1
    · omega
  · rcases hk k e with e | e
    · exact .inl e
    · exact .inr ⟨by omega, e.2⟩
/-- a row of values of one's own -/
structure Vrow (W0 W : World) (K : Nat → Prop) (v : Value) (xs : List Pl) : Prop where
  row : W.ownsRow W0.heap.size 40 5 v xs.length (flatV xs)
  keep : ∀ k, v.ownBlock = some k → K k
/-- a heap, values, and the words of as many of them as there are -/
structure Vs (W0 W : World) (hb u n : Nat) (H : List (Option Hc)) (K : Nat → Prop) (vl vw : Value) (xs : List Pl) (ws : List Nat) : Prop where
  q : Hf W0 W hb H u K
  l : Vrow W0 W K vl xs
  w : Mine W0 W K vw ws
  ne : ∀ k, vl.ownBlock = some k → ¬ vw.ownBlock = some k
  un : ∀ (i w : Nat) (x : Pl), ws[i]? = some w → xs[i]? = some x → Un H w x
  need : sumH H ≤ 126 * n
  hl : H.length ≤ n
section
variable {W0 W W' : World} {hb u n : Nat} {H H' : List (Option Hc)} {K K' : Nat → Prop} {vl vw : Value} {xs : List Pl} {ws : List Nat}
theorem Vs.below (s : Vs W0 W hb u n H K vl vw xs ws) (hB : Below W.heap.size W W') : Vs W0 W' hb u n H (fun k => K k ∨ (W.heap.size ≤ k ∧ k < W'.heap.size)) vl vw xs ws :=
  ⟨s.q.below hB, ⟨owns_on s.l.row (fun k e => hB.block k (s.l.row.lt k e).2), fun k e => .inl (s.l.keep k e)⟩, (s.w.below hB).sub (fun k e => .inl e), s.ne, s.un, s.need, s.hl⟩
theorem Vs.below' (s : Vs W0 W hb u n H K vl vw xs ws) (hB : Below W.heap.size W W') : Vs W0 W' hb u n H K vl vw xs ws :=
  ⟨s.q.below' hB, ⟨owns_on s.l.row (fun k e => hB.block k (s.l.row.lt k e).2), s.l.keep⟩, s.w.below hB, s.ne, s.un, s.need, s.hl⟩
/-- something was put into the heap -/
theorem Vs.put (s : Vs W0 W hb u n H K vl vw xs ws) (q : Hf W0 W' hb H' u K) (hE : Ext H H') (hs : sumH H' ≤ sumH H + 126) (hl : H'.length ≤ H.length + 1) (hU : Upd (Ch W0 K) W W') : Vs W0 W' hb u (n + 1) H' K vl vw xs ws :=
  ⟨q, ⟨owns_on s.l.row (fun k e => hU.block k (s.l.row.lt k e).2 (fun h => h.1 (s.l.keep k e))), s.l.keep⟩, s.w.upd hU, s.ne, fun i w x h1 h2 => (s.un i w x h1 h2).ext hE, by have := s.need; omega, by have := s.hl; omega⟩
/-- blocks that are kept aside, but neither of the two rows, are written -/
theorem Vs.upd {D : Nat → Prop} (s : Vs W0 W hb u n H K vl vw xs ws) (hU : Upd D W W') (hD : ∀ k, D k → K k ∧ W0.heap.size ≤ k ∧ ¬ vl.ownBlock = some k ∧ ¬ vw.ownBlock = some k) : Vs W0 W' hb u n H K vl vw xs ws :=
  ⟨s.q.upd hU (fun k e => ⟨(hD k e).1, (hD k e).2.1⟩), ⟨owns_on s.l.row (fun k e => hU.block k (s.l.row.lt k e).2 (fun d => (hD k d).2.2.1 e)), s.l.keep⟩, ⟨owns_on s.w.row (fun k e => hU.block k (s.w.row.lt k e).2 (fun d => (hD k d).2.2.2 e)), s.w.keep, s.w.lt, s.w.len⟩, s.ne, s.un, s.need, s.hl⟩
theorem Vs.bel (s : Vs W0 W hb u n H K vl vw xs ws) : Below W0.heap.size W0 W := s.q.bel
/-- a word behind -/
theorem Vs.word (s : Vs W0 W hb u n H K vl vw xs ws) (ty : TypeId) (x : Nat) (hx : x < 18446744073709551616) (hl : ws.length ≤ 1000) (hn : ∀ p, xs[ws.length]? = some p → Un H x p) :
    ∃ v' w', (Builtin.append_ #[28, 28] ty #[vw, .slice (some ⟨W.heap.size, 0, none⟩) 1 1]).run Try.prog (W.alloc (.cells #[.int .u64 (x : Nat)] 30)) = .ok v' w' ∧ ∃ K', Vs W0 w' hb u n H K' vl v' xs (ws ++ [x]) := by
  obtain ⟨v', w', hrun, ho, hU, hk⟩ := own_more W0 W 28 30 (.int .u64 0) 1 8 underW infoW rfl (by omega) (by omega) vw ws.length (wds ws) s.w.row s.q.bel.size [.int .u64 (x : Nat)] rfl (by intro y hy; simp at hy; rw [hy]; rfl) (by omega) ty
  refine ⟨v', w', hrun, (fun k => K k ∨ (W.heap.size ≤ k ∧ k < w'.heap.size)), s.q.upd' hU (fun k e => ⟨s.w.keep k e, (s.w.row.lt k e).1⟩), ⟨owns_on s.l.row (fun k e => hU.block k (s.l.row.lt k e).2 (s.ne k e)), fun k e => .inl (s.l.keep k e)⟩, ⟨?_, ?_, ?_, by simp; omega⟩, ?_, ?_, s.need, s.hl⟩
  · unfold wds at *
    rw [List.length_append, List.map_append]
    exact ho
  · intro k e
    rcases hk k e with e | e
    · exact .inl (s.w.keep k e)
    · exact .inr e
  · intro y hy
    rcases List.mem_append.1 hy with h | h
    · exact s.w.lt y h
    · simp at h; rw [h]; exact hx
  · intro k e1 e2
    rcases hk k e2 with e | e
    · exact s.ne k e1 e
    · have := (s.l.row.lt k e1).2
      omega
  · intro i w p h1 h2
    by_cases hi : i < ws.length
    · rw [List.getElem?_append_left hi] at h1
      exact s.un i w p h1 h2
    · rw [List.getElem?_append_right (by omega)] at h1
      have hi' : i = ws.length := by have := (List.getElem?_eq_some_iff.1 h1).1; simp at this; omega
      subst hi'
      simp at h1
      subst h1
      exact hn p h2
/-- a value behind -/
theorem Vs.value (s : Vs W0 W hb u n H K vl vw xs ws) (ty : TypeId) (x : Pl) (hl : xs.length ≤ 1000) (hn : ∀ w, ws[xs.length]? = some w → Un H w x) :
    ∃ v' w', (Builtin.append_ #[41, 41] ty #[vl, .slice (some ⟨W.heap.size, 0, none⟩) 1 1]).run Try.prog (W.alloc (.cells #[.int .i64 x.kd, .int .i64 x.i, .int .u64 x.bi, .string x.t, .int .u64 x.re] 40)) = .ok v' w' ∧ ∃ K', Vs W0 w' hb u n H K' v' vw (xs ++ [x]) ws := by
  obtain ⟨v', w', hrun, ho, hU, hk⟩ := own_more W0 W 41 40 _ 5 48 underVa infoVa rfl (by omega) (by omega) vl xs.length (flatV xs) s.l.row s.q.bel.size x.cells rfl (by intro y hy; simp [Pl.cells] at hy; rcases hy with rfl | rfl | rfl | rfl | rfl <;> rfl) (by omega) ty
  refine ⟨v', w', hrun, (fun k => K k ∨ (W.heap.size ≤ k ∧ k < w'.heap.size)), s.q.upd' hU (fun k e => ⟨s.l.keep k e, (s.l.row.lt k e).1⟩), ⟨?_, ?_⟩, ⟨owns_on s.w.row (fun k e => hU.block k (s.w.row.lt k e).2 (fun d => s.ne k d e)), fun k e => .inl (s.w.keep k e), s.w.lt, s.w.len⟩, ?_, ?_, s.need, s.hl⟩
  · rw [flatV_snoc, List.length_append]
    exact ho
  · intro k e
    rcases hk k e with e | e
    · exact .inl (s.l.keep k e)
    · exact .inr e
  · intro k e1 e2
    rcases hk k e1 with e | e
    · exact s.ne k e e2
    · have := (s.w.row.lt k e2).2
      omega
  · intro i w p h1 h2
    by_cases hi : i < xs.length
    · rw [List.getElem?_append_left hi] at h2
      exact s.un i w p h1 h2
    · rw [List.getElem?_append_right (by omega)] at h2
      have hi' : i = xs.length := by have := (List.getElem?_eq_some_iff.1 h2).1; simp at this; omega
      subst hi'
      simp at h2
      subst h2
      exact hn w h1
theorem Vs.start (q : Hf W0 W hb [] u K) (xs : List Pl) (hl : xs.length ≤ 1000) : ∃ K', Vs W0 (W.alloc (.cells (flatV xs).toArray 40)) hb u 0 [] K' (.slice (some ⟨W.heap.size, 0, none⟩) xs.length xs.length) (.slice none 0 0) xs [] := by
  have hB : Below W.heap.size W (W.alloc (.cells (flatV xs).toArray 40)) := (Below.refl _ W).alloc (Nat.le_refl _) _
  have h1 := World.ownsRow_lit (base := W0.heap.size) (e := 40) (size := 5) W (flatV xs).toArray xs.length q.bel.size (by unfold maxLen; omega) (by simp [flatV_len])
  refine ⟨_, q.below hB, ⟨by simpa using h1, fun k e => ?_⟩, mine_nil _ _ _, fun k e1 e2 => (by cases e2), fun i w x h => (by simp at h), Nat.zero_le _, Nat.zero_le _⟩
  cases e
  exact .inr ⟨Nat.le_refl _, by rw [World.size_alloc]; exact Nat.lt_succ_self _⟩
/-- the cells of a value -/
def CellsAt (W : World) (lb k : Nat) (x : Pl) : Prop := W.cell? ⟨lb, k * 5, none⟩ = some (.int .i64 x.kd) ∧ W.cell? ⟨lb, k * 5 + 1, none⟩ = some (.int .i64 x.i) ∧ W.cell? ⟨lb, k * 5 + 2, none⟩ = some (.int .u64 x.bi) ∧ W.cell? ⟨lb, k * 5 + 3, none⟩ = some (.string x.t) ∧ W.cell? ⟨lb, k * 5 + 4, none⟩ = some (.int .u64 x.re)
theorem Vs.cells {lb m cap : Nat} (s : Vs W0 W hb u n H K (.slice (some ⟨lb, 0, none⟩) m cap) vw xs ws) (hm : xs.length = m) (k : Nat) (x : Pl) (hx : xs[k]? = some x) : CellsAt W lb k x := by
  subst hm
  have hk := (List.getElem?_eq_some_iff.1 hx).1
  have g := fun j (hj : j < 5) => (s.l.row.cellAt (k * 5 + j) (by omega)).trans (flatV_get xs k j x hx hj)
  exact ⟨g 0 (by omega), g 1 (by omega), g 2 (by omega), g 3 (by omega), g 4 (by omega)⟩
theorem CellsAt.on {lb k : Nat} {x : Pl} (h : CellsAt W lb k x) (e : W'.heap[lb]? = W.heap[lb]?) : CellsAt W' lb k x := by
  obtain ⟨h0, h1, h2, h3, h4⟩ := h
  refine ⟨?_, ?_, ?_, ?_, ?_⟩
  · rw [World.cell?_of_block e]; exact h0
  · rw [World.cell?_of_block e]; exact h1
  · rw [World.cell?_of_block e]; exact h2
  · rw [World.cell?_of_block e]; exact h3
  · rw [World.cell?_of_block e]; exact h4
end
end Go.Proofs.Ytaebnnkhjlidiab.W
