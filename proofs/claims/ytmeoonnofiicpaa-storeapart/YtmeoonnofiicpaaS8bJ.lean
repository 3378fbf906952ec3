import Derived.Test.YtmeoonnofiicpaaS8aJ
import Derived.Test.YtmeoonnofiicpaaBase6
import Derived.Test.YtmeoonnofiicpaaBase4
import Derived.Test.YtmeoonnofiicpaaHkGJ
/- lies: what is kept along it. -/
namespace Go.Proofs.Ytmeoonnofiicpaa.W.R5
open Go.ChangeShapes Go.WideShapes Go.RowKit Go.Shelf
set_option linter.unusedVariables false
set_option linter.unusedSimpArgs false
/-- what a store tells, wherever new blocks are laid -/
structure Sd (W : World) (sb : Nat) (A : List (Option (List Nat))) (R : Nat) (T : List Tr) : Prop where
  tell : ∀ W', Below W.heap.size W W' → Tells W' sb T
  span : ∀ W', Below W.heap.size W W' → Calls Try.prog 22 #[(Value.pointer (some ⟨sb, 0, none⟩))] W' fun e w' => e = .returned (.int .i64 (R : Nat)) ∧ w' = W'
  used : ∀ W', Below W.heap.size W W' → Calls Try.prog 23 #[(Value.pointer (some ⟨sb, 0, none⟩))] W' fun e w' => e = .returned (.int .i64 (sumA A : Nat)) ∧ w' = W'
  lie : Lie A R T
def idsT (T : List Tr) : List Value := T.map (fun t => .int .i64 (t.i : Nat))
/-- the one that was told last -/
def lastC (T : List Tr) : Nat → List Value
  | 0 => [.int .i64 0, .int .i64 (-1), .int .i64 0]
  | i + 1 => (T.getD i noTr).cells
/-- lies's own blocks, behind i extents -/
structure Lw (W W' : World) (sb rb : Nat) (T : List Tr) (i : Nat) (v : Value) : Prop where
  c0 : W'.heap[W.heap.size]? = some (.cells #[(Value.pointer (some ⟨sb, 0, none⟩))] 24 (0, 0))
  c1 : W'.heap[W.heap.size + 1]? = some (.cells #[(Value.pointer (some ⟨rb, 0, none⟩))] 26 (0, 0))
  c2 : W'.heap[W.heap.size + 2]? = some (.cells #[.slice none 0 0] 34 (0, 0))
  c3 : W'.heap[W.heap.size + 3]? = some (.cells #[.bool false] 4 (0, 0))
  c4 : W'.heap[W.heap.size + 4]? = some (.cells #[v] 34 (0, 0))
  c5 : W'.heap[W.heap.size + 5]? = some (.cells #[.int .i64 (endT (T.take i) : Nat)] 3 (0, 0))
  c6 : W'.heap[W.heap.size + 6]? = some (.cells (lastC T i).toArray 60 (0, 0))
  c7 : W'.heap[W.heap.size + 7]? = some (.cells #[(Value.pointer (some ⟨sb, 0, none⟩))] 24 (0, 0))
  row : W'.ownsRow (W.heap.size + 10) 3 1 v i (idsT (T.take i))
  low : Below W.heap.size W W'
theorem Lw.on {W W' W'' : World} {sb rb i : Nat} {T : List Tr} {v : Value} (h : Lw W W' sb rb T i v) (hU : Upd (fun k => W.heap.size + 9 ≤ k ∧ ¬ v.ownBlock = some k) W' W'') : Lw W W'' sb rb T i v := by
  have g : ∀ (k : Nat) (o : Obj), k < W.heap.size + 9 → W'.heap[k]? = some o → W''.heap[k]? = some o := fun k o hk e => (hU.block k (Array.getElem?_eq_some_iff.1 e).1 (fun c => by omega)).trans e
  exact ⟨g _ _ (by omega) h.c0, g _ _ (by omega) h.c1, g _ _ (by omega) h.c2, g _ _ (by omega) h.c3, g _ _ (by omega) h.c4, g _ _ (by omega) h.c5, g _ _ (by omega) h.c6, g _ _ (by omega) h.c7, owns_on h.row (fun k e => hU.block k (h.row.lt k e).2 (fun c => c.2 e)), h.low.trans (hU.below h.low.size (fun k e => by omega))⟩
theorem infoI : (Try.prog.info? 3).map (fun i => (i.zero, i.size, i.bytes)) = some (some (.int .i64 0), 1, 8) := by kernel_rfl
theorem underIS : Try.prog.underlying 34 = some (.slice 3) := by kernel_rfl
theorem load_b (w : World) (b : Nat) (v : Value) (h : w.cell? ⟨b, 0, none⟩ = some v) : (loadVar 4 ⟨b, 0, none⟩).run Try.prog w = .ok v w := by
  simp [loadVar, isAgg, run_underlying (show Try.prog.underlying 4 = some .bool by kernel_rfl), h, go_sem]
theorem load_is (w : World) (b : Nat) (v : Value) (h : w.cell? ⟨b, 0, none⟩ = some v) : (loadVar 34 ⟨b, 0, none⟩).run Try.prog w = .ok v w := by
  simp [loadVar, isAgg, run_underlying underIS, h, go_sem]
/-- the results of a function that keeps both in blocks -/
theorem two_ret {fn : Func} {p q : Tmp} (h : fn.results = #[.cell p 34, .cell q 4]) (tmps : Array Value) (w : World) (b1 b2 : Nat) (v1 v2 : Value) (hp : tmps.getD p undef = .pointer (some ⟨b1, 0, none⟩)) (hq : tmps.getD q undef = .pointer (some ⟨b2, 0, none⟩)) (g1 : w.heap[b1]? = some (.cells #[v1] 34 (0, 0))) (g2 : w.heap[b2]? = some (.cells #[v2] 4 (0, 0))) : (results fn tmps).run Try.prog w = .ok (.tuple #[v1, v2]) w := by
  have hp' : tmps[p]?.getD undef = .pointer (some ⟨b1, 0, none⟩) := by simpa using hp
  have hq' : tmps[q]?.getD undef = .pointer (some ⟨b2, 0, none⟩) := by simpa using hq
  simp [results, h, hp', hq', asAddr, load_is w b1 v1 (cell_of_row _ _ 0 _ _ _ g1), load_b w b2 v2 (cell_of_row _ _ 0 _ _ _ g2)]
theorem chain7 (W : World) (o0 o1 o2 o3 o4 o5 o6 : Obj) : ((((((((W.alloc o0).alloc o1).alloc o2).alloc o3).alloc o4).alloc o5).alloc o6)).heap.size = W.heap.size + 7 ∧ (((((((W.alloc o0).alloc o1).alloc o2).alloc o3).alloc o4).alloc o5).alloc o6).heap[W.heap.size]? = some o0 ∧ (((((((W.alloc o0).alloc o1).alloc o2).alloc o3).alloc o4).alloc o5).alloc o6).heap[W.heap.size + 1]? = some o1 ∧ (((((((W.alloc o0).alloc o1).alloc o2).alloc o3).alloc o4).alloc o5).alloc o6).heap[W.heap.size + 2]? = some o2 ∧ (((((((W.alloc o0).alloc o1).alloc o2).alloc o3).alloc o4).alloc o5).alloc o6).heap[W.heap.size + 3]? = some o3 ∧ (((((((W.alloc o0).alloc o1).alloc o2).alloc o3).alloc o4).alloc o5).alloc o6).heap[W.heap.size + 4]? = some o4 ∧ (((((((W.alloc o0).alloc o1).alloc o2).alloc o3).alloc o4).alloc o5).alloc o6).heap[W.heap.size + 5]? = some o5 ∧ (((((((W.alloc o0).alloc o1).alloc o2).alloc o3).alloc o4).alloc o5).alloc o6).heap[W.heap.size + 6]? = some o6 ∧ Below W.heap.size W (((((((W.alloc o0).alloc o1).alloc o2).alloc o3).alloc o4).alloc o5).alloc o6) := by
  refine ⟨by simp, ?_, ?_, ?_, ?_, ?_, ?_, ?_, ?_⟩
  · repeat rw [Below.heap_alloc _ _ _ (by simp only [World.size_alloc]; omega)]
    exact World.alloc_heap_new W o0
  · repeat rw [Below.heap_alloc _ _ _ (by simp only [World.size_alloc]; omega)]
    have h := World.alloc_heap_new (W.alloc o0) o1
    simp only [World.size_alloc] at h
    exact h
  · repeat rw [Below.heap_alloc _ _ _ (by simp only [World.size_alloc]; omega)]
    have h := World.alloc_heap_new ((W.alloc o0).alloc o1) o2
    simp only [World.size_alloc] at h
    exact h
  · repeat rw [Below.heap_alloc _ _ _ (by simp only [World.size_alloc]; omega)]
    have h := World.alloc_heap_new (((W.alloc o0).alloc o1).alloc o2) o3
    simp only [World.size_alloc] at h
    exact h
  · repeat rw [Below.heap_alloc _ _ _ (by simp only [World.size_alloc]; omega)]
    have h := World.alloc_heap_new ((((W.alloc o0).alloc o1).alloc o2).alloc o3) o4
    simp only [World.size_alloc] at h
    exact h
  · repeat rw [Below.heap_alloc _ _ _ (by simp only [World.size_alloc]; omega)]
    have h := World.alloc_heap_new (((((W.alloc o0).alloc o1).alloc o2).alloc o3).alloc o4) o5
    simp only [World.size_alloc] at h
    exact h
  · have h := World.alloc_heap_new ((((((W.alloc o0).alloc o1).alloc o2).alloc o3).alloc o4).alloc o5) o6
    simp only [World.size_alloc] at h
    exact h
  exact ((((((((Below.refl _ W).alloc (Nat.le_refl _) _).alloc (by simp only [World.size_alloc]; omega) _).alloc (by simp only [World.size_alloc]; omega) _).alloc (by simp only [World.size_alloc]; omega) _).alloc (by simp only [World.size_alloc]; omega) _).alloc (by simp only [World.size_alloc]; omega) _).alloc (by simp only [World.size_alloc]; omega) _)
def boxAct (p1 q1 : Nat) (a : Act) (x : Value) (W : World) : Act := { tmps := (a.tmps.setIfInBounds p1 x).setIfInBounds q1 (.pointer (some ⟨W.heap.size, 0, none⟩)), defers := [] }
/-- a range over Extents whose variable lies in a box -/
theorem ext_lawA {g : Operand} {p1 q1 : Nat} {assign body : Code} {Q : Exit → Act → World → Prop} {a : Act} {W0 : World} {Bc sb : Nat} (l : List Tr) (hg : a.eval g = .func (.func 40) #[] #[.pointer (some ⟨Bc, 0, none⟩)])
    (I : Nat → (Nat → Prop) → World → Prop) (Ix : Code → World → Prop) (hL : ∀ i D W, I i D W → (W.cell? ⟨Bc, 0, none⟩ = some (.pointer (some ⟨sb, 0, none⟩)) ∧ Tells W sb l) ∧ ∀ k, D k → k < W.heap.size ∧ k ≠ W0.heap.size ∧ k ≠ W0.heap.size + 1)
    (hI : ∀ i D W W', I i D W → Upd (fun k => W0.heap.size + 1 ≤ k ∧ ¬ D k) W W' → I i D W')
    (hIx : ∀ c W W', Ix c W → Upd (fun k => W0.heap.size + 1 ≤ k) W W' → Ix c W') (hLx : ∀ c W, Ix c W → W.cell? ⟨Bc, 0, none⟩ = some (.pointer (some ⟨sb, 0, none⟩)) ∧ Tells W sb l) (D0 : Nat → Prop) (h0 : I 0 D0 W0)
    (hassign : ∀ (L i : Nat) (W : World) (K : Act → World → Prop), K (boxAct p1 q1 a (l.getD i noTr).agg W) (W.alloc (.cells (l.getD i noTr).cells.toArray 60)) → assign.wpIn (Fence.wide.inRound L) 7 Try.prog (Exit.then K (fun _ _ _ => False)) { tmps := a.tmps.setIfInBounds p1 (l.getD i noTr).agg, defers := [] } W)
    (hbody : ∀ (L : Nat) i (hi : i < l.length) D W (o : Obj), L = W0.heap.size + 1 → I i D W → W0.heap.size + 2 ≤ W.heap.size → body.wpIn (Fence.wide.inRound L) 7 Try.prog (rndWayE L W0.heap.size D ((W.alloc (.cells (l.getD i noTr).cells.toArray 60)).putObj L o) (fun W' => ∃ D', I (i + 1) D' W' ∧ ∀ k, D' k → D k ∨ W.heap.size ≤ k) Ix) (boxAct p1 q1 a (l.getD i noTr).agg W) ((W.alloc (.cells (l.getD i noTr).cells.toArray 60)).putObj L o))
    (hdone : ∀ D W, I l.length D W → W.heap[W0.heap.size]? = some (.deferred (some [])) → Q .normal { a with defers := { target := .collected W0.heap.size, args := #[] } :: a.defers } W)
    (hstop : ∀ c W, Ix c W → W.heap[W0.heap.size]? = some (.deferred (some [])) → c.wp Try.prog Q { a with defers := { target := .collected W0.heap.size, args := #[] } :: a.defers } W) :
    (Code.rangeFunc g #[p1] assign body).wp Try.prog Q a W0 := by
  refine iterE_lawA (ext_iter Bc sb l) eg_ext hg I Ix hL hI hIx hLx D0 h0 (fun i D W hi hp => by cases hp) (fun i W => boxAct p1 q1 a (l.getD i noTr).agg W) (fun i W => W.alloc (.cells (l.getD i noTr).cells.toArray 60)) (fun i W => (Below.refl _ _).alloc (Nat.le_refl _) _) (fun i => rfl) ?_ (fun L i hi D W o _ => hbody L i hi D W o) hdone hstop
  intro L i W K hK
  have e : (#[p1].zip (l.getD i noTr).val).foldl (fun t (p, v) => t.setIfInBounds p v) a.tmps = a.tmps.setIfInBounds p1 (l.getD i noTr).agg := by
    show Array.foldl _ a.tmps (#[p1].zip #[(l.getD i noTr).agg]) = _
    exact zip_one _ _ _
  rw [e]
  exact hassign L i W K hK
/-- the three cells of what was told last -/
def setLast (V : World) (b : Nat) (t : Tr) : World := ((V.setCell ⟨b, 0, none⟩ (.int .i64 (t.i : Nat))).setCell ⟨b, 1, none⟩ (.int .i64 (t.p : Nat))).setCell ⟨b, 2, none⟩ (.int .i64 (t.l : Nat))
theorem Lw.next {W V V' : World} {sb rb i : Nat} {T : List Tr} {v : Value} {t : Tr} (h : Lw W V sb rb T i v) (ht : T[i]? = some t) (hi : i ≤ 1000) (hz : W.heap.size + 10 ≤ V.heap.size) (hV' : (V' = V ∧ t.p + t.l ≤ endT (T.take i)) ∨ (V' = V.setCell ⟨W.heap.size + 5, 0, none⟩ (.int .i64 ((t.p + t.l : Nat) : Int)) ∧ endT (T.take i) < t.p + t.l)) :
    ∃ oo nn cc V6, (Builtin.append_ #[34, 34] 34 #[v, .slice (some ⟨V.heap.size, 0, none⟩) 1 1]).run Try.prog ((setLast V' (W.heap.size + 6) t).alloc (.cells #[.int .i64 (t.i : Nat)] 3)) = .ok (.slice oo nn cc) V6 ∧ V'.cell? ⟨W.heap.size + 4, 0, none⟩ = some v ∧ (setLast V' (W.heap.size + 6) t).cell? ⟨W.heap.size + 4, 0, none⟩ = some v ∧ (setLast V' (W.heap.size + 6) t).heap.size = V.heap.size ∧ V6.cell? ⟨W.heap.size + 4, 0, none⟩ = some v ∧ V6.frozen? ⟨W.heap.size + 4, 0, none⟩ = false ∧ (V'.frozen? ⟨W.heap.size + 6, 0, none⟩ = false ∧ V'.frozen? ⟨W.heap.size + 6, 1, none⟩ = false ∧ V'.frozen? ⟨W.heap.size + 6, 2, none⟩ = false) ∧
      Lw W (V6.setCell ⟨W.heap.size + 4, 0, none⟩ (.slice oo nn cc)) sb rb T (i + 1) (.slice oo nn cc) ∧ Upd (fun k => k = W.heap.size + 4 ∨ k = W.heap.size + 5 ∨ k = W.heap.size + 6 ∨ v.ownBlock = some k) V (V6.setCell ⟨W.heap.size + 4, 0, none⟩ (.slice oo nn cc)) ∧ (∀ k, (Value.slice oo nn cc).ownBlock = some k → v.ownBlock = some k ∨ V.heap.size ≤ k) ∧ nn = i + 1 := by
  have l6 : W.heap.size + 7 < V.heap.size := (Array.getElem?_eq_some_iff.1 h.c7).1
  have nv : ∀ k, v.ownBlock = some k → W.heap.size + 10 ≤ k ∧ k < V.heap.size := fun k e => h.row.lt k e
  have u1 : Upd (fun k => k = W.heap.size + 5) V V' := by
    rcases hV' with ⟨rfl, _⟩ | ⟨rfl, _⟩
    · exact Upd.refl _ _
    · exact (Upd.refl (fun k => k = W.heap.size + 5) V).setCell (p := ⟨W.heap.size + 5, 0, none⟩) (.inl rfl) _
  have e5 : V'.heap[W.heap.size + 5]? = some (.cells #[.int .i64 (endT (T.take (i + 1)) : Nat)] 3 (0, 0)) := by
    rw [endT_take T i t ht]
    rcases hV' with ⟨rfl, h1⟩ | ⟨rfl, h1⟩
    · rw [h.c5, Nat.max_eq_left h1]
    · rw [Nat.max_eq_right (by omega)]
      exact heap_set (c := [_]) h.c5 0 _
  have zV' : V'.heap.size = V.heap.size := by
    rcases hV' with ⟨rfl, _⟩ | ⟨rfl, _⟩
    · rfl
    · simp [World.setCell]
  have e6 : V'.heap[W.heap.size + 6]? = some (.cells (lastC T i).toArray 60 (0, 0)) := (u1.block _ (by omega) (by omega)).trans h.c6
  have u2 : Upd (fun k => k = W.heap.size + 6) V' (setLast V' (W.heap.size + 6) t) := (((Upd.refl (fun k => k = W.heap.size + 6) V').setCell (p := ⟨W.heap.size + 6, 0, none⟩) (.inl rfl) _).setCell (p := ⟨W.heap.size + 6, 1, none⟩) (.inl rfl) _).setCell (p := ⟨W.heap.size + 6, 2, none⟩) (.inl rfl) _
  have hl3 : ∃ a b c, lastC T i = [a, b, c] := by
    cases i with
    | zero => exact ⟨_, _, _, rfl⟩
    | succ i => exact ⟨_, _, _, rfl⟩
  have e6' : (setLast V' (W.heap.size + 6) t).heap[W.heap.size + 6]? = some (.cells (lastC T (i + 1)).toArray 60 (0, 0)) := by
    obtain ⟨a, b, c, e⟩ := hl3
    rw [e] at e6
    have h1 := heap_set (c := [a, b, c]) e6 0 (.int .i64 (t.i : Nat))
    have h2 := heap_set h1 1 (.int .i64 (t.p : Nat))
    have h3 := heap_set h2 2 (.int .i64 (t.l : Nat))
    have : lastC T (i + 1) = t.cells := by show (T.getD i noTr).cells = t.cells; rw [List.getD_eq_getElem?_getD, ht]; rfl
    rw [this]
    exact h3
  have zL : (setLast V' (W.heap.size + 6) t).heap.size = V.heap.size := by
    unfold setLast
    simp only [World.setCell, Array.size_modify]
    exact zV'
  have u12 : Upd (fun k => k = W.heap.size + 5 ∨ k = W.heap.size + 6) V (setLast V' (W.heap.size + 6) t) := (u1.mono (fun k e => .inl e)).trans' (u2.mono (fun k e => .inr e))
  have row5 := owns_on h.row (W' := setLast V' (W.heap.size + 6) t) (fun k e => u12.block k (nv k e).2 (by have := (nv k e).1; omega))
  obtain ⟨v', V6, run, ro, uu, kk⟩ := own_behind (W.heap.size + 10) (setLast V' (W.heap.size + 6) t) 34 3 _ 1 8 underIS infoI (by rfl) (by omega) (by omega) v i _ row5 (by rw [zL]; exact hz) [.int .i64 (t.i : Nat)] rfl (by intro x hx; simp at hx; subst hx; rfl) (by omega) 34
  obtain ⟨oo, cc, hv'⟩ := slice_of (owns_base ro (b' := 0) (fun _ _ => Nat.zero_le _))
  subst hv'
  rw [zL] at run kk
  have z6 := uu.size
  have nn4 : ∀ k, k < W.heap.size + 10 → ¬ v.ownBlock = some k := fun k hk e => by have := (nv k e).1; omega
  have g6 : ∀ k, k < W.heap.size + 8 → k ≠ W.heap.size + 5 → k ≠ W.heap.size + 6 → V6.heap[k]? = V.heap[k]? := fun k h1 h2 h3 => (uu.block k (by omega) (nn4 k (by omega))).trans (u12.block k (by omega) (by omega))
  have c4' : V'.heap[W.heap.size + 4]? = some (.cells #[v] 34 (0, 0)) := (u1.block _ (by omega) (by omega)).trans h.c4
  have c4L : (setLast V' (W.heap.size + 6) t).heap[W.heap.size + 4]? = some (.cells #[v] 34 (0, 0)) := (u12.block _ (by omega) (by omega)).trans h.c4
  have c46 := (g6 (W.heap.size + 4) (by omega) (by omega) (by omega)).trans h.c4
  have uS : Upd (fun k => k = W.heap.size + 4) V6 (V6.setCell ⟨W.heap.size + 4, 0, none⟩ (.slice oo (i + 1) cc)) := (Upd.refl (fun k => k = W.heap.size + 4) V6).setCell (p := ⟨W.heap.size + 4, 0, none⟩) (.inl rfl) _
  have g7 : ∀ k, k < W.heap.size + 8 → k ≠ W.heap.size + 4 → k ≠ W.heap.size + 5 → k ≠ W.heap.size + 6 → (V6.setCell ⟨W.heap.size + 4, 0, none⟩ (.slice oo (i + 1) cc)).heap[k]? = V.heap[k]? := fun k h1 h2 h3 h4 => (uS.block k (by omega) h2).trans (g6 k h1 h3 h4)
  have uAll : Upd (fun k => k = W.heap.size + 4 ∨ k = W.heap.size + 5 ∨ k = W.heap.size + 6 ∨ v.ownBlock = some k) V (V6.setCell ⟨W.heap.size + 4, 0, none⟩ (.slice oo (i + 1) cc)) := ((u12.mono (fun k e => by rcases e with e | e <;> simp [e])).trans' (uu.mono (fun k e => .inr (.inr (.inr e))))).trans' (uS.mono (fun k e => .inl e))
  have nk : ∀ k, (Value.slice oo (i + 1) cc).ownBlock = some k → W.heap.size + 10 ≤ k ∧ k < V6.heap.size := fun k e => ro.lt k e
  refine ⟨oo, i + 1, cc, V6, run, cell_of_row _ _ 0 _ _ _ c4', cell_of_row _ _ 0 _ _ _ c4L, zL, cell_of_row _ _ 0 _ _ _ c46, by simp [World.frozen?, c46], ⟨by simp [World.frozen?, e6], by simp [World.frozen?, e6], by simp [World.frozen?, e6]⟩, ⟨(g7 _ (by omega) (by omega) (by omega) (by omega)).trans h.c0, (g7 _ (by omega) (by omega) (by omega) (by omega)).trans h.c1, (g7 _ (by omega) (by omega) (by omega) (by omega)).trans h.c2, (g7 _ (by omega) (by omega) (by omega) (by omega)).trans h.c3, heap_set (c := [_]) c46 0 _, ?_, ?_, (g7 _ (by omega) (by omega) (by omega) (by omega)).trans h.c7, ?_, h.low.trans (uAll.below h.low.size (fun k e => ?_))⟩, uAll, fun k e => ?_, rfl⟩
  · exact (uS.block _ (by omega) (by omega)).trans ((uu.block _ (by omega) (nn4 _ (by omega))).trans ((u2.block _ (by omega) (by omega)).trans e5))
  · exact (uS.block _ (by omega) (by omega)).trans ((uu.block _ (by omega) (nn4 _ (by omega))).trans e6')
  · have ids : idsT (T.take (i + 1)) = idsT (T.take i) ++ [.int .i64 (t.i : Nat)] := by rw [List.take_add_one, ht]; simp [idsT]
    rw [ids]
    exact owns_on ro (fun k e => uS.block k (nk k e).2 (by have := (nk k e).1; omega))
  · rcases e with e | e | e | e
    · omega
    · omega
    · omega
    · have := (nv k e).1; omega
  · rcases kk k e with e | e
    · exact .inl e
    · exact .inr e.1
end Go.Proofs.Ytmeoonnofiicpaa.W.R5
