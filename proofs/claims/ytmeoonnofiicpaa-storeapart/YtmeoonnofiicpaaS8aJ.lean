import Derived.Test.YtmeoonnofiicpaaBase5
/- How extents are told, in plain words: in their order, none over another. -/
namespace Go.Proofs.Ytmeoonnofiicpaa.W
open Go.ChangeShapes Go.WideShapes Go.RowKit Go.Shelf
set_option linter.unusedVariables false
/-- what is told of a row of R bytes, whose Ids hold A -/
structure Lie (A : List (Option (List Nat))) (R : Nat) (T : List Tr) : Prop where
  has : ∀ t ∈ T, ∃ xs, A[t.i]? = some (some xs) ∧ xs.length = t.l
  ins : ∀ t ∈ T, t.p % 8 = 0 ∧ t.p + t.l ≤ R
  up : T.Pairwise (fun t u => t.p < u.p ∨ (t.p = u.p ∧ t.i < u.i))
  apart : T.Pairwise (fun t u => 0 < u.l → t.p + t.l ≤ u.p)
  cnt : T.length = cntA A
theorem lie_ext {s : Sto} {E : List Ex} {A : List (Option (List Nat))} {U N : Nat} (f : Fine s E A U N) : Lie A s.row.length (extL s E) := by
  have g := f.good
  have hA : ∀ id x, held s id = some x → A[id]? = some (some x) := by
    intro id x h
    rw [f.all.2] at h
    cases h2 : A[id]? with
    | none => rw [h2] at h; cases h
    | some y => rw [h2] at h; exact congrArg some h
  have hrg : ∀ k e, E[k]? = some e → rg E (k + 1) = e := by
    intro k e he
    unfold rg ring
    simp [he]
  have hE : ∀ e ∈ E, (∃ xs, A[e.n - 1]? = some (some xs) ∧ xs.length = e.l) ∧ e.p % 8 = 0 ∧ 0 < e.l ∧ e.stop ≤ s.row.length := by
    intro e he
    obtain ⟨h1, h2, h3⟩ := g.lies.2.1 e he
    have h4 := g.lies.2.2 e (List.mem_cons_of_mem _ he)
    obtain ⟨k, hk⟩ := List.mem_iff_getElem?.1 he
    have hkl := (List.getElem?_eq_some_iff.1 hk).1
    have h5 := held_rg g.rng (k := k) (by unfold ring; simp; omega) (id := e.n - 1) (by rw [hrg k e hk]; omega)
    rw [hrg k e hk] at h5
    refine ⟨⟨_, hA _ _ h5, seg_len _ _ _ ?_⟩, h1, h2, h4⟩
    unfold Ex.stop up8N at h4
    omega
  have hZ : ∀ t ∈ zs s s.blks.length, t.p = s.row.length ∧ t.l = 0 ∧ A[t.i]? = some (some []) := by
    intro t ht
    unfold zs at ht
    obtain ⟨id, hid, rfl⟩ := List.mem_map.1 ht
    have hz := (List.mem_filter.1 hid).2
    refine ⟨rfl, rfl, hA _ _ ?_⟩
    unfold isZ at hz
    show held s id = some []
    unfold held
    cases hb : s.blks[id]? with
    | none => rw [hb] at hz; cases hz
    | some b =>
      rw [hb] at hz
      simp only [Bool.and_eq_true, beq_iff_eq] at hz
      simp only [hz.1, if_true, hz.2]
      simp [seg]
  have hpE : E.Pairwise (fun e f => e.stop ≤ f.p) := by
    rw [List.pairwise_iff_getElem]
    intro i j hi hj hij
    have := rg_lt g.lies (i := i + 1) (j := j + 1) (by omega) (by unfold ring; simp; omega)
    rw [hrg i _ (List.getElem?_eq_getElem hi), hrg j _ (List.getElem?_eq_getElem hj)] at this
    exact this
  refine ⟨?_, ?_, ?_, ?_, ext_count g f.all⟩
  · intro t ht
    rcases List.mem_append.1 ht with ht | ht
    · obtain ⟨e, he, rfl⟩ := List.mem_map.1 ht
      exact (hE e he).1
    · obtain ⟨_, h2, h3⟩ := hZ t ht
      exact ⟨[], h3, by rw [h2]; rfl⟩
  · intro t ht
    rcases List.mem_append.1 ht with ht | ht
    · obtain ⟨e, he, rfl⟩ := List.mem_map.1 ht
      obtain ⟨_, h1, h2, h3⟩ := hE e he
      refine ⟨h1, ?_⟩
      unfold Ex.stop up8N at h3
      show e.p + e.l ≤ _
      omega
    · obtain ⟨h1, h2, _⟩ := hZ t ht
      rw [h1, h2]
      exact ⟨g.row8, by omega⟩
  · unfold extL
    rw [List.pairwise_append]
    refine ⟨?_, ?_, ?_⟩
    · unfold trE
      rw [List.pairwise_map]
      refine hpE.imp_of_mem ?_
      intro e f he hf h
      left
      obtain ⟨_, _, h2, _⟩ := hE e he
      unfold Ex.stop up8N at h
      show e.p < f.p
      omega
    · unfold zs
      rw [List.pairwise_map]
      refine (List.Pairwise.filter _ List.pairwise_lt_range).imp ?_
      intro a b h
      exact .inr ⟨rfl, h⟩
    · intro t ht u hu
      obtain ⟨e, he, rfl⟩ := List.mem_map.1 ht
      obtain ⟨_, _, h2, h3⟩ := hE e he
      left
      rw [(hZ u hu).1]
      unfold Ex.stop up8N at h3
      show e.p < _
      omega
  · unfold extL
    rw [List.pairwise_append]
    refine ⟨?_, ?_, ?_⟩
    · unfold trE
      rw [List.pairwise_map]
      refine hpE.imp_of_mem ?_
      intro e f he hf h _
      unfold Ex.stop up8N at h
      show e.p + e.l ≤ f.p
      omega
    · unfold zs
      rw [List.pairwise_map]
      refine List.Pairwise.imp ?_ (List.Pairwise.filter _ List.pairwise_lt_range)
      intro a b h hl
      exact absurd hl (by simp)
    · intro t ht u hu hl
      rw [(hZ u hu).2.1] at hl
      omega
/-- where what was told ends -/
def endT : List Tr → Nat
  | [] => 0
  | t :: r => max (t.p + t.l) (endT r)
theorem endT_snoc (a : List Tr) (t : Tr) : endT (a ++ [t]) = max (endT a) (t.p + t.l) := by
  induction a with
  | nil => simp [endT]
  | cons b a ih => simp only [List.cons_append, endT, ih]; omega
theorem endT_le (a : List Tr) (m : Nat) (h : ∀ t ∈ a, t.p + t.l ≤ m) : endT a ≤ m := by
  induction a with
  | nil => exact Nat.zero_le _
  | cons b a ih =>
    have h1 := h b (List.mem_cons_self ..)
    have h2 := ih (fun t ht => h t (List.mem_cons_of_mem _ ht))
    simp only [endT]; omega
section
variable {A : List (Option (List Nat))} {R : Nat} {T : List Tr}
theorem Lie.end_le (h : Lie A R T) (i : Nat) : endT (T.take i) ≤ R := endT_le _ _ (fun t ht => (h.ins t (List.mem_of_mem_take ht)).2)
theorem Lie.end_at (h : Lie A R T) {i : Nat} {u : Tr} (hu : T[i]? = some u) (hl : 0 < u.l) : endT (T.take i) ≤ u.p := by
  refine endT_le _ _ (fun t ht => ?_)
  obtain ⟨j, hj⟩ := List.mem_iff_getElem?.1 ht
  have hji : j < i := by
    have := (List.getElem?_eq_some_iff.1 hj).1
    rw [List.length_take] at this
    omega
  rw [List.getElem?_take_of_lt hji] at hj
  have h1 := (List.getElem?_eq_some_iff.1 hj).1
  have h2 := (List.getElem?_eq_some_iff.1 hu).1
  have := (List.pairwise_iff_getElem.1 h.apart) j i h1 h2 hji
  rw [(List.getElem?_eq_some_iff.1 hj).2, (List.getElem?_eq_some_iff.1 hu).2] at this
  exact this hl
theorem Lie.up_at (h : Lie A R T) {i : Nat} {t u : Tr} (ht : T[i]? = some t) (hu : T[i + 1]? = some u) : t.p < u.p ∨ (t.p = u.p ∧ t.i < u.i) := by
  have h1 := (List.getElem?_eq_some_iff.1 ht).1
  have h2 := (List.getElem?_eq_some_iff.1 hu).1
  have := (List.pairwise_iff_getElem.1 h.up) i (i + 1) h1 h2 (by omega)
  rw [(List.getElem?_eq_some_iff.1 ht).2, (List.getElem?_eq_some_iff.1 hu).2] at this
  exact this
theorem endT_take (T : List Tr) (i : Nat) (u : Tr) (hu : T[i]? = some u) : endT (T.take (i + 1)) = max (endT (T.take i)) (u.p + u.l) := by
  rw [List.take_add_one, hu]
  exact endT_snoc _ _
end
end Go.Proofs.Ytmeoonnofiicpaa.W
