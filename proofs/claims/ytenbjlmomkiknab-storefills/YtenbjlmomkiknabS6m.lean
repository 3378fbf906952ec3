/- Package store: its faces over what all Ids hold: Take. -/
import Derived.Test.YtenbjlmomkiknabS6l
namespace Go.Proofs.Ytenbjlmomkiknab.W
open Go.ChangeShapes Go.WideShapes Go.RowKit Go.Shelf
set_option linter.unusedVariables false
def lenA : Option (List Nat) → Nat
  | some x => up8N x.length
  | none => 0
/-- the bytes of all, rounded up -/
def sumA (A : List (Option (List Nat))) : Nat := (A.map lenA).foldr (· + ·) 0
theorem sumA_cons (x : Option (List Nat)) (A : List (Option (List Nat))) : sumA (x :: A) = lenA x + sumA A := rfl
theorem sumA_set (A : List (Option (List Nat))) (i : Nat) (x : Option (List Nat)) (h : i < A.length) : sumA (A.set i x) + lenA A[i] = sumA A + lenA x := by
  induction A generalizing i with
  | nil => exact absurd h (by simp)
  | cons a A ih =>
    cases i with
    | zero => simp only [List.set_cons_zero, sumA_cons, List.getElem_cons_zero]; omega
    | succ i =>
      have := ih i (by simpa using h)
      simp only [List.set_cons_succ, sumA_cons, List.getElem_cons_succ]; omega
theorem sumA_snoc (A : List (Option (List Nat))) (x : Option (List Nat)) : sumA (A ++ [x]) = sumA A + lenA x := by
  induction A with
  | nil => simp [sumA]
  | cons a A ih => rw [List.cons_append, sumA_cons, sumA_cons, ih]; omega
/-- how a store lies whose Ids hold A; U: bytes at most, N: Ids at most -/
structure Fine (s : Sto) (E : List Ex) (A : List (Option (List Nat))) (U N : Nat) : Prop where
  good : Good s E
  all : All s A
  sum : sumE E = sumA A
  lens : ∀ e ∈ E, e.l ≤ 8388608
  row : s.row.length ≤ 2 * U + 64
  top : sumA A ≤ U
  num : A.length ≤ N
  u9 : U ≤ 100000000000
  n9 : N ≤ 100000000
def St (W : World) (S : Nat → Prop) (sb : Nat) (A : List (Option (List Nat))) (U N : Nat) : Prop := ∃ s E vr vb vf, Lay W sb vr vb vf s ∧ Own S sb vr vb vf ∧ Fine s E A U N
section
variable {s : Sto} {E : List Ex} {A : List (Option (List Nat))} {U N : Nat}
theorem ring_fit {t : Sto} (g : Ring t E) (hl : ∀ e ∈ E, e.l ≤ 8388608) (hr : t.row.length ≤ 1000000000000) (hb : t.blks.length ≤ 1000000000) (hu0 : 0 ≤ t.used) (hu1 : t.used ≤ 1000000000000) (ho : ∀ i b, t.blks[i]? = some b → i + 1 ∉ numE E → b.pos = 0 ∧ 0 ≤ b.len ∧ b.len ≤ 100000000) : Fit t := by
  refine ⟨hb, hr, g.byte, hu0, hu1, ?_⟩
  intro n b hb
  by_cases c : n ∈ numE E
  · obtain ⟨i, hi, e⟩ := List.mem_iff_getElem.1 c
    obtain ⟨h2, h3⟩ := numE_get (E := E) (i := i) (n := n) (by rw [List.getElem?_eq_getElem hi, e])
    have := g.get i _ (rg_get h2)
    rw [← h3, hb] at this
    cases this
    have h4 := g.lies.2.2 _ (rg_mem h2)
    unfold Ex.stop at h4
    have h5 : (rg E i).l ≤ 8388608 := by
      cases i with
      | zero => show (0 : Nat) ≤ _; omega
      | succ i => exact hl _ (rg_memE h2)
    refine ⟨?_, ?_, ?_, ?_⟩
    · show (0 : Int) ≤ ((rg E i).p : Nat); omega
    · show ((rg E i).p : Int) ≤ _; omega
    · show (0 : Int) ≤ ((rg E i).l : Nat); omega
    · show ((rg E i).l : Int) ≤ _; omega
  · have h0 : n ≠ 0 := by rintro rfl; exact c (List.mem_cons_self ..)
    obtain ⟨k, rfl⟩ : ∃ k, n = k + 1 := ⟨n - 1, by omega⟩
    rw [get_blks] at hb
    obtain ⟨a1, a2, a3⟩ := ho k b hb c
    exact ⟨by omega, by omega, a2, a3⟩
theorem Fine.used (f : Fine s E A U N) : s.used = (sumA A : Nat) := by rw [f.good.used]; exact congrArg _ f.sum
theorem Fine.fit (f : Fine s E A U N) : Fit s := by
  have h1 := f.row; have h2 := f.top; have h3 := f.num; have h4 := f.u9; have h5 := f.n9; have h6 := f.used; have h7 := f.all.1
  refine ring_fit f.good.rng f.lens (by omega) (by omega) (by omega) (by omega) ?_
  intro i b hb hn
  rcases f.good.zero i b hb hn with rfl | rfl
  · exact ⟨rfl, Int.le_refl _, by decide⟩
  · exact ⟨rfl, Int.le_refl _, by decide⟩
theorem all_put {s' : Sto} {id : Nat} {x : List Nat} {s1 : Sto} (h : All s A) (hid : id ≤ A.length) (hl : s'.blks.length = if id < A.length then A.length else A.length + 1) (hh : ∀ i, held s' i = if i = id then some x else held s i) : All s' (putA A id (some x)) := by
  unfold putA
  by_cases c : id < A.length
  · rw [if_pos c] at hl ⊢
    refine ⟨by rw [hl, List.length_set], fun i => ?_⟩
    rw [hh]
    by_cases e : i = id
    · subst e; rw [if_pos rfl, List.getElem?_set_self c]; rfl
    · rw [if_neg e, List.getElem?_set_ne (by omega)]; exact h.2 i
  · rw [if_neg c] at hl ⊢
    refine ⟨by rw [hl, List.length_append]; rfl, fun i => ?_⟩
    rw [hh]
    by_cases e : i = id
    · subst e; rw [if_pos rfl, show i = A.length by omega]; simp
    · rw [if_neg e, h.2 i]
      by_cases d : i < A.length
      · rw [List.getElem?_append_left d]
      · rw [List.getElem?_eq_none (by omega), List.getElem?_eq_none (by simp; omega)]
theorem sumA_put (A : List (Option (List Nat))) (x : List Nat) : sumA (putA A (leastA A) (some x)) = sumA A + up8N x.length := by
  unfold putA
  by_cases c : leastA A < A.length
  · rw [if_pos c]
    have h1 := sumA_set A (leastA A) (some x) c
    have h2 : A[leastA A] = none := by
      have := List.findIdx_getElem (w := c)
      exact Option.isNone_iff_eq_none.1 this
    rw [h2] at h1
    simpa [lenA] using h1
  · rw [if_neg c, sumA_snoc]; rfl
theorem putA_len (A : List (Option (List Nat))) (id : Nat) (x : Option (List Nat)) : (putA A id x).length = if id < A.length then A.length else A.length + 1 := by
  unfold putA; split <;> simp
end
end Go.Proofs.Ytenbjlmomkiknab.W
