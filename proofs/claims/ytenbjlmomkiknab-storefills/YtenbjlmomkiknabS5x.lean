/- Rows that are heaps: the least is first. -/
import Derived.Test.YtenbjlmomkiknabS5w
namespace Go.Proofs.Ytenbjlmomkiknab.W
def hp (l : List Int) (i : Nat) : Int := l.getD i 0
def IsHeap (l : List Int) (n : Nat) : Prop := ∀ k, 0 < k → k < n → hp l ((k - 1) / 2) ≤ hp l k
theorem hp_swp (l : List Int) (i j k : Nat) (hi : i < l.length) (hj : j < l.length) : hp (swp l i j) k = if k = j then hp l i else if k = i then hp l j else hp l k := by
  unfold hp swp
  simp only [List.getD, List.getElem?_set, List.length_set]
  by_cases h1 : k = j
  · subst h1; simp [hj]
  · have h1' : ¬ j = k := fun e => h1 e.symm
    by_cases h2 : k = i
    · subst h2; simp [h1, h1', hi]
    · have h2' : ¬ i = k := fun e => h2 e.symm
      simp [h1, h1', h2, h2']
theorem swp_perm (l : List Int) (i j : Nat) (hi : i < l.length) (hj : j < l.length) : (swp l i j).Perm l := by
  have := List.set_set_perm hi hj
  unfold swp
  simpa [List.getD, hi, hj] using this
structure UpInv (l : List Int) (n j : Nat) : Prop where
  lt : j < n
  rest : ∀ k, 0 < k → k < n → k ≠ j → hp l ((k - 1) / 2) ≤ hp l k
  kids : 0 < j → ∀ k, 0 < k → k < n → (k - 1) / 2 = j → hp l ((j - 1) / 2) ≤ hp l k
theorem UpInv.exit {l : List Int} {n j : Nat} (h : UpInv l n j) (he : j = 0 ∨ ¬ hp l j < hp l ((j - 1) / 2)) : IsHeap l n := by
  intro k h0 hk
  by_cases e : k = j
  · subst e
    rcases he with rfl | he
    · omega
    · omega
  · exact h.rest k h0 hk e
theorem UpInv.step {l : List Int} {n j : Nat} (h : UpInv l n j) (hl : n ≤ l.length) (hj : 0 < j) (hs : hp l j < hp l ((j - 1) / 2)) : UpInv (swp l ((j - 1) / 2) j) n ((j - 1) / 2) := by
  have hlt := h.lt
  have g := fun k => hp_swp l ((j - 1) / 2) j k (by omega) (by omega)
  refine ⟨by omega, ?_, ?_⟩
  · intro k h0 hk hne
    rw [g, g]
    by_cases e : k = j
    · subst e
      rw [if_neg (by omega), if_pos rfl, if_pos rfl]; omega
    · rw [if_neg e, if_neg hne]
      by_cases e2 : (k - 1) / 2 = j
      · rw [if_pos e2]; exact h.kids hj k h0 hk e2
      · rw [if_neg e2]
        by_cases e3 : (k - 1) / 2 = (j - 1) / 2
        · rw [if_pos e3]
          have := h.rest k h0 hk e
          rw [e3] at this; omega
        · rw [if_neg e3]; exact h.rest k h0 hk e
  · intro hi k h0 hk e
    rw [g, g, if_neg (by omega), if_neg (by omega)]
    have hp1 := h.rest ((j - 1) / 2) hi (by omega) (by omega)
    by_cases e2 : k = j
    · rw [if_pos e2]; exact hp1
    · rw [if_neg e2, if_neg (by omega)]
      have := h.rest k h0 hk e2
      rw [e] at this; omega
structure DownInv (l : List Int) (n i : Nat) : Prop where
  rest : ∀ k, 0 < k → k < n → (k - 1) / 2 ≠ i → hp l ((k - 1) / 2) ≤ hp l k
  kids : 0 < i → ∀ k, 0 < k → k < n → (k - 1) / 2 = i → hp l ((i - 1) / 2) ≤ hp l k
theorem DownInv.exit {l : List Int} {n i j : Nat} (h : DownInv l n i) (he : n ≤ 2 * i + 1 ∨ ((2 * i + 1 < n → hp l j ≤ hp l (2 * i + 1)) ∧ (2 * i + 2 < n → hp l j ≤ hp l (2 * i + 2)) ∧ ¬ hp l j < hp l i)) : IsHeap l n := by
  intro k h0 hk
  by_cases e : (k - 1) / 2 = i
  · rcases he with he | ⟨h1, h2, h3⟩
    · omega
    · rw [e]
      rcases (show k = 2 * i + 1 ∨ k = 2 * i + 2 by omega) with rfl | rfl
      · have := h1 hk; omega
      · have := h2 hk; omega
  · exact h.rest k h0 hk e
theorem DownInv.step {l : List Int} {n i j : Nat} (h : DownInv l n i) (hl : n ≤ l.length) (hj : j = 2 * i + 1 ∨ j = 2 * i + 2) (hjn : j < n) (h1 : 2 * i + 1 < n → hp l j ≤ hp l (2 * i + 1)) (h2 : 2 * i + 2 < n → hp l j ≤ hp l (2 * i + 2)) (hs : hp l j < hp l i) : DownInv (swp l i j) n j := by
  have g := fun k => hp_swp l i j k (by omega) (by omega)
  have hpj : (j - 1) / 2 = i := by omega
  refine ⟨?_, ?_⟩
  · intro k h0 hk hne
    rw [g, g, if_neg hne]
    by_cases e : (k - 1) / 2 = i
    · rw [if_pos e]
      by_cases e2 : k = j
      · rw [if_pos e2]; omega
      · rw [if_neg e2, if_neg (by omega)]
        rcases (show k = 2 * i + 1 ∨ k = 2 * i + 2 by omega) with rfl | rfl
        · exact h1 hk
        · exact h2 hk
    · rw [if_neg e, if_neg (by omega)]
      by_cases e3 : k = i
      · rw [if_pos e3]
        subst e3
        exact h.kids h0 j (by omega) hjn hpj
      · rw [if_neg e3]; exact h.rest k h0 hk e
  · intro hj0 k h0 hk e
    rw [g, g, hpj, if_neg (by omega), if_pos rfl, if_neg (by omega), if_neg (by omega)]
    have := h.rest k h0 hk (by omega)
    rw [e] at this; exact this
theorem heap_least {l : List Int} {n : Nat} (h : IsHeap l n) (k : Nat) (hk : k < n) : hp l 0 ≤ hp l k := by
  induction k using Nat.strongRecOn with
  | ind k ih =>
    by_cases e : k = 0
    · rw [e]; exact Int.le_refl _
    · have h1 := h k (by omega) hk
      have h2 := ih ((k - 1) / 2) (by omega) (by omega)
      omega
theorem down_start {l : List Int} {n : Nat} (h : IsHeap l (n + 1)) (hl : l.length = n + 1) : DownInv (swp l 0 n) n 0 := by
  have g := fun k => hp_swp l 0 n k (by omega) (by omega)
  refine ⟨?_, fun h0 => absurd h0 (by omega)⟩
  intro k h0 hk hne
  rw [g, g, if_neg (by omega), if_neg (by omega), if_neg (by omega), if_neg (by omega)]
  exact h k h0 (by omega)
theorem up_start {l : List Int} (h : IsHeap l l.length) (x : Int) : UpInv (l ++ [x]) (l.length + 1) l.length := by
  have e : ∀ k, k < l.length → hp (l ++ [x]) k = hp l k := fun k hk => by unfold hp; simp [List.getD, List.getElem?_append_left hk]
  refine ⟨by omega, ?_, ?_⟩
  · intro k h0 hk hne
    rw [e _ (by omega), e _ (by omega)]
    exact h k h0 (by omega)
  · intro h0 k h1 hk he
    omega
end Go.Proofs.Ytenbjlmomkiknab.W
