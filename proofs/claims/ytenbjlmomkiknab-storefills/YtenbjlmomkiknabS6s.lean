/- StoreFills: what its store holds, in plain words. -/
import Derived.Test.YtenbjlmomkiknabS6r
namespace Go.Proofs.Ytenbjlmomkiknab.W
set_option linter.unusedVariables false
/-- an extent, filled with one byte up to k -/
def part1 (z k c : Nat) : List Nat := List.replicate k c ++ List.replicate (z - k) 0
theorem part1_len (z k c : Nat) (h : k ≤ z) : (part1 z k c).length = z := by simp [part1]; omega
theorem part1_get (z k c i : Nat) (h : k ≤ z) (hi : i < z) : (part1 z k c)[i]? = some (if i < k then c else 0) := by
  unfold part1
  rw [List.getElem?_append, List.length_replicate]
  by_cases e : i < k
  · rw [if_pos e, if_pos e, List.getElem?_replicate, if_pos e]
  · rw [if_neg e, if_neg e, List.getElem?_replicate, if_pos (by omega)]
theorem part1_zero (z c : Nat) : part1 z 0 c = List.replicate z 0 := by simp [part1]
theorem part1_all (z c : Nat) : part1 z z c = List.replicate z c := by simp [part1]
theorem seg1 (x : List Nat) (k y : Nat) (h : x[k]? = some y) : seg x k 1 = [y] := by
  apply List.ext_getElem?
  intro i
  cases i with
  | zero => rw [seg_get _ _ _ _ (by omega)]; simpa using h
  | succ i => rw [List.getElem?_eq_none (by simp [seg]; omega)]; rfl
theorem leN1 (y : Nat) : leN [y] = y := by simp [leN]
theorem part1_load (z k c i : Nat) (h : k ≤ z) (hi : i < z) : leN (seg (part1 z k c) i 1) = if i < k then c else 0 := by
  rw [seg1 _ _ _ (part1_get z k c i h hi), leN1]
theorem part1_save (z k c : Nat) (h : k < z) (hc : c < 256) : saved (part1 z k c) k c 1 = part1 z (k + 1) c := by
  apply List.ext_getElem?
  intro i
  have hl := part1_len z k c (by omega)
  have hl' := part1_len z (k + 1) c (by omega)
  rw [saved_get _ _ _ _ _ (by omega)]
  by_cases hi : i < z
  · rw [part1_get _ _ _ _ (by omega) hi, part1_get _ _ _ _ (by omega) hi]
    by_cases e : i = k
    · subst e
      rw [if_pos (by omega), if_pos (by omega)]
      simp; omega
    · rw [if_neg (by omega)]
      by_cases e2 : i < k
      · rw [if_pos e2, if_pos (by omega)]
      · rw [if_neg e2, if_neg (by omega)]
  · rw [if_neg (by omega), List.getElem?_eq_none (by omega), List.getElem?_eq_none (by omega)]
theorem rep_load (z c i : Nat) (hi : i < z) : leN (seg (List.replicate z c) i 1) = c := by
  rw [← part1_all, part1_load z z c i (Nat.le_refl _) hi, if_pos hi]
/-- the first i extents, filled, those of G given back -/
def fillA (z : Nat → Nat) (G : Nat → Bool) (i : Nat) : List (Option (List Nat)) := (List.range i).map (fun j => if G j = true then none else some (List.replicate (z j) (j + 1)))
theorem fillA_len (z : Nat → Nat) (G : Nat → Bool) (i : Nat) : (fillA z G i).length = i := by simp [fillA]
theorem fillA_get (z : Nat → Nat) (G : Nat → Bool) (i j : Nat) (h : j < i) : (fillA z G i)[j]? = some (if G j = true then none else some (List.replicate (z j) (j + 1))) := by
  unfold fillA; rw [List.getElem?_map, List.getElem?_range h]; rfl
theorem fillA_succ (z : Nat → Nat) (i : Nat) : fillA z (fun _ => false) (i + 1) = fillA z (fun _ => false) i ++ [some (List.replicate (z i) (i + 1))] := by
  unfold fillA; rw [List.range_succ, List.map_append]; rfl
theorem fillA_least (z : Nat → Nat) (i : Nat) : leastA (fillA z (fun _ => false) i) = i := by
  have : leastA (fillA z (fun _ => false) i) = (fillA z (fun _ => false) i).length := by
    unfold leastA
    rw [List.findIdx_eq_length]
    intro x hx
    unfold fillA at hx
    obtain ⟨j, _, rfl⟩ := List.mem_map.1 hx
    rfl
  rw [this, fillA_len]
theorem fillA_put (z : Nat → Nat) (i : Nat) (x : List Nat) : putA (fillA z (fun _ => false) i) i (some x) = fillA z (fun _ => false) i ++ [some x] := by
  unfold putA; rw [fillA_len, if_neg (by omega)]
theorem snoc_set (A : List (Option (List Nat))) (i : Nat) (x y : List Nat) (h : A.length = i) : (A ++ [some x]).set i (some y) = A ++ [some y] := by
  subst h; simp
theorem snoc_get (A : List (Option (List Nat))) (i : Nat) (x : List Nat) (h : A.length = i) : (A ++ [some x])[i]? = some (some x) := by
  subst h; simp
theorem fillA_give (z : Nat → Nat) (G : Nat → Bool) (i id : Nat) : (fillA z G i).set id none = fillA z (fun j => if j = id then true else G j) i := by
  apply List.ext_getElem?
  intro j
  by_cases hj : j < i
  · rw [fillA_get _ _ _ _ hj]
    by_cases e : j = id
    · subst e; rw [List.getElem?_set_self (by rw [fillA_len]; exact hj)]; simp
    · rw [List.getElem?_set_ne (by omega), fillA_get _ _ _ _ hj]; simp [e]
  · rw [List.getElem?_eq_none (by rw [List.length_set, fillA_len]; omega), List.getElem?_eq_none (by rw [fillA_len]; omega)]
/-- what is taken, of the first i -/
def usedF (z : Nat → Nat) (G : Nat → Bool) : Nat → Nat
  | 0 => 0
  | i + 1 => usedF z G i + if G i = true then 0 else up8N (z i)
theorem fillA_snoc (z : Nat → Nat) (G : Nat → Bool) (i : Nat) : fillA z G (i + 1) = fillA z G i ++ [if G i = true then none else some (List.replicate (z i) (i + 1))] := by
  unfold fillA; rw [List.range_succ, List.map_append]; rfl
theorem fillA_sum (z : Nat → Nat) (G : Nat → Bool) (i : Nat) : sumA (fillA z G i) = usedF z G i := by
  induction i with
  | zero => rfl
  | succ i ih =>
    rw [fillA_snoc, sumA_snoc, ih]
    show _ = usedF z G i + _
    by_cases e : G i = true
    · simp [e, lenA]
    · simp [e, lenA]
theorem usedF_le (z : Nat → Nat) (G : Nat → Bool) (i : Nat) (h : ∀ j, j < i → z j ≤ 300) : usedF z G i ≤ 304 * i := by
  induction i with
  | zero => exact Nat.le_refl _
  | succ i ih =>
    have h1 := ih (fun j hj => h j (by omega))
    have h2 := h i (by omega)
    show usedF z G i + _ ≤ _
    by_cases e : G i = true
    · rw [if_pos e]; omega
    · rw [if_neg e]; unfold up8N; omega
end Go.Proofs.Ytenbjlmomkiknab.W
