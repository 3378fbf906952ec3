import Derived.Test.YtaebnnkhjlidiaaBase9
/- Rows in a circle, in plain words. -/
namespace Go.Proofs.Ytaebnnkhjlidiaa.W
open Go.ChangeShapes Go.WideShapes Go.RowKit Go.Shelf
set_option linter.unusedVariables false
/-- the words of the j-th of n rows, once i rows have been set -/
def cirW (n i j : Nat) : List Nat := if j < i then [hw ((j + 1) % n), hw j] else [9221120237041090560, 9221120237041090560]
def cir (n i : Nat) : List (Option Hc) := (List.range n).map (fun j => some (.row (cirW n i j)))
theorem cir_len (n i : Nat) : (cir n i).length = n := by simp [cir]
theorem cir_get (n i j : Nat) (h : j < n) : (cir n i)[j]? = some (some (.row (cirW n i j))) := by
  unfold cir
  rw [List.getElem?_map, List.getElem?_range h]
  rfl
theorem cirW_len (n i j : Nat) : (cirW n i j).length = 2 := by unfold cirW; split <;> rfl
theorem sumH_map (l : List Nat) (f : Nat → List Nat) (h : ∀ j, (f j).length = 2) : sumH (l.map (fun j => some (.row (f j)))) = 3 * l.length := by
  induction l with
  | nil => rfl
  | cons a r ih =>
    rw [List.map_cons, sumH_cons, ih]
    show (Hc.row (f a)).need + _ = _
    rw [row_need, h]; simp; omega
theorem cir_sum (n i : Nat) : sumH (cir n i) = 3 * n := by
  unfold cir
  rw [sumH_map _ _ (fun j => cirW_len n i j), List.length_range]
theorem cir_lid (n i : Nat) : lid (cir n i) = n := by
  rw [lid_full (fun k hk => ⟨_, cir_get n i k (by rw [cir_len] at hk; exact hk)⟩), cir_len]
theorem cir_hit (n i j : Nat) (hn : n ≤ 1000000) (h : j < n) : hit (cir n i) (hw j) = some j := hit_hw (by omega) (cir_get n i j h)
/-- the Puts: no row is set yet -/
theorem cir_put (n : Nat) : putH (cir n 0) (lid (cir n 0)) (some (.row [9221120237041090560, 9221120237041090560])) = cir (n + 1) 0 := by
  rw [cir_lid]
  unfold putH
  rw [if_neg (by rw [cir_len]; omega)]
  unfold cir
  rw [List.range_succ, List.map_append]
  have h : ∀ j, cirW n 0 j = cirW (n + 1) 0 j := fun j => by unfold cirW; rw [if_neg (by omega), if_neg (by omega)]
  simp only [h]
  simp [cirW]
theorem isVal_canon (H : List (Option Hc)) : isVal H 9221120237041090560 = true := by
  have e : cls ((9221120237041090560 : Nat) : Int) = 1 := by decide
  unfold isVal
  rw [e, if_neg (by decide), if_neg (by decide)]
/-- a row's two words are set -/
theorem cir_set (n i : Nat) (h : i < n) : ((cir n i).set i (some (.row (([9221120237041090560, 9221120237041090560] : List Nat).set 0 (hw ((i + 1) % n)))))).set i (some (.row ([hw ((i + 1) % n), 9221120237041090560].set 1 (hw i)))) = cir n (i + 1) := by
  rw [List.set_set]
  apply List.ext_getElem?
  intro j
  by_cases hj : j < n
  · rw [cir_get n (i + 1) j hj]
    by_cases e : i = j
    · subst e
      rw [List.getElem?_set_self (by rw [cir_len]; exact hj)]
      unfold cirW
      rw [if_pos (by omega)]
      rfl
    · rw [List.getElem?_set_ne e, cir_get n i j hj]
      unfold cirW
      by_cases c : j < i
      · rw [if_pos c, if_pos (by omega)]
      · rw [if_neg c, if_neg (by omega)]
  · rw [List.getElem?_eq_none (by rw [List.length_set, cir_len]; omega), List.getElem?_eq_none (by rw [cir_len]; omega)]
theorem cir_half (n i : Nat) (h : i < n) (X : List Nat) : ((cir n i).set i (some (.row X)))[i]? = some (some (.row X)) := List.getElem?_set_self (by rw [cir_len]; exact h)
theorem cir_half_ne (n i j : Nat) (h : i < n) (hj : j < n) (X : List Nat) : ∃ c, ((cir n i).set i (some (.row X)))[j]? = some (some c) := by
  by_cases e : i = j
  · subst e; exact ⟨_, cir_half n i h X⟩
  · rw [List.getElem?_set_ne e]; exact ⟨_, cir_get n i j hj⟩
/-- all are reached from each of them -/
theorem cir_rch (n k : Nat) (hn : n ≤ 1000000) (hk : k < n) (ws : List Nat) (hw' : hw k ∈ ws) : ∀ d, Rch (cir n n) ws ((k + d) % n) := by
  intro d
  induction d with
  | zero =>
    rw [Nat.add_zero, Nat.mod_eq_of_lt hk]
    exact .root (hw k) k hw' (cir_hit n n k hn hk)
  | succ d ih =>
    have h1 : (k + d) % n < n := Nat.mod_lt _ (by omega)
    have h2 : (k + (d + 1)) % n < n := Nat.mod_lt _ (by omega)
    have e : (k + (d + 1)) % n = ((k + d) % n + 1) % n := by rw [Nat.mod_add_mod]; rfl
    refine .step ((k + d) % n) _ (hw ((k + (d + 1)) % n)) (.row (cirW n n ((k + d) % n))) ih (cir_get n n _ h1) ?_ (cir_hit n n _ hn h2)
    show _ ∈ cirW n n ((k + d) % n)
    unfold cirW
    rw [if_pos h1, e]
    simp
theorem cir_all (n k : Nat) (hn : n ≤ 1000000) (hk : k < n) (ws : List Nat) (hw' : hw k ∈ ws) : ∀ i c, (cir n n)[i]? = some (some c) → Rch (cir n n) ws i := by
  intro i c hc
  have hi : i < n := by have := (List.getElem?_eq_some_iff.1 hc).1; rw [cir_len] at this; exact this
  have := cir_rch n k hn hk ws hw' (i + n - k)
  rwa [show k + (i + n - k) = i + n by omega, Nat.add_mod_right, Nat.mod_eq_of_lt hi] at this
theorem cir_none (n : Nat) (ws : List Nat) (h : ws = []) : zipK (cir n n) (rchB (cir n n) ws) = List.replicate n none := by
  subst h
  rw [zip_none (fun w hw => by cases hw), cir_len]
theorem lid_none (n : Nat) (h : 0 < n) : lid (List.replicate n none) = 0 := by
  cases n with
  | zero => omega
  | succ n => rfl
theorem hit_none (n w : Nat) : hit (List.replicate n none) w = none := by
  unfold hit
  split
  · rename_i h
    have := h.2
    rw [List.getElem?_replicate] at this
    split at this <;> simp at this
  · rfl
end Go.Proofs.Ytaebnnkhjlidiaa.W
