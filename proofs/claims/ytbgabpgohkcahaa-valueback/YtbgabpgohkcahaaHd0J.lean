import Derived.Test.YtbgabpgohkcahaaBase7
/- Chains of rows, in plain words. -/
namespace Go.Proofs.Ytbgabpgohkcahaa.W
open Go.ChangeShapes Go.WideShapes Go.RowKit Go.Shelf
set_option linter.unusedVariables false
/-- the word of handle i -/
def hw (i : Nat) : Nat := 18445336698825998336 + i
theorem cls_hw (i : Nat) (h : i < 281474976710656) : cls ((hw i : Nat) : Int) = 6 := by
  unfold hw
  exact cls_t3 _ (by omega) (by omega) (by omega)
theorem hw_mod (i : Nat) (h : i < 281474976710656) : hw i % 281474976710656 = i := by unfold hw; omega
theorem hw_lt (i : Nat) (h : i < 281474976710656) : hw i < 18446744073709551616 := by unfold hw; omega
theorem hit_hw {H : List (Option Hc)} {i : Nat} {c : Hc} (hi : i < 281474976710656) (h : H[i]? = some (some c)) : hit H (hw i) = some i := by
  unfold hit
  rw [hw_mod i hi, h]
  rw [if_pos ⟨cls_hw i hi, rfl⟩]
theorem hit_low {H : List (Option Hc)} {w : Nat} (h : cls (w : Int) ≠ 6) : hit H w = none := by
  unfold hit
  rw [if_neg (fun e => h e.1)]
theorem hit_zero (H : List (Option Hc)) : hit H 0 = none := hit_low (by decide)
theorem isVal_hw {H : List (Option Hc)} {i : Nat} {c : Hc} (hi : i < 281474976710656) (h : H[i]? = some (some c)) : isVal H (hw i) = true := by
  unfold isVal
  rw [cls_hw i hi, if_neg (by decide), if_pos rfl, hit_hw hi h]; rfl
theorem isVal_zero (H : List (Option Hc)) : isVal H 0 = true := by
  have e : cls ((0 : Nat) : Int) = 1 := by decide
  unfold isVal
  rw [e, if_neg (by decide), if_neg (by decide)]
/-- where all are reached -/
theorem zip_all {H : List (Option Hc)} {ws : List Nat} (h : ∀ i c, H[i]? = some (some c) → Rch H ws i) : zipK H (rchB H ws) = H := by
  apply List.ext_getElem?
  intro i
  by_cases hi : i < H.length
  · rw [zipK_get H _ (rchB_len H ws) i hi]
    have e : H[i]? = some H[i] := List.getElem?_eq_getElem hi
    cases hx : H[i] with
    | none =>
      rw [e, hx]
      split <;> rfl
    | some c =>
      rw [hx] at e
      have hr := (rchB_get H ws i).2 (h i c e)
      have : (rchB H ws).getD i false = true := by rw [List.getD_eq_getElem?_getD, hr]; rfl
      rw [if_pos this, e]
  · rw [List.getElem?_eq_none (by rw [zipK_len _ _ (rchB_len H ws)]; omega), List.getElem?_eq_none (by omega)]
/-- where none is -/
theorem zip_none {H : List (Option Hc)} {ws : List Nat} (h : ∀ w ∈ ws, hit H w = none) : zipK H (rchB H ws) = List.replicate H.length none := by
  have hno : ∀ i, ¬ Rch H ws i := by
    intro i hr
    induction hr with
    | root w i hw hh => rw [h w hw] at hh; cases hh
    | step j i w c _ _ _ _ ih => exact ih
  apply List.ext_getElem?
  intro i
  by_cases hi : i < H.length
  · rw [zipK_get H _ (rchB_len H ws) i hi, List.getElem?_replicate, if_pos hi]
    have : ¬ (rchB H ws).getD i false = true := by
      intro e
      rw [List.getD_eq_getElem?_getD] at e
      have h2 : (rchB H ws)[i]? = some true := by
        cases hx : (rchB H ws)[i]? with
        | none => rw [hx] at e; cases e
        | some b => rw [hx] at e; simp at e; rw [e]
      exact hno i ((rchB_get H ws i).1 h2)
    rw [if_neg this]
  · rw [List.getElem?_eq_none (by rw [zipK_len _ _ (rchB_len H ws)]; omega), List.getElem?_eq_none (by simp; omega)]
theorem sum_none (n : Nat) : sumH (List.replicate n none) = 0 := by
  induction n with
  | zero => rfl
  | succ n ih => rw [List.replicate_succ, sumH_cons, ih]; rfl
theorem row_need (ws : List Nat) : (Hc.row ws).need = 1 + ws.length := by
  unfold Hc.need
  rw [show (Hc.row ws).bytes.length = 8 * ws.length from row_len ws]
  omega
/-- the end of a chain of n rows -/
def endW : Nat → Nat
  | 0 => 0
  | n + 1 => hw n
/-- a chain of n rows -/
def chain : Nat → List (Option Hc)
  | 0 => []
  | n + 1 => chain n ++ [some (.row [endW n])]
theorem chain_len (n : Nat) : (chain n).length = n := by
  induction n with
  | zero => rfl
  | succ n ih => show (chain n ++ _).length = _; rw [List.length_append, ih]; rfl
theorem chain_get (n i : Nat) (h : i < n) : (chain n)[i]? = some (some (.row [endW i])) := by
  induction n with
  | zero => omega
  | succ n ih =>
    show (chain n ++ _)[i]? = _
    by_cases c : i < n
    · rw [List.getElem?_append_left (by rw [chain_len]; exact c), ih c]
    · have e : i = n := by omega
      subst e
      rw [List.getElem?_append_right (by rw [chain_len]; omega), chain_len]
      simp
theorem chain_sum (n : Nat) : sumH (chain n) = 2 * n := by
  induction n with
  | zero => rfl
  | succ n ih =>
    show sumH (chain n ++ _) = _
    rw [sumH_snoc, ih]
    show 2 * n + (Hc.row [endW n]).need = _
    rw [row_need]; simp; omega
theorem lid_full {H : List (Option Hc)} (h : ∀ i, i < H.length → ∃ c, H[i]? = some (some c)) : lid H = H.length := by
  have h1 := lid_le H
  by_cases c : lid H < H.length
  · obtain ⟨x, hx⟩ := h _ c
    rw [lid_free c] at hx
    cases hx
  · omega
theorem chain_lid (n : Nat) : lid (chain n) = n := by
  rw [lid_full (fun i hi => ⟨_, chain_get n i (by rw [chain_len] at hi; exact hi)⟩), chain_len]
theorem chain_put (n : Nat) : putH (chain n) (lid (chain n)) (some (.row [endW n])) = chain (n + 1) := by
  rw [chain_lid]
  unfold putH
  rw [if_neg (by rw [chain_len]; omega)]
  rfl
theorem endW_lt (n : Nat) (h : n ≤ 100000) : endW n < 18446744073709551616 := by
  cases n with
  | zero => show 0 < _; omega
  | succ n => exact hw_lt n (by omega)
theorem chain_val (n : Nat) (h : n ≤ 100000) : isVal (chain n) (endW n) = true := by
  cases n with
  | zero => exact isVal_zero _
  | succ n => exact isVal_hw (by omega) (chain_get (n + 1) n (by omega))
theorem chain_rch (n : Nat) (h : n ≤ 100000) (rs : List Nat) : ∀ j, j < n → Rch (chain n) ([endW n] ++ rs) (n - 1 - j) := by
  intro j
  induction j with
  | zero =>
    intro hj
    cases n with
    | zero => omega
    | succ n => exact .root (hw n) n (by simp [endW]) (hit_hw (by omega) (chain_get (n + 1) n (by omega)))
  | succ j ih =>
    intro hj
    have h1 := ih (by omega)
    obtain ⟨k, hk⟩ : ∃ k, n - 1 - j = k + 1 := ⟨n - 1 - j - 1, by omega⟩
    rw [hk] at h1
    have e : n - 1 - (j + 1) = k := by omega
    rw [e]
    exact .step (k + 1) k (hw k) (.row [endW (k + 1)]) h1 (chain_get n (k + 1) (by omega)) (by simp [Hc.succ, endW]) (hit_hw (by omega) (chain_get n k (by omega)))
theorem chain_zip (n : Nat) (h : n ≤ 100000) (rs : List Nat) : zipK (chain n) (rchB (chain n) ([endW n] ++ rs)) = chain n := by
  refine zip_all (fun i c hc => ?_)
  have hi : i < n := by have := (List.getElem?_eq_some_iff.1 hc).1; rw [chain_len] at this; exact this
  have := chain_rch n h rs (n - 1 - i) (by omega)
  rwa [show n - 1 - (n - 1 - i) = i by omega] at this
theorem chain_reach (n : Nat) (h : n ≤ 100000) : reachN (chain n) [endW n] = 2 * n := by
  have := chain_zip n h []
  rw [List.append_nil] at this
  unfold reachN
  rw [← zipK_sum, this, chain_sum]
end Go.Proofs.Ytbgabpgohkcahaa.W
