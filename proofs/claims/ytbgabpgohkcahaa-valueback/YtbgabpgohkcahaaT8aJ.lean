import Derived.Test.YtbgabpgohkcahaaBase0
import Derived.Lib.ConvBytes
/- Package text: order. -/
namespace Go.Proofs.Ytbgabpgohkcahaa.W
open Go.ChangeShapes Go.WideShapes Go.RowKit
set_option linter.unusedVariables false
/-- how two rows of bytes stand to each other -/
def ordL : List Nat → List Nat → Int
  | [], [] => 0
  | [], _ :: _ => -1
  | _ :: _, [] => 1
  | a :: x, b :: y => if a = b then ordL x y else if a < b then -1 else 1
theorem ordL_self (x : List Nat) : ordL x x = 0 := by
  induction x with
  | nil => rfl
  | cons a x ih => simp [ordL, ih]
theorem ordL_eq (x : List Nat) : ∀ y, ordL x y = 0 → x = y := by
  induction x with
  | nil => intro y h; cases y with
    | nil => rfl
    | cons b y => simp [ordL] at h
  | cons a x ih => intro y h; cases y with
    | nil => simp [ordL] at h
    | cons b y =>
      unfold ordL at h
      by_cases c : a = b
      · rw [if_pos c] at h; rw [c, ih y h]
      · rw [if_neg c] at h; split at h <;> simp at h
theorem ordL_neg (x : List Nat) : ∀ y, ordL x y = - ordL y x := by
  induction x with
  | nil => intro y; cases y <;> simp [ordL]
  | cons a x ih => intro y; cases y with
    | nil => simp [ordL]
    | cons b y =>
      unfold ordL
      by_cases c : a = b
      · rw [if_pos c, if_pos c.symm]; exact ih y
      · rw [if_neg c, if_neg (Ne.symm c)]
        by_cases d : a < b
        · rw [if_pos d, if_neg (by omega)]
        · rw [if_neg d, if_pos (by omega)]; rfl
/-- as numbers -/
def cmpI (a b : Int) : Int := if a < b then -1 else if a > b then 1 else 0
theorem ordL_at (x y : List Nat) (k : Nat) (h : x.take k = y.take k) (hx : k ≤ x.length) (hy : k ≤ y.length) : ordL x y = ordL (x.drop k) (y.drop k) := by
  induction k generalizing x y with
  | zero => rfl
  | succ k ih =>
    cases x with
    | nil => simp at hx
    | cons a x => cases y with
      | nil => simp at hy
      | cons b y =>
        simp at h
        simp at hx hy
        rw [List.drop_succ_cons, List.drop_succ_cons, ← ih x y h.2 hx hy]
        show (if a = b then ordL x y else _) = _
        rw [if_pos h.1]
theorem ordL_end1 (x y : List Nat) (k : Nat) (h : x.take k = y.take k) (hx : k < x.length) (hy : k = y.length) : ordL x y = 1 := by
  rw [ordL_at x y k h (by omega) (by omega), List.drop_eq_nil_of_le (by omega : y.length ≤ k), List.drop_eq_getElem_cons hx]
  rfl
theorem ordL_ne (x y : List Nat) (k : Nat) (h : x.take k = y.take k) (a b : Nat) (hx : x[k]? = some a) (hy : y[k]? = some b) (hne : a ≠ b) : ordL x y = cmpI a b := by
  obtain ⟨lx, ex⟩ := List.getElem?_eq_some_iff.1 hx
  obtain ⟨ly, ey⟩ := List.getElem?_eq_some_iff.1 hy
  rw [ordL_at x y k h (by omega) (by omega), List.drop_eq_getElem_cons lx, List.drop_eq_getElem_cons ly, ex, ey]
  unfold ordL cmpI
  rw [if_neg hne]
  by_cases d : a < b
  · rw [if_pos d, if_pos (by omega)]
  · rw [if_neg d, if_neg (by omega), if_pos (by omega)]
theorem ordL_end (x y : List Nat) (h : x = y.take x.length) (hl : x.length ≤ y.length) : ordL x y = cmpI x.length y.length := by
  have h1 := ordL_at x y x.length (by rw [List.take_length]; exact h) (Nat.le_refl _) hl
  rw [h1, List.drop_length]
  by_cases c : x.length = y.length
  · rw [List.drop_eq_nil_of_le (by omega)]
    unfold cmpI ordL
    rw [if_neg (by omega), if_neg (by omega)]
  · rw [List.drop_eq_getElem_cons (by omega : x.length < y.length)]
    unfold cmpI ordL
    rw [if_pos (by omega)]
/-- the bytes of a string, as numbers -/
def byL (t : ByteArray) : List Nat := t.data.toList.map UInt8.toNat
theorem byL_len (t : ByteArray) : (byL t).length = t.size := by unfold byL; rw [List.length_map]; rfl
theorem byL_get (t : ByteArray) (k : Nat) (h : k < t.size) : (byL t)[k]? = some (t[k]).toNat := by
  unfold byL
  rw [List.getElem?_map]
  have h2 : k < t.data.size := h
  have : t.data.toList[k]? = some t[k] := by
    rw [Array.getElem?_toList, Array.getElem?_eq_getElem h2]; rfl
  rw [this]; rfl
theorem take_byL {x y : List Nat} {k a : Nat} (h : x.take k = y.take k) (hx : x[k]? = some a) (hy : y[k]? = some a) : x.take (k + 1) = y.take (k + 1) := by
  rw [List.take_add_one, List.take_add_one, h, hx, hy]
end Go.Proofs.Ytbgabpgohkcahaa.W
