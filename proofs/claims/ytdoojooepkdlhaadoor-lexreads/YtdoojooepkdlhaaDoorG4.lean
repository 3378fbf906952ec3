/- Contracts of package numtext: what is printed of a double, and of a number. -/
import Derived.Test.YtdoojooepkdlhaaDoorC4
import Derived.Laws.Concat
namespace Go.Proofs.YtdoojooepkdlhaaDoor.W
open Go.ChangeShapes Go.WideShapes Go.RowKit

theorem str_app (a b : List UInt8) : (⟨a.toArray⟩ : ByteArray) ++ ⟨b.toArray⟩ = ⟨(a ++ b).toArray⟩ := by
  apply ByteArray.ext
  simp
def powTx (p : Int) : List UInt8 := (if p < 0 then [45] else [43]) ++ decL p.natAbs
theorem powTx_neg (p : Int) (h : p < 0) : powTx p = intT p := by unfold powTx intT; rw [if_pos h, if_pos h]; rfl
theorem powTx_pos (p : Int) (h : ¬ p < 0) : powTx p = 43 :: intT p := by unfold powTx intT; rw [if_neg h, if_neg h]; rfl
theorem powTx_len (p : Int) (h0 : -2000 ≤ p) (h1 : p ≤ 2000) : (powTx p).length ≤ 5 := by
  have h := decL_length p.natAbs 4 (by omega) (by omega)
  unfold powTx
  rw [List.length_append]
  split <;> simp <;> omega
theorem fracTx_len (f : Nat) (h1 : f < 4503599627370496) : (fracTx f).length ≤ 14 := by
  obtain ⟨g1, -⟩ := one_frac f h1
  unfold fracTx
  split
  · simp
  · simp only [List.length_cons]; omega
def signL (b : Bool) : List UInt8 := if b = true then [45] else []
theorem fltT_sign (u : Int) (u0 : 0 ≤ u) (u1 : u < 18446744073709551616) (hn : nanB u = false) : fltT u = signL (decide (9223372036854775808 ≤ u)) ++ posT (u % 9223372036854775808).toNat := by
  unfold fltT signL
  rw [hn]
  simp only [Bool.false_eq_true, if_false, decide_eq_true_eq]
  by_cases h : 9223372036854775808 ≤ u
  · rw [if_pos h, if_pos h]
    have : u - 9223372036854775808 = u % 9223372036854775808 := by omega
    rw [this]; rfl
  · rw [if_neg h, if_neg h]
    have : u = u % 9223372036854775808 := by omega
    rw [← this]; rfl
theorem posT_num (a : Nat) (h0 : a ≠ 0) (h1 : a ≠ 9218868437227405312) : posT a = [48, 120, 49] ++ fracTx (fracOf a) ++ [112] ++ powTx (powOf a) := by
  unfold posT fracTx powTx
  rw [if_neg h1, if_neg h0]
  simp only [List.append_assoc]
theorem nan_size (u : Int) : nanB u = decide (9218868437227405312 < u % 9223372036854775808) := by
  unfold nanB
  rfl
/-- the four ways of a double's text, by its sign and its size -/
theorem float_ways (u : Int) (u0 : 0 ≤ u) (u1 : u < 18446744073709551616) :
    (9218868437227405312 < u % 9223372036854775808 ∧ fltT u = nanT) ∨
    (u % 9223372036854775808 = 9218868437227405312 ∧ fltT u = signL (decide (9223372036854775808 ≤ u)) ++ infT) ∨
    (u % 9223372036854775808 = 0 ∧ fltT u = signL (decide (9223372036854775808 ≤ u)) ++ [48, 120, 48, 112, 43, 48]) ∨
    (0 < u % 9223372036854775808 ∧ u % 9223372036854775808 < 9218868437227405312 ∧ fltT u = signL (decide (9223372036854775808 ≤ u)) ++ [48, 120, 49] ++ fracTx (fracOf (u % 9223372036854775808).toNat) ++ [112] ++ powTx (powOf (u % 9223372036854775808).toNat)) := by
  by_cases hn : 9218868437227405312 < u % 9223372036854775808
  · refine Or.inl ⟨hn, ?_⟩
    unfold fltT
    rw [if_pos (by rw [nan_size]; exact decide_eq_true hn)]
  · have e := fltT_sign u u0 u1 (by rw [nan_size]; exact decide_eq_false hn)
    by_cases hi : u % 9223372036854775808 = 9218868437227405312
    · refine Or.inr (Or.inl ⟨hi, ?_⟩)
      rw [e, hi]; rfl
    · by_cases hz : u % 9223372036854775808 = 0
      · refine Or.inr (Or.inr (Or.inl ⟨hz, ?_⟩))
        rw [e, hz]; rfl
      · refine Or.inr (Or.inr (Or.inr ⟨by omega, by omega, ?_⟩))
        rw [e, posT_num _ (by omega) (by omega)]
        simp only [List.append_assoc]
theorem str_lit (l : List UInt8) : (⟨l.toArray⟩ : ByteArray) = ⟨⟨l⟩⟩ := rfl
end Go.Proofs.YtdoojooepkdlhaaDoor.W
