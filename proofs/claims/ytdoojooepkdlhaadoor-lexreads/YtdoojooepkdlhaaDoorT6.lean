/- Plain facts on texts of numbers, more: signs ahead; one number written otherwise, with noughts ahead of its digits or behind them. No Go in sight. -/
import Derived.Test.YtdoojooepkdlhaaDoorT5
namespace Go.Proofs.YtdoojooepkdlhaaDoor.W

/-! ### signs -/
theorem readS_none (s : Int) (c : UInt8) (l : List UInt8) (h : c ≠ 48) : readS s (c :: l) = (0, 20) := by
  unfold readS
  split
  · rename_i r e
    injection e with e1 e2
    exact absurd e1 h
  · rfl
theorem readF_other (c : UInt8) (l : List UInt8) (h1 : c ≠ 48) (h2 : c ≠ 45) (h3 : c ≠ 110) (h4 : c ≠ 105) (hl : (c :: l).length ≤ 64) : readF (c :: l) = (0, 20) := by
  unfold readF
  rw [if_neg (by omega), if_neg (by intro e; injection e with e1 e2; exact h3 e1), if_neg (by intro e; injection e with e1 e2; exact h4 e1), if_neg (by intro e; injection e with e1 e2; exact h2 e1)]
  split
  · rename_i b e
    injection e with e1 e2
    exact absurd e1 h2
  · exact readS_none 0 c l h1
theorem readF_twice (l : List UInt8) (hl : l.length ≤ 62) : readF (45 :: 45 :: l) = (0, 20) := by
  unfold readF
  rw [if_neg (by simp only [List.length_cons]; omega), if_neg (by intro e; injection e with e1 e2; revert e1; decide), if_neg (by intro e; injection e with e1 e2; revert e1; decide), if_neg (by intro e; injection e with e1 e2; injection e2 with e3 e4; revert e3; decide)]
  exact readS_none _ 45 l (by decide)
theorem flt_minus (u : Int) (h : 9223372036854775808 ≤ u) (u1 : u < 18446744073709551616) (hn : nanB u = false) : fltT u = 45 :: fltT (u - 9223372036854775808) := by
  have hn' : nanB (u - 9223372036854775808) = false := by
    simp only [nanB, decide_eq_false_iff_not] at hn ⊢
    omega
  unfold fltT
  rw [hn, hn']
  simp only [Bool.false_eq_true, if_false]
  rw [if_pos h]
  by_cases g : 9223372036854775808 ≤ u - 9223372036854775808
  · exact absurd g (by omega)
  · rw [if_neg g]
/-! ### noughts -/
/-- a finite pattern's text, ahead of the p and from it on -/
def firstD (a : Nat) : UInt8 := if a = 0 then 48 else 49
def fracT (a : Nat) : List UInt8 := if a = 0 then [] else fracL 13 (fracOf a)
def tailT (a : Nat) : List UInt8 := if a = 0 then [112, 43, 48] else 112 :: (if powOf a < 0 then 45 else 43) :: decL (powOf a).natAbs
theorem posT_parts (a : Nat) (h1 : a < 9218868437227405312) : posT a = 48 :: 120 :: firstD a :: ((if fracT a = [] then [] else 46 :: fracT a) ++ tailT a) := by
  unfold posT firstD fracT tailT
  rw [if_neg (by omega)]
  by_cases h0 : a = 0
  · subst h0; rfl
  · simp only [if_neg h0]
    by_cases hf : fracOf a = 0
    · have e0 : fracL 13 (fracOf a) = [] := by rw [hf]; rfl
      rw [if_pos hf, e0, if_pos rfl]
      split <;> rfl
    · rw [if_neg hf, if_neg (fracL_ne _ hf)]
      split <;> simp
/-- what the parts say, by digits: noughts ahead and behind do not matter -/
theorem parts_exact (a j k : Nat) (h1 : a < 9218868437227405312) :
    ∃ (sg : UInt8) (ds : List UInt8), tailT a = 112 :: sg :: ds ∧ (sg = 43 ∨ sg = 45) ∧ ds ≠ [] ∧ ds.length ≤ 5 ∧ ds.all digB = true ∧
      exactP (valH ((List.replicate j 48 ++ [firstD a]) ++ (fracT a ++ List.replicate k 48))) ((if sg = 45 then -(valD ds : Int) else valD ds) - 4 * (fracT a ++ List.replicate k 48).length) = some (a : Int) := by
  have z48 : (48 : UInt8) = dig 0 := by decide
  have vz : ∀ (n : Nat), valH (List.replicate n 48) = 0 := by
    intro n
    have := valH_zeros n []
    rw [List.append_nil] at this
    rw [z48, this]; rfl
  have vj : ∀ l, valH ((List.replicate j 48 ++ [firstD a]) ++ l) = valH (firstD a :: l) := by
    intro l
    rw [List.append_assoc, z48, valH_zeros]; rfl
  by_cases h0 : a = 0
  · subst h0
    refine ⟨43, [48], rfl, Or.inl rfl, by simp, by decide, by decide, ?_⟩
    rw [vj]
    have e1 : fracT 0 = [] := rfl
    have e2 : firstD 0 = 48 := rfl
    have e3 : valH (48 :: (([] : List UInt8) ++ List.replicate k 48)) = 0 := vz (k + 1)
    rw [e1, e2, e3]
    unfold exactP
    rw [if_pos rfl]; rfl
  · obtain ⟨f1, -, -, -⟩ := fracOf_spec a h0 h1
    have ex := exact_text a h0 h1
    have hl := pow_len a h0 h1
    have eT : tailT a = 112 :: (if powOf a < 0 then 45 else 43) :: decL (powOf a).natAbs := by unfold tailT; rw [if_neg h0]
    have eF : fracT a = fracL 13 (fracOf a) := by unfold fracT; rw [if_neg h0]
    have eD : firstD a = hexd 1 := by unfold firstD; rw [if_neg h0]; decide
    have pw : (if (if powOf a < 0 then (45 : UInt8) else 43) = 45 then -(valD (decL (powOf a).natAbs) : Int) else valD (decL (powOf a).natAbs)) = powOf a := by
      rw [valD_dec]
      by_cases g : powOf a < 0
      · rw [if_pos g, if_pos rfl]; omega
      · rw [if_neg g, if_neg (by decide)]; omega
    have sgn : (if powOf a < 0 then (45 : UInt8) else 43) = 43 ∨ (if powOf a < 0 then (45 : UInt8) else 43) = 45 := by
      by_cases g : powOf a < 0
      · rw [if_pos g]; exact Or.inr rfl
      · rw [if_neg g]; exact Or.inl rfl
    refine ⟨_, _, eT, sgn, decL_ne _, by omega, dec_all _, ?_⟩
    rw [pw, vj, eF, eD]
    have e1 : valH (hexd 1 :: (fracL 13 (fracOf a) ++ List.replicate k 48)) = valH (hexd 1 :: fracL 13 (fracOf a)) * 2 ^ (4 * k) := by
      rw [← List.cons_append, valH_append, vz, List.length_replicate, Nat.add_zero, pow16]
    have el : powOf a - 4 * ((fracL 13 (fracOf a) ++ List.replicate k 48).length : Int) + ((4 * k : Nat) : Int) = powOf a - 4 * (fracL 13 (fracOf a)).length := by
      simp only [List.length_append, List.length_replicate]
      omega
    rw [e1, exact_shift, el]
    exact ex
theorem zeros_hex (n : Nat) : ∀ c ∈ List.replicate n (48 : UInt8), hexB c = true := by
  intro c hc
  rw [(List.mem_replicate.1 hc).2]; decide
theorem frac_hex (a : Nat) (h1 : a < 9218868437227405312) : ∀ c ∈ fracT a, hexB c = true := by
  unfold fracT
  by_cases h0 : a = 0
  · rw [if_pos h0]; intro c hc; cases hc
  · rw [if_neg h0]
    exact fracL_hex _ (fracOf_spec a h0 h1).1
theorem first_hex (a : Nat) : hexB (firstD a) = true := by unfold firstD; split <;> decide
/-- noughts ahead of the digits, and behind the point -/
theorem readS_noughts (s : Int) (a j k : Nat) (h1 : a < 9218868437227405312) :
    readS s (48 :: 120 :: ((List.replicate j 48 ++ [firstD a]) ++ ((if fracT a ++ List.replicate k 48 = [] then [] else 46 :: (fracT a ++ List.replicate k 48)) ++ tailT a))) = (s + a, 0) := by
  obtain ⟨sg, ds, eT, h2, h3, h4, h5, ex⟩ := parts_exact a j k h1
  have ha : ∀ c ∈ List.replicate j (48 : UInt8) ++ [firstD a], hexB c = true := by
    intro c hc
    rcases List.mem_append.1 hc with hc | hc
    · exact zeros_hex j c hc
    · simp only [List.mem_singleton] at hc; rw [hc]; exact first_hex a
  have hn : List.replicate j (48 : UInt8) ++ [firstD a] ≠ [] := by simp
  rw [eT]
  by_cases hb : fracT a ++ List.replicate k 48 = []
  · rw [if_pos hb]
    rw [hb, List.append_nil] at ex
    have b := readBody_plain _ sg ds ha hn h2 h3 h4 h5
    rw [List.nil_append]
    unfold readS
    simp only [b]
    have ex' : exactP (valH (List.replicate j 48 ++ [firstD a])) (if sg = 45 then -(valD ds : Int) else valD ds) = some (a : Int) := by simpa using ex
    rw [ex']
  · rw [if_neg hb]
    have hbh : ∀ c ∈ fracT a ++ List.replicate k (48 : UInt8), hexB c = true := by
      intro c hc
      rcases List.mem_append.1 hc with hc | hc
      · exact frac_hex a h1 c hc
      · exact zeros_hex k c hc
    have b := readBody_point _ _ sg ds ha hn hbh hb h2 h3 h4 h5
    rw [List.cons_append]
    unfold readS
    simp only [b]
    rw [ex]
end Go.Proofs.YtdoojooepkdlhaaDoor.W
