/- Plain facts on texts of numbers, more: what is read as a whole number is printed the same; no NaN but one is read; a number's text says of which kind it is. No Go in sight. -/
import Derived.Test.YtdoojooepkdlhaaDoorT4
namespace Go.Proofs.YtdoojooepkdlhaaDoor.W

theorem form_good {m : Bool} {d : List UInt8} (h : formI m d = true) : goodD d ∧ (m = true → valD d ≠ 0) := by
  unfold formI at h
  rw [Bool.and_eq_true, Bool.and_eq_true] at h
  obtain ⟨⟨h1, h2⟩, h3⟩ := h
  have h1' : d ≠ [] := by simpa using h1
  have h48 : (48 : UInt8) = dig 0 := by decide
  have hd : ∀ c ∈ d, 48 ≤ c.toNat ∧ c.toNat ≤ 57 := by
    intro c hc
    exact of_decide_eq_true (List.all_eq_true.1 h2 c hc)
  have g : goodD d := by
    refine ⟨h1', hd, fun hh => ?_⟩
    rw [← h48] at hh
    have e : (d.head? == some 48) = true := by rw [hh]; rfl
    rw [e] at h3
    have : ¬ 1 < d.length := by
      intro hl
      rw [decide_eq_true hl] at h3
      cases h3
    have : 0 < d.length := List.length_pos_iff.2 h1'
    omega
  refine ⟨g, fun hm hz => ?_⟩
  have e := dec_val d g
  rw [hz, decL_small (by omega)] at e
  rw [← e, hm] at h3
  revert h3
  decide
/-- what is read as a whole number is printed the same -/
theorem readI_text (l : List UInt8) (k : Int) (h : readI l = (k, 0)) : intT k = l := by
  have go : ∀ (m : Bool) (d : List UInt8), readD m d = (k, 0) → goodD d ∧ (m = true → valD d ≠ 0) ∧ k = if m = true then -(valD d : Int) else valD d := by
    intro m d hd
    unfold readD at hd
    by_cases hf : formI m d = true
    · rw [if_pos hf] at hd
      obtain ⟨g1, g2⟩ := form_good hf
      refine ⟨g1, g2, ?_⟩
      by_cases hv : (if m = true then valD d ≤ 9223372036854775808 else valD d < 9223372036854775808)
      · rw [if_pos hv] at hd
        injection hd with e1 e2
        exact e1.symm
      · rw [if_neg hv] at hd
        injection hd with e1 e2
        cases e2
    · rw [if_neg hf] at hd
      injection hd with e1 e2
      cases e2
  unfold readI at h
  by_cases hl : 64 < l.length
  · rw [if_pos hl] at h
    injection h with e1 e2
    cases e2
  · rw [if_neg hl] at h
    split at h
    · rename_i d
      obtain ⟨g1, g2, g3⟩ := go true d h
      have := g2 rfl
      rw [if_pos rfl] at g3
      unfold intT
      rw [if_pos (by omega)]
      have e : k.natAbs = valD d := by omega
      rw [e, dec_val d g1]
    · obtain ⟨g1, g2, g3⟩ := go false l h
      rw [if_neg (by decide)] at g3
      unfold intT
      rw [if_neg (by omega)]
      have e : k.natAbs = valD l := by omega
      rw [e, dec_val l g1]
theorem readI_range (l : List UInt8) (k e : Int) (h : readI l = (k, e)) : -9223372036854775808 ≤ k ∧ k < 9223372036854775808 := by
  have go : ∀ (m : Bool) (d : List UInt8), readD m d = (k, e) → -9223372036854775808 ≤ k ∧ k < 9223372036854775808 := by
    intro m d hd
    unfold readD at hd
    cases m
    · simp only [Bool.false_eq_true, if_false] at hd
      split at hd
      · split at hd <;> (injection hd with e1 e2; omega)
      · injection hd with e1 e2; omega
    · simp only [if_true] at hd
      split at hd
      · split at hd <;> (injection hd with e1 e2; omega)
      · injection hd with e1 e2; omega
  unfold readI at h
  split at h
  · injection h with e1 e2; omega
  · split at h
    · exact go true _ h
    · exact go false _ h
/-- no NaN is read but the one -/
theorem readF_canon (l : List UInt8) (x e : Int) (h : readF l = (x, e)) : 0 ≤ x ∧ x < 18446744073709551616 ∧ fltW x = x := by
  have go : ∀ (s : Int) (b : List UInt8), (s = 0 ∨ s = 9223372036854775808) → readS s b = (x, e) → 0 ≤ x ∧ x < 18446744073709551616 ∧ fltW x = x := by
    intro s b hs hd
    have zero : (0, (20 : Int)) = (x, e) ∨ (0, (21 : Int)) = (x, e) → 0 ≤ x ∧ x < 18446744073709551616 ∧ fltW x = x := by
      intro h
      have : x = 0 := by rcases h with h | h <;> (injection h with e1 e2; exact e1.symm)
      subst this
      exact ⟨by omega, by omega, by decide⟩
    unfold readS at hd
    split at hd
    · split at hd
      · exact zero (Or.inl hd)
      · split at hd
        · exact zero (Or.inr hd)
        · rename_i a hx
          obtain ⟨r0, r1⟩ := exact_range _ _ _ hx
          injection hd with e1 e2
          have nn : nanB x = false := by
            simp only [nanB, decide_eq_false_iff_not]
            rcases hs with rfl | rfl <;> omega
          refine ⟨by rcases hs with rfl | rfl <;> omega, by rcases hs with rfl | rfl <;> omega, ?_⟩
          unfold fltW
          rw [nn]; simp
    · exact zero (Or.inl hd)
  unfold readF at h
  split at h
  · injection h with e1 e2; subst e1; exact ⟨by omega, by omega, by decide⟩
  · split at h
    · injection h with e1 e2; subst e1; exact ⟨by omega, by omega, by decide⟩
    · split at h
      · injection h with e1 e2; subst e1; exact ⟨by omega, by omega, by decide⟩
      · split at h
        · injection h with e1 e2; subst e1; exact ⟨by omega, by omega, by decide⟩
        · split at h
          · exact go _ _ (Or.inr rfl) h
          · exact go _ _ (Or.inl rfl) h
/-! ### of which kind -/
/-- does a text say a double? -/
def floatB (l : List UInt8) : Bool := (match l with | 45 :: 48 :: 120 :: _ => true | 48 :: 120 :: _ => true | _ => false) || l == nanT || l == infT || l == 45 :: infT
/-- a number, and the error, that a text is read as -/
def readN (l : List UInt8) : Bool × Int × Int × Int :=
  if 64 < l.length then (false, 0, 0, 2)
  else if floatB l = true then (if (readF l).2 = 0 then (false, 0, (readF l).1, 0) else (false, 0, 0, (readF l).2))
  else (if (readI l).2 = 0 then (true, (readI l).1, 0, 0) else (false, 0, 0, (readI l).2))
theorem dec_second (n : Nat) : ∀ l, decL n ≠ 48 :: 120 :: l := by
  intro l h
  have := decL_digits n 120 (by rw [h]; simp)
  revert this
  decide
theorem int_kind (i : Int) : floatB (intT i) = false := by
  have hd := decL_digits i.natAbs
  have hne := decL_ne i.natAbs
  have no : ∀ c l, decL i.natAbs = c :: l → c ≠ 45 ∧ c ≠ 110 ∧ c ≠ 105 := by
    intro c l h
    have hc := hd c (by rw [h]; simp)
    refine ⟨?_, ?_, ?_⟩ <;> (intro e; subst e; revert hc; decide)
  have s2 := dec_second i.natAbs
  unfold intT
  cases hp : decL i.natAbs with
  | nil => exact absurd hp hne
  | cons c l =>
    obtain ⟨n1, n2, n3⟩ := no c l hp
    rw [hp] at s2
    have q2 : (c :: l == nanT) = false := by
      rw [beq_eq_false_iff_ne]; intro e; injection e with e1 e2; exact n2 e1
    have q3 : (c :: l == infT) = false := by
      rw [beq_eq_false_iff_ne]; intro e; injection e with e1 e2; exact n3 e1
    have q4 : (c :: l == 45 :: infT) = false := by
      rw [beq_eq_false_iff_ne]; intro e; injection e with e1 e2; exact n1 e1
    have p2 : (45 :: c :: l == nanT) = false := by
      rw [beq_eq_false_iff_ne]; intro e; injection e with e1 e2; revert e1; decide
    have p3 : (45 :: c :: l == infT) = false := by
      rw [beq_eq_false_iff_ne]; intro e; injection e with e1 e2; revert e1; decide
    have p4 : (45 :: c :: l == 45 :: infT) = false := by
      rw [beq_eq_false_iff_ne]; intro e; injection e with e1 e2; injection e2 with e3 e4; exact n3 e3
    by_cases hs : i < 0
    · rw [if_pos hs]
      unfold floatB
      rw [p2, p3, p4]
      split
      · rename_i r e
        injection e with e1 e2
        exact absurd e2 (s2 r)
      · rename_i r e
        injection e with e1 e2
        revert e1; decide
      · rfl
    · rw [if_neg hs]
      unfold floatB
      rw [q2, q3, q4]
      split
      · rename_i r e
        injection e with e1 e2
        exact absurd e1 n1
      · rename_i r e
        exact absurd e (s2 r)
      · rfl
theorem int_len (i : Int) (i0 : -9223372036854775808 ≤ i) (i1 : i < 9223372036854775808) : (intT i).length ≤ 20 := by
  have len : (decL i.natAbs).length ≤ 19 := decL_length _ 19 (by omega) (by omega)
  unfold intT
  split
  · simp only [List.length_cons]; omega
  · omega
theorem readN_int (i : Int) (i0 : -9223372036854775808 ≤ i) (i1 : i < 9223372036854775808) : readN (intT i) = (true, i, 0, 0) := by
  have l := int_len i i0 i1
  unfold readN
  rw [if_neg (by omega), int_kind, if_neg (by decide), readI_back i i0 i1]
  rfl
theorem posT_kind (a : Nat) : floatB (posT a) = true ∧ floatB (45 :: posT a) = true := by
  unfold posT
  split
  · exact ⟨by decide, by decide⟩
  · split
    · exact ⟨by decide, by decide⟩
    · exact ⟨rfl, rfl⟩
theorem flt_kind (u : Int) : floatB (fltT u) = true := by
  unfold fltT
  split
  · decide
  · split
    · exact (posT_kind _).2
    · exact (posT_kind _).1
theorem flt_len (u : Int) (u0 : 0 ≤ u) (u1 : u < 18446744073709551616) : (fltT u).length ≤ 24 := by
  unfold fltT
  cases hn : nanB u with
  | true => rw [if_pos rfl]; decide
  | false =>
    simp only [Bool.false_eq_true, if_false]
    have hm : u % 9223372036854775808 ≤ 9218868437227405312 := by
      simp only [nanB, decide_eq_false_iff_not] at hn
      omega
    split
    · have := posT_len (u - 9223372036854775808).toNat (by omega)
      simp only [List.length_cons]; omega
    · have := posT_len u.toNat (by omega)
      omega
theorem readN_flt (u : Int) (u0 : 0 ≤ u) (u1 : u < 18446744073709551616) : readN (fltT u) = (false, 0, fltW u, 0) := by
  have l := flt_len u u0 u1
  unfold readN
  rw [if_neg (by omega), flt_kind, if_pos rfl, readF_back u u0 u1]
  rfl
/-! ### one digit more -/
theorem valD_append1 (n d : Nat) (hd : d < 10) : valD (decL n ++ decL d) = 10 * n + d := by
  rw [decL_small hd, valD_snoc, valD_dec, dig_toNat d hd]
  omega
/-- a digit behind a whole number's text -/
theorem readI_digit (i : Int) (d : Nat) (hd : d < 10) (hi : i ≠ 0) (i0 : -9223372036854775808 ≤ i) (i1 : i < 9223372036854775808) :
    readI (intT i ++ decL d) = if -9223372036854775808 ≤ (if i < 0 then 10 * i - d else 10 * i + d) ∧ (if i < 0 then 10 * i - d else 10 * i + d) < 9223372036854775808 then ((if i < 0 then 10 * i - d else 10 * i + d), 0) else (0, 13) := by
  have len : (decL i.natAbs).length ≤ 19 := decL_length _ 19 (by omega) (by omega)
  have hz : i.natAbs ≠ 0 := by omega
  have hh := decL_head i.natAbs hz
  have h48 : (48 : UInt8) = dig 0 := by decide
  rw [← h48] at hh
  have hd1 : (decL d).length = 1 := by rw [decL_small hd]; rfl
  have form : ∀ m : Bool, formI m (decL i.natAbs ++ decL d) = true := by
    intro m
    unfold formI
    have a1 : (decL i.natAbs ++ decL d).isEmpty = false := by
      have := decL_ne i.natAbs
      cases hp : decL i.natAbs
      · exact absurd hp this
      · rfl
    have a2 : (decL i.natAbs ++ decL d).all digB = true := by rw [List.all_append, dec_all, dec_all]; rfl
    have a3 : ((decL i.natAbs ++ decL d).head? == some 48) = false := by
      cases hp : decL i.natAbs with
      | nil => exact absurd hp (decL_ne _)
      | cons c l => rw [hp] at hh; simpa using hh
    rw [a1, a2, a3]; rfl
  unfold intT
  by_cases hs : i < 0
  · simp only [if_pos hs]
    unfold readI
    rw [if_neg (by simp only [List.cons_append, List.length_cons, List.length_append]; omega)]
    show readD true (decL i.natAbs ++ decL d) = _
    unfold readD
    rw [if_pos (form true), valD_append1 _ d hd]
    simp only [if_true]
    by_cases hf : 10 * i.natAbs + d ≤ 9223372036854775808
    · rw [if_pos hf, if_pos (by omega)]
      congr 1; omega
    · rw [if_neg hf, if_neg (by omega)]
  · simp only [if_neg hs]
    unfold readI
    rw [if_neg (by simp only [List.length_append]; omega)]
    have key : readD false (decL i.natAbs ++ decL d) = if -9223372036854775808 ≤ 10 * i + d ∧ 10 * i + d < 9223372036854775808 then (10 * i + d, 0) else (0, 13) := by
      unfold readD
      rw [if_pos (form false), valD_append1 _ d hd]
      simp only [Bool.false_eq_true, if_false]
      by_cases hf : 10 * i.natAbs + d < 9223372036854775808
      · rw [if_pos hf, if_pos (by omega)]
        congr 1; omega
      · rw [if_neg hf, if_neg (by omega)]
    have hdd := decL_digits i.natAbs
    cases hp : decL i.natAbs with
    | nil => exact absurd hp (decL_ne _)
    | cons c l =>
      rw [hp] at hdd key
      have hc := hdd c (by simp)
      have hne : c ≠ 45 := by intro e; subst e; revert hc; decide
      split
      · rename_i r e
        rw [List.cons_append] at e
        injection e with e1 e2
        exact absurd e1 hne
      · exact key
end Go.Proofs.YtdoojooepkdlhaaDoor.W
