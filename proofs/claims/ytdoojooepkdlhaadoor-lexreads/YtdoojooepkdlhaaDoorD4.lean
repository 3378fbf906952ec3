/- Plain facts on decimal digits: a number's digits as bytes, and the number that digits are. No Go in sight. -/
import Derived.Test.YtdoojooepkdlhaaDoorFl
namespace Go.Proofs.YtdoojooepkdlhaaDoor.W

/-- a digit's byte -/
def dig (d : Nat) : UInt8 := UInt8.ofNat (48 + d)
theorem dig_toNat (d : Nat) (h : d < 10) : (dig d).toNat = 48 + d := by
  unfold dig
  rw [UInt8.toNat_ofNat']
  omega
/-- a number in decimal digits -/
def decL (n : Nat) : List UInt8 := if n < 10 then [dig n] else decL (n / 10) ++ [dig (n % 10)]
  termination_by n
  decreasing_by omega
theorem decL_small {n : Nat} (h : n < 10) : decL n = [dig n] := by rw [decL, if_pos h]
theorem decL_step {n : Nat} (h : ¬ n < 10) : decL n = decL (n / 10) ++ [dig (n % 10)] := by rw [decL, if_neg h]
/-- the number that digits are -/
def valD (l : List UInt8) : Nat := l.foldl (fun a c => 10 * a + (c.toNat - 48)) 0
theorem valD_snoc (l : List UInt8) (c : UInt8) : valD (l ++ [c]) = 10 * valD l + (c.toNat - 48) := by simp [valD, List.foldl_append]
theorem valD_dec (n : Nat) : valD (decL n) = n := by
  induction n using Nat.strongRecOn with
  | _ n ih =>
    by_cases h : n < 10
    · rw [decL_small h]
      simp only [valD, List.foldl_cons, List.foldl_nil, dig_toNat n h]
      omega
    · rw [decL_step h, valD_snoc, ih _ (by omega), dig_toNat _ (by omega)]
      omega
/-- digits, the first no nought unless it is the only one -/
def goodD (l : List UInt8) : Prop := l ≠ [] ∧ (∀ c ∈ l, 48 ≤ c.toNat ∧ c.toNat ≤ 57) ∧ (l.head? = some (dig 0) → l.length = 1)
theorem decL_digits (n : Nat) : ∀ c ∈ decL n, 48 ≤ c.toNat ∧ c.toNat ≤ 57 := by
  induction n using Nat.strongRecOn with
  | _ n ih =>
    intro c hc
    by_cases h : n < 10
    · rw [decL_small h] at hc
      simp only [List.mem_singleton] at hc
      rw [hc, dig_toNat n h]; omega
    · rw [decL_step h, List.mem_append] at hc
      rcases hc with hc | hc
      · exact ih _ (by omega) c hc
      · simp only [List.mem_singleton] at hc
        rw [hc, dig_toNat _ (by omega)]; omega
theorem decL_ne (n : Nat) : decL n ≠ [] := by
  by_cases h : n < 10
  · rw [decL_small h]; simp
  · rw [decL_step h]; simp
theorem decL_head (n : Nat) (hn : n ≠ 0) : (decL n).head? ≠ some (dig 0) := by
  induction n using Nat.strongRecOn with
  | _ n ih =>
    by_cases h : n < 10
    · rw [decL_small h]
      simp only [List.head?_cons, ne_eq, Option.some.injEq]
      intro e
      have := congrArg UInt8.toNat e
      rw [dig_toNat n h, dig_toNat 0 (by omega)] at this
      omega
    · have g := ih (n / 10) (by omega) (by omega)
      rw [decL_step h]
      cases e : decL (n / 10) with
      | nil => exact absurd e (decL_ne _)
      | cons a l => rw [e] at g; simpa using g
theorem decL_good (n : Nat) : goodD (decL n) := by
  refine ⟨decL_ne n, decL_digits n, fun h => ?_⟩
  by_cases hn : n = 0
  · subst hn; rw [decL_small (by omega)]; rfl
  · exact absurd h (decL_head n hn)
theorem decL_length (n k : Nat) (h : n < 10 ^ k) (hk : 0 < k) : (decL n).length ≤ k := by
  induction k generalizing n with
  | zero => omega
  | succ k ih =>
    by_cases hs : n < 10
    · rw [decL_small hs]; simp
    · rw [decL_step hs, List.length_append]
      have hk' : 0 < k := by
        rcases Nat.eq_zero_or_pos k with e | e
        · subst e; simp at h; omega
        · exact e
      have := ih (n / 10) (by rw [Nat.pow_succ] at h; omega) hk'
      simp only [List.length_cons, List.length_nil]
      omega
theorem foldD (l : List UInt8) (a : Nat) : l.foldl (fun a c => 10 * a + (c.toNat - 48)) a = a * 10 ^ l.length + valD l := by
  induction l generalizing a with
  | nil => simp [valD]
  | cons c l ih =>
    have e : valD (c :: l) = l.foldl (fun a c => 10 * a + (c.toNat - 48)) (10 * 0 + (c.toNat - 48)) := rfl
    rw [List.foldl_cons, ih, e, ih, List.length_cons, Nat.pow_succ, Nat.add_mul, Nat.mul_zero, Nat.zero_add, Nat.add_assoc]
    congr 1
    rw [Nat.mul_comm 10 a, Nat.mul_assoc, Nat.mul_comm 10]
theorem valD_cons (c : UInt8) (l : List UInt8) : valD (c :: l) = (c.toNat - 48) * 10 ^ l.length + valD l := by
  have e : valD (c :: l) = l.foldl (fun a c => 10 * a + (c.toNat - 48)) (10 * 0 + (c.toNat - 48)) := rfl
  rw [e, foldD, Nat.mul_zero, Nat.zero_add]
theorem valD_le (l : List UInt8) (h : ∀ c ∈ l, 48 ≤ c.toNat ∧ c.toNat ≤ 57) : valD l < 10 ^ l.length := by
  induction l with
  | nil => simp [valD]
  | cons c l ih =>
    rw [valD_cons, List.length_cons, Nat.pow_succ]
    have h1 := h c (by simp)
    have h2 := ih (fun x hx => h x (by simp [hx]))
    have h3 : (c.toNat - 48) * 10 ^ l.length ≤ 9 * 10 ^ l.length := Nat.mul_le_mul_right _ (by omega)
    omega
theorem dig_of (c : UInt8) (h : 48 ≤ c.toNat ∧ c.toNat ≤ 57) : dig (c.toNat - 48) = c := by
  apply UInt8.toNat_inj.1
  rw [dig_toNat _ (by omega)]
  omega
/-- digits that are well written are the number's digits -/
theorem dec_val (l : List UInt8) (h : goodD l) : decL (valD l) = l := by
  generalize hk : l.length = k
  induction k using Nat.strongRecOn generalizing l with
  | _ k ih =>
    obtain ⟨h1, h2, h3⟩ := h
    have e := List.dropLast_concat_getLast h1
    have hc := h2 _ (List.getLast_mem h1)
    generalize l.getLast h1 = c at e hc
    generalize hl' : l.dropLast = l' at e
    subst e
    by_cases hn : l' = []
    · subst hn
      have e1 : valD ([] ++ [c]) = c.toNat - 48 := by simp [valD]
      rw [e1, decL_small (by omega), dig_of c hc]
      rfl
    · have hh : (l' ++ [c]).head? = l'.head? := by
        cases l' with
        | nil => exact absurd rfl hn
        | cons a t => rfl
      have hne : l'.head? ≠ some (dig 0) := by
        intro g
        have := h3 (by rw [hh]; exact g)
        have : 0 < l'.length := List.length_pos_iff.2 hn
        simp only [List.length_append, List.length_cons, List.length_nil] at *
        omega
      have g' : goodD l' := ⟨hn, fun x hx => h2 x (by simp [hx]), fun g => absurd g hne⟩
      have i' := ih l'.length (by rw [← hk]; simp) l' g' rfl
      have hv : valD l' ≠ 0 := by
        intro z
        rw [z, decL_small (by omega)] at i'
        rw [← i'] at hne
        exact hne rfl
      rw [valD_snoc, decL_step (by omega)]
      have d1 : (10 * valD l' + (c.toNat - 48)) / 10 = valD l' := by omega
      have d2 : (10 * valD l' + (c.toNat - 48)) % 10 = c.toNat - 48 := by omega
      rw [d1, d2, i', dig_of c hc]
end Go.Proofs.YtdoojooepkdlhaaDoor.W
