/- Plain facts on rows of bits, as the reference of package numtext has them: the number that a row is, and which pattern it makes. No Go in sight. -/
import Derived.Test.YtdoojooepkdlhaaDoorE4
namespace Go.Proofs.YtdoojooepkdlhaaDoor.W

/-- the number that a row of bits is, the highest first -/
def valB (l : List Nat) : Nat := l.foldl (fun a b => 2 * a + b) 0
theorem foldB (l : List Nat) (a : Nat) : l.foldl (fun a b => 2 * a + b) a = a * 2 ^ l.length + valB l := by
  induction l generalizing a with
  | nil => simp [valB]
  | cons c l ih =>
    have e : valB (c :: l) = l.foldl (fun a b => 2 * a + b) (2 * 0 + c) := rfl
    rw [List.foldl_cons, ih, e, ih, List.length_cons, Nat.pow_succ, Nat.add_mul, Nat.mul_zero, Nat.zero_add, Nat.add_assoc]
    congr 1
    rw [Nat.mul_comm 2 a, Nat.mul_assoc, Nat.mul_comm 2]
theorem valB_cons (c : Nat) (l : List Nat) : valB (c :: l) = c * 2 ^ l.length + valB l := by
  have e : valB (c :: l) = l.foldl (fun a b => 2 * a + b) (2 * 0 + c) := rfl
  rw [e, foldB, Nat.mul_zero, Nat.zero_add]
theorem valB_snoc (l : List Nat) (b : Nat) : valB (l ++ [b]) = 2 * valB l + b := by simp [valB, List.foldl_append]
theorem valB_nought (l : List Nat) : valB (0 :: l) = valB l := by rw [valB_cons, Nat.zero_mul, Nat.zero_add]
/-- four bits more are one digit more -/
theorem valB_nibble (l : List Nat) (n : Nat) : valB (l ++ [n / 8, n / 4 % 2, n / 2 % 2, n % 2]) = 16 * valB l + n := by
  have e : l ++ [n / 8, n / 4 % 2, n / 2 % 2, n % 2] = (((l ++ [n / 8]) ++ [n / 4 % 2]) ++ [n / 2 % 2]) ++ [n % 2] := by simp
  rw [e, valB_snoc, valB_snoc, valB_snoc, valB_snoc]
  omega
theorem valB_lt (l : List Nat) (h : ∀ b ∈ l, b ≤ 1) : valB l < 2 ^ l.length := by
  induction l with
  | nil => simp [valB]
  | cons c l ih =>
    rw [valB_cons, List.length_cons, Nat.pow_succ]
    have h1 := h c (by simp)
    have h2 := ih (fun x hx => h x (by simp [hx]))
    have h3 : c * 2 ^ l.length ≤ 1 * 2 ^ l.length := Nat.mul_le_mul_right _ h1
    omega
/-- a row that begins with 1: where its highest bit stands -/
theorem valB_log (l : List Nat) (h : ∀ b ∈ l, b ≤ 1) : valB (1 :: l) ≠ 0 ∧ (valB (1 :: l)).log2 = l.length := by
  have h1 := valB_lt l h
  have e : valB (1 :: l) = 2 ^ l.length + valB l := by rw [valB_cons, Nat.one_mul]
  have p := Nat.two_pow_pos l.length
  have hne : valB (1 :: l) ≠ 0 := by omega
  refine ⟨hne, ?_⟩
  rw [Nat.log2_eq_iff hne, e]
  refine ⟨by omega, ?_⟩
  rw [Nat.pow_succ]; omega
theorem odd_self (n : Nat) (h : n % 2 = 1) : oddN n = n ∧ twos n = 0 := by
  rw [oddN, twos]
  rw [if_neg (by omega), if_neg (by omega), if_neg (by omega), if_neg (by omega)]
  exact ⟨rfl, rfl⟩
/-- the reference's own words: an odd number of bits, its highest at 'high' -/
theorem exact_odd (n : Nat) (low : Int) (h : n % 2 = 1) :
    exactP n low = if 52 < n.log2 ∨ low < -1074 ∨ 1023 < low + n.log2 then none
      else if low + n.log2 < -1022 then some ((n * 2 ^ (low + 1074).toNat : Nat) : Int)
      else some (((low + n.log2 + 1023).toNat * 4503599627370496 + (n * 2 ^ (52 - n.log2) - 4503599627370496) : Nat) : Int) := by
  obtain ⟨o1, o2⟩ := odd_self n h
  unfold exactP
  rw [if_neg (by omega), o1, o2]
  have e : low + ((0 : Nat) : Int) = low := by omega
  rw [e]
theorem exact_half (n : Nat) (low : Int) : exactP (2 * n) low = exactP n (low + 1) := by
  have := exact_shift n low 1
  rw [Nat.pow_one, Nat.mul_comm] at this
  exact this
end Go.Proofs.YtdoojooepkdlhaaDoor.W
