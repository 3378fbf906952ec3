/- Contracts of package numtext: a double's parts, its fraction and its power in digits. -/
import Derived.Test.YtdoojooepkdlhaaDoorA4
import Derived.Laws.BytesArg
import Derived.Laws.IdiomStrings
namespace Go.Proofs.YtdoojooepkdlhaaDoor.W
open Go.ChangeShapes Go.WideShapes Go.RowKit

/-! ### masks and shifts -/
theorem and52 (n : Int) (h0 : 0 ≤ n) (h1 : n < 18446744073709551616) : bits .and .u64 n 4503599627370495 = n % 4503599627370496 := by
  rw [u64_and n _ h0 h1 (by decide) (by decide)]
  have e : (4503599627370495 : Int).toNat = 2 ^ 52 - 1 := by decide
  rw [e, Nat.and_two_pow_sub_one_eq_mod]
  omega
theorem andNot63 (n : Int) (h0 : 0 ≤ n) (h1 : n < 18446744073709551616) : bits .andNot .u64 n 9223372036854775808 = n % 9223372036854775808 := by
  rw [u64_andNot n 9223372036854775808 h0 h1 (by decide) (by decide)]
  have e : (18446744073709551615 - (9223372036854775808 : Int).toNat) = 2 ^ 63 - 1 := by decide
  rw [e, Nat.and_two_pow_sub_one_eq_mod]
  omega
theorem and_shift (x m i : Nat) : x &&& (m * 2 ^ i) = ((x / 2 ^ i) &&& m) * 2 ^ i := by
  apply Nat.eq_of_testBit_eq
  intro j
  rw [Nat.testBit_and, Nat.testBit_mul_two_pow, Nat.testBit_mul_two_pow, Nat.testBit_and, Nat.testBit_div_two_pow]
  by_cases h : i ≤ j
  · have e' : j - i + i = j := by omega
    simp [h, e']
  · simp [h]
theorem and63 (n : Int) (h0 : 0 ≤ n) (h1 : n < 18446744073709551616) : (bits .and .u64 n 9223372036854775808 != 0) = decide (9223372036854775808 ≤ n) := by
  rw [u64_and n _ h0 h1 (by decide) (by decide)]
  have e : (9223372036854775808 : Int).toNat = (2 ^ 1 - 1) * 2 ^ 63 := by decide
  rw [e, and_shift, Nat.and_two_pow_sub_one_eq_mod]
  rw [Bool.eq_iff_iff]
  simp only [bne_iff_ne, ne_eq, decide_eq_true_eq]
  omega
theorem shl_log (a : Int) (h0 : 0 < a) (h1 : a < 4503599627370496) :
    a.toNat.log2 ≤ 51 ∧ 4503599627370496 ≤ a * 2 ^ (52 - a.toNat.log2) ∧ a * 2 ^ (52 - a.toNat.log2) < 9007199254740992 := by
  obtain ⟨n, rfl⟩ := Int.eq_ofNat_of_zero_le (Int.le_of_lt h0)
  rw [Int.toNat_natCast]
  have hn : n ≠ 0 := by omega
  obtain ⟨l1, l2⟩ := high_le hn
  have hl : n.log2 ≤ 51 := by
    apply Nat.le_of_not_lt
    intro hh
    have : 2 ^ 52 ≤ 2 ^ n.log2 := Nat.pow_le_pow_right (by decide) hh
    have e : (2 : Nat) ^ 52 = 4503599627370496 := by decide
    omega
  refine ⟨hl, ?_⟩
  have a1 : 2 ^ n.log2 * 2 ^ (52 - n.log2) ≤ n * 2 ^ (52 - n.log2) := Nat.mul_le_mul_right _ l1
  have a2 : n * 2 ^ (52 - n.log2) < 2 ^ (n.log2 + 1) * 2 ^ (52 - n.log2) := Nat.mul_lt_mul_of_pos_right l2 (Nat.two_pow_pos _)
  rw [← Nat.pow_add] at a1 a2
  have e1 : n.log2 + (52 - n.log2) = 52 := by omega
  have e2 : n.log2 + 1 + (52 - n.log2) = 53 := by omega
  rw [e1] at a1
  rw [e2] at a2
  have e : ((n : Int) * 2 ^ (52 - n.log2)) = ((n * 2 ^ (52 - n.log2) : Nat) : Int) := by simp
  have e5 : (2 : Nat) ^ 52 = 4503599627370496 := by decide
  have e6 : (2 : Nat) ^ 53 = 9007199254740992 := by decide
  rw [e]
  omega
theorem frac_small (a : Int) (h0 : 0 < a) (h1 : a < 4503599627370496) : (a * 2 ^ (52 - a.toNat.log2)) % 4503599627370496 = (fracOf a.toNat : Nat) := by
  obtain ⟨s1, s2, s3⟩ := shl_log a h0 h1
  unfold fracOf
  rw [if_pos (by omega)]
  have e : (a * 2 ^ (52 - a.toNat.log2)) = ((a.toNat * 2 ^ (52 - a.toNat.log2) : Nat) : Int) := by
    have : (a.toNat : Int) = a := by omega
    simp [this]
  rw [e] at s2 s3 ⊢
  omega
theorem Tryd.info8 : (Tryd.prog.info? 5).map (fun i => (i.zero, i.size, i.bytes)) = some (some (.int .u8 0), 1, 1) := by kernel_rfl
def bytesV (l : List UInt8) : List Value := l.map fun b => Value.int .u8 (b.toNat : Int)
theorem bytesV_snoc (l : List UInt8) (c : UInt8) (n : Int) (h : (c.toNat : Int) = n) : bytesV (l ++ [c]) = bytesV l ++ [.int .u8 n] := by
  unfold bytesV
  rw [List.map_append, List.map_cons, List.map_nil, h]
theorem conv_own {w : World} {base : Nat} {v : Value} {n : Nat} (l : List UInt8) (h : w.ownsRow base 5 1 v n (bytesV l)) :
    (convert 54 9 v).run Tryd.prog w = .ok (.string ⟨l.toArray⟩) w := by
  have hn : n = l.length := by
    have := h.1
    simp [bytesV] at this
    omega
  subst hn
  have h2 := h.2
  rcases h2 with ⟨rfl, hz⟩ | ⟨g, cap, cur, rfl, _⟩
  · have : l = [] := List.eq_nil_of_length_eq_zero hz
    subst this
    exact run_convert_bytes_nil w 54 5 Tryd.underlying54 Tryd.underlying5 0 0 9 Tryd.underlying9
  · refine run_convert_bytes_back w 54 9 5 ⟨g, 0, none⟩ cap l Tryd.underlying54 Tryd.underlying5 Tryd.underlying9 ?_
    intro j hj
    exact h.cells rfl j _ (by simp [bytesV, List.getElem?_eq_getElem hj])
def lenOf : Value → Nat | .slice _ n _ => n | _ => 0
theorem owns_len {w : World} {base : Nat} {e : TypeId} {v : Value} {n : Nat} {xs : List Value} (h : w.ownsRow base e 1 v n xs) : lenOf v = n := by
  rcases h.2 with ⟨rfl, hz⟩ | ⟨g, cap, cur, rfl, _⟩
  · exact hz.symm
  · rfl
/-! ### a fraction's digits -/
theorem fracL_step (k f : Nat) (h : f ≠ 0) : fracL (k + 1) f = hexd (f / 281474976710656) :: fracL k (f % 281474976710656 * 16) := by rw [fracL, if_neg h]
/-- what is left to print -/
def Left (F : Nat) (pre : List UInt8) (f : Nat) : Prop := ∃ k, k ≤ 13 ∧ pre.length = 13 - k ∧ f < 4503599627370496 ∧ f % 2 ^ (52 - 4 * k) = 0 ∧ fracL 13 F = pre ++ fracL k f
theorem Left.start (F : Nat) (h : F < 4503599627370496) : Left F [] F := ⟨13, Nat.le_refl _, rfl, h, by
  have e0 : (2 : Nat) ^ (52 - 4 * 13) = 1 := by decide
  rw [e0]; omega, rfl⟩
theorem Left.lt {F f : Nat} {pre : List UInt8} (h : Left F pre f) : f < 4503599627370496 ∧ pre.length ≤ 13 := by
  obtain ⟨k, h1, h2, h3, h4, h5⟩ := h
  exact ⟨h3, by omega⟩
theorem Left.step {F f : Nat} {pre : List UInt8} (h : Left F pre f) (hf : f ≠ 0) : Left F (pre ++ [hexd (f / 281474976710656)]) (f % 281474976710656 * 16) ∧ pre.length < 13 := by
  obtain ⟨k, h1, h2, h3, h4, h5⟩ := h
  cases k with
  | zero =>
    have e : (2 : Nat) ^ (52 - 4 * 0) = 4503599627370496 := by decide
    rw [e] at h4; omega
  | succ k =>
    refine ⟨⟨k, by omega, by simp; omega, by omega, ?_, by rw [h5, fracL_step k f hf]; simp⟩, by omega⟩
    have e1 : (2 : Nat) ^ (52 - 4 * k) = 2 ^ (52 - 4 * (k + 1)) * 16 := by
      have : (16 : Nat) = 2 ^ 4 := by decide
      rw [this, ← Nat.pow_add]; congr 1; omega
    rw [e1, Nat.mul_mod_mul_right]
    have e2 : f % 281474976710656 % 2 ^ (52 - 4 * (k + 1)) = 0 := by
      have : (281474976710656 : Nat) = 2 ^ (52 - 4 * (k + 1)) * 2 ^ (4 * k) := by
        rw [← Nat.pow_add, show 52 - 4 * (k + 1) + 4 * k = 48 by omega]
      rw [this, Nat.mod_mul_right_mod]; exact h4
    rw [e2, Nat.zero_mul]
theorem Left.done {F : Nat} {pre : List UInt8} (h : Left F pre 0) : fracL 13 F = pre := by
  obtain ⟨k, h1, h2, h3, h4, h5⟩ := h
  have : fracL k 0 = [] := by cases k <;> rfl
  rw [h5, this, List.append_nil]
theorem hex_index (d : Nat) (h : d < 16) : (⟨#[48, 49, 50, 51, 52, 53, 54, 55, 56, 57, 97, 98, 99, 100, 101, 102]⟩ : ByteArray)[d]'h = hexd d := by
  have all : ∀ n : Fin 16, (⟨#[48, 49, 50, 51, 52, 53, 54, 55, 56, 57, 97, 98, 99, 100, 101, 102]⟩ : ByteArray)[n.val]'n.isLt = hexd n.val := by decide
  exact all ⟨d, h⟩
theorem frac_next (f : Int) (h0 : 0 ≤ f) (h1 : f < 4503599627370496) : bits .and .u64 (f * 16) 4503599627370495 = f % 281474976710656 * 16 := by
  rw [and52 _ (by omega) (by omega)]
  omega
def fracTx (f : Nat) : List UInt8 := if f = 0 then [] else 46 :: fracL 13 f
end Go.Proofs.YtdoojooepkdlhaaDoor.W
