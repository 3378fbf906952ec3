/- Plain facts on numbers and rows of bytes that package word turns on: no Go in sight. -/
import Derived.Laws.BitsAllLaws
namespace Go.Proofs.Ytalcfblknoojpaa.W

/-- is a pattern a NaN? -/
def nanB (n : Int) : Bool := decide (9218868437227405312 < n % 9223372036854775808)

/-- may a load be a string's? -/
def txtOk (l : Int) : Bool := decide (l / 1099511627776 ≤ 5 ∧ l % 1099511627776 < 2 ^ (8 * (l / 1099511627776)).toNat)

/-- a pattern's class -/
def cls (n : Int) : Int :=
  if nanB n = false ∨ n = 9221120237041090560 then 1
  else if n < 18444492273895866368 then 7
  else if n = 18444492273895866368 then 3
  else if n = 18444492273895866369 ∨ n = 18444492273895866370 then 4
  else if n < 18444773748872577024 then 7
  else if n < 18445055223849287680 then 2
  else if n < 18445336698825998336 then (if txtOk (n % 281474976710656) = true then 5 else 7)
  else if n < 18445618173802708992 then 6
  else 7

/-- the class of a load behind the tag 0 -/
def plainCls (l : Int) : Int := if l = 0 then 3 else if l = 1 ∨ l = 2 then 4 else 7
def textCls (l : Int) : Int := if txtOk l = true then 5 else 7

theorem and_shift (x m i : Nat) : x &&& (m * 2 ^ i) = ((x / 2 ^ i) &&& m) * 2 ^ i := by
  apply Nat.eq_of_testBit_eq
  intro j
  rw [Nat.testBit_and, Nat.testBit_mul_two_pow, Nat.testBit_mul_two_pow, Nat.testBit_and, Nat.testBit_div_two_pow]
  by_cases h : i ≤ j
  · have e : i + (j - i) = j := by omega
    have e' : j - i + i = j := by omega
    simp [h, e']
  · simp [h]

theorem nan_eq (n : Int) (h0 : 0 ≤ n) (h1 : n < 18446744073709551616) : bits .andNot .u64 n 9223372036854775808 = n % 9223372036854775808 := by
  rw [u64_andNot n 9223372036854775808 h0 h1 (by decide) (by decide)]
  have e : (18446744073709551615 - (9223372036854775808 : Int).toNat) = 2 ^ 63 - 1 := by decide
  rw [e, Nat.and_two_pow_sub_one_eq_mod]
  omega
theorem tagged_eq (n : Int) (h0 : 0 ≤ n) (h1 : n < 18446744073709551616) : (bits .and .u64 n 18444492273895866368 == 18444492273895866368) = decide (18444492273895866368 ≤ n) := by
  rw [u64_and n 18444492273895866368 h0 h1 (by decide) (by decide)]
  have e : (18444492273895866368 : Int).toNat = 8191 * 2 ^ 51 := by decide
  rw [e, and_shift, show (8191 : Nat) = 2 ^ 13 - 1 from by decide, Nat.and_two_pow_sub_one_eq_mod]
  rw [Bool.eq_iff_iff]
  simp only [beq_iff_eq, decide_eq_true_eq]
  omega
theorem tag_eq (n : Int) (h0 : 0 ≤ n) (h1 : n < 18446744073709551616) : bits .and .u64 (n / 281474976710656) 7 = n / 281474976710656 % 8 := by
  rw [u64_and _ 7 (by omega) (by omega) (by decide) (by decide)]
  have e : (7 : Int).toNat = 2 ^ 3 - 1 := by decide
  rw [e, Nat.and_two_pow_sub_one_eq_mod]
  omega
theorem load_eq (n : Int) (h0 : 0 ≤ n) (h1 : n < 18446744073709551616) : bits .and .u64 n 281474976710655 = n % 281474976710656 := by
  rw [u64_and n _ h0 h1 (by decide) (by decide)]
  have e : (281474976710655 : Int).toNat = 2 ^ 48 - 1 := by decide
  rw [e, Nat.and_two_pow_sub_one_eq_mod]
  omega
theorem room_eq (n : Int) (h0 : 0 ≤ n) (h1 : n < 18446744073709551616) : bits .and .u64 n 1099511627775 = n % 1099511627776 := by
  rw [u64_and n _ h0 h1 (by decide) (by decide)]
  have e : (1099511627775 : Int).toNat = 2 ^ 40 - 1 := by decide
  rw [e, Nat.and_two_pow_sub_one_eq_mod]
  omega
theorem join_eq (t l : Int) (h0 : 0 ≤ t) (h1 : t < 8) (h2 : 0 ≤ l) (h3 : l < 281474976710656) :
    bits .or .u64 (bits .or .u64 18444492273895866368 (IntKind.u64.wrap (t * 281474976710656))) l = 18444492273895866368 + t * 281474976710656 + l := by
  have e0 : IntKind.u64.wrap (t * 281474976710656) = t * 281474976710656 := by rw [IntKind.wrap_u64]; omega
  rw [e0, u64_or 18444492273895866368 _ (by decide) (by decide) (by omega) (by omega)]
  have e1 : (18444492273895866368 : Int).toNat ||| (t * 281474976710656).toNat = 18444492273895866368 + (t * 281474976710656).toNat :=
    nat_join 51 18444492273895866368 _ (by decide) (by omega)
  rw [e1, u64_or _ l (by omega) (by omega) h2 (by omega)]
  have e2 : ((18444492273895866368 + (t * 281474976710656).toNat : Nat) : Int).toNat ||| l.toNat = (18444492273895866368 + (t * 281474976710656).toNat) + l.toNat :=
    nat_join 48 _ _ (by omega) (by omega)
  rw [e2]
  omega

theorem cls_range (n : Int) : cls n = 1 ∨ cls n = 2 ∨ cls n = 3 ∨ cls n = 4 ∨ cls n = 5 ∨ cls n = 6 ∨ cls n = 7 := by
  unfold cls
  repeat' (first | split | simp)

/-! ### rows of bytes as numbers, the first byte lowest -/
def encN : List UInt8 → Nat
  | [] => 0
  | b :: r => b.toNat + 256 * encN r
def decN : Nat → Nat → List UInt8
  | 0, _ => []
  | k + 1, x => UInt8.ofNat (x % 256) :: decN k (x / 256)

theorem encN_lt (l : List UInt8) : encN l < 256 ^ l.length := by
  induction l with
  | nil => simp [encN]
  | cons b r ih =>
    have := b.toNat_lt
    simp only [encN, List.length_cons, Nat.pow_succ]
    omega
theorem encN_snoc (l : List UInt8) (b : UInt8) : encN (l ++ [b]) = encN l + b.toNat * 256 ^ l.length := by
  induction l with
  | nil => simp [encN]
  | cons c r ih =>
    simp only [List.cons_append, encN, ih, List.length_cons, Nat.pow_succ]
    rw [Nat.mul_add, ← Nat.mul_assoc, Nat.add_assoc]
    congr 2
    rw [Nat.mul_comm 256, Nat.mul_assoc, Nat.mul_comm 256]
theorem decN_length (k x : Nat) : (decN k x).length = k := by
  induction k generalizing x with
  | zero => rfl
  | succ k ih => simp [decN, ih]
theorem decN_encN (l : List UInt8) : decN l.length (encN l) = l := by
  induction l with
  | nil => rfl
  | cons b r ih =>
    have hb := b.toNat_lt
    simp only [List.length_cons, decN, encN]
    have e1 : (b.toNat + 256 * encN r) % 256 = b.toNat := by omega
    have e2 : (b.toNat + 256 * encN r) / 256 = encN r := by omega
    rw [e1, e2, ih]
    simp
theorem encN_decN (k x : Nat) (h : x < 256 ^ k) : encN (decN k x) = x := by
  induction k generalizing x with
  | zero => simp [decN, encN] at *; omega
  | succ k ih =>
    simp only [decN, encN]
    rw [ih (x / 256) (by rw [Nat.pow_succ] at h; omega)]
    have : (UInt8.ofNat (x % 256)).toNat = x % 256 := by simp
    rw [this]
    omega
theorem decN_snoc (k x : Nat) : decN (k + 1) x = decN k x ++ [UInt8.ofNat (x / 256 ^ k % 256)] := by
  induction k generalizing x with
  | zero => simp [decN]
  | succ k ih =>
    rw [decN, ih (x / 256)]
    simp only [decN, List.cons_append]
    rw [Nat.pow_succ, Nat.div_div_eq_div_mul, Nat.mul_comm]

/-! ### what the functions of package word answer -/
def smallB (i : Int) : Bool := decide (-140737488355328 ≤ i ∧ i ≤ 140737488355327)
def fltW (n : Int) : Int := if nanB n = true then 9221120237041090560 else n
def intW (i : Int) : Int := if smallB i = true then 18444773748872577024 + i % 281474976710656 else 0
def toInt (n : Int) : Int := if cls n = 2 then (if n % 281474976710656 < 140737488355328 then n % 281474976710656 else n % 281474976710656 - 281474976710656) else 0
def boolW (b : Bool) : Int := if b = true then 18444492273895866370 else 18444492273895866369
def toBool (n : Int) : Bool := if cls n = 4 then n % 281474976710656 == 2 else false
def hdlW (h : Int) : Int := if h < 281474976710656 then 18445336698825998336 + h else 0
def toHdl (n : Int) : Int := if cls n = 6 then n % 281474976710656 else 0
def txtW (s : ByteArray) : Int := if s.size ≤ 5 then 18445055223849287680 + s.size * 1099511627776 + encN s.data.toList else 0
def toTxt (n : Int) : ByteArray := if cls n = 5 then ⟨(decN (n % 281474976710656 / 1099511627776).toNat (n % 1099511627776).toNat).toArray⟩ else ByteArray.empty
end Go.Proofs.Ytalcfblknoojpaa.W
