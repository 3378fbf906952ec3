import Derived.Laws.FloatArith
import Derived.Deep.Draws
import Derived.Laws.NewFold
import Derived.Test.YtenpopelbmeemaaGreatBase0
import Derived.Test.YtenpopelbmeemaaGreatBase31
import Derived.Laws.Externs
import Derived.Laws.BitsAllLaws
import Derived.KernelRfl
/- Doubles in plain words, for packages that import Plain: Fl's text. -/
namespace Go.Proofs.YtenpopelbmeemaaGreat.W.Sf
open Ieee
theorem D_sign : Ieee.double.signWeight = 9223372036854775808 := by decide
theorem D_bin : Ieee.double.binade = 4503599627370496 := by decide
theorem D_inf : Ieee.double.infRung = 9218868437227405312 := by decide
theorem D_least : Ieee.double.leastPlace = -1074 := by decide
theorem D_width : Ieee.double.width = 64 := by decide

theorem word_eq (s : Bool) (r : Nat) : Ieee.double.word s r = (if s then 9223372036854775808 else 0) + r := by
  unfold Format.word
  rw [D_sign]
  cases s <;> simp

theorem read_eq (x : Nat) : Ieee.double.read x =
    if x % 9223372036854775808 < 4503599627370496 then .number (x / 9223372036854775808 % 2 == 1) (x % 9223372036854775808) (-1074)
    else if x % 9223372036854775808 < 9218868437227405312 then
      .number (x / 9223372036854775808 % 2 == 1) (4503599627370496 + x % 9223372036854775808 % 4503599627370496) (-1074 + (x % 9223372036854775808 / 4503599627370496 - 1 : Nat))
    else if x % 9223372036854775808 = 9218868437227405312 then .infinity (x / 9223372036854775808 % 2 == 1)
    else .nan (x / 9223372036854775808 % 2 == 1) (x % 9223372036854775808 - 9218868437227405312) := by
  unfold Format.read
  simp only [D_sign, D_bin, D_inf, D_least]

theorem nan_read (x : Nat) : (Ieee.double.read x).isNaN = nanB x := by
  rw [read_eq, nanB]
  have e : ((x : Int) % 9223372036854775808) = ((x % 9223372036854775808 : Nat) : Int) := by omega
  rw [e]
  split
  · rename_i h; simp [Datum.isNaN]; omega
  · split
    · rename_i h; simp [Datum.isNaN]; omega
    · split
      · rename_i h; simp [Datum.isNaN]; omega
      · rename_i h1 h2 h3; simp [Datum.isNaN]; omega

theorem order_self (d : Datum) : (d.order d != some .eq) = d.isNaN := by
  cases d with
  | number s m i => simp [Datum.order, Datum.isNaN, compare, compareOfLessAndEq]
  | infinity s => cases s <;> rfl
  | nan s t => rfl

theorem isNaN_eq (x : Nat) : (Ieee.double.order x x != some .eq) = nanB x := by
  rw [← nan_read]; exact order_self _

/-- a word whose rung is not above infinity's is no NaN -/
theorem word_plain (s : Bool) (r : Nat) (h : r ≤ 9218868437227405312) : nanB (Ieee.double.word s r : Nat) = false := by
  rw [word_eq, nanB]
  cases s <;> simp <;> omega
theorem nearest_plain (s : Bool) (m : Nat) (p : Int) : nanB (Ieee.double.nearest s m p : Nat) = false := by
  unfold Format.nearest
  split
  · exact word_plain _ _ (by omega)
  · rw [D_inf]; exact word_plain _ _ (Nat.min_le_right ..)
theorem write_plain (d : Datum) (h : d.isNaN = false) : nanB (Ieee.double.write d : Nat) = false := by
  cases d with
  | number s m p => exact nearest_plain s m p
  | infinity s => exact word_plain s _ (by rw [D_inf]; omega)
  | nan s t => exact absurd h (by simp [Datum.isNaN])
theorem write_lt (d : Datum) : Ieee.double.write d < 18446744073709551616 := by
  have := Ieee.double.write_lt d
  rwa [D_width] at this

/-- a NaN that the tape names is a NaN -/
theorem nanBits_nan (x y t : Nat) : nanB ((Question.nanBits .f64 x y).cut t : Nat) = true := by
  show decide (9218868437227405312 < (((t % 2) * 9223372036854775808 + 9218868437227405312 + 1 + (t / 2) % 4503599627370495 : Nat) : Int) % 9223372036854775808) = true
  rw [decide_eq_true_eq]
  have h1 : t / 2 % 4503599627370495 < 4503599627370495 := Nat.mod_lt _ (by omega)
  have h2 : t % 2 = 0 ∨ t % 2 = 1 := by omega
  generalize t / 2 % 4503599627370495 = q at *
  generalize t % 2 = s at *
  rcases h2 with rfl | rfl <;> omega
/-- what Wide answers -/
def wideI (n : Int) : Int := if (Ieee.single.read n.toNat).isNaN = true then 9221120237041090560 else (Ieee.double.write (Ieee.single.read n.toNat) : Nat)
def wres (x : Nat) (w : World) : Nat :=
  match Ieee.single.read x with
  | .nan _ _ => (Question.nanConv .f64 x).cut (w.tape w.drawn (.nanConv .f64 x))
  | d => Ieee.double.write d
def wdraw (x : Nat) : Nat := if (Ieee.single.read x).isNaN = true then 1 else 0
theorem wideI_range (a : Int) : 0 ≤ wideI a ∧ wideI a < 18446744073709551616 := by
  unfold wideI
  split
  · omega
  · have := write_lt (Ieee.single.read a.toNat); omega
theorem nanConv_nan (x t : Nat) : nanB ((Question.nanConv .f64 x).cut t : Nat) = true := nanBits_nan x x t
theorem fltW_wres (n : Int) (w : World) : fltW (wres n.toNat w : Nat) = wideI n := by
  unfold wres wideI
  cases Ieee.single.read n.toNat with
  | nan s t => simp [fltW, nanConv_nan, Datum.isNaN]
  | number s m i => simp [fltW, write_plain (.number s m i) rfl, Datum.isNaN]
  | infinity s => simp [fltW, write_plain (.infinity s) rfl, Datum.isNaN]
/-- a word of a wider format has room for every number of the narrower one -/
theorem run_wide (P : Program) (src dst : TypeId) (x : Nat) (hs : (P.underlying src).isSome = true) (hd : P.underlying dst = some (.float .f64))
    (hfin : ∀ s m i, Ieee.single.read x = .number s m i → (Ieee.double.read (Ieee.double.write (.number s m i))).isInfinity = false) (w : World) :
    (convert src dst (.float .f32 x)).run P w = .ok (.float .f64 (wres x w)) (w.drewN (wdraw x)) := by
  obtain ⟨u, hs'⟩ := Option.isSome_iff_exists.1 hs
  have e : (convert src dst (.float .f32 x)).run P w = (Conv.floatToFloat .f32 x .f64).run P w := by
    cases u <;> simp [convert, run_underlying hs', run_underlying hd]
  rw [e]
  unfold wres wdraw
  have e2 : Conv.floatToFloat .f32 x .f64 = (match Ieee.single.read x with
    | .nan _ _ => do pure (.float .f64 (← choose (.nanConv .f64 x)))
    | .infinity s => pure (.float .f64 (Ieee.double.write (.infinity s)))
    | .number s m e =>
      if (Ieee.double.read (Ieee.double.write (.number s m e))).isInfinity then do pure (.float .f64 (← choose (.floatToFloat x)))
      else pure (.float .f64 (Ieee.double.write (.number s m e))) : Sem Value) := rfl
  rw [e2]
  cases hr : Ieee.single.read x with
  | number s m i => simp [World.drewN_zero, Datum.isNaN, hfin s m i hr]
  | infinity s => simp [World.drewN_zero, Datum.isNaN]
  | nan s t => simp [World.drew_is_drewN, Question.forced, Datum.isNaN]
end Go.Proofs.YtenpopelbmeemaaGreat.W.Sf
/- Plain facts on words of IEEE 754: a number is written as its nearest word whatever its spelling; what a format has is written as it was read; words compare by the exact numbers that they are. -/
namespace Go.Proofs.YtenpopelbmeemaaGreat.W.Sf
open Ieee

/-- a quotient rounded to the nearest whole number, between two the even one -/
def cutE (n g : Nat) : Nat := n / g + (if g < 2 * (n % g) ∨ (g = 2 * (n % g) ∧ n / g % 2 = 1) then 1 else 0)

theorem gap_low (n d : Nat) (h : n.log2 + 2 < d) : n < 2 ^ (n.log2 + 2) ∧ 2 * n < 2 ^ (n.log2 + 2) ∧ 2 ^ (n.log2 + 2) < 2 ^ d := by
  have h1 : n < 2 ^ (n.log2 + 1) := Nat.lt_log2_self
  have h2 : 2 ^ (n.log2 + 2) = 2 * 2 ^ (n.log2 + 1) := by rw [show n.log2 + 2 = n.log2 + 1 + 1 from rfl, Nat.pow_succ]; omega
  have h3 : 2 ^ (n.log2 + 2) < 2 ^ d := Nat.pow_lt_pow_right (by omega) h
  omega

theorem toNat_if {b : Bool} {p : Prop} [Decidable p] (h : b = true ↔ p) : b.toNat = if p then 1 else 0 := by
  cases b <;> by_cases hp : p <;> simp_all
theorem cut_even (s : Bool) (n d : Nat) : Toward.even.cut s n d = cutE n (2 ^ d) := by
  unfold Toward.cut cutE
  simp only [Nat.one_shiftLeft]
  by_cases h : d ≤ n.log2 + 2
  · rw [Nat.min_eq_left h]
    congr 1
    generalize 2 ^ d = g
    exact toNat_if (by simp)
  · rw [Nat.min_eq_right (by omega)]
    obtain ⟨h1, h2, h3⟩ := gap_low n d (by omega)
    have h4 : n < 2 ^ d := by omega
    rw [Nat.div_eq_of_lt h1, Nat.mod_eq_of_lt h1, Nat.div_eq_of_lt h4, Nat.mod_eq_of_lt h4, if_neg (by omega)]
    have e : decide (2 ^ (n.log2 + 2) < 2 * n) = false := by simp; omega
    simp [e]
theorem cutE_mul (n g c : Nat) (hc : 0 < c) : cutE (n * c) (g * c) = cutE n g := by
  unfold cutE
  rw [Nat.mul_div_mul_right n g hc, Nat.mul_mod_mul_right]
  congr 1
  have e : 2 * (n % g * c) = 2 * (n % g) * c := by rw [Nat.mul_assoc]
  rw [e]
  have h1 : (g * c < 2 * (n % g) * c) = (g < 2 * (n % g)) := propext (Nat.mul_lt_mul_right hc)
  have h2 : (g * c = 2 * (n % g) * c) = (g = 2 * (n % g)) := propext (Nat.mul_left_inj (by omega))
  simp only [h1, h2]
theorem cutE_one (n : Nat) : cutE n 1 = n := by
  unfold cutE
  simp [Nat.mod_one]
theorem cutE_move (m a b a' b' : Nat) (h : a' + b = a + b') : cutE (m * 2 ^ a') (2 ^ b') = cutE (m * 2 ^ a) (2 ^ b) := by
  rw [← cutE_mul (m * 2 ^ a') (2 ^ b') (2 ^ b) (Nat.two_pow_pos _), ← cutE_mul (m * 2 ^ a) (2 ^ b) (2 ^ b') (Nat.two_pow_pos _)]
  rw [Nat.mul_assoc, Nat.mul_assoc, ← Nat.pow_add, ← Nat.pow_add, ← Nat.pow_add, ← Nat.pow_add, h, Nat.add_comm b' b]

theorem log2_shift (m k : Nat) (h : m ≠ 0) : (m * 2 ^ k).log2 = m.log2 + k := by
  induction k with
  | zero => simp
  | succ k ih =>
    rw [Nat.pow_succ, ← Nat.mul_assoc, Nat.mul_comm _ 2, Nat.log2_two_mul (Nat.mul_ne_zero h (Nat.ne_of_gt (Nat.two_pow_pos k))), ih]
    omega

theorem nearest_shift (f : Format) (s : Bool) (m k : Nat) (p : Int) : f.nearest s (m * 2 ^ k) (p - k) = f.nearest s m p := by
  unfold Format.nearest
  by_cases h : m = 0
  · subst h; simp
  · have h' : m * 2 ^ k ≠ 0 := Nat.mul_ne_zero h (Nat.ne_of_gt (Nat.two_pow_pos k))
    rw [if_neg h', if_neg h, log2_shift m k h]
    have e : p - (k : Int) + ((m.log2 + k : Nat) : Int) - f.fractionBits = p + (m.log2 : Nat) - f.fractionBits := by omega
    simp only [e]
    generalize max (p + (m.log2 : Nat) - f.fractionBits) f.leastPlace = L
    rw [cut_even, cut_even, Nat.shiftLeft_eq, Nat.shiftLeft_eq, Nat.mul_assoc, ← Nat.pow_add]
    rw [cutE_move m (p - L).toNat (L - p).toNat (k + (p - k - L).toNat) (L - (p - k)).toNat (by omega)]
theorem nearest_same (f : Format) (s : Bool) (m m' : Nat) (p p' b : Int) (h1 : b ≤ p) (h2 : b ≤ p') (h : m * 2 ^ (p - b).toNat = m' * 2 ^ (p' - b).toNat) :
    f.nearest s m p = f.nearest s m' p' := by
  rw [← nearest_shift f s m (p - b).toNat p, ← nearest_shift f s m' (p' - b).toNat p', h]
  congr 1
  omega

/-- a number of at most 53 digits, within the format's places, is read as it was written -/
theorem read_nearest (s : Bool) (m : Nat) (p : Int) (hm : m < 9007199254740992) (h1 : -1074 ≤ p) (h2 : p ≤ 971) :
    ∃ m' p', Ieee.double.read (Ieee.double.nearest s m p) = .number s m' p' ∧ -1074 ≤ p' ∧ p' ≤ p ∧ m' = m * 2 ^ (p - p').toNat := by
  have hsg : ∀ r, r < 9223372036854775808 → (((if s = true then 9223372036854775808 else 0) + r) / 9223372036854775808 % 2 == 1) = s ∧ ((if s = true then 9223372036854775808 else 0) + r) % 9223372036854775808 = r := by
    intro r hr
    cases s
    · simp; omega
    · simp; omega
  unfold Format.nearest
  by_cases h0 : m = 0
  · subst h0
    rw [if_pos rfl, word_eq, read_eq, (hsg 0 (by omega)).1, (hsg 0 (by omega)).2, if_pos (by omega)]
    exact ⟨0, -1074, rfl, by omega, by omega, by simp⟩
  · rw [if_neg h0]
    have hl : m.log2 ≤ 52 := by
      have : m.log2 < 53 := (Nat.log2_lt h0).2 (by omega)
      omega
    have hlo : 2 ^ m.log2 ≤ m := Nat.log2_self_le h0
    have hhi : m < 2 ^ (m.log2 + 1) := Nat.lt_log2_self
    have eL : max (p + (m.log2 : Nat) - ((Ieee.double.fractionBits : Nat) : Int)) Ieee.double.leastPlace = max (p + (m.log2 : Nat) - 52) (-1074) := by rw [D_least]; rfl
    simp only [eL]
    generalize hL : max (p + (m.log2 : Nat) - 52) (-1074) = L
    have hLp : L ≤ p := by omega
    have hL1 : -1074 ≤ L := by omega
    rw [cut_even, show (L - p).toNat = 0 from by omega, Nat.pow_zero, cutE_one, Nat.shiftLeft_eq, D_least, D_bin, D_inf, word_eq]
    -- K: the digits that are kept
    have hK2 : m * 2 ^ (p - L).toNat < 9007199254740992 := by
      have a1 : m * 2 ^ (p - L).toNat < 2 ^ (m.log2 + 1) * 2 ^ (p - L).toNat := Nat.mul_lt_mul_of_pos_right hhi (Nat.two_pow_pos _)
      rw [← Nat.pow_add] at a1
      have a2 : 2 ^ (m.log2 + 1 + (p - L).toNat) ≤ 2 ^ 53 := Nat.pow_le_pow_right (by omega) (by omega)
      omega
    have hK1 : L = -1074 ∨ 4503599627370496 ≤ m * 2 ^ (p - L).toNat := by
      by_cases g : L = -1074
      · exact Or.inl g
      · right
        have a1 : 2 ^ m.log2 * 2 ^ (p - L).toNat ≤ m * 2 ^ (p - L).toNat := Nat.mul_le_mul_right _ hlo
        rw [← Nat.pow_add, show m.log2 + (p - L).toNat = 52 from by omega] at a1
        omega
    generalize hK : m * 2 ^ (p - L).toNat = K at *
    have hmin : min ((L - -1074).toNat * 4503599627370496 + K) 9218868437227405312 = (L + 1074).toNat * 4503599627370496 + K := by
      rw [show L - -1074 = L + 1074 from by omega]
      exact Nat.min_eq_left (by omega)
    rw [hmin, read_eq, (hsg _ (by omega)).1, (hsg _ (by omega)).2]
    split
    · rename_i g
      refine ⟨_, _, rfl, by omega, by omega, ?_⟩
      have : L = -1074 := by omega
      subst this
      rw [hK]; omega
    · rename_i g
      rw [if_pos (by omega)]
      refine ⟨_, _, rfl, by omega, by omega, ?_⟩
      have e1 : (-1074 + ((((L + 1074).toNat * 4503599627370496 + K) / 4503599627370496 - 1 : Nat) : Int)) = L := by omega
      rw [e1, hK]
      omega

/-! ### words compare by the exact numbers -/
/-- beyond every finite double, in units of the least number's place -/
def bigOf (k : Nat) : Nat := 2 ^ k
def big : Nat := bigOf 2200
/-- the exact number of a datum, in units of the least number's place; infinities beyond all -/
def key : Datum → Int
  | .number s m p => signed s m (p + 1074).toNat
  | .infinity s => if s then -(big : Int) else (big : Int)
  | .nan _ _ => 0

end Go.Proofs.YtenpopelbmeemaaGreat.W.Sf
/- Plain facts on words of IEEE 754 of 32 bits, and on their way to 64 bits and back. -/
namespace Go.Proofs.YtenpopelbmeemaaGreat.W.Sf
open Ieee

theorem S_sign : Ieee.single.signWeight = 2147483648 := by decide
theorem S_bin : Ieee.single.binade = 8388608 := by decide
theorem S_inf : Ieee.single.infRung = 2139095040 := by decide
theorem S_least : Ieee.single.leastPlace = -149 := by decide
theorem wordS_eq (s : Bool) (r : Nat) : Ieee.single.word s r = (if s then 2147483648 else 0) + r := by
  unfold Format.word
  rw [S_sign]
  cases s <;> simp
theorem readS_eq (x : Nat) : Ieee.single.read x =
    if x % 2147483648 < 8388608 then .number (x / 2147483648 % 2 == 1) (x % 2147483648) (-149)
    else if x % 2147483648 < 2139095040 then
      .number (x / 2147483648 % 2 == 1) (8388608 + x % 2147483648 % 8388608) (-149 + (x % 2147483648 / 8388608 - 1 : Nat))
    else if x % 2147483648 = 2139095040 then .infinity (x / 2147483648 % 2 == 1)
    else .nan (x / 2147483648 % 2 == 1) (x % 2147483648 - 2139095040) := by
  unfold Format.read
  simp only [S_sign, S_bin, S_inf, S_least]
theorem readS_number {x : Nat} {s : Bool} {m : Nat} {p : Int} (hx : x < 4294967296) (h : Ieee.single.read x = .number s m p) :
    m < 16777216 ∧ -149 ≤ p ∧ p ≤ 104 ∧ (8388608 ≤ m ∨ p = -149) ∧ x = (if s then 2147483648 else 0) + ((p + 149).toNat * 8388608 + m) := by
  rw [readS_eq] at h
  have hs : (if (x / 2147483648 % 2 == 1) = true then 2147483648 else 0) = x / 2147483648 * 2147483648 := by
    by_cases g : x / 2147483648 % 2 = 1
    · simp [g]; omega
    · simp [g]; omega
  split at h
  · cases h
    refine ⟨by omega, by omega, by omega, Or.inr rfl, ?_⟩
    rw [hs]; omega
  · split at h
    · cases h
      refine ⟨by omega, by omega, by omega, Or.inl (by omega), ?_⟩
      rw [hs]; omega
    · split at h <;> cases h
theorem writeS_read {x : Nat} {s : Bool} {m : Nat} {p : Int} (hx : x < 4294967296) (h : Ieee.single.read x = .number s m p) : Ieee.single.nearest s m p = x := by
  obtain ⟨h1, h2, h3, h4, h5⟩ := readS_number hx h
  unfold Format.nearest
  by_cases h0 : m = 0
  · subst h0
    rw [if_pos rfl, wordS_eq, h5]
    have : p = -149 := by omega
    subst this
    simp
  · rw [if_neg h0]
    have hl : m.log2 ≤ 23 := by
      have : m.log2 < 24 := (Nat.log2_lt h0).2 (by omega)
      omega
    have hL : max (p + (m.log2 : Nat) - ((Ieee.single.fractionBits : Nat) : Int)) Ieee.single.leastPlace = p := by
      rw [S_least]
      show max (p + (m.log2 : Nat) - 23) (-149) = p
      rcases h4 with h4 | h4
      · have : 23 ≤ m.log2 := (Nat.le_log2 h0).2 (by omega)
        omega
      · omega
    simp only [hL]
    rw [cut_even]
    simp only [Int.sub_self, Int.toNat_zero, Nat.shiftLeft_zero, Nat.pow_zero, cutE_one, S_least, S_bin, S_inf, wordS_eq]
    rw [h5, show p - -149 = p + 149 from by omega, Nat.min_eq_left (by omega)]
theorem writeS_inf {x : Nat} {s : Bool} (hx : x < 4294967296) (h : Ieee.single.read x = .infinity s) : Ieee.single.write (.infinity s) = x := by
  have e : Ieee.single.write (.infinity s) = Ieee.single.word s Ieee.single.infRung := rfl
  rw [e, wordS_eq, S_inf]
  rw [readS_eq] at h
  split at h
  · cases h
  · split at h
    · cases h
    · split at h
      · rename_i h1 h2 h3
        cases h
        by_cases g : x / 2147483648 % 2 = 1
        · simp [g]; omega
        · simp [g]; omega
      · cases h

/-- a number of 32 bits is a double -/
theorem wide_fin {x : Nat} (hx : x < 4294967296) (s : Bool) (m : Nat) (p : Int) (h : Ieee.single.read x = .number s m p) : (Ieee.double.read (Ieee.double.write (.number s m p))).isInfinity = false := by
  obtain ⟨h1, h2, h3, -, -⟩ := readS_number hx h
  obtain ⟨m', p', e, -, -, -⟩ := read_nearest s m p (by omega) (by omega) (by omega)
  have e' : Ieee.double.read (Ieee.double.write (.number s m p)) = .number s m' p' := e
  rw [e']; rfl
theorem wideI_nan (n : Int) : nanB (wideI n) = (Ieee.single.read n.toNat).isNaN := by
  unfold wideI
  cases h : (Ieee.single.read n.toNat).isNaN with
  | true => simp [nanB]
  | false => simp [write_plain _ h]
theorem read_inf (s : Bool) : Ieee.double.read (Ieee.double.write (.infinity s)) = .infinity s := by cases s <;> decide +kernel
/-- there and back -/
theorem narrow_wide (n : Int) (h1 : n < 4294967296) (hn : (Ieee.single.read n.toNat).isNaN = false) : floatToFloatBits .f64 (wideI n).toNat .f32 = some n.toNat := by
  have hx : n.toNat < 4294967296 := by omega
  have e0 : (wideI n).toNat = Ieee.double.write (Ieee.single.read n.toNat) := by
    unfold wideI; rw [hn]; simp
  rw [e0]
  unfold floatToFloatBits
  rw [if_neg (by decide)]
  show (match Ieee.double.read (Ieee.double.write (Ieee.single.read n.toNat)) with
    | .nan _ _ => none
    | .infinity s => some (Ieee.single.write (.infinity s))
    | .number s m e => if (Ieee.single.read (Ieee.single.write (.number s m e))).isInfinity then none else some (Ieee.single.write (.number s m e))) = some n.toNat
  cases h : Ieee.single.read n.toNat with
  | nan s t => rw [h] at hn; cases hn
  | infinity s => rw [read_inf]; simp only; rw [writeS_inf hx h]
  | number s m p =>
    obtain ⟨g1, g2, g3, -, -⟩ := readS_number hx h
    obtain ⟨m', p', e, q1, q2, q3⟩ := read_nearest s m p (by omega) (by omega) (by omega)
    have e' : Ieee.double.read (Ieee.double.write (.number s m p)) = .number s m' p' := e
    rw [e']
    have e2 : Ieee.single.write (.number s m' p') = n.toNat := by
      show Ieee.single.nearest s m' p' = n.toNat
      rw [← writeS_read hx h]
      refine nearest_same Ieee.single s m' m p' p p' (by omega) q2 ?_
      rw [q3]; simp
    simp only [e2, h]
    rfl
end Go.Proofs.YtenpopelbmeemaaGreat.W.Sf
/- Package soft's FromInt, Wide and Narrow, beside Plain. -/
namespace Go.Proofs.YtenpopelbmeemaaGreat.W.Sf
open Go.ChangeShapes Go.WideShapes Go.RowKit
set_option linter.unusedVariables false
theorem ret_bool {a b : Bool} (h : a = b) : Ending.returned (.bool a) = .returned (.bool b) := by rw [h]
theorem ret_int {k : IntKind} {a b : Int} (h : a = b) : Ending.returned (.int k a) = .returned (.int k b) := by rw [h]
theorem run_frombits64 (n : Int) (w : World) : (callFunc 151 #[.int .u64 n]).run Tryz.prog w = .ok (.value (.float .f64 n.toNat)) w := by
  rw [run_callFunc_extern Tryz.func151 (e := Extern.MathFloatBits.float64frombits) (by kernel_rfl) (by kernel_rfl) (by kernel_rfl) (by kernel_rfl)]
  rfl
theorem run_bits64 (x : Nat) (w : World) : (callFunc 150 #[.float .f64 x]).run Tryz.prog w = .ok (.value (.int .u64 (x : Nat))) w := by
  rw [run_callFunc_extern Tryz.func150 (e := Extern.MathFloatBits.float64bits) (by kernel_rfl) (by kernel_rfl) (by kernel_rfl) (by kernel_rfl)]
  rfl
set_option maxHeartbeats 400000 in
theorem double_c (n : Int) (w : World) :
    Calls Tryz.prog 138 #[.int .u64 n] w fun e w' => e = .returned (.float .f64 n.toNat) ∧ w' = w := by
  have hx := run_frombits64 n
  go_enter Tryz.func138, Tryz.ntmps138
  go_wp2
  go_ret
  exact ⟨rfl, rfl⟩
set_option maxHeartbeats 400000 in
theorem isNaN_f (x : Nat) (w : World) :
    Calls Tryz.prog 139 #[.float .f64 x] w fun e w' => e = .returned (.bool (nanB (x : Nat))) ∧ w' = w := by
  go_enter Tryz.func139, Tryz.ntmps139
  go_wp2
  go_ret
  exact ⟨ret_bool (isNaN_eq x), rfl⟩
set_option maxHeartbeats 400000 in
theorem pattern_c (x : Nat) (w : World) :
    Calls Tryz.prog 136 #[.float .f64 x] w fun e w' => e = .returned (.int .u64 (fltW (x : Nat))) ∧ w' = w := by
  have hx := run_bits64 x
  cases hn : nanB (x : Nat) with
  | true =>
    go_enter Tryz.func136, Tryz.ntmps136
    go_wp2_with (go_at_call 139; refine (isNaN_f _ _).mono ?_; rintro e w' ⟨rfl, rfl⟩)
    go_ret
    exact ⟨ret_int (by simp [fltW, hn]), rfl⟩
  | false =>
    go_enter Tryz.func136, Tryz.ntmps136
    go_wp2_with (go_at_call 139; refine (isNaN_f _ _).mono ?_; rintro e w' ⟨rfl, rfl⟩)
    go_ret
    exact ⟨ret_int (by simp [fltW, hn]), rfl⟩
/-- what FromInt answers -/
def fromI (i : Int) : Int := (floatOfInt .f64 i : Nat)
theorem fromI_plain (i : Int) : fltW (floatOfInt .f64 i : Nat) = fromI i := by
  have : nanB (floatOfInt .f64 i : Nat) = false := nearest_plain _ _ _
  simp [fltW, this, fromI]
set_option maxHeartbeats 800000 in
theorem softFromInt_c (i : Int) (w : World) :
    Calls Tryz.prog 135 #[.int .i64 i] w fun e w' => e = .returned (.int .u64 (fromI i)) ∧ w' = w := by
  go_enter Tryz.func135, Tryz.ntmps135
  go_wp2_with (go_at_call 136; refine (pattern_c _ _).mono ?_; rintro e w' ⟨rfl, rfl⟩)
  go_ret
  exact ⟨ret_int (fromI_plain i), rfl⟩
theorem run_frombits32 (n : Int) (w : World) : (callFunc 137 #[.int .u32 n]).run Tryz.prog w = .ok (.value (.float .f32 n.toNat)) w := by
  rw [run_callFunc_extern Tryz.func137 (e := Extern.MathFloatBits.float32frombits) (by kernel_rfl) (by kernel_rfl) (by kernel_rfl) (by kernel_rfl)]
  rfl
theorem run_bits32 (x : Nat) (w : World) : (callFunc 140 #[.float .f32 x]).run Tryz.prog w = .ok (.value (.int .u32 (x : Nat))) w := by
  rw [run_callFunc_extern Tryz.func140 (e := Extern.MathFloatBits.float32bits) (by kernel_rfl) (by kernel_rfl) (by kernel_rfl) (by kernel_rfl)]
  rfl
set_option maxHeartbeats 800000 in
theorem softWide_c (n : Int) (h1 : n < 4294967296) (w : World) :
    Calls Tryz.prog 101 #[.int .u32 n] w fun e w' => e = .returned (.int .u64 (wideI n)) ∧ ∃ m, w' = w.drewN m := by
  have hb := run_frombits32 n
  have hcv := fun w => run_wide Tryz.prog 175 174 n.toNat (by rw [Tryz.underlying175]; rfl) Tryz.underlying174 (wide_fin (by omega)) w
  go_enter Tryz.func101, Tryz.ntmps101
  go_wp2_with (go_at_call 136; refine (pattern_c _ _).mono ?_; rintro e w' ⟨rfl, rfl⟩)
  go_ret
  exact ⟨ret_int (fltW_wres n _), _, rfl⟩
set_option maxHeartbeats 800000 in
theorem softNarrow_in (a : Int) (r : Nat) (h0 : 0 ≤ a) (hn : nanB a = false) (hr : floatToFloatBits .f64 a.toNat .f32 = some r) (w : World) :
    Calls Tryz.prog 103 #[.int .u64 a] w fun e w' => e = .returned (.int .u32 (r : Nat)) ∧ w' = w := by
  have hb := run_bits32 r
  have hcv : ∀ w, (convert 174 175 (.float .f64 a.toNat)).run Tryz.prog w = .ok (.float .f32 r) w := fun w => run_convert_float_float w 174 175 .f64 .f32 a.toNat r (by rw [Tryz.underlying174]; rfl) Tryz.underlying175 hr
  have hn' : nanB ((a.toNat : Nat) : Int) = false := by rw [Int.toNat_of_nonneg h0]; exact hn
  go_enter Tryz.func103, Tryz.ntmps103
  go_wp2_with (first | (go_at_call 138; refine (double_c _ _).mono ?_; rintro e w' ⟨rfl, rfl⟩) | (go_at_call 139; refine (isNaN_f _ _).mono ?_; rw [hn']; rintro e w' ⟨rfl, rfl⟩))
  go_ret
  exact ⟨rfl, rfl⟩
theorem bel_drewN (w : World) (m : Nat) : Below w.heap.size w (w.drewN m) := ⟨rfl, rfl, rfl, Nat.le_refl _, fun _ _ => rfl⟩
theorem one_fromI : fromI 1 = 4607182418800017408 := by decide +kernel
theorem narrow_one (w : World) : Calls Tryz.prog 103 #[.int .u64 4607182418800017408] w fun e w' => e = .returned (.int .u32 ((1065353216 : Nat) : Int)) ∧ w' = w := softNarrow_in 4607182418800017408 1065353216 (by decide) (by decide) (by decide +kernel) w
end Go.Proofs.YtenpopelbmeemaaGreat.W.Sf
/- Package soft's Narrow, of whatever pattern: beyond the range of 32 bits some pattern of 32 bits. -/
namespace Go.Proofs.YtenpopelbmeemaaGreat.W.Sf
open Go.ChangeShapes Go.WideShapes Go.RowKit
set_option linter.unusedVariables false
theorem conv_any (x : Nat) (hx : x < 18446744073709551616) (hn : nanB ((x : Nat) : Int) = false) (w : World) :
    ∃ r m : Nat, r < 4294967296 ∧ (convert 174 175 (.float .f64 x)).run Tryz.prog w = .ok (.float .f32 r) (w.drewN m) := by
  cases h : floatToFloatBits .f64 x .f32 with
  | some r =>
    refine ⟨r, 0, ?_, by rw [World.drewN_zero]; exact run_convert_float_float w 174 175 .f64 .f32 x r (by rw [Tryz.underlying174]; rfl) Tryz.underlying175 h⟩
    have := floatToFloatBits_wf (src := .f64) (dst := .f32) (bits := x) (by simp [Lit.wf]; omega) h
    simpa [Lit.wf] using this
  | none =>
    unfold floatToFloatBits at h
    rw [if_neg (by decide)] at h
    split at h
    · rename_i e
      have := nan_read x
      rw [hn] at this
      have e' : Ieee.double.read x = _ := e
      rw [e'] at this
      cases this
    · cases h
    · rename_i s m e he
      split at h
      · rename_i hi
        refine ⟨(w.tape w.drawn (.floatToFloat x)) % 4294967296, 1, Nat.mod_lt _ (by decide), ?_⟩
        have hu : Tryz.prog.underlying 174 = some (.float .f64) := Tryz.underlying174
        simp [convert, run_underlying hu, run_underlying Tryz.underlying175, Conv.floatToFloat, he, hi, World.drewN, Question.forced, Question.cut]
      · cases h
set_option maxHeartbeats 800000 in
theorem softNarrow_any (a : Int) (h0 : 0 ≤ a) (h1 : a < 18446744073709551616) (w : World) :
    Calls Tryz.prog 103 #[.int .u64 a] w fun e w' => ∃ r m : Nat, e = .returned (.int .u32 (r : Nat)) ∧ r < 4294967296 ∧ (nanB a = true → r = 2143289344) ∧ w' = w.drewN m := by
  have ea : ((a.toNat : Nat) : Int) = a := Int.toNat_of_nonneg h0
  cases hn : nanB a with
  | true =>
    have hn' : nanB ((a.toNat : Nat) : Int) = true := by rw [ea]; exact hn
    have fin := hid (show ∃ r m : Nat, (2143289344 : Int) = (r : Nat) ∧ r < 4294967296 ∧ (true = true → r = 2143289344) ∧ w = w.drewN m from ⟨2143289344, 0, rfl, by decide, fun _ => rfl, (World.drewN_zero w).symm⟩)
    clear hn h0 h1 ea
    go_enter Tryz.func103, Tryz.ntmps103
    go_wp2_with (first | (go_at_call 138; refine (double_c _ _).mono ?_; rintro e w' ⟨rfl, rfl⟩) | (go_at_call 139; refine (isNaN_f _ _).mono ?_; rw [hn']; rintro e w' ⟨rfl, rfl⟩))
    go_ret
    obtain ⟨r, m, e1, e2⟩ := fin.out
    exact ⟨r, m, ret_int e1, e2⟩
  | false =>
    have hn' : nanB ((a.toNat : Nat) : Int) = false := by rw [ea]; exact hn
    obtain ⟨r, m, hr, hcv⟩ := conv_any a.toNat (by omega) hn' w
    have hb := run_bits32 r
    have fin := hid (And.intro hr (show false = true → r = 2143289344 from fun h => by cases h))
    clear hn h0 h1 ea hr
    go_enter Tryz.func103, Tryz.ntmps103
    go_wp2_with (first | (go_at_call 138; refine (double_c _ _).mono ?_; rintro e w' ⟨rfl, rfl⟩) | (go_at_call 139; refine (isNaN_f _ _).mono ?_; rw [hn']; rintro e w' ⟨rfl, rfl⟩))
    go_ret
    exact ⟨r, m, rfl, fin.out.1, fin.out.2, rfl⟩
end Go.Proofs.YtenpopelbmeemaaGreat.W.Sf
