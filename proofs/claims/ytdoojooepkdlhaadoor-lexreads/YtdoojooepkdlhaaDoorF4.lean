/- Plain facts on what package soft answers, by the exact numbers: whole parts, floors, sums, differences, products and quotients that are exact. -/
import Derived.Test.YtdoojooepkdlhaaDoorF3
namespace Go.Proofs.YtdoojooepkdlhaaDoor.W
open Ieee

theorem quo_scale (n g c : Nat) (hg : 0 < g) (hc : 0 < c) : n / g * (g * c) ≤ n * c ∧ n * c < n / g * (g * c) + g * c := by
  have h1 := Nat.div_add_mod n g
  have h2 := Nat.mod_lt n hg
  have e : n * c = n / g * (g * c) + n % g * c := by
    have : n = n / g * g + n % g := by rw [Nat.mul_comm]; omega
    conv => lhs; rw [this]
    rw [Nat.add_mul, Nat.mul_assoc]
  have h3 : n % g * c < g * c := Nat.mul_lt_mul_of_pos_right h2 hc
  omega
theorem up_scale (n g c : Nat) (hg : 0 < g) (hc : 0 < c) : n * c ≤ (n / g + if n % g ≠ 0 then 1 else 0) * (g * c) ∧ (n / g + if n % g ≠ 0 then 1 else 0) * (g * c) < n * c + g * c := by
  have h1 := Nat.div_add_mod n g
  have h2 := Nat.mod_lt n hg
  have e : n * c = n / g * (g * c) + n % g * c := by
    have : n = n / g * g + n % g := by rw [Nat.mul_comm]; omega
    conv => lhs; rw [this]
    rw [Nat.add_mul, Nat.mul_assoc]
  have h3 : n % g * c < g * c := Nat.mul_lt_mul_of_pos_right h2 hc
  have h4 : 0 < g * c := Nat.mul_pos hg hc
  by_cases h : n % g = 0
  · rw [if_neg (by omega), Nat.add_zero]
    rw [h, Nat.zero_mul] at e
    omega
  · rw [if_pos h, Nat.add_mul, Nat.one_mul]
    have h5 : 0 < n % g * c := Nat.mul_pos (by omega) hc
    omega

/-- a double's whole part -/
def truncI (a : Int) : Int := match Ieee.double.read a.toNat with | .number s m p => signed s (m * 2 ^ p.toNat / 2 ^ (-p).toNat) 0 | _ => 0
theorem signed_v (s : Bool) (m k : Nat) : signed s m k = if s then -((m * 2 ^ k : Nat) : Int) else ((m * 2 ^ k : Nat) : Int) := by
  unfold signed; rw [Nat.shiftLeft_eq]
theorem trunc_some (a : Int) (h : finB a = true) : (Ieee.double.read a.toNat).toInt .zero = some (truncI a) := by
  obtain ⟨s, m, p, e⟩ := fin_read a h
  unfold truncI
  rw [e]
  show some (signed s (Toward.zero.cut s (m <<< p.toNat) (-p).toNat) 0) = _
  rw [cut_zero, Nat.shiftLeft_eq]
/-- a number's parts, scaled to the least number's place -/
theorem scale_eq (m : Nat) (p : Int) (h1 : -1074 ≤ p) : m * 2 ^ (p + 1074).toNat = m * 2 ^ p.toNat * 2 ^ (1074 - (-p).toNat) ∧ one1 = 2 ^ (-p).toNat * 2 ^ (1074 - (-p).toNat) := by
  constructor
  · rw [Nat.mul_assoc, ← Nat.pow_add]; congr 2; omega
  · rw [← Nat.pow_add, pow_one1 (by omega)]
theorem trunc_key (a : Int) (h0' : a < 18446744073709551616) (h : finB a = true) :
    (0 ≤ keyI a → truncI a * one1 ≤ keyI a ∧ keyI a < truncI a * one1 + one1) ∧ (keyI a ≤ 0 → keyI a ≤ truncI a * one1 ∧ truncI a * one1 - one1 < keyI a) := by
  obtain ⟨s, m, p, e⟩ := fin_read a h
  obtain ⟨q1, q2, q3, q4, q5⟩ := read_number (by omega) e
  obtain ⟨e1, e2⟩ := scale_eq m p q2
  have hs := quo_scale (m * 2 ^ p.toNat) (2 ^ (-p).toNat) (2 ^ (1074 - (-p).toNat)) (Nat.two_pow_pos _) (Nat.two_pow_pos _)
  unfold keyI truncI
  rw [e]
  simp only [key, signed_v, Nat.pow_zero, Nat.mul_one]
  rw [← e2, ← e1] at hs
  have hp := one1_pos
  generalize m * 2 ^ p.toNat / 2 ^ (-p).toNat = T at *
  generalize m * 2 ^ (p + 1074).toNat = V at *
  obtain ⟨g1, g2⟩ := hs
  have g1' : (T : Int) * one1 ≤ V := by exact_mod_cast g1
  have g2' : (V : Int) < (T : Int) * one1 + one1 := by exact_mod_cast g2
  cases s
  · simp only [Bool.false_eq_true, if_false]; omega
  · simp only [if_true, Int.neg_mul]; omega

theorem key_top : keyI 4890909195324358656 = 9223372036854775808 * one1 := by
  have e : Ieee.double.read (4890909195324358656 : Int).toNat = .number false 4503599627370496 11 := by decide +kernel
  unfold keyI
  rw [e]
  simp only [key, signed_v, Bool.false_eq_true, if_false]
  have e2 : 2 ^ ((11 : Int) + 1074).toNat = 2 ^ 11 * one1 := by rw [← pow_one1 (k := ((11 : Int) + 1074).toNat - 11) (by decide), ← Nat.pow_add]; congr 1
  rw [e2]; omega
theorem key_bot : keyI 14114281232179134464 = -9223372036854775808 * one1 := by
  have e : Ieee.double.read (14114281232179134464 : Int).toNat = .number true 4503599627370496 11 := by decide +kernel
  unfold keyI
  rw [e]
  simp only [key, signed_v, if_true]
  have e2 : 2 ^ ((11 : Int) + 1074).toNat = 2 ^ 11 * one1 := by rw [← pow_one1 (k := ((11 : Int) + 1074).toNat - 11) (by decide), ← Nat.pow_add]; congr 1
  rw [e2]; omega
theorem fits_key (a : Int) (h0 : 0 ≤ a) (h0' : a < 18446744073709551616) (na : nanB a = false) :
    fitsB a = decide (-9223372036854775808 * one1 ≤ keyI a ∧ keyI a < 9223372036854775808 * one1) := by
  have o1 := order_keyI a 14114281232179134464 h0 h0' (by decide) (by decide) na (by decide)
  have o2 := order_keyI a 4890909195324358656 h0 h0' (by decide) (by decide) na (by decide)
  unfold fitsB
  rw [show (14114281232179134464 : Nat) = (14114281232179134464 : Int).toNat from rfl, show (4890909195324358656 : Nat) = (4890909195324358656 : Int).toNat from rfl, o1, o2, cmp_gt, cmp_eq, cmp_lt, key_top, key_bot, Bool.eq_iff_iff]
  simp
  omega
theorem trunc_val (a : Int) (h0' : a < 18446744073709551616) (h : finB a = true) (h1 : -9223372036854775808 * (one1 : Int) ≤ keyI a) (h2 : keyI a < 9223372036854775808 * one1) :
    floatToIntVal .f64 a.toNat .i64 = some (truncI a) := by
  have hr : -9223372036854775808 ≤ truncI a ∧ truncI a ≤ 9223372036854775807 := by
    obtain ⟨k1, k2⟩ := trunc_key a h0' h
    have p : (0 : Int) < one1 := by have := one1_pos; omega
    by_cases g : 0 ≤ keyI a
    · obtain ⟨g1, g2⟩ := k1 g
      have b1 : truncI a < 9223372036854775808 := Int.lt_of_mul_lt_mul_right (a := (one1 : Int)) (by omega) (by omega)
      have b2 : -1 < truncI a := Int.lt_of_mul_lt_mul_right (a := (one1 : Int)) (by omega) (by omega)
      omega
    · obtain ⟨g1, g2⟩ := k2 (by omega)
      have b1 : truncI a < 1 := Int.lt_of_mul_lt_mul_right (a := (one1 : Int)) (by omega) (by omega)
      have b2 : -9223372036854775809 < truncI a := Int.lt_of_mul_lt_mul_right (a := (one1 : Int)) (by omega) (by omega)
      omega
  unfold floatToIntVal
  have e : (FloatKind.f64.decode a.toNat).toInt .zero = some (truncI a) := trunc_some a h
  rw [e]
  exact if_pos hr

/-! ### floors -/
theorem floor_read (a : Int) (h0 : 0 ≤ a) (h0' : a < 18446744073709551616) (h : finB a = true) {s : Bool} {m : Nat} {p : Int} (e : Ieee.double.read a.toNat = .number s m p) :
    floorI a = (Ieee.double.nearest s (m * 2 ^ p.toNat / 2 ^ (-p).toNat + if s = true ∧ m * 2 ^ p.toNat % 2 ^ (-p).toNat ≠ 0 then 1 else 0) 0 : Nat) ∧ (0 ≤ p → floorI a = a) := by
  have e1 : floorI a = (Ieee.double.nearest s (m * 2 ^ p.toNat / 2 ^ (-p).toNat + if s = true ∧ m * 2 ^ p.toNat % 2 ^ (-p).toNat ≠ 0 then 1 else 0) 0 : Nat) := by
    unfold floorI
    rw [if_neg (by rw [fin_nan a h]; decide), e]
    show ((Ieee.double.nearest s (Toward.down.cut s (m <<< p.toNat) (-p).toNat) 0 : Nat) : Int) = _
    rw [cut_down, Nat.shiftLeft_eq]
  refine ⟨e1, fun hp => ?_⟩
  rw [e1]
  have e2 : (-p).toNat = 0 := by omega
  rw [e2, Nat.pow_zero, Nat.div_one, Nat.mod_one, if_neg (by simp), Nat.add_zero]
  have e3 : Ieee.double.nearest s (m * 2 ^ p.toNat) 0 = Ieee.double.nearest s m p := nearest_same Ieee.double s _ m 0 p 0 (by omega) (by omega) (by simp)
  rw [e3, write_read (by omega) e]
  omega
theorem floor_key (a : Int) (h0 : 0 ≤ a) (h0' : a < 18446744073709551616) (h : finB a = true) :
    finB (floorI a) = true ∧ floorI (floorI a) = floorI a ∧ ∃ q : Int, keyI (floorI a) = q * one1 ∧ q * one1 ≤ keyI a ∧ keyI a < q * one1 + one1 := by
  obtain ⟨s, m, p, e⟩ := fin_read a h
  obtain ⟨q1, q2, q3, q4, q5⟩ := read_number (by omega) e
  obtain ⟨f1, f2⟩ := floor_read a h0 h0' h e
  have hp1 := one1_pos
  by_cases hp : 0 ≤ p
  · rw [f2 hp]
    refine ⟨h, f2 hp, (if s then -1 else 1) * ((m * 2 ^ p.toNat : Nat) : Int), ?_⟩
    have e2 : keyI a = (if s then -1 else 1) * ((m * 2 ^ p.toNat : Nat) : Int) * one1 := by
      unfold keyI
      rw [e, key, signed_eq, Int.mul_assoc, ← Int.natCast_mul, Nat.mul_assoc, ← pow_one1 (k := (p + 1074).toNat - p.toNat) (by omega), ← Nat.pow_add]
      congr 5; omega
    refine ⟨e2, by omega, by omega⟩
  · -- the number of whole units
    have hg : 2 ≤ 2 ^ (-p).toNat := by
      have : 2 ^ 1 ≤ 2 ^ (-p).toNat := Nat.pow_le_pow_right (by omega) (by omega)
      omega
    have e0 : p.toNat = 0 := by omega
    rw [e0, Nat.pow_zero, Nat.mul_one] at f1
    obtain ⟨e1, e2⟩ := scale_eq m p q2
    rw [e0, Nat.pow_zero, Nat.mul_one] at e1
    have hd := quo_scale m (2 ^ (-p).toNat) (2 ^ (1074 - (-p).toNat)) (Nat.two_pow_pos _) (Nat.two_pow_pos _)
    have hu := up_scale m (2 ^ (-p).toNat) (2 ^ (1074 - (-p).toNat)) (Nat.two_pow_pos _) (Nat.two_pow_pos _)
    rw [← e2, ← e1] at hd hu
    have hm2 : m / 2 ^ (-p).toNat ≤ m / 2 := Nat.div_le_div_left hg (by omega)
    generalize hc : m / 2 ^ (-p).toNat + (if s = true ∧ m % 2 ^ (-p).toNat ≠ 0 then 1 else 0) = c at *
    have hc2 : c < 9007199254740992 := by
      rw [← hc]; split <;> omega
    obtain ⟨m', p', r, r1, r2, r3⟩ := read_nearest s c 0 hc2 (by omega) (by omega)
    have r' : Ieee.double.read (floorI a).toNat = .number s m' p' := by rw [f1]; exact r
    have hf : finB (floorI a) = true := fin_of_read _ (floorI_range a).1 r'
    refine ⟨hf, ?_, (if s then -1 else 1) * (c : Int), ?_⟩
    · have hff := (floor_read (floorI a) (floorI_range a).1 (floorI_range a).2 hf r').1
      rw [hff, f1, show p'.toNat = 0 from by omega, Nat.pow_zero, Nat.mul_one, r3, show (0 - p').toNat = (-p').toNat from by omega, Nat.mul_div_cancel _ (Nat.two_pow_pos _), Nat.mul_mod_left, if_neg (by simp), Nat.add_zero]
    · have k1 : keyI (floorI a) = (if s then -1 else 1) * (c : Int) * one1 := by
        unfold keyI
        rw [r', key, signed_eq, r3, Nat.mul_assoc, ← Nat.pow_add, pow_one1 (by omega), Int.mul_assoc, ← Int.natCast_mul]
      refine ⟨k1, ?_⟩
      unfold keyI
      rw [e]
      simp only [key, signed_v]
      generalize m * 2 ^ (p + 1074).toNat = V at *
      obtain ⟨d1, d2⟩ := hd
      obtain ⟨u1, u2⟩ := hu
      cases s
      · have hcc : m / 2 ^ (-p).toNat = c := by rw [← hc]; simp
        rw [hcc] at d1 d2
        have d1' : (c : Int) * one1 ≤ V := by exact_mod_cast d1
        have d2' : (V : Int) < (c : Int) * one1 + one1 := by exact_mod_cast d2
        simp only [Bool.false_eq_true, if_false, Int.one_mul]
        omega
      · have hcc : (m / 2 ^ (-p).toNat + if m % 2 ^ (-p).toNat ≠ 0 then 1 else 0) = c := by rw [← hc]; simp
        rw [hcc] at u1 u2
        have u1' : (V : Int) ≤ (c : Int) * one1 := by exact_mod_cast u1
        have u2' : (c : Int) * one1 < (V : Int) + one1 := by exact_mod_cast u2
        simp only [if_true, Int.neg_mul, Int.one_mul]
        omega
theorem floor_inf (a : Int) (h0 : 0 ≤ a) (h0' : a < 18446744073709551616) (hn : nanB a = false) (hf : finB a = false) : floorI a = a := by
  have e : ∃ s, Ieee.double.read a.toNat = .infinity s := by
    cases e : Ieee.double.read a.toNat with
    | infinity s => exact ⟨s, rfl⟩
    | number s m p => rw [fin_of_read a h0 e] at hf; cases hf
    | nan s t => have := nan_of a h0; rw [e, hn] at this; cases this
  obtain ⟨s, e⟩ := e
  unfold floorI
  rw [if_neg (by rw [hn]; decide), e]
  show ((Ieee.double.write (.infinity s) : Nat) : Int) = a
  rw [write_inf (by omega) e]
  omega
end Go.Proofs.YtdoojooepkdlhaaDoor.W
