/- Plain facts on hexadecimal digits, and on the text of a double: what it says is the double's exact number. No Go in sight. -/
import Derived.Test.YtdoojooepkdlhaaDoorX4
import Derived.Test.YtdoojooepkdlhaaDoorD4
namespace Go.Proofs.YtdoojooepkdlhaaDoor.W

/-- a hexadecimal digit's byte, and a byte's digit (-1: none) -/
def hexd (d : Nat) : UInt8 := if d < 10 then UInt8.ofNat (48 + d) else UInt8.ofNat (87 + d)
def hexV (c : UInt8) : Int := if 48 ≤ c.toNat ∧ c.toNat ≤ 57 then c.toNat - 48 else if 97 ≤ c.toNat ∧ c.toNat ≤ 102 then c.toNat - 87 else -1
theorem hexd_toNat (d : Nat) (h : d < 16) : (hexd d).toNat = if d < 10 then 48 + d else 87 + d := by
  unfold hexd
  split
  · rw [UInt8.toNat_ofNat']; omega
  · rw [UInt8.toNat_ofNat']; omega
theorem hexV_hexd (d : Nat) (h : d < 16) : hexV (hexd d) = d := by
  unfold hexV
  rw [hexd_toNat d h]
  by_cases g : d < 10
  · rw [if_pos g, if_pos (by omega)]; omega
  · rw [if_neg g, if_neg (by omega), if_pos (by omega)]; omega
theorem hexV_range (c : UInt8) : -1 ≤ hexV c ∧ hexV c < 16 := by unfold hexV; split <;> (try split) <;> omega
/-- the number that hexadecimal digits are -/
def valH (l : List UInt8) : Nat := l.foldl (fun a c => 16 * a + (hexV c).toNat) 0
theorem foldH (l : List UInt8) (a : Nat) : l.foldl (fun a c => 16 * a + (hexV c).toNat) a = a * 16 ^ l.length + valH l := by
  induction l generalizing a with
  | nil => simp [valH]
  | cons c l ih =>
    have e : valH (c :: l) = l.foldl (fun a c => 16 * a + (hexV c).toNat) (16 * 0 + (hexV c).toNat) := rfl
    rw [List.foldl_cons, ih, e, ih, List.length_cons, Nat.pow_succ, Nat.add_mul, Nat.mul_zero, Nat.zero_add, Nat.add_assoc]
    congr 1
    rw [Nat.mul_comm 16 a, Nat.mul_assoc, Nat.mul_comm 16]
theorem valH_cons (c : UInt8) (l : List UInt8) : valH (c :: l) = (hexV c).toNat * 16 ^ l.length + valH l := by
  have e : valH (c :: l) = l.foldl (fun a c => 16 * a + (hexV c).toNat) (16 * 0 + (hexV c).toNat) := rfl
  rw [e, foldH, Nat.mul_zero, Nat.zero_add]
theorem valH_append (l m : List UInt8) : valH (l ++ m) = valH l * 16 ^ m.length + valH m := by
  unfold valH
  rw [List.foldl_append, foldH]
  rfl
theorem valH_snoc (l : List UInt8) (c : UInt8) : valH (l ++ [c]) = 16 * valH l + (hexV c).toNat := by
  rw [valH_append]
  simp [valH]
  omega
theorem valH_zeros (k : Nat) (l : List UInt8) : valH (List.replicate k (dig 0) ++ l) = valH l := by
  induction k with
  | zero => rfl
  | succ k ih =>
    rw [List.replicate_succ, List.cons_append, valH_cons, ih]
    have : hexV (dig 0) = 0 := by decide
    rw [this]; simp
/-- the digits behind the point: k at most -/
def fracL : Nat → Nat → List UInt8
  | 0, _ => []
  | k + 1, f => if f = 0 then [] else hexd (f / 281474976710656) :: fracL k (f % 281474976710656 * 16)
theorem pow16 (k : Nat) : 16 ^ k = 2 ^ (4 * k) := by rw [Nat.pow_mul]
theorem fracL_val (k f : Nat) (hk : k ≤ 13) (h1 : f < 4503599627370496) (h2 : f % 2 ^ (52 - 4 * k) = 0) :
    (fracL k f).length ≤ k ∧ valH (fracL k f) * 2 ^ (52 - 4 * (fracL k f).length) = f ∧ (∀ c ∈ fracL k f, 0 ≤ hexV c) := by
  induction k generalizing f with
  | zero =>
    have : f = 0 := by
      have e : (2 : Nat) ^ (52 - 4 * 0) = 4503599627370496 := by decide
      rw [e] at h2; omega
    subst this
    exact ⟨Nat.le_refl _, by simp [fracL, valH], by simp [fracL]⟩
  | succ k ih =>
    unfold fracL
    by_cases hf : f = 0
    · rw [if_pos hf]
      subst hf
      exact ⟨by simp, by simp [valH], by simp⟩
    · rw [if_neg hf]
      have hd : f / 281474976710656 < 16 := by omega
      have hr : f % 281474976710656 * 16 < 4503599627370496 := by omega
      have hm : f % 281474976710656 * 16 % 2 ^ (52 - 4 * k) = 0 := by
        have e1 : (2 : Nat) ^ (52 - 4 * k) = 2 ^ (52 - 4 * (k + 1)) * 16 := by
          rw [show (16 : Nat) = 2 ^ 4 by decide, ← Nat.pow_add]; congr 1; omega
        rw [e1, Nat.mul_mod_mul_right]
        have e2 : (281474976710656 : Nat) = 2 ^ (52 - 4 * (k + 1)) * 2 ^ (4 * k) := by
          rw [← Nat.pow_add, show 52 - 4 * (k + 1) + 4 * k = 48 by omega]
        rw [e2, Nat.mod_mul_right_mod, h2, Nat.zero_mul]
      obtain ⟨i1, i2, i3⟩ := ih (f % 281474976710656 * 16) (by omega) hr hm
      generalize fracL k (f % 281474976710656 * 16) = l at i1 i2 i3
      refine ⟨by simp only [List.length_cons]; omega, ?_, ?_⟩
      · rw [valH_cons, hexV_hexd _ hd, Int.toNat_natCast, List.length_cons, Nat.add_mul]
        have e3 : 16 ^ l.length * 2 ^ (52 - 4 * (l.length + 1)) = 281474976710656 := by
          rw [pow16, ← Nat.pow_add, show 4 * l.length + (52 - 4 * (l.length + 1)) = 48 by omega]
        have e4 : (2 : Nat) ^ (52 - 4 * l.length) = 2 ^ (52 - 4 * (l.length + 1)) * 16 := by
          rw [show (16 : Nat) = 2 ^ 4 by decide, ← Nat.pow_add]; congr 1; omega
        rw [e4, ← Nat.mul_assoc] at i2
        have e5 : valH l * 2 ^ (52 - 4 * (l.length + 1)) = f % 281474976710656 := Nat.eq_of_mul_eq_mul_right (by decide : 0 < 16) i2
        rw [e5, Nat.mul_assoc, e3]
        omega
      · intro c hc
        rcases List.mem_cons.1 hc with rfl | hc
        · rw [hexV_hexd _ hd]; omega
        · exact i3 c hc
/-- one and what stands behind the point, by digits -/
theorem one_frac (f : Nat) (h1 : f < 4503599627370496) :
    (fracL 13 f).length ≤ 13 ∧ valH (hexd 1 :: fracL 13 f) * 2 ^ (52 - 4 * (fracL 13 f).length) = 4503599627370496 + f := by
  have e0 : (2 : Nat) ^ (52 - 4 * 13) = 1 := by decide
  obtain ⟨i1, i2, -⟩ := fracL_val 13 f (Nat.le_refl _) h1 (by rw [e0]; omega)
  refine ⟨i1, ?_⟩
  rw [valH_cons, hexV_hexd 1 (by omega), Int.toNat_natCast, Nat.add_mul, i2, Nat.one_mul, pow16, ← Nat.pow_add, show 4 * (fracL 13 f).length + (52 - 4 * (fracL 13 f).length) = 52 by omega]
/-- a finite pattern above nought: its power and what stands behind the point -/
def powOf (a : Nat) : Int := if a < 4503599627370496 then (a.log2 : Int) - 1074 else (a / 4503599627370496 : Nat) - 1023
def fracOf (a : Nat) : Nat := if a < 4503599627370496 then a * 2 ^ (52 - a.log2) - 4503599627370496 else a % 4503599627370496
theorem fracOf_spec (a : Nat) (h0 : a ≠ 0) (h1 : a < 9218868437227405312) :
    fracOf a < 4503599627370496 ∧ ValOf (a : Int) (4503599627370496 + fracOf a) (powOf a - 52) ∧ -1074 ≤ powOf a ∧ powOf a ≤ 1023 := by
  unfold fracOf powOf
  by_cases hs : a < 4503599627370496
  · rw [if_pos hs, if_pos hs]
    obtain ⟨l1, l2⟩ := high_le h0
    have hl : a.log2 ≤ 51 := by
      false_or_by_contra
      rename_i g
      have : 2 ^ 52 ≤ 2 ^ a.log2 := Nat.pow_le_pow_right (by omega) (by omega)
      have p52 : (2 : Nat) ^ 52 = 4503599627370496 := by decide
      omega
    have b1 : 2 ^ a.log2 * 2 ^ (52 - a.log2) ≤ a * 2 ^ (52 - a.log2) := Nat.mul_le_mul_right _ l1
    have b2 : a * 2 ^ (52 - a.log2) < 2 ^ (a.log2 + 1) * 2 ^ (52 - a.log2) := Nat.mul_lt_mul_of_pos_right l2 (Nat.two_pow_pos _)
    rw [← Nat.pow_add, show a.log2 + (52 - a.log2) = 52 by omega] at b1
    rw [← Nat.pow_add, show a.log2 + 1 + (52 - a.log2) = 53 by omega] at b2
    have p52 : (2 : Nat) ^ 52 = 4503599627370496 := by decide
    have p53 : (2 : Nat) ^ 53 = 9007199254740992 := by decide
    rw [p52] at b1
    rw [p53] at b2
    refine ⟨by omega, ?_, by omega, by omega⟩
    have e : 4503599627370496 + (a * 2 ^ (52 - a.log2) - 4503599627370496) = a * 2 ^ (52 - a.log2) := by omega
    rw [e]
    have sh := (val_shift (a := (a : Int)) (N := a) (low := (a.log2 : Int) - 1074 - 52) (52 - a.log2)).2
    refine sh ?_
    have el : (a.log2 : Int) - 1074 - 52 + ((52 - a.log2 : Nat) : Int) = -1074 := by omega
    rw [el]
    obtain ⟨f, g, k⟩ := parts_mk a 0 (by omega) (Or.inr rfl) (by omega)
    rw [Nat.zero_mul, Nat.zero_add] at f g k
    exact ⟨by omega, g, f, _, k, by simp⟩
  · rw [if_neg hs, if_neg hs]
    have hr : a % 4503599627370496 < 4503599627370496 := Nat.mod_lt _ (by decide)
    refine ⟨hr, ?_, by omega, by omega⟩
    obtain ⟨f, g, k⟩ := parts_mk (4503599627370496 + a % 4503599627370496) (a / 4503599627370496 - 1) (by omega) (Or.inl (by omega)) (by omega)
    have e : (a / 4503599627370496 - 1) * 4503599627370496 + (4503599627370496 + a % 4503599627370496) = a := by omega
    rw [e] at f g k
    refine ⟨by omega, g, f, _, k, ?_⟩
    have z : (-(((a / 4503599627370496 : Nat) : Int) - 1023 - 52 + 1074)).toNat = 0 := by omega
    have y : (((a / 4503599627370496 : Nat) : Int) - 1023 - 52 + 1074).toNat = a / 4503599627370496 - 1 := by omega
    rw [z, y, Nat.pow_zero, Nat.mul_one]
/-- what a double's text says is the double -/
theorem text_val (a : Nat) (h0 : a ≠ 0) (h1 : a < 9218868437227405312) :
    ValOf (a : Int) (valH (hexd 1 :: fracL 13 (fracOf a))) (powOf a - 4 * (fracL 13 (fracOf a)).length) := by
  obtain ⟨f1, f2, f3, f4⟩ := fracOf_spec a h0 h1
  obtain ⟨g1, g2⟩ := one_frac (fracOf a) f1
  rw [← g2] at f2
  have sh := (val_shift (a := (a : Int)) (N := valH (hexd 1 :: fracL 13 (fracOf a))) (low := powOf a - 52) (52 - 4 * (fracL 13 (fracOf a)).length)).1 f2
  have el : powOf a - 52 + ((52 - 4 * (fracL 13 (fracOf a)).length : Nat) : Int) = powOf a - 4 * (fracL 13 (fracOf a)).length := by omega
  rw [el] at sh
  exact sh
end Go.Proofs.YtdoojooepkdlhaaDoor.W
