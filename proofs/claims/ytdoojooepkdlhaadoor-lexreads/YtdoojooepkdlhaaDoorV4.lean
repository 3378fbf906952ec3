/- Contract of package numtext: which pattern a value and a power are. -/
import Derived.Test.YtdoojooepkdlhaaDoorC4
import Derived.Deep.QuietTactic
import Derived.BigQuiet
import Derived.RegionTactic
namespace Go.Proofs.YtdoojooepkdlhaaDoor.W
open Go.ChangeShapes Go.WideShapes Go.RowKit

def patV (o : Option Int) : Value := .tuple #[.int .u64 (o.getD 0), .bool o.isSome]
theorem odd_lt (n : Nat) (h : n ≠ 0) : oddN n ≤ n ∧ oddN n ≠ 0 := by
  obtain ⟨o1, o2⟩ := odd_twos n h
  have p := Nat.two_pow_pos (twos n)
  have : oddN n * 1 ≤ oddN n * 2 ^ twos n := Nat.mul_le_mul_left _ p
  omega
theorem shr_twos (n : Nat) (h : n ≠ 0) : n / 2 ^ twos n = oddN n := by
  obtain ⟨o1, o2⟩ := odd_twos n h
  have e : n / 2 ^ twos n = oddN n * 2 ^ twos n / 2 ^ twos n := by rw [← o2]
  rw [e]
  exact Nat.mul_div_cancel _ (Nat.two_pow_pos _)
theorem twos_le (n : Nat) (h : n ≠ 0) (h1 : n < 18446744073709551616) : twos n ≤ 63 ∧ n.log2 ≤ 63 := by
  have e := log2_odd n h
  have l : n.log2 ≤ 63 := by
    apply Nat.le_of_not_lt
    intro hh
    have : 2 ^ 64 ≤ 2 ^ n.log2 := Nat.pow_le_pow_right (by decide) hh
    have := (high_le h).1
    omega
  omega
theorem pat_alloc (w : World) (v p : Value) (q : Value) (t : TypeId) : (∀ i, (w.alloc (Obj.cells #[v, p, q] t)).cell? ⟨w.heap.size, i, none⟩ = #[v, p, q][i]?) := fun _ => World.cell?_alloc_new w _ _ _
set_option maxHeartbeats 400000 in
theorem numPattern_wide (v p : Int) (w : World) :
    Calls Tryd.prog 52 #[.agg #[.int .u64 v, .int .i64 p, .bool true]] w fun e w' => e = .returned (patV none) ∧ Below w.heap.size w w' := by
  go_enter Tryd.func52, Tryd.ntmps52
  go_wp2_with fail
  go_ret2
  exact ⟨rfl, (Below.refl _ _).alloc (Nat.le_refl _) _⟩
set_option maxHeartbeats 400000 in
theorem numPattern_zero (p : Int) (w : World) :
    Calls Tryd.prog 52 #[.agg #[.int .u64 0, .int .i64 p, .bool false]] w fun e w' => e = .returned (patV (some 0)) ∧ Below w.heap.size w w' := by
  go_enter Tryd.func52, Tryd.ntmps52
  go_wp2_with fail
  go_ret2
  exact ⟨rfl, (Below.refl _ _).alloc (Nat.le_refl _) _⟩
set_option maxHeartbeats 400000 in
theorem numPattern_num (v p tw od lg : Int) (ans : Option Int) (w : World) (ht : Tabs w) (v0 : ¬ v = 0) (p0 : -200000 ≤ p) (p1 : p ≤ 200000) (t0 : 0 ≤ tw) (t1 : tw ≤ 63) (l0 : 0 ≤ lg) (l1 : lg ≤ 63)
    (ct : ∀ w, Tabs w → Calls Tryd.prog 60 #[.int .u64 v] w fun e w' => e = .returned (.int .i64 tw) ∧ w' = w)
    (cl : ∀ w, Calls Tryd.prog 61 #[.int .u64 od] w fun e w' => e = .returned (.int .i64 (lg + 1)) ∧ w' = w)
    (hod : v / 2 ^ tw.toNat = od) (lo hi : Int) (hlo : p + tw = lo) (hhi : lo + (lg + 1) - 1 = hi)
    (hans : ((53 < lg + 1 ∨ ¬ 53 < lg + 1 ∧ lo < -1074 ∨ ¬ 53 < lg + 1 ∧ ¬ lo < -1074 ∧ 1023 < hi) ∧ ans = none) ∨
      (¬ 53 < lg + 1 ∧ ¬ lo < -1074 ∧ ¬ 1023 < hi ∧ hi < -1022 ∧ ∃ a, ans = some a ∧ IntKind.u64.wrap (od * 2 ^ (lo + 1074).toNat) = a) ∨
      (¬ 53 < lg + 1 ∧ ¬ lo < -1074 ∧ ¬ 1023 < hi ∧ ¬ hi < -1022 ∧ ∃ a b c d, ans = some a ∧ IntKind.u64.wrap (od * 2 ^ (53 - (lg + 1)).toNat) = b ∧ bits .and .u64 b 4503599627370495 = c ∧ IntKind.u64.wrap ((hi + 1023) * 4503599627370496) = d ∧ bits .or .u64 d c = a)) :
    Calls Tryd.prog 52 #[.agg #[.int .u64 v, .int .i64 p, .bool false]] w fun e w' => e = .returned (patV ans) ∧ Below w.heap.size w w' := by
  have htW : Tabs (w.alloc (Obj.cells #[Value.int .u64 v, .int .i64 p, .bool false] 70)) := ht.below ((Below.refl _ _).alloc (Nat.le_refl _) _)
  go_enter Tryd.func52, Tryd.ntmps52
  go_wp2_with (first | (go_at_call 60; refine (ct _ htW).mono ?_; rintro e w' ⟨rfl, rfl⟩))
  go_quiet (fail)
  rcases hans with ⟨h | ⟨h, h2⟩ | ⟨h, h2, h3⟩, rfl⟩ | ⟨h, h2, h3, h4, a, rfl, ha⟩ | ⟨h, h2, h3, h4, a, b, c, d, rfl, hb, hc, hd, ha⟩
  · go_wp2_with (first | (go_at_call 61; refine (cl _).mono ?_; rintro e w' ⟨rfl, rfl⟩))
    go_ret2
    exact ⟨rfl, below_drewN ((Below.refl _ _).alloc (Nat.le_refl _) _) _⟩
  · go_wp2_with (first | (go_at_call 61; refine (cl _).mono ?_; rintro e w' ⟨rfl, rfl⟩))
    go_ret2
    exact ⟨rfl, below_drewN ((Below.refl _ _).alloc (Nat.le_refl _) _) _⟩
  · go_wp2_with (first | (go_at_call 61; refine (cl _).mono ?_; rintro e w' ⟨rfl, rfl⟩))
    go_ret2
    exact ⟨rfl, below_drewN ((Below.refl _ _).alloc (Nat.le_refl _) _) _⟩
  · go_wp2_with (first | (go_at_call 61; refine (cl _).mono ?_; rintro e w' ⟨rfl, rfl⟩))
    go_ret2
    exact ⟨rfl, below_drewN ((Below.refl _ _).alloc (Nat.le_refl _) _) _⟩
  · go_wp2_with (first | (go_at_call 61; refine (cl _).mono ?_; rintro e w' ⟨rfl, rfl⟩))
    go_ret2
    exact ⟨rfl, below_drewN ((Below.refl _ _).alloc (Nat.le_refl _) _) _⟩
theorem numPattern_c (v p : Int) (wd : Bool) (v0 : 0 ≤ v) (v1 : v < 18446744073709551616) (p0 : -200000 ≤ p) (p1 : p ≤ 200000) (w : World) (ht : Tabs w) :
    Calls Tryd.prog 52 #[.agg #[.int .u64 v, .int .i64 p, .bool wd]] w fun e w' => e = .returned (patV (numP v.toNat wd p)) ∧ Below w.heap.size w w' := by
  cases wd with
  | true => exact numPattern_wide v p w
  | false =>
    obtain ⟨n, rfl⟩ := Int.eq_ofNat_of_zero_le v0
    rw [Int.toNat_natCast]
    have e : numP n false p = exactP n p := rfl
    rw [e]
    by_cases hn : n = 0
    · subst hn
      have e0 : exactP 0 p = some 0 := by unfold exactP; rw [if_pos rfl]
      rw [e0]
      exact numPattern_zero p w
    · obtain ⟨o1, o2⟩ := odd_twos n hn
      obtain ⟨o3, o4⟩ := odd_lt n hn
      obtain ⟨t1, t2⟩ := twos_le n hn (by omega)
      have lo := log2_odd n hn
      obtain ⟨l1, l2⟩ := high_le o4
      refine numPattern_num n p (twos n) (oddN n) (oddN n).log2 _ w ht (by omega) p0 p1 (by omega) (by omega) (by omega) (by omega) (fun w h => ctz_c n (by omega) v1 w h) (fun w => len64_c (oddN n) (by omega) (by omega) w) ?_ _ _ rfl rfl ?_
      · rw [Int.toNat_natCast]
        have : (n : Int) / 2 ^ twos n = ((n / 2 ^ twos n : Nat) : Int) := by simp
        rw [this, shr_twos n hn]
      · unfold exactP
        rw [if_neg hn]
        by_cases c1 : 52 < (oddN n).log2 ∨ p + twos n < -1074 ∨ 1023 < p + twos n + (oddN n).log2
        · rw [if_pos c1]
          refine Or.inl ⟨?_, rfl⟩
          by_cases g1 : 53 < ((oddN n).log2 : Int) + 1
          · exact Or.inl g1
          · by_cases g2 : p + twos n < -1074
            · exact Or.inr (Or.inl ⟨g1, g2⟩)
            · exact Or.inr (Or.inr ⟨g1, g2, by omega⟩)
        · rw [if_neg c1]
          have k1 : (oddN n).log2 ≤ 52 := by omega
          have k2 : -1074 ≤ p + twos n := by omega
          have k3 : p + twos n + (oddN n).log2 ≤ 1023 := by omega
          by_cases c2 : p + twos n + (oddN n).log2 < -1022
          · rw [if_pos c2]
            refine Or.inr (Or.inl ⟨by omega, by omega, by omega, by omega, _, rfl, ?_⟩)
            have e1 : (oddN n : Int) * 2 ^ (p + twos n + 1074).toNat = ((oddN n * 2 ^ (p + twos n + 1074).toNat : Nat) : Int) := by simp
            have b1 : oddN n * 2 ^ (p + twos n + 1074).toNat < 2 ^ ((oddN n).log2 + 1) * 2 ^ (p + twos n + 1074).toNat := Nat.mul_lt_mul_of_pos_right l2 (Nat.two_pow_pos _)
            rw [← Nat.pow_add] at b1
            have b2 : 2 ^ ((oddN n).log2 + 1 + (p + twos n + 1074).toNat) ≤ 2 ^ 52 := Nat.pow_le_pow_right (by decide) (by omega)
            have b3 : (2 : Nat) ^ 52 = 4503599627370496 := by decide
            rw [e1, IntKind.wrap_u64]
            omega
          · rw [if_neg c2]
            have sh : (53 - (((oddN n).log2 : Int) + 1)).toNat = 52 - (oddN n).log2 := by omega
            have e1 : (oddN n : Int) * 2 ^ (52 - (oddN n).log2) = ((oddN n * 2 ^ (52 - (oddN n).log2) : Nat) : Int) := by simp
            have a1 : 2 ^ (oddN n).log2 * 2 ^ (52 - (oddN n).log2) ≤ oddN n * 2 ^ (52 - (oddN n).log2) := Nat.mul_le_mul_right _ l1
            have a2 : oddN n * 2 ^ (52 - (oddN n).log2) < 2 ^ ((oddN n).log2 + 1) * 2 ^ (52 - (oddN n).log2) := Nat.mul_lt_mul_of_pos_right l2 (Nat.two_pow_pos _)
            rw [← Nat.pow_add] at a1 a2
            rw [show (oddN n).log2 + (52 - (oddN n).log2) = 52 by omega] at a1
            rw [show (oddN n).log2 + 1 + (52 - (oddN n).log2) = 53 by omega] at a2
            have e5 : (2 : Nat) ^ 52 = 4503599627370496 := by decide
            have e6 : (2 : Nat) ^ 53 = 9007199254740992 := by decide
            rw [e5] at a1
            rw [e6] at a2
            refine Or.inr (Or.inr ⟨by omega, by omega, by omega, by omega, _, ((oddN n * 2 ^ (52 - (oddN n).log2) : Nat) : Int), ((oddN n * 2 ^ (52 - (oddN n).log2) - 4503599627370496 : Nat) : Int), (((p + twos n + (oddN n).log2 + 1023).toNat * 4503599627370496 : Nat) : Int), rfl, ?_, ?_, ?_, ?_⟩)
            · rw [sh, e1, IntKind.wrap_u64]
              omega
            · rw [and52 _ (by omega) (by omega)]
              omega
            · rw [IntKind.wrap_u64]
              omega
            · rw [u64_or_nat _ _ (by omega) (by omega), nat_join 52 _ _ (by rw [e5]; exact Nat.mul_mod_left _ _) (by rw [e5]; omega)]
end Go.Proofs.YtdoojooepkdlhaaDoor.W
