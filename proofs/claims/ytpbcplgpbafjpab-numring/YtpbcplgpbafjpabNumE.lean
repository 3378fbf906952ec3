/- Contracts of package num on two whole numbers: quotients rounded down, and rests. -/
import Derived.Test.YtpbcplgpbafjpabNumC
namespace Go.Proofs.Ytpbcplgpbafjpab.W
open Go.ChangeShapes Go.WideShapes Go.RowKit

set_option maxHeartbeats 1000000 in
theorem floorW_zero (a : Int) (w : World) :
    Calls Try.prog 38 #[.int .i64 a, .int .i64 0] w fun e w' => e = .returned (.tuple #[.agg #[.bool false, .int .i64 0, .int .u64 0], .int .i64 11]) ∧ Gr w w' := by
  go_enter Try.func38, Try.ntmps38
  go_wp2_with (go_at_call 33; refine (refused_c _ _).mono ?_; rintro e w' ⟨rfl, hg⟩; obtain ⟨fR, fz, hG⟩ := hg.one (Nat.zero_lt_succ _); clear hg)
  exact bodyPost_ret (v := .tuple #[.agg #[.bool false, .int .i64 0, .int .u64 0], .int .i64 11]) (by simp [results, Try.results38, go_sem, fR]) rfl ⟨rfl, ((hG.store (Nat.le_refl _) _).store (Nat.le_refl _) _).store (Nat.le_refl _) _⟩
set_option maxHeartbeats 1000000 in
theorem floorW_least (w : World) :
    Calls Try.prog 38 #[.int .i64 (-9223372036854775808), .int .i64 (-1)] w fun e w' => e = .returned (.tuple #[.agg #[.bool false, .int .i64 0, .int .u64 0], .int .i64 10]) ∧ Gr w w' := by
  go_enter Try.func38, Try.ntmps38
  go_wp2_with (go_at_call 33; refine (refused_c _ _).mono ?_; rintro e w' ⟨rfl, hg⟩; obtain ⟨fR, fz, hG⟩ := hg.one (Nat.zero_lt_succ _); clear hg)
  exact bodyPost_ret (v := .tuple #[.agg #[.bool false, .int .i64 0, .int .u64 0], .int .i64 10]) (by simp [results, Try.results38, go_sem, fR]) rfl ⟨rfl, ((hG.store (Nat.le_refl _) _).store (Nat.le_refl _) _).store (Nat.le_refl _) _⟩
set_option maxHeartbeats 1000000 in
theorem floorW_keep (a b q r : Int) (hb : (b == 0) = false) (hb' : ¬ b = 0) (hl : (a == -9223372036854775808) = false ∨ ((a == -9223372036854775808) = true ∧ (b == -1) = false)) (hq : IntKind.i64.wrap (a.tdiv b) = q) (hr : a.tmod b = r)
    (hC : r = 0 ∨ ((r != 0) = true ∧ a < 0 ∧ b < 0) ∨ ((r != 0) = true ∧ ¬ a < 0 ∧ ¬ b < 0)) (w : World) :
    Calls Try.prog 38 #[.int .i64 a, .int .i64 b] w fun e w' => e = .returned (.tuple #[.agg #[.bool true, .int .i64 q, .int .u64 0], .int .i64 0]) ∧ Gr w w' := by
  rcases hl with hl | ⟨hl, hm⟩ <;> rcases hC with rfl | ⟨x1, x2, x3⟩ | ⟨x1, x2, x3⟩
  all_goals
    go_enter Try.func38, Try.ntmps38
    go_wp2_with (go_at_call 34; refine (numWhole_c _ _).mono ?_; rintro e w' ⟨rfl, hg⟩; obtain ⟨fR, fz, hG⟩ := hg.one (Nat.zero_lt_succ _); clear hg)
    exact bodyPost_ret (v := .tuple #[.agg #[.bool true, .int .i64 q, .int .u64 0], .int .i64 0]) (by simp [results, Try.results38, go_sem, fR]) rfl ⟨rfl, ((hG.store (Nat.le_refl _) _).store (Nat.le_refl _) _).store (Nat.le_refl _) _⟩
set_option maxHeartbeats 1000000 in
theorem floorW_turn (a b q r s : Int) (hb : (b == 0) = false) (hb' : ¬ b = 0) (hl : (a == -9223372036854775808) = false ∨ ((a == -9223372036854775808) = true ∧ (b == -1) = false)) (hq : IntKind.i64.wrap (a.tdiv b) = q) (hr : a.tmod b = r)
    (hs : IntKind.i64.wrap (q - 1) = s) (x1 : (r != 0) = true) (hC : (a < 0 ∧ ¬ b < 0) ∨ (¬ a < 0 ∧ b < 0)) (w : World) :
    Calls Try.prog 38 #[.int .i64 a, .int .i64 b] w fun e w' => e = .returned (.tuple #[.agg #[.bool true, .int .i64 s, .int .u64 0], .int .i64 0]) ∧ Gr w w' := by
  rcases hl with hl | ⟨hl, hm⟩ <;> rcases hC with ⟨x2, x3⟩ | ⟨x2, x3⟩
  all_goals
    go_enter Try.func38, Try.ntmps38
    go_wp2_with (go_at_call 34; refine (numWhole_c _ _).mono ?_; rintro e w' ⟨rfl, hg⟩; obtain ⟨fR, fz, hG⟩ := hg.one (Nat.zero_lt_succ _); clear hg)
    exact bodyPost_ret (v := .tuple #[.agg #[.bool true, .int .i64 s, .int .u64 0], .int .i64 0]) (by simp [results, Try.results38, go_sem, fR]) rfl ⟨rfl, ((hG.store (Nat.le_refl _) _).store (Nat.le_refl _) _).store (Nat.le_refl _) _⟩
theorem tdiv_range (a b : Int) (a0 : -9223372036854775808 ≤ a) (a1 : a < 9223372036854775808) (hb : b ≠ 0) (hl : ¬ (a = -9223372036854775808 ∧ b = -1)) :
    (-9223372036854775808 ≤ a.tdiv b ∧ a.tdiv b < 9223372036854775808) ∧ (2 ≤ b.natAbs → -4611686018427387904 ≤ a.tdiv b ∧ a.tdiv b ≤ 4611686018427387904) := by
  have hn : (a.tdiv b).natAbs = a.natAbs / b.natAbs := Int.natAbs_tdiv a b
  have h2 : 2 ≤ b.natAbs → a.natAbs / b.natAbs ≤ a.natAbs / 2 := fun h => Nat.div_le_div_left h (by omega)
  have hl1 : a.natAbs / b.natAbs ≤ a.natAbs := Nat.div_le_self _ _
  refine ⟨?_, fun h => by have := h2 h; omega⟩
  by_cases h : 2 ≤ b.natAbs
  · have := h2 h; omega
  · have : b = 1 ∨ b = -1 := by omega
    rcases this with rfl | rfl
    · rw [Int.tdiv_one]; omega
    · have : a ≠ -9223372036854775808 := fun e => hl ⟨e, rfl⟩
      omega
/-- what FloorDiv and Mod answer of two whole numbers -/
def floorR (a b : Int) : Res := if b = 0 then bad 11 else fitR (flI a b)
def modR (a b : Int) : Res := if b = 0 then bad 11 else okW (mdI a b)
theorem fl_fits (a b : Int) (a0 : -9223372036854775808 ≤ a) (a1 : a < 9223372036854775808) (hb : b ≠ 0) (hl : ¬ (a = -9223372036854775808 ∧ b = -1)) : -9223372036854775808 ≤ flI a b ∧ flI a b < 9223372036854775808 := by
  obtain ⟨r1, r2⟩ := tdiv_range a b a0 a1 hb hl
  obtain ⟨f1, f2⟩ := fl_tdiv a b hb
  obtain ⟨t1, t2, t3, t4, t5⟩ := tdiv_spec a b hb
  by_cases hr : a.tmod b = 0 ∨ ((a < 0) ↔ (b < 0))
  · rw [← (f2 hr).1]; exact r1
  · have h0 : a.tmod b ≠ 0 := fun h => hr (Or.inl h)
    rw [← (f1 h0 (by omega)).1]
    have := r2 (by omega)
    omega
theorem floorW_c (a b : Int) (a0 : -9223372036854775808 ≤ a) (a1 : a < 9223372036854775808) (w : World) :
    Calls Try.prog 38 #[.int .i64 a, .int .i64 b] w fun e w' => e = .returned (resV (floorR a b)) ∧ Gr w w' := by
  unfold floorR
  by_cases hb : b = 0
  · subst hb; exact floorW_zero a w
  · rw [if_neg hb]
    by_cases hl : a = -9223372036854775808 ∧ b = -1
    · obtain ⟨rfl, rfl⟩ := hl
      rw [fitR_out (by decide)]
      exact floorW_least w
    · have hf := fl_fits a b a0 a1 hb hl
      rw [fitR_in hf]
      obtain ⟨r1, r2⟩ := tdiv_range a b a0 a1 hb hl
      obtain ⟨f1, f2⟩ := fl_tdiv a b hb
      obtain ⟨t1, t2, t3, t4, t5⟩ := tdiv_spec a b hb
      have hbb : (b == 0) = false := by simpa using hb
      have hl' : (a == -9223372036854775808) = false ∨ ((a == -9223372036854775808) = true ∧ (b == -1) = false) := by
        by_cases h : a = -9223372036854775808
        · refine Or.inr ⟨by simpa using h, ?_⟩
          have : b ≠ -1 := fun g => hl ⟨h, g⟩
          simpa using this
        · exact Or.inl (by simpa using h)
      by_cases hr : a.tmod b = 0 ∨ ((a < 0) ↔ (b < 0))
      · rw [← (f2 hr).1]
        refine floorW_keep a b _ _ hbb hb hl' (wrap_in r1) rfl ?_ w
        by_cases h0 : a.tmod b = 0
        · exact Or.inl h0
        · have h0' : (a.tmod b != 0) = true := by simpa using h0
          rcases hr with hr | hr
          · exact absurd hr h0
          · by_cases h : a < 0
            · exact Or.inr (Or.inl ⟨h0', h, hr.1 h⟩)
            · exact Or.inr (Or.inr ⟨h0', h, fun g => h (hr.2 g)⟩)
      · have h0 : a.tmod b ≠ 0 := fun h => hr (Or.inl h)
        rw [← (f1 h0 (by omega)).1]
        have := r2 (by omega)
        exact floorW_turn a b _ _ _ hbb hb hl' (wrap_in r1) rfl (wrap_in (by omega)) (by simpa using h0) (by omega) w
end Go.Proofs.Ytpbcplgpbafjpab.W
