import Derived.Test.YthgcdohndchdkaaGreatDoorBase1
/- Contracts of package num on two whole numbers. -/
namespace Go.Proofs.YthgcdohndchdkaaGreatDoor.W.Nu
open Go.ChangeShapes Go.WideShapes Go.RowKit
/-- a result, as the calls hand it back -/
def resV (r : Res) : Value := .tuple #[.agg #[.bool r.w, .int .i64 r.i, .int .u64 r.u], .int .i64 r.e]

set_option maxHeartbeats 1000000 in
theorem addW_in (a b s : Int) (hs : IntKind.i64.wrap (a + b) = s) (hC : (s < a ∧ b < 0) ∨ (¬ s < a ∧ ¬ b < 0)) (w : World) :
    Calls Tryz.prog 165 #[.int .i64 a, .int .i64 b] w fun e w' => e = .returned (.tuple #[.agg #[.bool true, .int .i64 s, .int .u64 0], .int .i64 0]) ∧ Gr w w' := by
  rcases hC with ⟨h1, h2⟩ | ⟨h1, h2⟩
  all_goals
    go_enter Tryz.func165, Tryz.ntmps165
    go_wp2_with (go_at_call 168; refine (numWhole_c _ _).mono ?_; rintro e w' ⟨rfl, hg⟩; obtain ⟨fR, fz, hG⟩ := hg.one (Nat.zero_lt_succ _); clear hg)
    exact bodyPost_ret (v := .tuple #[.agg #[.bool true, .int .i64 s, .int .u64 0], .int .i64 0]) (by simp [results, Tryz.results165, go_sem, fR]) rfl ⟨rfl, ((hG.store (Nat.le_refl _) _).store (Nat.le_refl _) _).store (Nat.le_refl _) _⟩
set_option maxHeartbeats 1000000 in
theorem addW_out (a b s : Int) (hs : IntKind.i64.wrap (a + b) = s) (hC : (s < a ∧ ¬ b < 0) ∨ (¬ s < a ∧ b < 0)) (w : World) :
    Calls Tryz.prog 165 #[.int .i64 a, .int .i64 b] w fun e w' => e = .returned (.tuple #[.agg #[.bool false, .int .i64 0, .int .u64 0], .int .i64 10]) ∧ Gr w w' := by
  rcases hC with ⟨h1, h2⟩ | ⟨h1, h2⟩
  all_goals
    go_enter Tryz.func165, Tryz.ntmps165
    go_wp2_with (go_at_call 167; refine (refused_c _ _).mono ?_; rintro e w' ⟨rfl, hg⟩; obtain ⟨fR, fz, hG⟩ := hg.one (Nat.zero_lt_succ _); clear hg)
    exact bodyPost_ret (v := .tuple #[.agg #[.bool false, .int .i64 0, .int .u64 0], .int .i64 10]) (by simp [results, Tryz.results165, go_sem, fR]) rfl ⟨rfl, ((hG.store (Nat.le_refl _) _).store (Nat.le_refl _) _).store (Nat.le_refl _) _⟩
theorem addW_c (a b : Int) (a0 : -9223372036854775808 ≤ a) (a1 : a < 9223372036854775808) (b0 : -9223372036854775808 ≤ b) (b1 : b < 9223372036854775808) (w : World) :
    Calls Tryz.prog 165 #[.int .i64 a, .int .i64 b] w fun e w' => e = .returned (resV (fitR (a + b))) ∧ Gr w w' := by
  by_cases h : -9223372036854775808 ≤ a + b ∧ a + b < 9223372036854775808
  · rw [fitR_in h]
    exact addW_in a b (a + b) (wrap_in h) (by omega) w
  · rw [fitR_out h]
    obtain ⟨k, h1, h2, h3⟩ := wrap_cases (a + b)
    exact addW_out a b _ rfl (by omega) w
set_option maxHeartbeats 1000000 in
theorem subW_in (a b s : Int) (hs : IntKind.i64.wrap (a - b) = s) (hC : (a < s ∧ b < 0) ∨ (¬ a < s ∧ ¬ b < 0)) (w : World) :
    Calls Tryz.prog 100 #[.int .i64 a, .int .i64 b] w fun e w' => e = .returned (.tuple #[.agg #[.bool true, .int .i64 s, .int .u64 0], .int .i64 0]) ∧ Gr w w' := by
  rcases hC with ⟨h1, h2⟩ | ⟨h1, h2⟩
  all_goals
    go_enter Tryz.func100, Tryz.ntmps100
    go_wp2_with (go_at_call 168; refine (numWhole_c _ _).mono ?_; rintro e w' ⟨rfl, hg⟩; obtain ⟨fR, fz, hG⟩ := hg.one (Nat.zero_lt_succ _); clear hg)
    exact bodyPost_ret (v := .tuple #[.agg #[.bool true, .int .i64 s, .int .u64 0], .int .i64 0]) (by simp [results, Tryz.results100, go_sem, fR]) rfl ⟨rfl, ((hG.store (Nat.le_refl _) _).store (Nat.le_refl _) _).store (Nat.le_refl _) _⟩
set_option maxHeartbeats 1000000 in
theorem subW_out (a b s : Int) (hs : IntKind.i64.wrap (a - b) = s) (hC : (a < s ∧ ¬ b < 0) ∨ (¬ a < s ∧ b < 0)) (w : World) :
    Calls Tryz.prog 100 #[.int .i64 a, .int .i64 b] w fun e w' => e = .returned (.tuple #[.agg #[.bool false, .int .i64 0, .int .u64 0], .int .i64 10]) ∧ Gr w w' := by
  rcases hC with ⟨h1, h2⟩ | ⟨h1, h2⟩
  all_goals
    go_enter Tryz.func100, Tryz.ntmps100
    go_wp2_with (go_at_call 167; refine (refused_c _ _).mono ?_; rintro e w' ⟨rfl, hg⟩; obtain ⟨fR, fz, hG⟩ := hg.one (Nat.zero_lt_succ _); clear hg)
    exact bodyPost_ret (v := .tuple #[.agg #[.bool false, .int .i64 0, .int .u64 0], .int .i64 10]) (by simp [results, Tryz.results100, go_sem, fR]) rfl ⟨rfl, ((hG.store (Nat.le_refl _) _).store (Nat.le_refl _) _).store (Nat.le_refl _) _⟩
theorem subW_c (a b : Int) (a0 : -9223372036854775808 ≤ a) (a1 : a < 9223372036854775808) (b0 : -9223372036854775808 ≤ b) (b1 : b < 9223372036854775808) (w : World) :
    Calls Tryz.prog 100 #[.int .i64 a, .int .i64 b] w fun e w' => e = .returned (resV (fitR (a - b))) ∧ Gr w w' := by
  by_cases h : -9223372036854775808 ≤ a - b ∧ a - b < 9223372036854775808
  · rw [fitR_in h]
    exact subW_in a b (a - b) (wrap_in h) (by omega) w
  · rw [fitR_out h]
    obtain ⟨k, h1, h2, h3⟩ := wrap_cases (a - b)
    exact subW_out a b _ rfl (by omega) w
set_option maxHeartbeats 1000000 in
theorem mulW_zero (a b : Int) (hC : a = 0 ∨ ((a == 0) = false ∧ b = 0)) (w : World) :
    Calls Tryz.prog 104 #[.int .i64 a, .int .i64 b] w fun e w' => e = .returned (.tuple #[.agg #[.bool true, .int .i64 0, .int .u64 0], .int .i64 0]) ∧ Gr w w' := by
  rcases hC with rfl | ⟨h1, rfl⟩
  all_goals
    go_enter Tryz.func104, Tryz.ntmps104
    go_wp2_with (go_at_call 168; refine (numWhole_c _ _).mono ?_; rintro e w' ⟨rfl, hg⟩; obtain ⟨fR, fz, hG⟩ := hg.one (Nat.zero_lt_succ _); clear hg)
    exact bodyPost_ret (v := .tuple #[.agg #[.bool true, .int .i64 0, .int .u64 0], .int .i64 0]) (by simp [results, Tryz.results104, go_sem, fR]) rfl ⟨rfl, ((hG.store (Nat.le_refl _) _).store (Nat.le_refl _) _).store (Nat.le_refl _) _⟩
set_option maxHeartbeats 1000000 in
theorem mulW_in (a b p q : Int) (ha : (a == 0) = false) (hb : (b == 0) = false) (hb' : ¬ b = 0) (hp : IntKind.i64.wrap (a * b) = p) (hq : IntKind.i64.wrap (p.tdiv b) = q) (h1 : (decide (p < 0) != (decide (a < 0) != decide (b < 0))) = false) (h2 : (q != a) = false) (w : World) :
    Calls Tryz.prog 104 #[.int .i64 a, .int .i64 b] w fun e w' => e = .returned (.tuple #[.agg #[.bool true, .int .i64 p, .int .u64 0], .int .i64 0]) ∧ Gr w w' := by
  by_cases x1 : p < 0 <;> by_cases x2 : a < 0 <;> by_cases x3 : b < 0 <;> simp only [x1, x2, x3, decide_true, decide_false] at h1 <;> first | (exact absurd h1 (by decide)) | skip
  all_goals
    clear h1
    go_enter Tryz.func104, Tryz.ntmps104
    go_wp2_with (go_at_call 168; refine (numWhole_c _ _).mono ?_; rintro e w' ⟨rfl, hg⟩; obtain ⟨fR, fz, hG⟩ := hg.one (Nat.zero_lt_succ _); clear hg)
    exact bodyPost_ret (v := .tuple #[.agg #[.bool true, .int .i64 p, .int .u64 0], .int .i64 0]) (by simp [results, Tryz.results104, go_sem, fR]) rfl ⟨rfl, ((hG.store (Nat.le_refl _) _).store (Nat.le_refl _) _).store (Nat.le_refl _) _⟩
set_option maxHeartbeats 1000000 in
theorem mulW_out (a b p q : Int) (ha : (a == 0) = false) (hb : (b == 0) = false) (hb' : ¬ b = 0) (hp : IntKind.i64.wrap (a * b) = p) (hq : IntKind.i64.wrap (p.tdiv b) = q) (hC : (decide (p < 0) != (decide (a < 0) != decide (b < 0))) = true ∨ ((decide (p < 0) != (decide (a < 0) != decide (b < 0))) = false ∧ (q != a) = true)) (w : World) :
    Calls Tryz.prog 104 #[.int .i64 a, .int .i64 b] w fun e w' => e = .returned (.tuple #[.agg #[.bool false, .int .i64 0, .int .u64 0], .int .i64 10]) ∧ Gr w w' := by
  rcases hC with h1 | ⟨h1, h2⟩ <;> by_cases x1 : p < 0 <;> by_cases x2 : a < 0 <;> by_cases x3 : b < 0 <;> simp only [x1, x2, x3, decide_true, decide_false] at h1 <;> first | (exact absurd h1 (by decide)) | skip
  all_goals
    clear h1
    go_enter Tryz.func104, Tryz.ntmps104
    go_wp2_with (go_at_call 167; refine (refused_c _ _).mono ?_; rintro e w' ⟨rfl, hg⟩; obtain ⟨fR, fz, hG⟩ := hg.one (Nat.zero_lt_succ _); clear hg)
    exact bodyPost_ret (v := .tuple #[.agg #[.bool false, .int .i64 0, .int .u64 0], .int .i64 10]) (by simp [results, Tryz.results104, go_sem, fR]) rfl ⟨rfl, ((hG.store (Nat.le_refl _) _).store (Nat.le_refl _) _).store (Nat.le_refl _) _⟩
theorem mulW_c (a b : Int) (a0 : -9223372036854775808 ≤ a) (a1 : a < 9223372036854775808) (b0 : -9223372036854775808 ≤ b) (b1 : b < 9223372036854775808) (w : World) :
    Calls Tryz.prog 104 #[.int .i64 a, .int .i64 b] w fun e w' => e = .returned (resV (fitR (a * b))) ∧ Gr w w' := by
  by_cases ha : a = 0
  · subst ha
    rw [Int.zero_mul, fitR_in (by omega)]
    exact mulW_zero 0 b (Or.inl rfl) w
  · by_cases hb : b = 0
    · subst hb
      rw [Int.mul_zero, fitR_in (by omega)]
      exact mulW_zero a 0 (Or.inr ⟨by simpa using ha, rfl⟩) w
    · by_cases h : -9223372036854775808 ≤ a * b ∧ a * b < 9223372036854775808
      · rw [fitR_in h]
        obtain ⟨m1, m2⟩ := mul_in a b ha hb a0 a1
        exact mulW_in a b (a * b) a (by simpa using ha) (by simpa using hb) hb (wrap_in h) m2 m1 (by simp) w
      · rw [fitR_out h]
        refine mulW_out a b _ _ (by simpa using ha) (by simpa using hb) hb rfl rfl ?_ w
        cases h1 : (decide (IntKind.i64.wrap (a * b) < 0) != (decide (a < 0) != decide (b < 0))) with
        | true => exact Or.inl rfl
        | false =>
          refine Or.inr ⟨rfl, ?_⟩
          rw [bne_iff_ne]
          intro hq
          have := mul_back a b _ ha hb b0 b1 rfl h1 hq
          obtain ⟨k, h1, h2, h3⟩ := wrap_cases (a * b)
          omega
end Go.Proofs.YthgcdohndchdkaaGreatDoor.W.Nu
/- Contracts of package num on two whole numbers: quotients rounded down, and rests. -/
namespace Go.Proofs.YthgcdohndchdkaaGreatDoor.W.Nu
open Go.ChangeShapes Go.WideShapes Go.RowKit

set_option maxHeartbeats 1000000 in
theorem floorW_zero (a : Int) (w : World) :
    Calls Tryz.prog 107 #[.int .i64 a, .int .i64 0] w fun e w' => e = .returned (.tuple #[.agg #[.bool false, .int .i64 0, .int .u64 0], .int .i64 11]) ∧ Gr w w' := by
  go_enter Tryz.func107, Tryz.ntmps107
  go_wp2_with (go_at_call 167; refine (refused_c _ _).mono ?_; rintro e w' ⟨rfl, hg⟩; obtain ⟨fR, fz, hG⟩ := hg.one (Nat.zero_lt_succ _); clear hg)
  exact bodyPost_ret (v := .tuple #[.agg #[.bool false, .int .i64 0, .int .u64 0], .int .i64 11]) (by simp [results, Tryz.results107, go_sem, fR]) rfl ⟨rfl, ((hG.store (Nat.le_refl _) _).store (Nat.le_refl _) _).store (Nat.le_refl _) _⟩
set_option maxHeartbeats 1000000 in
theorem floorW_least (w : World) :
    Calls Tryz.prog 107 #[.int .i64 (-9223372036854775808), .int .i64 (-1)] w fun e w' => e = .returned (.tuple #[.agg #[.bool false, .int .i64 0, .int .u64 0], .int .i64 10]) ∧ Gr w w' := by
  go_enter Tryz.func107, Tryz.ntmps107
  go_wp2_with (go_at_call 167; refine (refused_c _ _).mono ?_; rintro e w' ⟨rfl, hg⟩; obtain ⟨fR, fz, hG⟩ := hg.one (Nat.zero_lt_succ _); clear hg)
  exact bodyPost_ret (v := .tuple #[.agg #[.bool false, .int .i64 0, .int .u64 0], .int .i64 10]) (by simp [results, Tryz.results107, go_sem, fR]) rfl ⟨rfl, ((hG.store (Nat.le_refl _) _).store (Nat.le_refl _) _).store (Nat.le_refl _) _⟩
set_option maxHeartbeats 1000000 in
theorem floorW_keep (a b q r : Int) (hb : (b == 0) = false) (hb' : ¬ b = 0) (hl : (a == -9223372036854775808) = false ∨ ((a == -9223372036854775808) = true ∧ (b == -1) = false)) (hq : IntKind.i64.wrap (a.tdiv b) = q) (hr : a.tmod b = r)
    (hC : r = 0 ∨ ((r != 0) = true ∧ a < 0 ∧ b < 0) ∨ ((r != 0) = true ∧ ¬ a < 0 ∧ ¬ b < 0)) (w : World) :
    Calls Tryz.prog 107 #[.int .i64 a, .int .i64 b] w fun e w' => e = .returned (.tuple #[.agg #[.bool true, .int .i64 q, .int .u64 0], .int .i64 0]) ∧ Gr w w' := by
  rcases hl with hl | ⟨hl, hm⟩ <;> rcases hC with rfl | ⟨x1, x2, x3⟩ | ⟨x1, x2, x3⟩
  all_goals
    go_enter Tryz.func107, Tryz.ntmps107
    go_wp2_with (go_at_call 168; refine (numWhole_c _ _).mono ?_; rintro e w' ⟨rfl, hg⟩; obtain ⟨fR, fz, hG⟩ := hg.one (Nat.zero_lt_succ _); clear hg)
    exact bodyPost_ret (v := .tuple #[.agg #[.bool true, .int .i64 q, .int .u64 0], .int .i64 0]) (by simp [results, Tryz.results107, go_sem, fR]) rfl ⟨rfl, ((hG.store (Nat.le_refl _) _).store (Nat.le_refl _) _).store (Nat.le_refl _) _⟩
set_option maxHeartbeats 1000000 in
theorem floorW_turn (a b q r s : Int) (hb : (b == 0) = false) (hb' : ¬ b = 0) (hl : (a == -9223372036854775808) = false ∨ ((a == -9223372036854775808) = true ∧ (b == -1) = false)) (hq : IntKind.i64.wrap (a.tdiv b) = q) (hr : a.tmod b = r)
    (hs : IntKind.i64.wrap (q - 1) = s) (x1 : (r != 0) = true) (hC : (a < 0 ∧ ¬ b < 0) ∨ (¬ a < 0 ∧ b < 0)) (w : World) :
    Calls Tryz.prog 107 #[.int .i64 a, .int .i64 b] w fun e w' => e = .returned (.tuple #[.agg #[.bool true, .int .i64 s, .int .u64 0], .int .i64 0]) ∧ Gr w w' := by
  rcases hl with hl | ⟨hl, hm⟩ <;> rcases hC with ⟨x2, x3⟩ | ⟨x2, x3⟩
  all_goals
    go_enter Tryz.func107, Tryz.ntmps107
    go_wp2_with (go_at_call 168; refine (numWhole_c _ _).mono ?_; rintro e w' ⟨rfl, hg⟩; obtain ⟨fR, fz, hG⟩ := hg.one (Nat.zero_lt_succ _); clear hg)
    exact bodyPost_ret (v := .tuple #[.agg #[.bool true, .int .i64 s, .int .u64 0], .int .i64 0]) (by simp [results, Tryz.results107, go_sem, fR]) rfl ⟨rfl, ((hG.store (Nat.le_refl _) _).store (Nat.le_refl _) _).store (Nat.le_refl _) _⟩
set_option maxHeartbeats 1000000 in
theorem modW_zero (a : Int) (w : World) :
    Calls Tryz.prog 109 #[.int .i64 a, .int .i64 0] w fun e w' => e = .returned (.tuple #[.agg #[.bool false, .int .i64 0, .int .u64 0], .int .i64 11]) ∧ Gr w w' := by
  go_enter Tryz.func109, Tryz.ntmps109
  go_wp2_with (go_at_call 167; refine (refused_c _ _).mono ?_; rintro e w' ⟨rfl, hg⟩; obtain ⟨fR, fz, hG⟩ := hg.one (Nat.zero_lt_succ _); clear hg)
  exact bodyPost_ret (v := .tuple #[.agg #[.bool false, .int .i64 0, .int .u64 0], .int .i64 11]) (by simp [results, Tryz.results109, go_sem, fR]) rfl ⟨rfl, ((hG.store (Nat.le_refl _) _).store (Nat.le_refl _) _).store (Nat.le_refl _) _⟩
set_option maxHeartbeats 1000000 in
theorem modW_keep (a b r : Int) (hb : (b == 0) = false) (hb' : ¬ b = 0) (hr : a.tmod b = r)
    (hC : r = 0 ∨ ((r != 0) = true ∧ r < 0 ∧ b < 0) ∨ ((r != 0) = true ∧ ¬ r < 0 ∧ ¬ b < 0)) (w : World) :
    Calls Tryz.prog 109 #[.int .i64 a, .int .i64 b] w fun e w' => e = .returned (.tuple #[.agg #[.bool true, .int .i64 r, .int .u64 0], .int .i64 0]) ∧ Gr w w' := by
  rcases hC with rfl | ⟨x1, x2, x3⟩ | ⟨x1, x2, x3⟩
  all_goals
    go_enter Tryz.func109, Tryz.ntmps109
    go_wp2_with (go_at_call 168; refine (numWhole_c _ _).mono ?_; rintro e w' ⟨rfl, hg⟩; obtain ⟨fR, fz, hG⟩ := hg.one (Nat.zero_lt_succ _); clear hg)
    exact bodyPost_ret (by simp [results, Tryz.results109, go_sem, fR]) rfl ⟨rfl, ((hG.store (Nat.le_refl _) _).store (Nat.le_refl _) _).store (Nat.le_refl _) _⟩
set_option maxHeartbeats 1000000 in
theorem modW_turn (a b r s : Int) (hb : (b == 0) = false) (hb' : ¬ b = 0) (hr : a.tmod b = r) (hs : IntKind.i64.wrap (r + b) = s) (x1 : (r != 0) = true) (hC : (r < 0 ∧ ¬ b < 0) ∨ (¬ r < 0 ∧ b < 0)) (w : World) :
    Calls Tryz.prog 109 #[.int .i64 a, .int .i64 b] w fun e w' => e = .returned (.tuple #[.agg #[.bool true, .int .i64 s, .int .u64 0], .int .i64 0]) ∧ Gr w w' := by
  rcases hC with ⟨x2, x3⟩ | ⟨x2, x3⟩
  all_goals
    go_enter Tryz.func109, Tryz.ntmps109
    go_wp2_with (go_at_call 168; refine (numWhole_c _ _).mono ?_; rintro e w' ⟨rfl, hg⟩; obtain ⟨fR, fz, hG⟩ := hg.one (Nat.zero_lt_succ _); clear hg)
    exact bodyPost_ret (v := .tuple #[.agg #[.bool true, .int .i64 s, .int .u64 0], .int .i64 0]) (by simp [results, Tryz.results109, go_sem, fR]) rfl ⟨rfl, ((hG.store (Nat.le_refl _) _).store (Nat.le_refl _) _).store (Nat.le_refl _) _⟩
theorem tdiv_range (a b : Int) (a0 : -9223372036854775808 ≤ a) (a1 : a < 9223372036854775808) (hb : b ≠ 0) (hl : ¬ (a = -9223372036854775808 ∧ b = -1)) :
    (-9223372036854775808 ≤ a.tdiv b ∧ a.tdiv b < 9223372036854775808) ∧ (2 ≤ b.natAbs → -4611686018427387904 ≤ a.tdiv b ∧ a.tdiv b ≤ 4611686018427387904) := by
  have hn : (a.tdiv b).natAbs = a.natAbs / b.natAbs := Int.natAbs_tdiv a b
  have h2 : 2 ≤ b.natAbs → a.natAbs / b.natAbs ≤ a.natAbs / 2 := fun h => Nat.div_le_div_left h (by omega)
  have hl1 : a.natAbs / b.natAbs ≤ a.natAbs := Nat.div_le_self _ _
  refine ⟨?_, fun h => by have := h2 h; omega⟩
  by_cases h : 2 ≤ b.natAbs
  · have := h2 h; omega
  · have : b = 1 ∨ b = -1 := by omega
    rcases this with rfl | rfl
    · rw [Int.tdiv_one]; omega
    · have : a ≠ -9223372036854775808 := fun e => hl ⟨e, rfl⟩
      omega
/-- what FloorDiv and Mod answer of two whole numbers -/
def floorR (a b : Int) : Res := if b = 0 then bad 11 else fitR (flI a b)
def modR (a b : Int) : Res := if b = 0 then bad 11 else okW (mdI a b)
theorem fl_fits (a b : Int) (a0 : -9223372036854775808 ≤ a) (a1 : a < 9223372036854775808) (hb : b ≠ 0) (hl : ¬ (a = -9223372036854775808 ∧ b = -1)) : -9223372036854775808 ≤ flI a b ∧ flI a b < 9223372036854775808 := by
  obtain ⟨r1, r2⟩ := tdiv_range a b a0 a1 hb hl
  obtain ⟨f1, f2⟩ := fl_tdiv a b hb
  obtain ⟨t1, t2, t3, t4, t5⟩ := tdiv_spec a b hb
  by_cases hr : a.tmod b = 0 ∨ ((a < 0) ↔ (b < 0))
  · rw [← (f2 hr).1]; exact r1
  · have h0 : a.tmod b ≠ 0 := fun h => hr (Or.inl h)
    rw [← (f1 h0 (by omega)).1]
    have := r2 (by omega)
    omega
theorem floorW_c (a b : Int) (a0 : -9223372036854775808 ≤ a) (a1 : a < 9223372036854775808) (w : World) :
    Calls Tryz.prog 107 #[.int .i64 a, .int .i64 b] w fun e w' => e = .returned (resV (floorR a b)) ∧ Gr w w' := by
  unfold floorR
  by_cases hb : b = 0
  · subst hb; exact floorW_zero a w
  · rw [if_neg hb]
    by_cases hl : a = -9223372036854775808 ∧ b = -1
    · obtain ⟨rfl, rfl⟩ := hl
      rw [fitR_out (by decide)]
      exact floorW_least w
    · have hf := fl_fits a b a0 a1 hb hl
      rw [fitR_in hf]
      obtain ⟨r1, r2⟩ := tdiv_range a b a0 a1 hb hl
      obtain ⟨f1, f2⟩ := fl_tdiv a b hb
      obtain ⟨t1, t2, t3, t4, t5⟩ := tdiv_spec a b hb
      have hbb : (b == 0) = false := by simpa using hb
      have hl' : (a == -9223372036854775808) = false ∨ ((a == -9223372036854775808) = true ∧ (b == -1) = false) := by
        by_cases h : a = -9223372036854775808
        · refine Or.inr ⟨by simpa using h, ?_⟩
          have : b ≠ -1 := fun g => hl ⟨h, g⟩
          simpa using this
        · exact Or.inl (by simpa using h)
      by_cases hr : a.tmod b = 0 ∨ ((a < 0) ↔ (b < 0))
      · rw [← (f2 hr).1]
        refine floorW_keep a b _ _ hbb hb hl' (wrap_in r1) rfl ?_ w
        by_cases h0 : a.tmod b = 0
        · exact Or.inl h0
        · have h0' : (a.tmod b != 0) = true := by simpa using h0
          rcases hr with hr | hr
          · exact absurd hr h0
          · by_cases h : a < 0
            · exact Or.inr (Or.inl ⟨h0', h, hr.1 h⟩)
            · exact Or.inr (Or.inr ⟨h0', h, fun g => h (hr.2 g)⟩)
      · have h0 : a.tmod b ≠ 0 := fun h => hr (Or.inl h)
        rw [← (f1 h0 (by omega)).1]
        have := r2 (by omega)
        exact floorW_turn a b _ _ _ hbb hb hl' (wrap_in r1) rfl (wrap_in (by omega)) (by simpa using h0) (by omega) w
theorem modW_c (a b : Int) (b0 : -9223372036854775808 ≤ b) (b1 : b < 9223372036854775808) (w : World) :
    Calls Tryz.prog 109 #[.int .i64 a, .int .i64 b] w fun e w' => e = .returned (resV (modR a b)) ∧ Gr w w' := by
  unfold modR
  by_cases hb : b = 0
  · subst hb; exact modW_zero a w
  · rw [if_neg hb]
    obtain ⟨f1, f2⟩ := fl_tdiv a b hb
    obtain ⟨t1, t2, t3, t4, t5⟩ := tdiv_spec a b hb
    have hbb : (b == 0) = false := by simpa using hb
    by_cases hr : a.tmod b = 0 ∨ ((a < 0) ↔ (b < 0))
    · rw [← (f2 hr).2]
      refine modW_keep a b _ hbb hb rfl ?_ w
      by_cases h0 : a.tmod b = 0
      · exact Or.inl h0
      · have h0' : (a.tmod b != 0) = true := by simpa using h0
        rcases hr with hr | hr
        · exact absurd hr h0
        · by_cases h : a < 0
          · have := t5 (by omega)
            exact Or.inr (Or.inl ⟨h0', by omega, hr.1 h⟩)
          · have := t4 (by omega)
            exact Or.inr (Or.inr ⟨h0', by omega, fun g => h (hr.2 g)⟩)
    · have h0 : a.tmod b ≠ 0 := fun h => hr (Or.inl h)
      rw [← (f1 h0 (by omega)).2]
      refine modW_turn a b _ _ hbb hb rfl (wrap_in ?_) (by simpa using h0) ?_ w
      · by_cases h : 0 < b
        · have := t2 h; omega
        · have := t3 (by omega); omega
      · by_cases h : a < 0
        · have := t5 (by omega); omega
        · have := t4 (by omega); omega
end Go.Proofs.YthgcdohndchdkaaGreatDoor.W.Nu
