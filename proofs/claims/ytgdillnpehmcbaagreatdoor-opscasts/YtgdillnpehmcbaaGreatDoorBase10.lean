import Derived.Test.YtgdillnpehmcbaaGreatDoorBase9
/- Contracts of package num on two whole numbers: quotients rounded down, and rests. -/
namespace Go.Proofs.YtgdillnpehmcbaaGreatDoor.W.Nu
open Go.ChangeShapes Go.WideShapes Go.RowKit

set_option maxHeartbeats 1000000 in
theorem floorW_zero (a : Int) (w : World) :
    Calls Tryz.prog 106 #[.int .i64 a, .int .i64 0] w fun e w' => e = .returned (.tuple #[.agg #[.bool false, .int .i64 0, .int .u64 0], .int .i64 11]) ∧ Gr w w' := by
  go_enter Tryz.func106, Tryz.ntmps106
  go_wp2_with (go_at_call 155; refine (refused_c _ _).mono ?_; rintro e w' ⟨rfl, hg⟩; obtain ⟨fR, fz, hG⟩ := hg.one (Nat.zero_lt_succ _); clear hg)
  exact bodyPost_ret (v := .tuple #[.agg #[.bool false, .int .i64 0, .int .u64 0], .int .i64 11]) (by simp [results, Tryz.results106, go_sem, fR]) rfl ⟨rfl, ((hG.store (Nat.le_refl _) _).store (Nat.le_refl _) _).store (Nat.le_refl _) _⟩
set_option maxHeartbeats 1000000 in
theorem floorW_least (w : World) :
    Calls Tryz.prog 106 #[.int .i64 (-9223372036854775808), .int .i64 (-1)] w fun e w' => e = .returned (.tuple #[.agg #[.bool false, .int .i64 0, .int .u64 0], .int .i64 10]) ∧ Gr w w' := by
  go_enter Tryz.func106, Tryz.ntmps106
  go_wp2_with (go_at_call 155; refine (refused_c _ _).mono ?_; rintro e w' ⟨rfl, hg⟩; obtain ⟨fR, fz, hG⟩ := hg.one (Nat.zero_lt_succ _); clear hg)
  exact bodyPost_ret (v := .tuple #[.agg #[.bool false, .int .i64 0, .int .u64 0], .int .i64 10]) (by simp [results, Tryz.results106, go_sem, fR]) rfl ⟨rfl, ((hG.store (Nat.le_refl _) _).store (Nat.le_refl _) _).store (Nat.le_refl _) _⟩
set_option maxHeartbeats 1000000 in
theorem floorW_keep (a b q r : Int) (hb : (b == 0) = false) (hb' : ¬ b = 0) (hl : (a == -9223372036854775808) = false ∨ ((a == -9223372036854775808) = true ∧ (b == -1) = false)) (hq : IntKind.i64.wrap (a.tdiv b) = q) (hr : a.tmod b = r)
    (hC : r = 0 ∨ ((r != 0) = true ∧ a < 0 ∧ b < 0) ∨ ((r != 0) = true ∧ ¬ a < 0 ∧ ¬ b < 0)) (w : World) :
    Calls Tryz.prog 106 #[.int .i64 a, .int .i64 b] w fun e w' => e = .returned (.tuple #[.agg #[.bool true, .int .i64 q, .int .u64 0], .int .i64 0]) ∧ Gr w w' := by
  rcases hl with hl | ⟨hl, hm⟩ <;> rcases hC with rfl | ⟨x1, x2, x3⟩ | ⟨x1, x2, x3⟩
  all_goals
    go_enter Tryz.func106, Tryz.ntmps106
    go_wp2_with (go_at_call 156; refine (numWhole_c _ _).mono ?_; rintro e w' ⟨rfl, hg⟩; obtain ⟨fR, fz, hG⟩ := hg.one (Nat.zero_lt_succ _); clear hg)
    exact bodyPost_ret (v := .tuple #[.agg #[.bool true, .int .i64 q, .int .u64 0], .int .i64 0]) (by simp [results, Tryz.results106, go_sem, fR]) rfl ⟨rfl, ((hG.store (Nat.le_refl _) _).store (Nat.le_refl _) _).store (Nat.le_refl _) _⟩
set_option maxHeartbeats 1000000 in
theorem floorW_turn (a b q r s : Int) (hb : (b == 0) = false) (hb' : ¬ b = 0) (hl : (a == -9223372036854775808) = false ∨ ((a == -9223372036854775808) = true ∧ (b == -1) = false)) (hq : IntKind.i64.wrap (a.tdiv b) = q) (hr : a.tmod b = r)
    (hs : IntKind.i64.wrap (q - 1) = s) (x1 : (r != 0) = true) (hC : (a < 0 ∧ ¬ b < 0) ∨ (¬ a < 0 ∧ b < 0)) (w : World) :
    Calls Tryz.prog 106 #[.int .i64 a, .int .i64 b] w fun e w' => e = .returned (.tuple #[.agg #[.bool true, .int .i64 s, .int .u64 0], .int .i64 0]) ∧ Gr w w' := by
  rcases hl with hl | ⟨hl, hm⟩ <;> rcases hC with ⟨x2, x3⟩ | ⟨x2, x3⟩
  all_goals
    go_enter Tryz.func106, Tryz.ntmps106
    go_wp2_with (go_at_call 156; refine (numWhole_c _ _).mono ?_; rintro e w' ⟨rfl, hg⟩; obtain ⟨fR, fz, hG⟩ := hg.one (Nat.zero_lt_succ _); clear hg)
    exact bodyPost_ret (v := .tuple #[.agg #[.bool true, .int .i64 s, .int .u64 0], .int .i64 0]) (by simp [results, Tryz.results106, go_sem, fR]) rfl ⟨rfl, ((hG.store (Nat.le_refl _) _).store (Nat.le_refl _) _).store (Nat.le_refl _) _⟩
set_option maxHeartbeats 1000000 in
theorem modW_zero (a : Int) (w : World) :
    Calls Tryz.prog 108 #[.int .i64 a, .int .i64 0] w fun e w' => e = .returned (.tuple #[.agg #[.bool false, .int .i64 0, .int .u64 0], .int .i64 11]) ∧ Gr w w' := by
  go_enter Tryz.func108, Tryz.ntmps108
  go_wp2_with (go_at_call 155; refine (refused_c _ _).mono ?_; rintro e w' ⟨rfl, hg⟩; obtain ⟨fR, fz, hG⟩ := hg.one (Nat.zero_lt_succ _); clear hg)
  exact bodyPost_ret (v := .tuple #[.agg #[.bool false, .int .i64 0, .int .u64 0], .int .i64 11]) (by simp [results, Tryz.results108, go_sem, fR]) rfl ⟨rfl, ((hG.store (Nat.le_refl _) _).store (Nat.le_refl _) _).store (Nat.le_refl _) _⟩
set_option maxHeartbeats 1000000 in
theorem modW_keep (a b r : Int) (hb : (b == 0) = false) (hb' : ¬ b = 0) (hr : a.tmod b = r)
    (hC : r = 0 ∨ ((r != 0) = true ∧ r < 0 ∧ b < 0) ∨ ((r != 0) = true ∧ ¬ r < 0 ∧ ¬ b < 0)) (w : World) :
    Calls Tryz.prog 108 #[.int .i64 a, .int .i64 b] w fun e w' => e = .returned (.tuple #[.agg #[.bool true, .int .i64 r, .int .u64 0], .int .i64 0]) ∧ Gr w w' := by
  rcases hC with rfl | ⟨x1, x2, x3⟩ | ⟨x1, x2, x3⟩
  all_goals
    go_enter Tryz.func108, Tryz.ntmps108
    go_wp2_with (go_at_call 156; refine (numWhole_c _ _).mono ?_; rintro e w' ⟨rfl, hg⟩; obtain ⟨fR, fz, hG⟩ := hg.one (Nat.zero_lt_succ _); clear hg)
    exact bodyPost_ret (by simp [results, Tryz.results108, go_sem, fR]) rfl ⟨rfl, ((hG.store (Nat.le_refl _) _).store (Nat.le_refl _) _).store (Nat.le_refl _) _⟩
set_option maxHeartbeats 1000000 in
theorem modW_turn (a b r s : Int) (hb : (b == 0) = false) (hb' : ¬ b = 0) (hr : a.tmod b = r) (hs : IntKind.i64.wrap (r + b) = s) (x1 : (r != 0) = true) (hC : (r < 0 ∧ ¬ b < 0) ∨ (¬ r < 0 ∧ b < 0)) (w : World) :
    Calls Tryz.prog 108 #[.int .i64 a, .int .i64 b] w fun e w' => e = .returned (.tuple #[.agg #[.bool true, .int .i64 s, .int .u64 0], .int .i64 0]) ∧ Gr w w' := by
  rcases hC with ⟨x2, x3⟩ | ⟨x2, x3⟩
  all_goals
    go_enter Tryz.func108, Tryz.ntmps108
    go_wp2_with (go_at_call 156; refine (numWhole_c _ _).mono ?_; rintro e w' ⟨rfl, hg⟩; obtain ⟨fR, fz, hG⟩ := hg.one (Nat.zero_lt_succ _); clear hg)
    exact bodyPost_ret (v := .tuple #[.agg #[.bool true, .int .i64 s, .int .u64 0], .int .i64 0]) (by simp [results, Tryz.results108, go_sem, fR]) rfl ⟨rfl, ((hG.store (Nat.le_refl _) _).store (Nat.le_refl _) _).store (Nat.le_refl _) _⟩
theorem tdiv_range (a b : Int) (a0 : -9223372036854775808 ≤ a) (a1 : a < 9223372036854775808) (hb : b ≠ 0) (hl : ¬ (a = -9223372036854775808 ∧ b = -1)) :
    (-9223372036854775808 ≤ a.tdiv b ∧ a.tdiv b < 9223372036854775808) ∧ (2 ≤ b.natAbs → -4611686018427387904 ≤ a.tdiv b ∧ a.tdiv b ≤ 4611686018427387904) := by
  have hn : (a.tdiv b).natAbs = a.natAbs / b.natAbs := Int.natAbs_tdiv a b
  have h2 : 2 ≤ b.natAbs → a.natAbs / b.natAbs ≤ a.natAbs / 2 := fun h => Nat.div_le_div_left h (by omega)
  have hl1 : a.natAbs / b.natAbs ≤ a.natAbs := Nat.div_le_self _ _
  refine ⟨?_, fun h => by have := h2 h; omega⟩
  by_cases h : 2 ≤ b.natAbs
  · have := h2 h; omega
  · have : b = 1 ∨ b = -1 := by omega
    rcases this with rfl | rfl
    · rw [Int.tdiv_one]; omega
    · have : a ≠ -9223372036854775808 := fun e => hl ⟨e, rfl⟩
      omega
/-- what FloorDiv and Mod answer of two whole numbers -/
def floorR (a b : Int) : Res := if b = 0 then bad 11 else fitR (flI a b)
def modR (a b : Int) : Res := if b = 0 then bad 11 else okW (mdI a b)
theorem fl_fits (a b : Int) (a0 : -9223372036854775808 ≤ a) (a1 : a < 9223372036854775808) (hb : b ≠ 0) (hl : ¬ (a = -9223372036854775808 ∧ b = -1)) : -9223372036854775808 ≤ flI a b ∧ flI a b < 9223372036854775808 := by
  obtain ⟨r1, r2⟩ := tdiv_range a b a0 a1 hb hl
  obtain ⟨f1, f2⟩ := fl_tdiv a b hb
  obtain ⟨t1, t2, t3, t4, t5⟩ := tdiv_spec a b hb
  by_cases hr : a.tmod b = 0 ∨ ((a < 0) ↔ (b < 0))
  · rw [← (f2 hr).1]; exact r1
  · have h0 : a.tmod b ≠ 0 := fun h => hr (Or.inl h)
    rw [← (f1 h0 (by omega)).1]
    have := r2 (by omega)
    omega
theorem floorW_c (a b : Int) (a0 : -9223372036854775808 ≤ a) (a1 : a < 9223372036854775808) (w : World) :
    Calls Tryz.prog 106 #[.int .i64 a, .int .i64 b] w fun e w' => e = .returned (resV (floorR a b)) ∧ Gr w w' := by
  unfold floorR
  by_cases hb : b = 0
  · subst hb; exact floorW_zero a w
  · rw [if_neg hb]
    by_cases hl : a = -9223372036854775808 ∧ b = -1
    · obtain ⟨rfl, rfl⟩ := hl
      rw [fitR_out (by decide)]
      exact floorW_least w
    · have hf := fl_fits a b a0 a1 hb hl
      rw [fitR_in hf]
      obtain ⟨r1, r2⟩ := tdiv_range a b a0 a1 hb hl
      obtain ⟨f1, f2⟩ := fl_tdiv a b hb
      obtain ⟨t1, t2, t3, t4, t5⟩ := tdiv_spec a b hb
      have hbb : (b == 0) = false := by simpa using hb
      have hl' : (a == -9223372036854775808) = false ∨ ((a == -9223372036854775808) = true ∧ (b == -1) = false) := by
        by_cases h : a = -9223372036854775808
        · refine Or.inr ⟨by simpa using h, ?_⟩
          have : b ≠ -1 := fun g => hl ⟨h, g⟩
          simpa using this
        · exact Or.inl (by simpa using h)
      by_cases hr : a.tmod b = 0 ∨ ((a < 0) ↔ (b < 0))
      · rw [← (f2 hr).1]
        refine floorW_keep a b _ _ hbb hb hl' (wrap_in r1) rfl ?_ w
        by_cases h0 : a.tmod b = 0
        · exact Or.inl h0
        · have h0' : (a.tmod b != 0) = true := by simpa using h0
          rcases hr with hr | hr
          · exact absurd hr h0
          · by_cases h : a < 0
            · exact Or.inr (Or.inl ⟨h0', h, hr.1 h⟩)
            · exact Or.inr (Or.inr ⟨h0', h, fun g => h (hr.2 g)⟩)
      · have h0 : a.tmod b ≠ 0 := fun h => hr (Or.inl h)
        rw [← (f1 h0 (by omega)).1]
        have := r2 (by omega)
        exact floorW_turn a b _ _ _ hbb hb hl' (wrap_in r1) rfl (wrap_in (by omega)) (by simpa using h0) (by omega) w
theorem modW_c (a b : Int) (b0 : -9223372036854775808 ≤ b) (b1 : b < 9223372036854775808) (w : World) :
    Calls Tryz.prog 108 #[.int .i64 a, .int .i64 b] w fun e w' => e = .returned (resV (modR a b)) ∧ Gr w w' := by
  unfold modR
  by_cases hb : b = 0
  · subst hb; exact modW_zero a w
  · rw [if_neg hb]
    obtain ⟨f1, f2⟩ := fl_tdiv a b hb
    obtain ⟨t1, t2, t3, t4, t5⟩ := tdiv_spec a b hb
    have hbb : (b == 0) = false := by simpa using hb
    by_cases hr : a.tmod b = 0 ∨ ((a < 0) ↔ (b < 0))
    · rw [← (f2 hr).2]
      refine modW_keep a b _ hbb hb rfl ?_ w
      by_cases h0 : a.tmod b = 0
      · exact Or.inl h0
      · have h0' : (a.tmod b != 0) = true := by simpa using h0
        rcases hr with hr | hr
        · exact absurd hr h0
        · by_cases h : a < 0
          · have := t5 (by omega)
            exact Or.inr (Or.inl ⟨h0', by omega, hr.1 h⟩)
          · have := t4 (by omega)
            exact Or.inr (Or.inr ⟨h0', by omega, fun g => h (hr.2 g)⟩)
    · have h0 : a.tmod b ≠ 0 := fun h => hr (Or.inl h)
      rw [← (f1 h0 (by omega)).2]
      refine modW_turn a b _ _ hbb hb rfl (wrap_in ?_) (by simpa using h0) ?_ w
      · by_cases h : 0 < b
        · have := t2 h; omega
        · have := t3 (by omega); omega
      · by_cases h : a < 0
        · have := t5 (by omega); omega
        · have := t4 (by omega); omega
end Go.Proofs.YtgdillnpehmcbaaGreatDoor.W.Nu
/- Contracts of package num: two numbers, of whatever kinds. -/
namespace Go.Proofs.YtgdillnpehmcbaaGreatDoor.W.Nu
open Go.ChangeShapes Go.WideShapes Go.RowKit
theorem far3 {w : World} {A B : Array Value} {n : Nat} {b : Nat} (hb : n + 1 < b) (fA : ∀ i, w.cell? ⟨n, i, none⟩ = A[i]?) (fB : ∀ i, w.cell? ⟨n + 1, i, none⟩ = B[i]?) (x y z : Value) :
    (∀ i, (((w.setCell ⟨b, 0, none⟩ x).setCell ⟨b, 1, none⟩ y).setCell ⟨b, 2, none⟩ z).cell? ⟨n, i, none⟩ = A[i]?) ∧ (∀ i, (((w.setCell ⟨b, 0, none⟩ x).setCell ⟨b, 1, none⟩ y).setCell ⟨b, 2, none⟩ z).cell? ⟨n + 1, i, none⟩ = B[i]?) := by
  have h1 : b ≠ n := by omega
  have h2 : b ≠ n + 1 := by omega
  constructor <;> intro i
  · rw [World.cell?_setCell_far _ _ _ _ h1, World.cell?_setCell_far _ _ _ _ h1, World.cell?_setCell_far _ _ _ _ h1, fA]
  · rw [World.cell?_setCell_far _ _ _ _ h2, World.cell?_setCell_far _ _ _ _ h2, World.cell?_setCell_far _ _ _ _ h2, fB]
theorem softAdd_g (a b : Int) (w : World) : Calls Tryz.prog 154 #[.int .u64 a, .int .u64 b] w fun e w' => e = .returned (.int .u64 (opI .add a b)) ∧ Gr w w' := (softAdd_c a b w).mono fun _ _ ⟨h, m, k⟩ => ⟨h, Gr.of_same m k⟩
theorem softSub_g (a b : Int) (w : World) : Calls Tryz.prog 101 #[.int .u64 a, .int .u64 b] w fun e w' => e = .returned (.int .u64 (opI .sub a b)) ∧ Gr w w' := (softSub_c a b w).mono fun _ _ ⟨h, m, k⟩ => ⟨h, Gr.of_same m k⟩
theorem softMul_g (a b : Int) (w : World) : Calls Tryz.prog 104 #[.int .u64 a, .int .u64 b] w fun e w' => e = .returned (.int .u64 (opI .mul a b)) ∧ Gr w w' := (softMul_c a b w).mono fun _ _ ⟨h, m, k⟩ => ⟨h, Gr.of_same m k⟩
theorem softDiv_g (a b : Int) (w : World) : Calls Tryz.prog 105 #[.int .u64 a, .int .u64 b] w fun e w' => e = .returned (.int .u64 (opI .quo a b)) ∧ Gr w w' := (softDiv_c a b w).mono fun _ _ ⟨h, m, k⟩ => ⟨h, Gr.of_same m k⟩
/-- what Mod answers of two doubles -/
def modD (a b : Int) : Int := opI .sub a (opI .mul b (floorI (opI .quo a b)))
set_option maxHeartbeats 800000 in
theorem floorDoubles_g (a b : Int) (w : World) :
    Calls Tryz.prog 107 #[.int .u64 a, .int .u64 b] w fun e w' => e = .returned (.int .u64 (floorI (opI .quo a b))) ∧ Gr w w' := by
  go_enter Tryz.func107, Tryz.ntmps107
  go_wp2_with (first | (go_at_call 105; refine (softDiv_c _ _ _).mono ?_; rintro e w' ⟨rfl, m, rfl⟩) | (go_at_call 157; refine (softFloor_c _ (opI_range _ _ _).1 _).mono ?_; rintro e w' ⟨rfl, m, rfl⟩))
  go_ret
  exact ⟨rfl, Gr.of_same _ rfl⟩
set_option maxHeartbeats 800000 in
theorem modDoubles_g (a b : Int) (w : World) :
    Calls Tryz.prog 109 #[.int .u64 a, .int .u64 b] w fun e w' => e = .returned (.int .u64 (modD a b)) ∧ Gr w w' := by
  go_enter Tryz.func109, Tryz.ntmps109
  go_wp2_with (first | (go_at_call 107; refine (floorDoubles_g _ _ _).mono ?_; rintro e w' ⟨rfl, hg⟩) | (go_at_call 104; refine (softMul_c _ _ _).mono ?_; rintro e w' ⟨rfl, m, rfl⟩) | (go_at_call 101; refine (softSub_c _ _ _).mono ?_; rintro e w' ⟨rfl, m, rfl⟩))
  go_ret
  exact ⟨rfl, hg.draw _⟩
/-- what Add answers -/
def addR (a : Bool) (i u : Int) (b : Bool) (j v : Int) : Res := if a = true ∧ b = true then fitR (i + j) else okD (opI .add (bitsI a i u) (bitsI b j v))
set_option maxHeartbeats 2000000 in
theorem numAdd_mixed (a b : Bool) (i u j v : Int) (h : a = false ∨ b = false) (w : World) :
    Calls Tryz.prog 95 #[.agg #[.bool a, .int .i64 i, .int .u64 u], .agg #[.bool b, .int .i64 j, .int .u64 v]] w fun e w' => e = .returned (.tuple #[.agg #[.bool false, .int .i64 0, .int .u64 (opI .add (bitsI a i u) (bitsI b j v))], .int .i64 0]) ∧ Gr w w' := by
  have hk : (kindI a b == 0) = false := by rcases h with rfl | rfl <;> (try cases a) <;> (try cases b) <;> rfl
  clear h
  go_enter Tryz.func95, Tryz.ntmps95
  go_wp2_with (go_at_call 98; refine (kinds_c _ _ _ _ _ _ _).mono ?_; rintro e w' ⟨rfl, hg⟩; obtain ⟨fA, fB, fR, fz, hG⟩ := hg.three (Nat.zero_lt_succ _) (Nat.zero_lt_succ _) (Nat.zero_lt_succ _); clear hg; generalize hR : w.heap.size + 1 + 1 = bR at fR fz ⊢; replace hR : Hid (w.heap.size + 1 < bR) := by (show w.heap.size + 1 < bR); omega)
  go_region_held3 (fun w' => (∀ i_1, w'.cell? ⟨w.heap.size, i_1, none⟩ = #[Value.bool a, .int .i64 i, .int .u64 u][i_1]?) ∧ (∀ i, w'.cell? ⟨w.heap.size + 1, i, none⟩ = #[Value.bool b, .int .i64 j, .int .u64 v][i]?)) (first | exact ⟨fA, fB⟩ | exact far3 hR.out fA fB _ _ _) (first | (go_at_call 102; refine (bitsOf_c _ _ _ _).mono ?_; rintro e w' ⟨rfl, hg⟩; (try replace hg := hg.of_drew); replace fz := hg.thaw fR (Nat.zero_lt_succ _) fz; replace fA := hg.cells fA (Nat.zero_lt_succ _); replace fB := hg.cells fB (Nat.zero_lt_succ _); replace fR := hg.cells fR (Nat.zero_lt_succ _); replace hG := hG.trans hg; clear hg) | (go_at_call 154; refine (softAdd_g _ _ _).mono ?_; rintro e w' ⟨rfl, hg⟩; (try replace hg := hg.of_drew); replace fz := hg.thaw fR (Nat.zero_lt_succ _) fz; replace fA := hg.cells fA (Nat.zero_lt_succ _); replace fB := hg.cells fB (Nat.zero_lt_succ _); replace fR := hg.cells fR (Nat.zero_lt_succ _); replace hG := hG.trans hg; clear hg) | (go_at_call 100; refine (numDouble_c _ _).mono ?_; rintro e w' ⟨rfl, hg⟩; (try replace hg := hg.of_drew); replace fz := hg.thaw fR (Nat.zero_lt_succ _) fz; replace fA := hg.cells fA (Nat.zero_lt_succ _); replace fB := hg.cells fB (Nat.zero_lt_succ _); replace fR := hg.cells fR (Nat.zero_lt_succ _); replace hG := hG.trans hg; clear hg))
  all_goals go_wp2
  have hR' : w.heap.size ≤ bR := by have := hR.out; omega
  exact bodyPost_ret (v := .tuple #[.agg #[.bool false, .int .i64 0, .int .u64 (opI .add (bitsI a i u) (bitsI b j v))], .int .i64 0]) (by simp [results, Tryz.results95, go_sem, fR]) rfl ⟨rfl, ((hG.store hR' _).store hR' _).store hR' _⟩
set_option maxHeartbeats 2000000 in
theorem numAdd_whole (i u j v : Int) (xw : Bool) (xi xu xe : Int) (c : ∀ w, Calls Tryz.prog 153 #[.int .i64 i, .int .i64 j] w fun e w' => e = .returned (.tuple #[.agg #[.bool xw, .int .i64 xi, .int .u64 xu], .int .i64 xe]) ∧ Gr w w') (w : World) :
    Calls Tryz.prog 95 #[.agg #[.bool true, .int .i64 i, .int .u64 u], .agg #[.bool true, .int .i64 j, .int .u64 v]] w fun e w' => e = .returned (.tuple #[.agg #[.bool xw, .int .i64 xi, .int .u64 xu], .int .i64 xe]) ∧ Gr w w' := by
  have hk : kindI true true = 0 := rfl
  go_enter Tryz.func95, Tryz.ntmps95
  go_wp2_with (first | (go_at_call 98; refine (kinds_c _ _ _ _ _ _ _).mono ?_; rintro e w' ⟨rfl, hg⟩; obtain ⟨fA, fB, fR, fz, hG⟩ := hg.three (Nat.zero_lt_succ _) (Nat.zero_lt_succ _) (Nat.zero_lt_succ _); clear hg; generalize hR : w.heap.size + 1 + 1 = bR at fR fz ⊢; replace hR : Hid (w.heap.size + 1 < bR) := by (show w.heap.size + 1 < bR); omega) | (go_at_call 153; with_reducible refine (c _).mono ?_; rintro e w' ⟨rfl, hg⟩; (try replace hg := hg.of_drew); replace fz := hg.thaw fR (Nat.zero_lt_succ _) fz; replace fA := hg.cells fA (Nat.zero_lt_succ _); replace fB := hg.cells fB (Nat.zero_lt_succ _); replace fR := hg.cells fR (Nat.zero_lt_succ _); replace hG := hG.trans hg; clear hg))
  have hR' : w.heap.size ≤ bR := by have := hR.out; omega
  exact bodyPost_ret (v := .tuple #[.agg #[.bool xw, .int .i64 xi, .int .u64 xu], .int .i64 xe]) (by simp [results, Tryz.results95, go_sem, fR]) rfl ⟨rfl, ((hG.store hR' _).store hR' _).store hR' _⟩
theorem numAdd_c (a b : Bool) (i u j v : Int) (i0 : -9223372036854775808 ≤ i) (i1 : i < 9223372036854775808) (j0 : -9223372036854775808 ≤ j) (j1 : j < 9223372036854775808) (w : World) :
    Calls Tryz.prog 95 #[.agg #[.bool a, .int .i64 i, .int .u64 u], .agg #[.bool b, .int .i64 j, .int .u64 v]] w fun e w' => e = .returned (resV (addR a i u b j v)) ∧ Gr w w' := by
  unfold addR
  by_cases h : a = true ∧ b = true
  · rw [if_pos h]
    obtain ⟨rfl, rfl⟩ := h
    exact numAdd_whole i u j v _ _ _ _ (addW_c i j i0 i1 j0 j1) w
  · rw [if_neg h]
    exact numAdd_mixed a b i u j v (by revert h; cases a <;> cases b <;> simp) w
/-- what Sub answers -/
def subR (a : Bool) (i u : Int) (b : Bool) (j v : Int) : Res := if a = true ∧ b = true then fitR (i - j) else okD (opI .sub (bitsI a i u) (bitsI b j v))
set_option maxHeartbeats 2000000 in
theorem numSub_mixed (a b : Bool) (i u j v : Int) (h : a = false ∨ b = false) (w : World) :
    Calls Tryz.prog 53 #[.agg #[.bool a, .int .i64 i, .int .u64 u], .agg #[.bool b, .int .i64 j, .int .u64 v]] w fun e w' => e = .returned (.tuple #[.agg #[.bool false, .int .i64 0, .int .u64 (opI .sub (bitsI a i u) (bitsI b j v))], .int .i64 0]) ∧ Gr w w' := by
  have hk : (kindI a b == 0) = false := by rcases h with rfl | rfl <;> (try cases a) <;> (try cases b) <;> rfl
  clear h
  go_enter Tryz.func53, Tryz.ntmps53
  go_wp2_with (go_at_call 98; refine (kinds_c _ _ _ _ _ _ _).mono ?_; rintro e w' ⟨rfl, hg⟩; obtain ⟨fA, fB, fR, fz, hG⟩ := hg.three (Nat.zero_lt_succ _) (Nat.zero_lt_succ _) (Nat.zero_lt_succ _); clear hg; generalize hR : w.heap.size + 1 + 1 = bR at fR fz ⊢; replace hR : Hid (w.heap.size + 1 < bR) := by (show w.heap.size + 1 < bR); omega)
  go_region_held3 (fun w' => (∀ i_1, w'.cell? ⟨w.heap.size, i_1, none⟩ = #[Value.bool a, .int .i64 i, .int .u64 u][i_1]?) ∧ (∀ i, w'.cell? ⟨w.heap.size + 1, i, none⟩ = #[Value.bool b, .int .i64 j, .int .u64 v][i]?)) (first | exact ⟨fA, fB⟩ | exact far3 hR.out fA fB _ _ _) (first | (go_at_call 102; refine (bitsOf_c _ _ _ _).mono ?_; rintro e w' ⟨rfl, hg⟩; (try replace hg := hg.of_drew); replace fz := hg.thaw fR (Nat.zero_lt_succ _) fz; replace fA := hg.cells fA (Nat.zero_lt_succ _); replace fB := hg.cells fB (Nat.zero_lt_succ _); replace fR := hg.cells fR (Nat.zero_lt_succ _); replace hG := hG.trans hg; clear hg) | (go_at_call 101; refine (softSub_g _ _ _).mono ?_; rintro e w' ⟨rfl, hg⟩; (try replace hg := hg.of_drew); replace fz := hg.thaw fR (Nat.zero_lt_succ _) fz; replace fA := hg.cells fA (Nat.zero_lt_succ _); replace fB := hg.cells fB (Nat.zero_lt_succ _); replace fR := hg.cells fR (Nat.zero_lt_succ _); replace hG := hG.trans hg; clear hg) | (go_at_call 100; refine (numDouble_c _ _).mono ?_; rintro e w' ⟨rfl, hg⟩; (try replace hg := hg.of_drew); replace fz := hg.thaw fR (Nat.zero_lt_succ _) fz; replace fA := hg.cells fA (Nat.zero_lt_succ _); replace fB := hg.cells fB (Nat.zero_lt_succ _); replace fR := hg.cells fR (Nat.zero_lt_succ _); replace hG := hG.trans hg; clear hg))
  all_goals go_wp2
  have hR' : w.heap.size ≤ bR := by have := hR.out; omega
  exact bodyPost_ret (v := .tuple #[.agg #[.bool false, .int .i64 0, .int .u64 (opI .sub (bitsI a i u) (bitsI b j v))], .int .i64 0]) (by simp [results, Tryz.results53, go_sem, fR]) rfl ⟨rfl, ((hG.store hR' _).store hR' _).store hR' _⟩
set_option maxHeartbeats 2000000 in
theorem numSub_whole (i u j v : Int) (xw : Bool) (xi xu xe : Int) (c : ∀ w, Calls Tryz.prog 99 #[.int .i64 i, .int .i64 j] w fun e w' => e = .returned (.tuple #[.agg #[.bool xw, .int .i64 xi, .int .u64 xu], .int .i64 xe]) ∧ Gr w w') (w : World) :
    Calls Tryz.prog 53 #[.agg #[.bool true, .int .i64 i, .int .u64 u], .agg #[.bool true, .int .i64 j, .int .u64 v]] w fun e w' => e = .returned (.tuple #[.agg #[.bool xw, .int .i64 xi, .int .u64 xu], .int .i64 xe]) ∧ Gr w w' := by
  have hk : kindI true true = 0 := rfl
  go_enter Tryz.func53, Tryz.ntmps53
  go_wp2_with (first | (go_at_call 98; refine (kinds_c _ _ _ _ _ _ _).mono ?_; rintro e w' ⟨rfl, hg⟩; obtain ⟨fA, fB, fR, fz, hG⟩ := hg.three (Nat.zero_lt_succ _) (Nat.zero_lt_succ _) (Nat.zero_lt_succ _); clear hg; generalize hR : w.heap.size + 1 + 1 = bR at fR fz ⊢; replace hR : Hid (w.heap.size + 1 < bR) := by (show w.heap.size + 1 < bR); omega) | (go_at_call 99; with_reducible refine (c _).mono ?_; rintro e w' ⟨rfl, hg⟩; (try replace hg := hg.of_drew); replace fz := hg.thaw fR (Nat.zero_lt_succ _) fz; replace fA := hg.cells fA (Nat.zero_lt_succ _); replace fB := hg.cells fB (Nat.zero_lt_succ _); replace fR := hg.cells fR (Nat.zero_lt_succ _); replace hG := hG.trans hg; clear hg))
  have hR' : w.heap.size ≤ bR := by have := hR.out; omega
  exact bodyPost_ret (v := .tuple #[.agg #[.bool xw, .int .i64 xi, .int .u64 xu], .int .i64 xe]) (by simp [results, Tryz.results53, go_sem, fR]) rfl ⟨rfl, ((hG.store hR' _).store hR' _).store hR' _⟩
theorem numSub_c (a b : Bool) (i u j v : Int) (i0 : -9223372036854775808 ≤ i) (i1 : i < 9223372036854775808) (j0 : -9223372036854775808 ≤ j) (j1 : j < 9223372036854775808) (w : World) :
    Calls Tryz.prog 53 #[.agg #[.bool a, .int .i64 i, .int .u64 u], .agg #[.bool b, .int .i64 j, .int .u64 v]] w fun e w' => e = .returned (resV (subR a i u b j v)) ∧ Gr w w' := by
  unfold subR
  by_cases h : a = true ∧ b = true
  · rw [if_pos h]
    obtain ⟨rfl, rfl⟩ := h
    exact numSub_whole i u j v _ _ _ _ (subW_c i j i0 i1 j0 j1) w
  · rw [if_neg h]
    exact numSub_mixed a b i u j v (by revert h; cases a <;> cases b <;> simp) w
/-- what Mul answers -/
def mulR (a : Bool) (i u : Int) (b : Bool) (j v : Int) : Res := if a = true ∧ b = true then fitR (i * j) else okD (opI .mul (bitsI a i u) (bitsI b j v))
set_option maxHeartbeats 2000000 in
theorem numMul_mixed (a b : Bool) (i u j v : Int) (h : a = false ∨ b = false) (w : World) :
    Calls Tryz.prog 54 #[.agg #[.bool a, .int .i64 i, .int .u64 u], .agg #[.bool b, .int .i64 j, .int .u64 v]] w fun e w' => e = .returned (.tuple #[.agg #[.bool false, .int .i64 0, .int .u64 (opI .mul (bitsI a i u) (bitsI b j v))], .int .i64 0]) ∧ Gr w w' := by
  have hk : (kindI a b == 0) = false := by rcases h with rfl | rfl <;> (try cases a) <;> (try cases b) <;> rfl
  clear h
  go_enter Tryz.func54, Tryz.ntmps54
  go_wp2_with (go_at_call 98; refine (kinds_c _ _ _ _ _ _ _).mono ?_; rintro e w' ⟨rfl, hg⟩; obtain ⟨fA, fB, fR, fz, hG⟩ := hg.three (Nat.zero_lt_succ _) (Nat.zero_lt_succ _) (Nat.zero_lt_succ _); clear hg; generalize hR : w.heap.size + 1 + 1 = bR at fR fz ⊢; replace hR : Hid (w.heap.size + 1 < bR) := by (show w.heap.size + 1 < bR); omega)
  go_region_held3 (fun w' => (∀ i_1, w'.cell? ⟨w.heap.size, i_1, none⟩ = #[Value.bool a, .int .i64 i, .int .u64 u][i_1]?) ∧ (∀ i, w'.cell? ⟨w.heap.size + 1, i, none⟩ = #[Value.bool b, .int .i64 j, .int .u64 v][i]?)) (first | exact ⟨fA, fB⟩ | exact far3 hR.out fA fB _ _ _) (first | (go_at_call 102; refine (bitsOf_c _ _ _ _).mono ?_; rintro e w' ⟨rfl, hg⟩; (try replace hg := hg.of_drew); replace fz := hg.thaw fR (Nat.zero_lt_succ _) fz; replace fA := hg.cells fA (Nat.zero_lt_succ _); replace fB := hg.cells fB (Nat.zero_lt_succ _); replace fR := hg.cells fR (Nat.zero_lt_succ _); replace hG := hG.trans hg; clear hg) | (go_at_call 104; refine (softMul_g _ _ _).mono ?_; rintro e w' ⟨rfl, hg⟩; (try replace hg := hg.of_drew); replace fz := hg.thaw fR (Nat.zero_lt_succ _) fz; replace fA := hg.cells fA (Nat.zero_lt_succ _); replace fB := hg.cells fB (Nat.zero_lt_succ _); replace fR := hg.cells fR (Nat.zero_lt_succ _); replace hG := hG.trans hg; clear hg) | (go_at_call 100; refine (numDouble_c _ _).mono ?_; rintro e w' ⟨rfl, hg⟩; (try replace hg := hg.of_drew); replace fz := hg.thaw fR (Nat.zero_lt_succ _) fz; replace fA := hg.cells fA (Nat.zero_lt_succ _); replace fB := hg.cells fB (Nat.zero_lt_succ _); replace fR := hg.cells fR (Nat.zero_lt_succ _); replace hG := hG.trans hg; clear hg))
  all_goals go_wp2
  have hR' : w.heap.size ≤ bR := by have := hR.out; omega
  exact bodyPost_ret (v := .tuple #[.agg #[.bool false, .int .i64 0, .int .u64 (opI .mul (bitsI a i u) (bitsI b j v))], .int .i64 0]) (by simp [results, Tryz.results54, go_sem, fR]) rfl ⟨rfl, ((hG.store hR' _).store hR' _).store hR' _⟩
set_option maxHeartbeats 2000000 in
theorem numMul_whole (i u j v : Int) (xw : Bool) (xi xu xe : Int) (c : ∀ w, Calls Tryz.prog 103 #[.int .i64 i, .int .i64 j] w fun e w' => e = .returned (.tuple #[.agg #[.bool xw, .int .i64 xi, .int .u64 xu], .int .i64 xe]) ∧ Gr w w') (w : World) :
    Calls Tryz.prog 54 #[.agg #[.bool true, .int .i64 i, .int .u64 u], .agg #[.bool true, .int .i64 j, .int .u64 v]] w fun e w' => e = .returned (.tuple #[.agg #[.bool xw, .int .i64 xi, .int .u64 xu], .int .i64 xe]) ∧ Gr w w' := by
  have hk : kindI true true = 0 := rfl
  go_enter Tryz.func54, Tryz.ntmps54
  go_wp2_with (first | (go_at_call 98; refine (kinds_c _ _ _ _ _ _ _).mono ?_; rintro e w' ⟨rfl, hg⟩; obtain ⟨fA, fB, fR, fz, hG⟩ := hg.three (Nat.zero_lt_succ _) (Nat.zero_lt_succ _) (Nat.zero_lt_succ _); clear hg; generalize hR : w.heap.size + 1 + 1 = bR at fR fz ⊢; replace hR : Hid (w.heap.size + 1 < bR) := by (show w.heap.size + 1 < bR); omega) | (go_at_call 103; with_reducible refine (c _).mono ?_; rintro e w' ⟨rfl, hg⟩; (try replace hg := hg.of_drew); replace fz := hg.thaw fR (Nat.zero_lt_succ _) fz; replace fA := hg.cells fA (Nat.zero_lt_succ _); replace fB := hg.cells fB (Nat.zero_lt_succ _); replace fR := hg.cells fR (Nat.zero_lt_succ _); replace hG := hG.trans hg; clear hg))
  have hR' : w.heap.size ≤ bR := by have := hR.out; omega
  exact bodyPost_ret (v := .tuple #[.agg #[.bool xw, .int .i64 xi, .int .u64 xu], .int .i64 xe]) (by simp [results, Tryz.results54, go_sem, fR]) rfl ⟨rfl, ((hG.store hR' _).store hR' _).store hR' _⟩
theorem numMul_c (a b : Bool) (i u j v : Int) (i0 : -9223372036854775808 ≤ i) (i1 : i < 9223372036854775808) (j0 : -9223372036854775808 ≤ j) (j1 : j < 9223372036854775808) (w : World) :
    Calls Tryz.prog 54 #[.agg #[.bool a, .int .i64 i, .int .u64 u], .agg #[.bool b, .int .i64 j, .int .u64 v]] w fun e w' => e = .returned (resV (mulR a i u b j v)) ∧ Gr w w' := by
  unfold mulR
  by_cases h : a = true ∧ b = true
  · rw [if_pos h]
    obtain ⟨rfl, rfl⟩ := h
    exact numMul_whole i u j v _ _ _ _ (mulW_c i j i0 i1 j0 j1) w
  · rw [if_neg h]
    exact numMul_mixed a b i u j v (by revert h; cases a <;> cases b <;> simp) w
/-- what FloorDiv answers -/
def flR (a : Bool) (i u : Int) (b : Bool) (j v : Int) : Res := if a = true ∧ b = true then floorR i j else okD (floorI (opI .quo (bitsI a i u) (bitsI b j v)))
set_option maxHeartbeats 2000000 in
theorem numFloorDiv_mixed (a b : Bool) (i u j v : Int) (h : a = false ∨ b = false) (w : World) :
    Calls Tryz.prog 56 #[.agg #[.bool a, .int .i64 i, .int .u64 u], .agg #[.bool b, .int .i64 j, .int .u64 v]] w fun e w' => e = .returned (.tuple #[.agg #[.bool false, .int .i64 0, .int .u64 (floorI (opI .quo (bitsI a i u) (bitsI b j v)))], .int .i64 0]) ∧ Gr w w' := by
  have hk : (kindI a b == 0) = false := by rcases h with rfl | rfl <;> (try cases a) <;> (try cases b) <;> rfl
  clear h
  go_enter Tryz.func56, Tryz.ntmps56
  go_wp2_with (go_at_call 98; refine (kinds_c _ _ _ _ _ _ _).mono ?_; rintro e w' ⟨rfl, hg⟩; obtain ⟨fA, fB, fR, fz, hG⟩ := hg.three (Nat.zero_lt_succ _) (Nat.zero_lt_succ _) (Nat.zero_lt_succ _); clear hg; generalize hR : w.heap.size + 1 + 1 = bR at fR fz ⊢; replace hR : Hid (w.heap.size + 1 < bR) := by (show w.heap.size + 1 < bR); omega)
  go_region_held3 (fun w' => (∀ i_1, w'.cell? ⟨w.heap.size, i_1, none⟩ = #[Value.bool a, .int .i64 i, .int .u64 u][i_1]?) ∧ (∀ i, w'.cell? ⟨w.heap.size + 1, i, none⟩ = #[Value.bool b, .int .i64 j, .int .u64 v][i]?)) (first | exact ⟨fA, fB⟩ | exact far3 hR.out fA fB _ _ _) (first | (go_at_call 102; refine (bitsOf_c _ _ _ _).mono ?_; rintro e w' ⟨rfl, hg⟩; (try replace hg := hg.of_drew); replace fz := hg.thaw fR (Nat.zero_lt_succ _) fz; replace fA := hg.cells fA (Nat.zero_lt_succ _); replace fB := hg.cells fB (Nat.zero_lt_succ _); replace fR := hg.cells fR (Nat.zero_lt_succ _); replace hG := hG.trans hg; clear hg) | (go_at_call 107; refine (floorDoubles_g _ _ _).mono ?_; rintro e w' ⟨rfl, hg⟩; (try replace hg := hg.of_drew); replace fz := hg.thaw fR (Nat.zero_lt_succ _) fz; replace fA := hg.cells fA (Nat.zero_lt_succ _); replace fB := hg.cells fB (Nat.zero_lt_succ _); replace fR := hg.cells fR (Nat.zero_lt_succ _); replace hG := hG.trans hg; clear hg) | (go_at_call 100; refine (numDouble_c _ _).mono ?_; rintro e w' ⟨rfl, hg⟩; (try replace hg := hg.of_drew); replace fz := hg.thaw fR (Nat.zero_lt_succ _) fz; replace fA := hg.cells fA (Nat.zero_lt_succ _); replace fB := hg.cells fB (Nat.zero_lt_succ _); replace fR := hg.cells fR (Nat.zero_lt_succ _); replace hG := hG.trans hg; clear hg))
  all_goals go_wp2
  have hR' : w.heap.size ≤ bR := by have := hR.out; omega
  exact bodyPost_ret (v := .tuple #[.agg #[.bool false, .int .i64 0, .int .u64 (floorI (opI .quo (bitsI a i u) (bitsI b j v)))], .int .i64 0]) (by simp [results, Tryz.results56, go_sem, fR]) rfl ⟨rfl, ((hG.store hR' _).store hR' _).store hR' _⟩
set_option maxHeartbeats 2000000 in
theorem numFloorDiv_whole (i u j v : Int) (xw : Bool) (xi xu xe : Int) (c : ∀ w, Calls Tryz.prog 106 #[.int .i64 i, .int .i64 j] w fun e w' => e = .returned (.tuple #[.agg #[.bool xw, .int .i64 xi, .int .u64 xu], .int .i64 xe]) ∧ Gr w w') (w : World) :
    Calls Tryz.prog 56 #[.agg #[.bool true, .int .i64 i, .int .u64 u], .agg #[.bool true, .int .i64 j, .int .u64 v]] w fun e w' => e = .returned (.tuple #[.agg #[.bool xw, .int .i64 xi, .int .u64 xu], .int .i64 xe]) ∧ Gr w w' := by
  have hk : kindI true true = 0 := rfl
  go_enter Tryz.func56, Tryz.ntmps56
  go_wp2_with (first | (go_at_call 98; refine (kinds_c _ _ _ _ _ _ _).mono ?_; rintro e w' ⟨rfl, hg⟩; obtain ⟨fA, fB, fR, fz, hG⟩ := hg.three (Nat.zero_lt_succ _) (Nat.zero_lt_succ _) (Nat.zero_lt_succ _); clear hg; generalize hR : w.heap.size + 1 + 1 = bR at fR fz ⊢; replace hR : Hid (w.heap.size + 1 < bR) := by (show w.heap.size + 1 < bR); omega) | (go_at_call 106; with_reducible refine (c _).mono ?_; rintro e w' ⟨rfl, hg⟩; (try replace hg := hg.of_drew); replace fz := hg.thaw fR (Nat.zero_lt_succ _) fz; replace fA := hg.cells fA (Nat.zero_lt_succ _); replace fB := hg.cells fB (Nat.zero_lt_succ _); replace fR := hg.cells fR (Nat.zero_lt_succ _); replace hG := hG.trans hg; clear hg))
  have hR' : w.heap.size ≤ bR := by have := hR.out; omega
  exact bodyPost_ret (v := .tuple #[.agg #[.bool xw, .int .i64 xi, .int .u64 xu], .int .i64 xe]) (by simp [results, Tryz.results56, go_sem, fR]) rfl ⟨rfl, ((hG.store hR' _).store hR' _).store hR' _⟩
set_option linter.unusedVariables false in
theorem numFloorDiv_c (a b : Bool) (i u j v : Int) (i0 : -9223372036854775808 ≤ i) (i1 : i < 9223372036854775808) (j0 : -9223372036854775808 ≤ j) (j1 : j < 9223372036854775808) (w : World) :
    Calls Tryz.prog 56 #[.agg #[.bool a, .int .i64 i, .int .u64 u], .agg #[.bool b, .int .i64 j, .int .u64 v]] w fun e w' => e = .returned (resV (flR a i u b j v)) ∧ Gr w w' := by
  unfold flR
  by_cases h : a = true ∧ b = true
  · rw [if_pos h]
    obtain ⟨rfl, rfl⟩ := h
    exact numFloorDiv_whole i u j v _ _ _ _ (floorW_c i j i0 i1) w
  · rw [if_neg h]
    exact numFloorDiv_mixed a b i u j v (by revert h; cases a <;> cases b <;> simp) w
/-- what Mod answers -/
def mdR (a : Bool) (i u : Int) (b : Bool) (j v : Int) : Res := if a = true ∧ b = true then modR i j else okD (modD (bitsI a i u) (bitsI b j v))
set_option maxHeartbeats 2000000 in
theorem numMod_mixed (a b : Bool) (i u j v : Int) (h : a = false ∨ b = false) (w : World) :
    Calls Tryz.prog 57 #[.agg #[.bool a, .int .i64 i, .int .u64 u], .agg #[.bool b, .int .i64 j, .int .u64 v]] w fun e w' => e = .returned (.tuple #[.agg #[.bool false, .int .i64 0, .int .u64 (modD (bitsI a i u) (bitsI b j v))], .int .i64 0]) ∧ Gr w w' := by
  have hk : (kindI a b == 0) = false := by rcases h with rfl | rfl <;> (try cases a) <;> (try cases b) <;> rfl
  clear h
  go_enter Tryz.func57, Tryz.ntmps57
  go_wp2_with (go_at_call 98; refine (kinds_c _ _ _ _ _ _ _).mono ?_; rintro e w' ⟨rfl, hg⟩; obtain ⟨fA, fB, fR, fz, hG⟩ := hg.three (Nat.zero_lt_succ _) (Nat.zero_lt_succ _) (Nat.zero_lt_succ _); clear hg; generalize hR : w.heap.size + 1 + 1 = bR at fR fz ⊢; replace hR : Hid (w.heap.size + 1 < bR) := by (show w.heap.size + 1 < bR); omega)
  go_region_held3 (fun w' => (∀ i_1, w'.cell? ⟨w.heap.size, i_1, none⟩ = #[Value.bool a, .int .i64 i, .int .u64 u][i_1]?) ∧ (∀ i, w'.cell? ⟨w.heap.size + 1, i, none⟩ = #[Value.bool b, .int .i64 j, .int .u64 v][i]?)) (first | exact ⟨fA, fB⟩ | exact far3 hR.out fA fB _ _ _) (first | (go_at_call 102; refine (bitsOf_c _ _ _ _).mono ?_; rintro e w' ⟨rfl, hg⟩; (try replace hg := hg.of_drew); replace fz := hg.thaw fR (Nat.zero_lt_succ _) fz; replace fA := hg.cells fA (Nat.zero_lt_succ _); replace fB := hg.cells fB (Nat.zero_lt_succ _); replace fR := hg.cells fR (Nat.zero_lt_succ _); replace hG := hG.trans hg; clear hg) | (go_at_call 109; refine (modDoubles_g _ _ _).mono ?_; rintro e w' ⟨rfl, hg⟩; (try replace hg := hg.of_drew); replace fz := hg.thaw fR (Nat.zero_lt_succ _) fz; replace fA := hg.cells fA (Nat.zero_lt_succ _); replace fB := hg.cells fB (Nat.zero_lt_succ _); replace fR := hg.cells fR (Nat.zero_lt_succ _); replace hG := hG.trans hg; clear hg) | (go_at_call 100; refine (numDouble_c _ _).mono ?_; rintro e w' ⟨rfl, hg⟩; (try replace hg := hg.of_drew); replace fz := hg.thaw fR (Nat.zero_lt_succ _) fz; replace fA := hg.cells fA (Nat.zero_lt_succ _); replace fB := hg.cells fB (Nat.zero_lt_succ _); replace fR := hg.cells fR (Nat.zero_lt_succ _); replace hG := hG.trans hg; clear hg))
  all_goals go_wp2
  have hR' : w.heap.size ≤ bR := by have := hR.out; omega
  exact bodyPost_ret (v := .tuple #[.agg #[.bool false, .int .i64 0, .int .u64 (modD (bitsI a i u) (bitsI b j v))], .int .i64 0]) (by simp [results, Tryz.results57, go_sem, fR]) rfl ⟨rfl, ((hG.store hR' _).store hR' _).store hR' _⟩
set_option maxHeartbeats 2000000 in
theorem numMod_whole (i u j v : Int) (xw : Bool) (xi xu xe : Int) (c : ∀ w, Calls Tryz.prog 108 #[.int .i64 i, .int .i64 j] w fun e w' => e = .returned (.tuple #[.agg #[.bool xw, .int .i64 xi, .int .u64 xu], .int .i64 xe]) ∧ Gr w w') (w : World) :
    Calls Tryz.prog 57 #[.agg #[.bool true, .int .i64 i, .int .u64 u], .agg #[.bool true, .int .i64 j, .int .u64 v]] w fun e w' => e = .returned (.tuple #[.agg #[.bool xw, .int .i64 xi, .int .u64 xu], .int .i64 xe]) ∧ Gr w w' := by
  have hk : kindI true true = 0 := rfl
  go_enter Tryz.func57, Tryz.ntmps57
  go_wp2_with (first | (go_at_call 98; refine (kinds_c _ _ _ _ _ _ _).mono ?_; rintro e w' ⟨rfl, hg⟩; obtain ⟨fA, fB, fR, fz, hG⟩ := hg.three (Nat.zero_lt_succ _) (Nat.zero_lt_succ _) (Nat.zero_lt_succ _); clear hg; generalize hR : w.heap.size + 1 + 1 = bR at fR fz ⊢; replace hR : Hid (w.heap.size + 1 < bR) := by (show w.heap.size + 1 < bR); omega) | (go_at_call 108; with_reducible refine (c _).mono ?_; rintro e w' ⟨rfl, hg⟩; (try replace hg := hg.of_drew); replace fz := hg.thaw fR (Nat.zero_lt_succ _) fz; replace fA := hg.cells fA (Nat.zero_lt_succ _); replace fB := hg.cells fB (Nat.zero_lt_succ _); replace fR := hg.cells fR (Nat.zero_lt_succ _); replace hG := hG.trans hg; clear hg))
  have hR' : w.heap.size ≤ bR := by have := hR.out; omega
  exact bodyPost_ret (v := .tuple #[.agg #[.bool xw, .int .i64 xi, .int .u64 xu], .int .i64 xe]) (by simp [results, Tryz.results57, go_sem, fR]) rfl ⟨rfl, ((hG.store hR' _).store hR' _).store hR' _⟩
set_option linter.unusedVariables false in
theorem numMod_c (a b : Bool) (i u j v : Int) (i0 : -9223372036854775808 ≤ i) (i1 : i < 9223372036854775808) (j0 : -9223372036854775808 ≤ j) (j1 : j < 9223372036854775808) (w : World) :
    Calls Tryz.prog 57 #[.agg #[.bool a, .int .i64 i, .int .u64 u], .agg #[.bool b, .int .i64 j, .int .u64 v]] w fun e w' => e = .returned (resV (mdR a i u b j v)) ∧ Gr w w' := by
  unfold mdR
  by_cases h : a = true ∧ b = true
  · rw [if_pos h]
    obtain ⟨rfl, rfl⟩ := h
    exact numMod_whole i u j v _ _ _ _ (modW_c i j j0 j1) w
  · rw [if_neg h]
    exact numMod_mixed a b i u j v (by revert h; cases a <;> cases b <;> simp) w
/-- what Div answers -/
def divR (a : Bool) (i u : Int) (b : Bool) (j v : Int) : Res := okD (opI .quo (bitsI a i u) (bitsI b j v))
set_option maxHeartbeats 2000000 in
theorem numDiv_c (a b : Bool) (i u j v : Int) (w : World) :
    Calls Tryz.prog 55 #[.agg #[.bool a, .int .i64 i, .int .u64 u], .agg #[.bool b, .int .i64 j, .int .u64 v]] w fun e w' => e = .returned (resV (divR a i u b j v)) ∧ Gr w w' := by
  go_enter Tryz.func55, Tryz.ntmps55
  go_wp2
  generalize hW : World.alloc (World.alloc (World.alloc w _) _) _ = W
  have hg := Gr.of_eq hW
  obtain ⟨fA, fB, fR, fz, hG⟩ := hg.three (Nat.zero_lt_succ _) (Nat.zero_lt_succ _) (Nat.zero_lt_succ _); clear hg; generalize hR : w.heap.size + 1 + 1 = bR at fR fz ⊢; replace hR : Hid (w.heap.size + 1 < bR) := by (show w.heap.size + 1 < bR); omega
  clear hW
  go_region_held3 (fun w' => (∀ i_1, w'.cell? ⟨w.heap.size, i_1, none⟩ = #[Value.bool a, .int .i64 i, .int .u64 u][i_1]?) ∧ (∀ i, w'.cell? ⟨w.heap.size + 1, i, none⟩ = #[Value.bool b, .int .i64 j, .int .u64 v][i]?)) (first | exact ⟨fA, fB⟩ | exact far3 hR.out fA fB _ _ _) (first | (go_at_call 102; refine (bitsOf_c _ _ _ _).mono ?_; rintro e w' ⟨rfl, hg⟩; (try replace hg := hg.of_drew); replace fz := hg.thaw fR (Nat.zero_lt_succ _) fz; replace fA := hg.cells fA (Nat.zero_lt_succ _); replace fB := hg.cells fB (Nat.zero_lt_succ _); replace fR := hg.cells fR (Nat.zero_lt_succ _); replace hG := hG.trans hg; clear hg) | (go_at_call 105; refine (softDiv_g _ _ _).mono ?_; rintro e w' ⟨rfl, hg⟩; (try replace hg := hg.of_drew); replace fz := hg.thaw fR (Nat.zero_lt_succ _) fz; replace fA := hg.cells fA (Nat.zero_lt_succ _); replace fB := hg.cells fB (Nat.zero_lt_succ _); replace fR := hg.cells fR (Nat.zero_lt_succ _); replace hG := hG.trans hg; clear hg) | (go_at_call 100; refine (numDouble_c _ _).mono ?_; rintro e w' ⟨rfl, hg⟩; (try replace hg := hg.of_drew); replace fz := hg.thaw fR (Nat.zero_lt_succ _) fz; replace fA := hg.cells fA (Nat.zero_lt_succ _); replace fB := hg.cells fB (Nat.zero_lt_succ _); replace fR := hg.cells fR (Nat.zero_lt_succ _); replace hG := hG.trans hg; clear hg))
  all_goals go_wp2
  have hR' : w.heap.size ≤ bR := by have := hR.out; omega
  exact bodyPost_ret (v := .tuple #[.agg #[.bool false, .int .i64 0, .int .u64 (opI .quo (bitsI a i u) (bitsI b j v))], .int .i64 0]) (by simp [results, Tryz.results55, go_sem, fR]) rfl ⟨rfl, ((hG.store hR' _).store hR' _).store hR' _⟩
end Go.Proofs.YtgdillnpehmcbaaGreatDoor.W.Nu
/- Worlds that have only grown: a new block that is laid ahead of a call, and written behind it. -/
namespace Go.Proofs.YtgdillnpehmcbaaGreatDoor.W.Nu
open Go.ChangeShapes Go.WideShapes Go.RowKit

theorem Gr.one_drew {w w' : World} {A : Array Value} {s : TypeId} (h : Gr (w.drew.alloc (.cells A s)) w') (hA : 0 < A.size) :
    (∀ i, w'.cell? ⟨w.heap.size, i, none⟩ = A[i]?) ∧ (∀ i, w'.frozen? ⟨w.heap.size, i, none⟩ = false) ∧ Gr w w' := by
  obtain ⟨h1, h2, h3⟩ := h.one hA
  exact ⟨h1, h2, h3.of_drew⟩
theorem far1 {w : World} {A : Array Value} {n : Nat} {b : Nat} (hb : n < b) (fA : ∀ i, w.cell? ⟨n, i, none⟩ = A[i]?) (x y z : Value) :
    ∀ i, (((w.setCell ⟨b, 0, none⟩ x).setCell ⟨b, 1, none⟩ y).setCell ⟨b, 2, none⟩ z).cell? ⟨n, i, none⟩ = A[i]? := by
  have h1 : b ≠ n := by omega
  intro i
  rw [World.cell?_setCell_far _ _ _ _ h1, World.cell?_setCell_far _ _ _ _ h1, World.cell?_setCell_far _ _ _ _ h1, fA]
/-- three cells, written -/
theorem stored3 {w : World} {n : Nat} {p q r : Value} (f : ∀ i, w.cell? ⟨n, i, none⟩ = #[p, q, r][i]?) (x y z : Value) :
    ∀ i, (((w.setCell ⟨n, 0, none⟩ x).setCell ⟨n, 1, none⟩ y).setCell ⟨n, 2, none⟩ z).cell? ⟨n, i, none⟩ = #[x, y, z][i]? := by
  have ne : ∀ a b : Nat, a ≠ b → (⟨n, a, none⟩ : Addr) ≠ ⟨n, b, none⟩ := fun a b h e => h (by injection e)
  have s0 : w.cell? ⟨n, 0, none⟩ = some p := f 0
  have s1 : w.cell? ⟨n, 1, none⟩ = some q := f 1
  have s2 : w.cell? ⟨n, 2, none⟩ = some r := f 2
  have t1 : (w.setCell ⟨n, 0, none⟩ x).cell? ⟨n, 1, none⟩ = some q := by rw [World.cell?_setCell_other (h := ne 0 1 (by decide)), s1]
  have t2 : ((w.setCell ⟨n, 0, none⟩ x).setCell ⟨n, 1, none⟩ y).cell? ⟨n, 2, none⟩ = some r := by rw [World.cell?_setCell_other (h := ne 1 2 (by decide)), World.cell?_setCell_other (h := ne 0 2 (by decide)), s2]
  intro i
  match i with
  | 0 => rw [World.cell?_setCell_other (h := ne 2 0 (by decide)), World.cell?_setCell_other (h := ne 1 0 (by decide)), World.cell?_setCell_same (h := s0)]; rfl
  | 1 => rw [World.cell?_setCell_other (h := ne 2 1 (by decide)), World.cell?_setCell_same (h := t1)]; rfl
  | 2 => rw [World.cell?_setCell_same (h := t2)]; rfl
  | k + 3 =>
    rw [World.cell?_setCell_other (h := ne 2 (k + 3) (by omega)), World.cell?_setCell_other (h := ne 1 (k + 3) (by omega)), World.cell?_setCell_other (h := ne 0 (k + 3) (by omega)), f (k + 3)]
    rfl
theorem Gr.store3 {a b : World} (h : Gr a b) {n : Nat} (hn : a.heap.size ≤ n) (x y z : Value) : Gr a (((b.setCell ⟨n, 0, none⟩ x).setCell ⟨n, 1, none⟩ y).setCell ⟨n, 2, none⟩ z) :=
  ((h.store (p := ⟨n, 0, none⟩) hn x).store (p := ⟨n, 1, none⟩) hn y).store (p := ⟨n, 2, none⟩) hn z
end Go.Proofs.YtgdillnpehmcbaaGreatDoor.W.Nu
/- Worlds that have only grown: three cells of one of the call's own blocks, written. -/
namespace Go.Proofs.YtgdillnpehmcbaaGreatDoor.W.Nu
open Go.ChangeShapes Go.WideShapes Go.RowKit
theorem upd {w wk W : World} {b : Nat} {x y z p q r : Value} (hW : ((wk.setCell ⟨b, 0, none⟩ x).setCell ⟨b, 1, none⟩ y).setCell ⟨b, 2, none⟩ z = W) (f : ∀ i, wk.cell? ⟨b, i, none⟩ = #[p, q, r][i]?) (hb : w.heap.size ≤ b) (hG : Gr w wk) :
    (∀ i, W.cell? ⟨b, i, none⟩ = #[x, y, z][i]?) ∧ (∀ (n : Nat) (c : Array Value), n ≠ b → (∀ i, wk.cell? ⟨n, i, none⟩ = c[i]?) → ∀ i, W.cell? ⟨n, i, none⟩ = c[i]?) ∧ (∀ n : Nat, (∀ i, wk.frozen? ⟨n, i, none⟩ = false) → ∀ i, W.frozen? ⟨n, i, none⟩ = false) ∧ Gr w W := by
  subst hW
  refine ⟨stored3 f x y z, fun n c h g i => ?_, fun n g i => ?_, hG.store3 hb x y z⟩
  · rw [World.cell?_setCell_far _ _ _ _ (fun e => h e.symm), World.cell?_setCell_far _ _ _ _ (fun e => h e.symm), World.cell?_setCell_far _ _ _ _ (fun e => h e.symm), g]
  · rw [World.frozen?_setCell, World.frozen?_setCell, World.frozen?_setCell, g]
end Go.Proofs.YtgdillnpehmcbaaGreatDoor.W.Nu
/- Plain facts on words of IEEE 754: a number is written as its nearest word whatever its spelling; what a format has is written as it was read; words compare by the exact numbers that they are. -/
namespace Go.Proofs.YtgdillnpehmcbaaGreatDoor.W.Nu
open Ieee

/-- a quotient rounded to the nearest whole number, between two the even one -/
def cutE (n g : Nat) : Nat := n / g + (if g < 2 * (n % g) ∨ (g = 2 * (n % g) ∧ n / g % 2 = 1) then 1 else 0)

theorem gap_low (n d : Nat) (h : n.log2 + 2 < d) : n < 2 ^ (n.log2 + 2) ∧ 2 * n < 2 ^ (n.log2 + 2) ∧ 2 ^ (n.log2 + 2) < 2 ^ d := by
  have h1 : n < 2 ^ (n.log2 + 1) := Nat.lt_log2_self
  have h2 : 2 ^ (n.log2 + 2) = 2 * 2 ^ (n.log2 + 1) := by rw [show n.log2 + 2 = n.log2 + 1 + 1 from rfl, Nat.pow_succ]; omega
  have h3 : 2 ^ (n.log2 + 2) < 2 ^ d := Nat.pow_lt_pow_right (by omega) h
  omega

theorem toNat_if {b : Bool} {p : Prop} [Decidable p] (h : b = true ↔ p) : b.toNat = if p then 1 else 0 := by
  cases b <;> by_cases hp : p <;> simp_all
theorem cut_even (s : Bool) (n d : Nat) : Toward.even.cut s n d = cutE n (2 ^ d) := by
  unfold Toward.cut cutE
  simp only [Nat.one_shiftLeft]
  by_cases h : d ≤ n.log2 + 2
  · rw [Nat.min_eq_left h]
    congr 1
    generalize 2 ^ d = g
    exact toNat_if (by simp)
  · rw [Nat.min_eq_right (by omega)]
    obtain ⟨h1, h2, h3⟩ := gap_low n d (by omega)
    have h4 : n < 2 ^ d := by omega
    rw [Nat.div_eq_of_lt h1, Nat.mod_eq_of_lt h1, Nat.div_eq_of_lt h4, Nat.mod_eq_of_lt h4, if_neg (by omega)]
    have e : decide (2 ^ (n.log2 + 2) < 2 * n) = false := by simp; omega
    simp [e]
theorem cut_down (s : Bool) (n d : Nat) : Toward.down.cut s n d = n / 2 ^ d + (if s = true ∧ n % 2 ^ d ≠ 0 then 1 else 0) := by
  unfold Toward.cut
  simp only [Nat.one_shiftLeft]
  by_cases h : d ≤ n.log2 + 2
  · rw [Nat.min_eq_left h]
    congr 1
    cases s <;> by_cases h1 : n % 2 ^ d = 0 <;> simp [h1]
  · rw [Nat.min_eq_right (by omega)]
    obtain ⟨h1, h2, h3⟩ := gap_low n d (by omega)
    rw [Nat.div_eq_of_lt h1, Nat.mod_eq_of_lt h1, Nat.div_eq_of_lt (by omega), Nat.mod_eq_of_lt (by omega)]
    cases s <;> by_cases h1 : n = 0 <;> simp [h1]
theorem cut_zero (s : Bool) (n d : Nat) : Toward.zero.cut s n d = n / 2 ^ d := by
  unfold Toward.cut
  simp only [Nat.one_shiftLeft]
  by_cases h : d ≤ n.log2 + 2
  · rw [Nat.min_eq_left h]; simp
  · rw [Nat.min_eq_right (by omega)]
    obtain ⟨h1, h2, h3⟩ := gap_low n d (by omega)
    rw [Nat.div_eq_of_lt h1, Nat.div_eq_of_lt (by omega)]
    simp

theorem cutE_mul (n g c : Nat) (hc : 0 < c) : cutE (n * c) (g * c) = cutE n g := by
  unfold cutE
  rw [Nat.mul_div_mul_right n g hc, Nat.mul_mod_mul_right]
  congr 1
  have e : 2 * (n % g * c) = 2 * (n % g) * c := by rw [Nat.mul_assoc]
  rw [e]
  have h1 : (g * c < 2 * (n % g) * c) = (g < 2 * (n % g)) := propext (Nat.mul_lt_mul_right hc)
  have h2 : (g * c = 2 * (n % g) * c) = (g = 2 * (n % g)) := propext (Nat.mul_left_inj (by omega))
  simp only [h1, h2]
theorem cutE_one (n : Nat) : cutE n 1 = n := by
  unfold cutE
  simp [Nat.mod_one]
theorem cutE_move (m a b a' b' : Nat) (h : a' + b = a + b') : cutE (m * 2 ^ a') (2 ^ b') = cutE (m * 2 ^ a) (2 ^ b) := by
  rw [← cutE_mul (m * 2 ^ a') (2 ^ b') (2 ^ b) (Nat.two_pow_pos _), ← cutE_mul (m * 2 ^ a) (2 ^ b) (2 ^ b') (Nat.two_pow_pos _)]
  rw [Nat.mul_assoc, Nat.mul_assoc, ← Nat.pow_add, ← Nat.pow_add, ← Nat.pow_add, ← Nat.pow_add, h, Nat.add_comm b' b]

theorem log2_shift (m k : Nat) (h : m ≠ 0) : (m * 2 ^ k).log2 = m.log2 + k := by
  induction k with
  | zero => simp
  | succ k ih =>
    rw [Nat.pow_succ, ← Nat.mul_assoc, Nat.mul_comm _ 2, Nat.log2_two_mul (Nat.mul_ne_zero h (Nat.ne_of_gt (Nat.two_pow_pos k))), ih]
    omega

theorem nearest_shift (f : Format) (s : Bool) (m k : Nat) (p : Int) : f.nearest s (m * 2 ^ k) (p - k) = f.nearest s m p := by
  unfold Format.nearest
  by_cases h : m = 0
  · subst h; simp
  · have h' : m * 2 ^ k ≠ 0 := Nat.mul_ne_zero h (Nat.ne_of_gt (Nat.two_pow_pos k))
    rw [if_neg h', if_neg h, log2_shift m k h]
    have e : p - (k : Int) + ((m.log2 + k : Nat) : Int) - f.fractionBits = p + (m.log2 : Nat) - f.fractionBits := by omega
    simp only [e]
    generalize max (p + (m.log2 : Nat) - f.fractionBits) f.leastPlace = L
    rw [cut_even, cut_even, Nat.shiftLeft_eq, Nat.shiftLeft_eq, Nat.mul_assoc, ← Nat.pow_add]
    rw [cutE_move m (p - L).toNat (L - p).toNat (k + (p - k - L).toNat) (L - (p - k)).toNat (by omega)]
theorem nearest_same (f : Format) (s : Bool) (m m' : Nat) (p p' b : Int) (h1 : b ≤ p) (h2 : b ≤ p') (h : m * 2 ^ (p - b).toNat = m' * 2 ^ (p' - b).toNat) :
    f.nearest s m p = f.nearest s m' p' := by
  rw [← nearest_shift f s m (p - b).toNat p, ← nearest_shift f s m' (p' - b).toNat p', h]
  congr 1
  omega

/-! ### what a word reads as, written again -/
theorem read_number {x : Nat} {s : Bool} {m : Nat} {p : Int} (hx : x < 18446744073709551616) (h : Ieee.double.read x = .number s m p) :
    m < 9007199254740992 ∧ -1074 ≤ p ∧ p ≤ 971 ∧ (4503599627370496 ≤ m ∨ p = -1074) ∧ x = (if s then 9223372036854775808 else 0) + ((p + 1074).toNat * 4503599627370496 + m) := by
  rw [read_eq] at h
  have hs : (if (x / 9223372036854775808 % 2 == 1) = true then 9223372036854775808 else 0) = x / 9223372036854775808 * 9223372036854775808 := by
    by_cases g : x / 9223372036854775808 % 2 = 1
    · simp [g]; omega
    · simp [g]; omega
  split at h
  · cases h
    refine ⟨by omega, by omega, by omega, Or.inr rfl, ?_⟩
    rw [hs]; omega
  · split at h
    · cases h
      refine ⟨by omega, by omega, by omega, Or.inl (by omega), ?_⟩
      rw [hs]; omega
    · split at h <;> cases h

theorem write_read {x : Nat} {s : Bool} {m : Nat} {p : Int} (hx : x < 18446744073709551616) (h : Ieee.double.read x = .number s m p) : Ieee.double.nearest s m p = x := by
  obtain ⟨h1, h2, h3, h4, h5⟩ := read_number hx h
  unfold Format.nearest
  by_cases h0 : m = 0
  · subst h0
    rw [if_pos rfl, word_eq, h5]
    have : p = -1074 := by omega
    subst this
    simp
  · rw [if_neg h0]
    have hl : m.log2 ≤ 52 := by
      have : m.log2 < 53 := (Nat.log2_lt h0).2 (by omega)
      omega
    have hL : max (p + (m.log2 : Nat) - ((Ieee.double.fractionBits : Nat) : Int)) Ieee.double.leastPlace = p := by
      rw [D_least]
      show max (p + (m.log2 : Nat) - 52) (-1074) = p
      rcases h4 with h4 | h4
      · have : 52 ≤ m.log2 := (Nat.le_log2 h0).2 (by omega)
        omega
      · omega
    simp only [hL]
    rw [cut_even]
    simp only [Int.sub_self, Int.toNat_zero, Nat.shiftLeft_zero, Nat.pow_zero, cutE_one, D_least, D_bin, D_inf, word_eq]
    rw [h5, show p - -1074 = p + 1074 from by omega, Nat.min_eq_left (by omega)]
theorem write_inf {x : Nat} {s : Bool} (hx : x < 18446744073709551616) (h : Ieee.double.read x = .infinity s) : Ieee.double.write (.infinity s) = x := by
  have e : Ieee.double.write (.infinity s) = Ieee.double.word s Ieee.double.infRung := rfl
  rw [e, word_eq, D_inf]
  rw [read_eq] at h
  split at h
  · cases h
  · split at h
    · cases h
    · split at h
      · rename_i h1 h2 h3
        cases h
        by_cases g : x / 9223372036854775808 % 2 = 1
        · simp [g]; omega
        · simp [g]; omega
      · cases h

/-- a number of at most 53 digits, within the format's places, is read as it was written -/
theorem read_nearest (s : Bool) (m : Nat) (p : Int) (hm : m < 9007199254740992) (h1 : -1074 ≤ p) (h2 : p ≤ 971) :
    ∃ m' p', Ieee.double.read (Ieee.double.nearest s m p) = .number s m' p' ∧ -1074 ≤ p' ∧ p' ≤ p ∧ m' = m * 2 ^ (p - p').toNat := by
  have hsg : ∀ r, r < 9223372036854775808 → (((if s = true then 9223372036854775808 else 0) + r) / 9223372036854775808 % 2 == 1) = s ∧ ((if s = true then 9223372036854775808 else 0) + r) % 9223372036854775808 = r := by
    intro r hr
    cases s
    · simp; omega
    · simp; omega
  unfold Format.nearest
  by_cases h0 : m = 0
  · subst h0
    rw [if_pos rfl, word_eq, read_eq, (hsg 0 (by omega)).1, (hsg 0 (by omega)).2, if_pos (by omega)]
    exact ⟨0, -1074, rfl, by omega, by omega, by simp⟩
  · rw [if_neg h0]
    have hl : m.log2 ≤ 52 := by
      have : m.log2 < 53 := (Nat.log2_lt h0).2 (by omega)
      omega
    have hlo : 2 ^ m.log2 ≤ m := Nat.log2_self_le h0
    have hhi : m < 2 ^ (m.log2 + 1) := Nat.lt_log2_self
    have eL : max (p + (m.log2 : Nat) - ((Ieee.double.fractionBits : Nat) : Int)) Ieee.double.leastPlace = max (p + (m.log2 : Nat) - 52) (-1074) := by rw [D_least]; rfl
    simp only [eL]
    generalize hL : max (p + (m.log2 : Nat) - 52) (-1074) = L
    have hLp : L ≤ p := by omega
    have hL1 : -1074 ≤ L := by omega
    rw [cut_even, show (L - p).toNat = 0 from by omega, Nat.pow_zero, cutE_one, Nat.shiftLeft_eq, D_least, D_bin, D_inf, word_eq]
    -- K: the digits that are kept
    have hK2 : m * 2 ^ (p - L).toNat < 9007199254740992 := by
      have a1 : m * 2 ^ (p - L).toNat < 2 ^ (m.log2 + 1) * 2 ^ (p - L).toNat := Nat.mul_lt_mul_of_pos_right hhi (Nat.two_pow_pos _)
      rw [← Nat.pow_add] at a1
      have a2 : 2 ^ (m.log2 + 1 + (p - L).toNat) ≤ 2 ^ 53 := Nat.pow_le_pow_right (by omega) (by omega)
      omega
    have hK1 : L = -1074 ∨ 4503599627370496 ≤ m * 2 ^ (p - L).toNat := by
      by_cases g : L = -1074
      · exact Or.inl g
      · right
        have a1 : 2 ^ m.log2 * 2 ^ (p - L).toNat ≤ m * 2 ^ (p - L).toNat := Nat.mul_le_mul_right _ hlo
        rw [← Nat.pow_add, show m.log2 + (p - L).toNat = 52 from by omega] at a1
        omega
    generalize hK : m * 2 ^ (p - L).toNat = K at *
    have hmin : min ((L - -1074).toNat * 4503599627370496 + K) 9218868437227405312 = (L + 1074).toNat * 4503599627370496 + K := by
      rw [show L - -1074 = L + 1074 from by omega]
      exact Nat.min_eq_left (by omega)
    rw [hmin, read_eq, (hsg _ (by omega)).1, (hsg _ (by omega)).2]
    split
    · rename_i g
      refine ⟨_, _, rfl, by omega, by omega, ?_⟩
      have : L = -1074 := by omega
      subst this
      rw [hK]; omega
    · rename_i g
      rw [if_pos (by omega)]
      refine ⟨_, _, rfl, by omega, by omega, ?_⟩
      have e1 : (-1074 + ((((L + 1074).toNat * 4503599627370496 + K) / 4503599627370496 - 1 : Nat) : Int)) = L := by omega
      rw [e1, hK]
      omega

/-! ### words compare by the exact numbers -/
/-- beyond every finite double, in units of the least number's place -/
def bigOf (k : Nat) : Nat := 2 ^ k
theorem bigOf_pos (k : Nat) : 0 < bigOf k := Nat.two_pow_pos k
theorem bigOf_le {k n : Nat} (h : k ≤ n) : 2 ^ k ≤ bigOf n := Nat.pow_le_pow_right (by omega) h
def big : Nat := bigOf 2200
theorem big_pos : 0 < big := bigOf_pos 2200
theorem big_le {k : Nat} (h : k ≤ 2200) : 2 ^ k ≤ big := bigOf_le h
/-- the exact number of a datum, in units of the least number's place; infinities beyond all -/
def key : Datum → Int
  | .number s m p => signed s m (p + 1074).toNat
  | .infinity s => if s then -(big : Int) else (big : Int)
  | .nan _ _ => 0

theorem signed_eq (s : Bool) (m k : Nat) : signed s m k = (if s then -1 else 1) * ((m * 2 ^ k : Nat) : Int) := by
  unfold signed
  rw [Nat.shiftLeft_eq]
  cases s <;> simp
theorem signed_add (s : Bool) (m a c : Nat) : signed s m (a + c) = signed s m a * ((2 ^ c : Nat) : Int) := by
  rw [signed_eq, signed_eq, Int.mul_assoc, ← Int.natCast_mul, Nat.mul_assoc, ← Nat.pow_add]
theorem compare_mul (x y c : Int) (hc : 0 < c) : compare (x * c) (y * c) = compare x y := by
  have h1 : (x * c < y * c) = (x < y) := propext ⟨fun h => Int.lt_of_mul_lt_mul_right h (Int.le_of_lt hc), fun h => Int.mul_lt_mul_of_pos_right h hc⟩
  have h2 : (x * c = y * c) = (x = y) := propext ⟨fun h => Int.eq_of_mul_eq_mul_right (Int.ne_of_gt hc) h, fun h => by rw [h]⟩
  simp only [compare, compareOfLessAndEq, h1, h2]
theorem key_bound {x : Nat} {s : Bool} {m : Nat} {p : Int} (hx : x < 18446744073709551616) (h : Ieee.double.read x = .number s m p) :
    -(big : Int) < signed s m (p + 1074).toNat ∧ signed s m (p + 1074).toNat < (big : Int) := by
  obtain ⟨h1, h2, h3, -, -⟩ := read_number hx h
  have a1 : m * 2 ^ (p + 1074).toNat < 2 ^ 53 * 2 ^ (p + 1074).toNat := Nat.mul_lt_mul_of_pos_right (by omega) (Nat.two_pow_pos _)
  rw [← Nat.pow_add] at a1
  have a2 : 2 ^ (53 + (p + 1074).toNat) ≤ big := big_le (by omega)
  rw [signed_eq]
  generalize big = B at *
  generalize m * 2 ^ (p + 1074).toNat = V at *
  cases s <;> simp <;> omega
theorem order_key {x y : Nat} (hx : x < 18446744073709551616) (hy : y < 18446744073709551616) (nx : (Ieee.double.read x).isNaN = false) (ny : (Ieee.double.read y).isNaN = false) :
    Ieee.double.order x y = some (compare (key (Ieee.double.read x)) (key (Ieee.double.read y))) := by
  unfold Format.order
  cases ex : Ieee.double.read x with
  | nan s t => rw [ex] at nx; cases nx
  | infinity s =>
    cases ey : Ieee.double.read y with
    | nan s t => rw [ey] at ny; cases ny
    | infinity t =>
      have hB := big_pos
      simp only [Datum.order, key]
      generalize big = B at *
      cases s <;> cases t <;> simp [compare, compareOfLessAndEq] <;> (try omega)
      all_goals (repeat' split) <;> first | rfl | omega
    | number t n j =>
      obtain ⟨k1, k2⟩ := key_bound hy ey
      simp only [Datum.order, key]
      generalize big = B at *
      cases s
      · simp only [compare, compareOfLessAndEq, Bool.false_eq_true, if_false]
        rw [if_neg (by omega), if_neg (by omega)]
      · simp only [compare, compareOfLessAndEq, if_true]
        rw [if_pos (by omega)]
  | number s m i =>
    obtain ⟨k1, k2⟩ := key_bound hx ex
    obtain ⟨-, hi, -, -, -⟩ := read_number hx ex
    cases ey : Ieee.double.read y with
    | nan s t => rw [ey] at ny; cases ny
    | infinity t =>
      simp only [Datum.order, key]
      generalize big = B at *
      cases t
      · simp only [compare, compareOfLessAndEq, Bool.false_eq_true, if_false]
        rw [if_pos (by omega)]
      · simp only [compare, compareOfLessAndEq, if_true]
        rw [if_neg (by omega), if_neg (by omega)]
    | number t n j =>
      obtain ⟨-, hj, -, -, -⟩ := read_number hy ey
      simp only [Datum.order, key]
      have e1 : (i + 1074).toNat = (i - min i j).toNat + (min i j + 1074).toNat := by omega
      have e2 : (j + 1074).toNat = (j - min i j).toNat + (min i j + 1074).toNat := by omega
      rw [e1, e2, signed_add, signed_add, compare_mul _ _ _ (by have := Nat.two_pow_pos (min i j + 1074).toNat; omega)]
end Go.Proofs.YtgdillnpehmcbaaGreatDoor.W.Nu
/- Plain facts on words of IEEE 754 of 32 bits, and on their way to 64 bits and back. -/
namespace Go.Proofs.YtgdillnpehmcbaaGreatDoor.W.Nu
open Ieee

theorem S_sign : Ieee.single.signWeight = 2147483648 := by decide
theorem S_bin : Ieee.single.binade = 8388608 := by decide
theorem S_inf : Ieee.single.infRung = 2139095040 := by decide
theorem S_least : Ieee.single.leastPlace = -149 := by decide
theorem wordS_eq (s : Bool) (r : Nat) : Ieee.single.word s r = (if s then 2147483648 else 0) + r := by
  unfold Format.word
  rw [S_sign]
  cases s <;> simp
theorem readS_eq (x : Nat) : Ieee.single.read x =
    if x % 2147483648 < 8388608 then .number (x / 2147483648 % 2 == 1) (x % 2147483648) (-149)
    else if x % 2147483648 < 2139095040 then
      .number (x / 2147483648 % 2 == 1) (8388608 + x % 2147483648 % 8388608) (-149 + (x % 2147483648 / 8388608 - 1 : Nat))
    else if x % 2147483648 = 2139095040 then .infinity (x / 2147483648 % 2 == 1)
    else .nan (x / 2147483648 % 2 == 1) (x % 2147483648 - 2139095040) := by
  unfold Format.read
  simp only [S_sign, S_bin, S_inf, S_least]
theorem readS_number {x : Nat} {s : Bool} {m : Nat} {p : Int} (hx : x < 4294967296) (h : Ieee.single.read x = .number s m p) :
    m < 16777216 ∧ -149 ≤ p ∧ p ≤ 104 ∧ (8388608 ≤ m ∨ p = -149) ∧ x = (if s then 2147483648 else 0) + ((p + 149).toNat * 8388608 + m) := by
  rw [readS_eq] at h
  have hs : (if (x / 2147483648 % 2 == 1) = true then 2147483648 else 0) = x / 2147483648 * 2147483648 := by
    by_cases g : x / 2147483648 % 2 = 1
    · simp [g]; omega
    · simp [g]; omega
  split at h
  · cases h
    refine ⟨by omega, by omega, by omega, Or.inr rfl, ?_⟩
    rw [hs]; omega
  · split at h
    · cases h
      refine ⟨by omega, by omega, by omega, Or.inl (by omega), ?_⟩
      rw [hs]; omega
    · split at h <;> cases h
theorem writeS_read {x : Nat} {s : Bool} {m : Nat} {p : Int} (hx : x < 4294967296) (h : Ieee.single.read x = .number s m p) : Ieee.single.nearest s m p = x := by
  obtain ⟨h1, h2, h3, h4, h5⟩ := readS_number hx h
  unfold Format.nearest
  by_cases h0 : m = 0
  · subst h0
    rw [if_pos rfl, wordS_eq, h5]
    have : p = -149 := by omega
    subst this
    simp
  · rw [if_neg h0]
    have hl : m.log2 ≤ 23 := by
      have : m.log2 < 24 := (Nat.log2_lt h0).2 (by omega)
      omega
    have hL : max (p + (m.log2 : Nat) - ((Ieee.single.fractionBits : Nat) : Int)) Ieee.single.leastPlace = p := by
      rw [S_least]
      show max (p + (m.log2 : Nat) - 23) (-149) = p
      rcases h4 with h4 | h4
      · have : 23 ≤ m.log2 := (Nat.le_log2 h0).2 (by omega)
        omega
      · omega
    simp only [hL]
    rw [cut_even]
    simp only [Int.sub_self, Int.toNat_zero, Nat.shiftLeft_zero, Nat.pow_zero, cutE_one, S_least, S_bin, S_inf, wordS_eq]
    rw [h5, show p - -149 = p + 149 from by omega, Nat.min_eq_left (by omega)]
theorem writeS_inf {x : Nat} {s : Bool} (hx : x < 4294967296) (h : Ieee.single.read x = .infinity s) : Ieee.single.write (.infinity s) = x := by
  have e : Ieee.single.write (.infinity s) = Ieee.single.word s Ieee.single.infRung := rfl
  rw [e, wordS_eq, S_inf]
  rw [readS_eq] at h
  split at h
  · cases h
  · split at h
    · cases h
    · split at h
      · rename_i h1 h2 h3
        cases h
        by_cases g : x / 2147483648 % 2 = 1
        · simp [g]; omega
        · simp [g]; omega
      · cases h

/-- a number of 32 bits is a double -/
theorem wide_fin {x : Nat} (hx : x < 4294967296) (s : Bool) (m : Nat) (p : Int) (h : Ieee.single.read x = .number s m p) : (Ieee.double.read (Ieee.double.write (.number s m p))).isInfinity = false := by
  obtain ⟨h1, h2, h3, -, -⟩ := readS_number hx h
  obtain ⟨m', p', e, -, -, -⟩ := read_nearest s m p (by omega) (by omega) (by omega)
  have e' : Ieee.double.read (Ieee.double.write (.number s m p)) = .number s m' p' := e
  rw [e']; rfl
theorem wideI_nan (n : Int) : nanB (wideI n) = (Ieee.single.read n.toNat).isNaN := by
  unfold wideI
  cases h : (Ieee.single.read n.toNat).isNaN with
  | true => simp [nanB]
  | false => simp [write_plain _ h]
theorem read_inf (s : Bool) : Ieee.double.read (Ieee.double.write (.infinity s)) = .infinity s := by cases s <;> decide +kernel
/-- there and back -/
theorem narrow_wide (n : Int) (h1 : n < 4294967296) (hn : (Ieee.single.read n.toNat).isNaN = false) : floatToFloatBits .f64 (wideI n).toNat .f32 = some n.toNat := by
  have hx : n.toNat < 4294967296 := by omega
  have e0 : (wideI n).toNat = Ieee.double.write (Ieee.single.read n.toNat) := by
    unfold wideI; rw [hn]; simp
  rw [e0]
  unfold floatToFloatBits
  rw [if_neg (by decide)]
  show (match Ieee.double.read (Ieee.double.write (Ieee.single.read n.toNat)) with
    | .nan _ _ => none
    | .infinity s => some (Ieee.single.write (.infinity s))
    | .number s m e => if (Ieee.single.read (Ieee.single.write (.number s m e))).isInfinity then none else some (Ieee.single.write (.number s m e))) = some n.toNat
  cases h : Ieee.single.read n.toNat with
  | nan s t => rw [h] at hn; cases hn
  | infinity s => rw [read_inf]; simp only; rw [writeS_inf hx h]
  | number s m p =>
    obtain ⟨g1, g2, g3, -, -⟩ := readS_number hx h
    obtain ⟨m', p', e, q1, q2, q3⟩ := read_nearest s m p (by omega) (by omega) (by omega)
    have e' : Ieee.double.read (Ieee.double.write (.number s m p)) = .number s m' p' := e
    rw [e']
    have e2 : Ieee.single.write (.number s m' p') = n.toNat := by
      show Ieee.single.nearest s m' p' = n.toNat
      rw [← writeS_read hx h]
      refine nearest_same Ieee.single s m' m p' p p' (by omega) q2 ?_
      rw [q3]; simp
    simp only [e2, h]
    rfl
end Go.Proofs.YtgdillnpehmcbaaGreatDoor.W.Nu
/- Plain facts on what package soft answers: sums and products either way round, a difference is a sum, a sign twice turned; no NaN but one. -/
namespace Go.Proofs.YtgdillnpehmcbaaGreatDoor.W.Nu
open Ieee

theorem sum_comm (a b : Datum) : a.sum b = b.sum a := by
  cases a with
  | nan s t => cases b <;> rfl
  | infinity s =>
    cases b with
    | nan s t => rfl
    | infinity t => cases s <;> cases t <;> rfl
    | number t n j => rfl
  | number s m i =>
    cases b with
    | nan s t => rfl
    | infinity t => rfl
    | number t n j =>
      simp only [Datum.sum]
      rw [show min j i = min i j from by omega, Int.add_comm (signed s m _), Bool.and_comm s t]
theorem product_comm (a b : Datum) : a.product b = b.product a := by
  cases a with
  | nan s t => cases b <;> rfl
  | infinity s =>
    cases b with
    | nan s t => rfl
    | infinity t => simp only [Datum.product]; rw [Bool.xor_comm]
    | number t n j => rfl
  | number s m i =>
    cases b with
    | nan s t => rfl
    | infinity t => rfl
    | number t n j =>
      simp only [Datum.product]
      rw [Bool.xor_comm, Nat.mul_comm, Int.add_comm]
theorem add_comm (a b : Int) : opI .add a b = opI .add b a := by
  have e : floatBits .add .f64 a.toNat b.toNat = floatBits .add .f64 b.toNat a.toNat := by
    show ((Ieee.double.read a.toNat).sum (Ieee.double.read b.toNat)).map Ieee.double.write = ((Ieee.double.read b.toNat).sum (Ieee.double.read a.toNat)).map Ieee.double.write
    rw [sum_comm]
  unfold opI; rw [e]
theorem mul_comm (a b : Int) : opI .mul a b = opI .mul b a := by
  have e : floatBits .mul .f64 a.toNat b.toNat = floatBits .mul .f64 b.toNat a.toNat := by
    show ((Ieee.double.read a.toNat).product (Ieee.double.read b.toNat)).map Ieee.double.write = ((Ieee.double.read b.toNat).product (Ieee.double.read a.toNat)).map Ieee.double.write
    rw [product_comm]
  unfold opI; rw [e]
theorem sum_nan (a b : Datum) (h : b.isNaN = true) : a.sum b = none := by
  cases b with
  | nan s t => cases a <;> rfl
  | infinity s => cases h
  | number s m i => cases h
theorem nan_of (a : Int) (h0 : 0 ≤ a) : (Ieee.double.read a.toNat).isNaN = nanB a := by
  rw [nan_read, Int.toNat_of_nonneg h0]
theorem read_turn (a : Int) (h0 : 0 ≤ a) (h1 : a < 18446744073709551616) :
    Ieee.double.read (if a < 9223372036854775808 then a + 9223372036854775808 else a - 9223372036854775808).toNat = (Ieee.double.read a.toNat).opposite := by
  have e1 : (if a < 9223372036854775808 then a + 9223372036854775808 else a - 9223372036854775808).toNat % 9223372036854775808 = a.toNat % 9223372036854775808 := by split <;> omega
  have e2 : ((if a < 9223372036854775808 then a + 9223372036854775808 else a - 9223372036854775808).toNat / 9223372036854775808 % 2 == 1) = !(a.toNat / 9223372036854775808 % 2 == 1) := by
    rw [Bool.eq_iff_iff]; simp; split <;> omega
  rw [read_eq, read_eq, e1, e2]
  split
  · rfl
  · split
    · rfl
    · split <;> rfl
theorem negI_plain (a : Int) (hn : nanB a = false) : negI a = if a < 9223372036854775808 then a + 9223372036854775808 else a - 9223372036854775808 := by
  unfold negI; rw [if_neg (by rw [hn]; decide)]
theorem read_neg (a : Int) (h0 : 0 ≤ a) (h1 : a < 18446744073709551616) (hn : nanB a = false) : Ieee.double.read (negI a).toNat = (Ieee.double.read a.toNat).opposite := by
  rw [negI_plain a hn, read_turn a h0 h1]
theorem negI_nan (a : Int) : nanB (negI a) = nanB a := by
  cases hn : nanB a with
  | true => unfold negI; rw [if_pos hn]; decide
  | false => rw [negI_plain a hn, nan_turn, hn]
theorem sub_add (a b : Int) (h0 : 0 ≤ b) (h1 : b < 18446744073709551616) : opI .add a (negI b) = opI .sub a b := by
  have e : floatBits .add .f64 a.toNat (negI b).toNat = floatBits .sub .f64 a.toNat b.toNat := by
    show ((Ieee.double.read a.toNat).sum (Ieee.double.read (negI b).toNat)).map Ieee.double.write = ((Ieee.double.read a.toNat).sum (Ieee.double.read b.toNat).opposite).map Ieee.double.write
    cases hn : nanB b with
    | true =>
      have n1 : (Ieee.double.read (negI b).toNat).isNaN = true := by rw [nan_of _ (negI_range b h0 h1).1, negI_nan, hn]
      have n2 : (Ieee.double.read b.toNat).opposite.isNaN = true := by
        have : (Ieee.double.read b.toNat).isNaN = true := by rw [nan_of _ h0, hn]
        revert this
        cases Ieee.double.read b.toNat <;> simp [Datum.isNaN, Datum.opposite]
      rw [sum_nan _ _ n1, sum_nan _ _ n2]
    | false => rw [read_neg b h0 h1 hn]
  unfold opI; rw [e]
theorem neg_neg (a : Int) (h0 : 0 ≤ a) (h1 : a < 18446744073709551616) (hn : nanB a = false) : negI (negI a) = a := by
  rw [negI_plain (negI a) (by rw [negI_nan, hn]), negI_plain a hn]
  split <;> split <;> omega
/-- no NaN but one -/
theorem negI_canon (a : Int) : nanB (negI a) = true → negI a = 9221120237041090560 := by
  intro h; rw [negI_nan] at h; unfold negI; rw [if_pos h]
theorem floorI_nan (a : Int) (h0 : 0 ≤ a) : nanB (floorI a) = nanB a := by
  unfold floorI
  cases hn : nanB a with
  | true => rw [if_pos rfl]; decide
  | false =>
    simp only [Bool.false_eq_true, if_false]
    exact write_plain _ (by rw [integral_plain, nan_of a h0, hn])
theorem floorI_canon (a : Int) (h0 : 0 ≤ a) : nanB (floorI a) = true → floorI a = 9221120237041090560 := by
  intro h; rw [floorI_nan a h0] at h; unfold floorI; rw [if_pos h]
theorem fromI_nan (i : Int) : nanB (fromI i) = false := nearest_plain _ _ _
theorem wideI_canon (n : Int) : nanB (wideI n) = true → wideI n = 9221120237041090560 := by
  intro h; rw [wideI_nan] at h; unfold wideI; rw [if_pos h]
end Go.Proofs.YtgdillnpehmcbaaGreatDoor.W.Nu
/- Plain facts on what package soft answers, by the exact numbers: whole numbers, floors, whole parts, sums, products and quotients that are exact. -/
namespace Go.Proofs.YtgdillnpehmcbaaGreatDoor.W.Nu
open Ieee

/-- 1, in units of the least number's place -/
def one1 : Nat := bigOf 1074
theorem one1_pos : 0 < one1 := bigOf_pos 1074
theorem pow_one1 {k : Nat} (h : k = 1074) : 2 ^ k = one1 := by rw [one1, ← h]; rfl
/-- the exact number of a pattern -/
def keyI (a : Int) : Int := key (Ieee.double.read a.toNat)
/-- a finite double's pattern -/
def finB (a : Int) : Bool := decide (a % 9223372036854775808 < 9218868437227405312)

theorem fin_read (a : Int) (h : finB a = true) : ∃ s m p, Ieee.double.read a.toNat = .number s m p := by
  rw [read_eq]
  simp only [finB, decide_eq_true_eq] at h
  split
  · exact ⟨_, _, _, rfl⟩
  · rw [if_pos (by omega)]; exact ⟨_, _, _, rfl⟩
theorem fin_of_read (a : Int) (h0 : 0 ≤ a) {s : Bool} {m : Nat} {p : Int} (h : Ieee.double.read a.toNat = .number s m p) : finB a = true := by
  rw [read_eq] at h
  simp only [finB, decide_eq_true_eq]
  split at h
  · omega
  · split at h
    · omega
    · split at h <;> cases h
theorem fin_nan (a : Int) (h : finB a = true) : nanB a = false := by
  simp only [finB, decide_eq_true_eq] at h
  simp only [nanB, decide_eq_false_iff_not]
  omega

theorem order_keyI (a b : Int) (h0 : 0 ≤ a) (h0' : a < 18446744073709551616) (h1 : 0 ≤ b) (h1' : b < 18446744073709551616) (na : nanB a = false) (nb : nanB b = false) :
    Ieee.double.order a.toNat b.toNat = some (compare (keyI a) (keyI b)) :=
  order_key (by omega) (by omega) (by rw [nan_of a h0, na]) (by rw [nan_of b h1, nb])
theorem cmp_lt (x y : Int) : (some (compare x y) == some Ordering.lt) = decide (x < y) := by
  simp only [compare, compareOfLessAndEq]
  by_cases h : x < y
  · simp [h]
  · by_cases g : x = y <;> simp [h, g]
theorem cmp_eq (x y : Int) : (some (compare x y) == some Ordering.eq) = decide (x = y) := by
  simp only [compare, compareOfLessAndEq]
  by_cases h : x < y
  · simp [h]; omega
  · by_cases g : x = y <;> simp [g, h]
theorem cmp_gt (x y : Int) : (some (compare x y) == some Ordering.gt) = decide (y < x) := by
  simp only [compare, compareOfLessAndEq]
  by_cases h : x < y
  · simp [h]; omega
  · by_cases g : x = y
    · simp [g]
    · simp [g, h]; omega
theorem lessI_key (a b : Int) (h0 : 0 ≤ a) (h0' : a < 18446744073709551616) (h1 : 0 ≤ b) (h1' : b < 18446744073709551616) (na : nanB a = false) (nb : nanB b = false) : lessI a b = decide (keyI a < keyI b) := by unfold lessI; rw [order_keyI a b h0 h0' h1 h1' na nb, cmp_lt]
theorem equalI_key (a b : Int) (h0 : 0 ≤ a) (h0' : a < 18446744073709551616) (h1 : 0 ≤ b) (h1' : b < 18446744073709551616) (na : nanB a = false) (nb : nanB b = false) : equalI a b = decide (keyI a = keyI b) := by unfold equalI; rw [order_keyI a b h0 h0' h1 h1' na nb, cmp_eq]
theorem lessEqI_key (a b : Int) (h0 : 0 ≤ a) (h0' : a < 18446744073709551616) (h1 : 0 ≤ b) (h1' : b < 18446744073709551616) (na : nanB a = false) (nb : nanB b = false) : lessEqI a b = decide (keyI a ≤ keyI b) := by
  unfold lessEqI
  rw [order_keyI a b h0 h0' h1 h1' na nb, cmp_lt, cmp_eq, Bool.eq_iff_iff]
  simp; omega
theorem order_nan (a b : Int) (h0 : 0 ≤ a) (h1 : 0 ≤ b) (h : nanB a = true ∨ nanB b = true) : Ieee.double.order a.toNat b.toNat = none := by
  have e : (Ieee.double.read a.toNat).isNaN = true ∨ (Ieee.double.read b.toNat).isNaN = true := by rw [nan_of a h0, nan_of b h1]; exact h
  unfold Format.order
  cases ea : Ieee.double.read a.toNat <;> cases eb : Ieee.double.read b.toNat <;> rw [ea, eb] at e <;> simp [Datum.isNaN] at e <;> rfl
theorem less_nan (a b : Int) (h0 : 0 ≤ a) (h1 : 0 ≤ b) (h : nanB a = true ∨ nanB b = true) : lessI a b = false ∧ equalI a b = false ∧ lessEqI a b = false := by
  unfold lessI equalI lessEqI
  rw [order_nan a b h0 h1 h]
  exact ⟨rfl, rfl, rfl⟩

/-! ### whole numbers -/
/-- the double nearest to a whole number of at most 53 digits is that number -/
theorem nearest_key (s : Bool) (n : Nat) (hn : n ≤ 9007199254740992) :
    ∃ m p, Ieee.double.read (Ieee.double.nearest s n 0) = .number s m p ∧ -1074 ≤ p ∧ p ≤ 1 ∧ m * 2 ^ (p + 1074).toNat = n * one1 := by
  by_cases h : n < 9007199254740992
  · obtain ⟨m, p, e, q1, q2, q3⟩ := read_nearest s n 0 h (by omega) (by omega)
    refine ⟨m, p, e, q1, by omega, ?_⟩
    rw [q3, Nat.mul_assoc, ← Nat.pow_add, pow_one1 (by omega)]
  · have e0 : n = 4503599627370496 * 2 ^ 1 := by omega
    have e1 : Ieee.double.nearest s n 0 = Ieee.double.nearest s 4503599627370496 1 := by
      rw [e0]; exact nearest_shift Ieee.double s 4503599627370496 1 1
    obtain ⟨m, p, e, q1, q2, q3⟩ := read_nearest s 4503599627370496 1 (by omega) (by omega) (by omega)
    rw [e1]
    refine ⟨m, p, e, q1, by omega, ?_⟩
    have e2 : 2 ^ ((1 - p).toNat + (p + 1074).toNat) = 2 ^ 1 * one1 := by
      rw [← pow_one1 (k := (1 - p).toNat + (p + 1074).toNat - 1) (by omega), ← Nat.pow_add]
      congr 1; omega
    rw [q3, e0, Nat.mul_assoc, Nat.mul_assoc, ← Nat.pow_add, e2]
theorem sgn_mul (i : Int) (s : Bool) (hs : i ≠ 0 → s = decide (i < 0)) : (if s then -1 else 1) * (i.natAbs : Int) = i := by
  by_cases h : i = 0
  · subst h; cases s <;> rfl
  · rw [hs h]
    by_cases g : i < 0
    · simp [g]; omega
    · simp [g]; omega
theorem fromI_key (i : Int) (hi : i.natAbs ≤ 9007199254740992) : finB (fromI i) = true ∧ keyI (fromI i) = i * one1 := by
  obtain ⟨m, p, e, q1, q2, q3⟩ := nearest_key (decide (i < 0)) i.natAbs hi
  have e' : Ieee.double.read (fromI i).toNat = .number (decide (i < 0)) m p := e
  refine ⟨fin_of_read _ (fromI_range i).1 e', ?_⟩
  unfold keyI
  rw [e', key, signed_eq, q3, Int.natCast_mul, ← Int.mul_assoc, sgn_mul i _ (fun _ => rfl)]

/-- where a quotient by one lies -/
theorem quo_unique (q t : Int) (k : Int) (h1 : q * one1 ≤ k) (h2 : k < q * one1 + one1) (h3 : t * one1 ≤ k) (h4 : k < t * one1 + one1) : q = t := by
  have p : (0 : Int) < one1 := by have := one1_pos; omega
  have a : q < t + 1 := Int.lt_of_mul_lt_mul_right (a := (one1 : Int)) (by rw [Int.add_mul]; omega) (by omega)
  have b : t < q + 1 := Int.lt_of_mul_lt_mul_right (a := (one1 : Int)) (by rw [Int.add_mul]; omega) (by omega)
  omega
end Go.Proofs.YtgdillnpehmcbaaGreatDoor.W.Nu
/- Plain facts on what package soft answers, by the exact numbers: whole parts, floors, sums, differences, products and quotients that are exact. -/
namespace Go.Proofs.YtgdillnpehmcbaaGreatDoor.W.Nu
open Ieee

theorem quo_scale (n g c : Nat) (hg : 0 < g) (hc : 0 < c) : n / g * (g * c) ≤ n * c ∧ n * c < n / g * (g * c) + g * c := by
  have h1 := Nat.div_add_mod n g
  have h2 := Nat.mod_lt n hg
  have e : n * c = n / g * (g * c) + n % g * c := by
    have : n = n / g * g + n % g := by rw [Nat.mul_comm]; omega
    conv => lhs; rw [this]
    rw [Nat.add_mul, Nat.mul_assoc]
  have h3 : n % g * c < g * c := Nat.mul_lt_mul_of_pos_right h2 hc
  omega
theorem up_scale (n g c : Nat) (hg : 0 < g) (hc : 0 < c) : n * c ≤ (n / g + if n % g ≠ 0 then 1 else 0) * (g * c) ∧ (n / g + if n % g ≠ 0 then 1 else 0) * (g * c) < n * c + g * c := by
  have h1 := Nat.div_add_mod n g
  have h2 := Nat.mod_lt n hg
  have e : n * c = n / g * (g * c) + n % g * c := by
    have : n = n / g * g + n % g := by rw [Nat.mul_comm]; omega
    conv => lhs; rw [this]
    rw [Nat.add_mul, Nat.mul_assoc]
  have h3 : n % g * c < g * c := Nat.mul_lt_mul_of_pos_right h2 hc
  have h4 : 0 < g * c := Nat.mul_pos hg hc
  by_cases h : n % g = 0
  · rw [if_neg (by omega), Nat.add_zero]
    rw [h, Nat.zero_mul] at e
    omega
  · rw [if_pos h, Nat.add_mul, Nat.one_mul]
    have h5 : 0 < n % g * c := Nat.mul_pos (by omega) hc
    omega

/-- a double's whole part -/
def truncI (a : Int) : Int := match Ieee.double.read a.toNat with | .number s m p => signed s (m * 2 ^ p.toNat / 2 ^ (-p).toNat) 0 | _ => 0
theorem signed_v (s : Bool) (m k : Nat) : signed s m k = if s then -((m * 2 ^ k : Nat) : Int) else ((m * 2 ^ k : Nat) : Int) := by
  unfold signed; rw [Nat.shiftLeft_eq]
theorem trunc_some (a : Int) (h : finB a = true) : (Ieee.double.read a.toNat).toInt .zero = some (truncI a) := by
  obtain ⟨s, m, p, e⟩ := fin_read a h
  unfold truncI
  rw [e]
  show some (signed s (Toward.zero.cut s (m <<< p.toNat) (-p).toNat) 0) = _
  rw [cut_zero, Nat.shiftLeft_eq]
/-- a number's parts, scaled to the least number's place -/
theorem scale_eq (m : Nat) (p : Int) (h1 : -1074 ≤ p) : m * 2 ^ (p + 1074).toNat = m * 2 ^ p.toNat * 2 ^ (1074 - (-p).toNat) ∧ one1 = 2 ^ (-p).toNat * 2 ^ (1074 - (-p).toNat) := by
  constructor
  · rw [Nat.mul_assoc, ← Nat.pow_add]; congr 2; omega
  · rw [← Nat.pow_add, pow_one1 (by omega)]
theorem trunc_key (a : Int) (h0' : a < 18446744073709551616) (h : finB a = true) :
    (0 ≤ keyI a → truncI a * one1 ≤ keyI a ∧ keyI a < truncI a * one1 + one1) ∧ (keyI a ≤ 0 → keyI a ≤ truncI a * one1 ∧ truncI a * one1 - one1 < keyI a) := by
  obtain ⟨s, m, p, e⟩ := fin_read a h
  obtain ⟨q1, q2, q3, q4, q5⟩ := read_number (by omega) e
  obtain ⟨e1, e2⟩ := scale_eq m p q2
  have hs := quo_scale (m * 2 ^ p.toNat) (2 ^ (-p).toNat) (2 ^ (1074 - (-p).toNat)) (Nat.two_pow_pos _) (Nat.two_pow_pos _)
  unfold keyI truncI
  rw [e]
  simp only [key, signed_v, Nat.pow_zero, Nat.mul_one]
  rw [← e2, ← e1] at hs
  have hp := one1_pos
  generalize m * 2 ^ p.toNat / 2 ^ (-p).toNat = T at *
  generalize m * 2 ^ (p + 1074).toNat = V at *
  obtain ⟨g1, g2⟩ := hs
  have g1' : (T : Int) * one1 ≤ V := by exact_mod_cast g1
  have g2' : (V : Int) < (T : Int) * one1 + one1 := by exact_mod_cast g2
  cases s
  · simp only [Bool.false_eq_true, if_false]; omega
  · simp only [if_true, Int.neg_mul]; omega

theorem key_top : keyI 4890909195324358656 = 9223372036854775808 * one1 := by
  have e : Ieee.double.read (4890909195324358656 : Int).toNat = .number false 4503599627370496 11 := by decide +kernel
  unfold keyI
  rw [e]
  simp only [key, signed_v, Bool.false_eq_true, if_false]
  have e2 : 2 ^ ((11 : Int) + 1074).toNat = 2 ^ 11 * one1 := by rw [← pow_one1 (k := ((11 : Int) + 1074).toNat - 11) (by decide), ← Nat.pow_add]; congr 1
  rw [e2]; omega
theorem key_bot : keyI 14114281232179134464 = -9223372036854775808 * one1 := by
  have e : Ieee.double.read (14114281232179134464 : Int).toNat = .number true 4503599627370496 11 := by decide +kernel
  unfold keyI
  rw [e]
  simp only [key, signed_v, if_true]
  have e2 : 2 ^ ((11 : Int) + 1074).toNat = 2 ^ 11 * one1 := by rw [← pow_one1 (k := ((11 : Int) + 1074).toNat - 11) (by decide), ← Nat.pow_add]; congr 1
  rw [e2]; omega
theorem fits_key (a : Int) (h0 : 0 ≤ a) (h0' : a < 18446744073709551616) (na : nanB a = false) :
    fitsB a = decide (-9223372036854775808 * one1 ≤ keyI a ∧ keyI a < 9223372036854775808 * one1) := by
  have o1 := order_keyI a 14114281232179134464 h0 h0' (by decide) (by decide) na (by decide)
  have o2 := order_keyI a 4890909195324358656 h0 h0' (by decide) (by decide) na (by decide)
  unfold fitsB
  rw [show (14114281232179134464 : Nat) = (14114281232179134464 : Int).toNat from rfl, show (4890909195324358656 : Nat) = (4890909195324358656 : Int).toNat from rfl, o1, o2, cmp_gt, cmp_eq, cmp_lt, key_top, key_bot, Bool.eq_iff_iff]
  simp
  omega
theorem trunc_val (a : Int) (h0' : a < 18446744073709551616) (h : finB a = true) (h1 : -9223372036854775808 * (one1 : Int) ≤ keyI a) (h2 : keyI a < 9223372036854775808 * one1) :
    floatToIntVal .f64 a.toNat .i64 = some (truncI a) := by
  have hr : -9223372036854775808 ≤ truncI a ∧ truncI a ≤ 9223372036854775807 := by
    obtain ⟨k1, k2⟩ := trunc_key a h0' h
    have p : (0 : Int) < one1 := by have := one1_pos; omega
    by_cases g : 0 ≤ keyI a
    · obtain ⟨g1, g2⟩ := k1 g
      have b1 : truncI a < 9223372036854775808 := Int.lt_of_mul_lt_mul_right (a := (one1 : Int)) (by omega) (by omega)
      have b2 : -1 < truncI a := Int.lt_of_mul_lt_mul_right (a := (one1 : Int)) (by omega) (by omega)
      omega
    · obtain ⟨g1, g2⟩ := k2 (by omega)
      have b1 : truncI a < 1 := Int.lt_of_mul_lt_mul_right (a := (one1 : Int)) (by omega) (by omega)
      have b2 : -9223372036854775809 < truncI a := Int.lt_of_mul_lt_mul_right (a := (one1 : Int)) (by omega) (by omega)
      omega
  unfold floatToIntVal
  have e : (FloatKind.f64.decode a.toNat).toInt .zero = some (truncI a) := trunc_some a h
  rw [e]
  exact if_pos hr

/-! ### floors -/
theorem floor_read (a : Int) (h0 : 0 ≤ a) (h0' : a < 18446744073709551616) (h : finB a = true) {s : Bool} {m : Nat} {p : Int} (e : Ieee.double.read a.toNat = .number s m p) :
    floorI a = (Ieee.double.nearest s (m * 2 ^ p.toNat / 2 ^ (-p).toNat + if s = true ∧ m * 2 ^ p.toNat % 2 ^ (-p).toNat ≠ 0 then 1 else 0) 0 : Nat) ∧ (0 ≤ p → floorI a = a) := by
  have e1 : floorI a = (Ieee.double.nearest s (m * 2 ^ p.toNat / 2 ^ (-p).toNat + if s = true ∧ m * 2 ^ p.toNat % 2 ^ (-p).toNat ≠ 0 then 1 else 0) 0 : Nat) := by
    unfold floorI
    rw [if_neg (by rw [fin_nan a h]; decide), e]
    show ((Ieee.double.nearest s (Toward.down.cut s (m <<< p.toNat) (-p).toNat) 0 : Nat) : Int) = _
    rw [cut_down, Nat.shiftLeft_eq]
  refine ⟨e1, fun hp => ?_⟩
  rw [e1]
  have e2 : (-p).toNat = 0 := by omega
  rw [e2, Nat.pow_zero, Nat.div_one, Nat.mod_one, if_neg (by simp), Nat.add_zero]
  have e3 : Ieee.double.nearest s (m * 2 ^ p.toNat) 0 = Ieee.double.nearest s m p := nearest_same Ieee.double s _ m 0 p 0 (by omega) (by omega) (by simp)
  rw [e3, write_read (by omega) e]
  omega
theorem floor_key (a : Int) (h0 : 0 ≤ a) (h0' : a < 18446744073709551616) (h : finB a = true) :
    finB (floorI a) = true ∧ floorI (floorI a) = floorI a ∧ ∃ q : Int, keyI (floorI a) = q * one1 ∧ q * one1 ≤ keyI a ∧ keyI a < q * one1 + one1 := by
  obtain ⟨s, m, p, e⟩ := fin_read a h
  obtain ⟨q1, q2, q3, q4, q5⟩ := read_number (by omega) e
  obtain ⟨f1, f2⟩ := floor_read a h0 h0' h e
  have hp1 := one1_pos
  by_cases hp : 0 ≤ p
  · rw [f2 hp]
    refine ⟨h, f2 hp, (if s then -1 else 1) * ((m * 2 ^ p.toNat : Nat) : Int), ?_⟩
    have e2 : keyI a = (if s then -1 else 1) * ((m * 2 ^ p.toNat : Nat) : Int) * one1 := by
      unfold keyI
      rw [e, key, signed_eq, Int.mul_assoc, ← Int.natCast_mul, Nat.mul_assoc, ← pow_one1 (k := (p + 1074).toNat - p.toNat) (by omega), ← Nat.pow_add]
      congr 5; omega
    refine ⟨e2, by omega, by omega⟩
  · -- the number of whole units
    have hg : 2 ≤ 2 ^ (-p).toNat := by
      have : 2 ^ 1 ≤ 2 ^ (-p).toNat := Nat.pow_le_pow_right (by omega) (by omega)
      omega
    have e0 : p.toNat = 0 := by omega
    rw [e0, Nat.pow_zero, Nat.mul_one] at f1
    obtain ⟨e1, e2⟩ := scale_eq m p q2
    rw [e0, Nat.pow_zero, Nat.mul_one] at e1
    have hd := quo_scale m (2 ^ (-p).toNat) (2 ^ (1074 - (-p).toNat)) (Nat.two_pow_pos _) (Nat.two_pow_pos _)
    have hu := up_scale m (2 ^ (-p).toNat) (2 ^ (1074 - (-p).toNat)) (Nat.two_pow_pos _) (Nat.two_pow_pos _)
    rw [← e2, ← e1] at hd hu
    have hm2 : m / 2 ^ (-p).toNat ≤ m / 2 := Nat.div_le_div_left hg (by omega)
    generalize hc : m / 2 ^ (-p).toNat + (if s = true ∧ m % 2 ^ (-p).toNat ≠ 0 then 1 else 0) = c at *
    have hc2 : c < 9007199254740992 := by
      rw [← hc]; split <;> omega
    obtain ⟨m', p', r, r1, r2, r3⟩ := read_nearest s c 0 hc2 (by omega) (by omega)
    have r' : Ieee.double.read (floorI a).toNat = .number s m' p' := by rw [f1]; exact r
    have hf : finB (floorI a) = true := fin_of_read _ (floorI_range a).1 r'
    refine ⟨hf, ?_, (if s then -1 else 1) * (c : Int), ?_⟩
    · have hff := (floor_read (floorI a) (floorI_range a).1 (floorI_range a).2 hf r').1
      rw [hff, f1, show p'.toNat = 0 from by omega, Nat.pow_zero, Nat.mul_one, r3, show (0 - p').toNat = (-p').toNat from by omega, Nat.mul_div_cancel _ (Nat.two_pow_pos _), Nat.mul_mod_left, if_neg (by simp), Nat.add_zero]
    · have k1 : keyI (floorI a) = (if s then -1 else 1) * (c : Int) * one1 := by
        unfold keyI
        rw [r', key, signed_eq, r3, Nat.mul_assoc, ← Nat.pow_add, pow_one1 (by omega), Int.mul_assoc, ← Int.natCast_mul]
      refine ⟨k1, ?_⟩
      unfold keyI
      rw [e]
      simp only [key, signed_v]
      generalize m * 2 ^ (p + 1074).toNat = V at *
      obtain ⟨d1, d2⟩ := hd
      obtain ⟨u1, u2⟩ := hu
      cases s
      · have hcc : m / 2 ^ (-p).toNat = c := by rw [← hc]; simp
        rw [hcc] at d1 d2
        have d1' : (c : Int) * one1 ≤ V := by exact_mod_cast d1
        have d2' : (V : Int) < (c : Int) * one1 + one1 := by exact_mod_cast d2
        simp only [Bool.false_eq_true, if_false, Int.one_mul]
        omega
      · have hcc : (m / 2 ^ (-p).toNat + if m % 2 ^ (-p).toNat ≠ 0 then 1 else 0) = c := by rw [← hc]; simp
        rw [hcc] at u1 u2
        have u1' : (V : Int) ≤ (c : Int) * one1 := by exact_mod_cast u1
        have u2' : (c : Int) * one1 < (V : Int) + one1 := by exact_mod_cast u2
        simp only [if_true, Int.neg_mul, Int.one_mul]
        omega
theorem floor_inf (a : Int) (h0 : 0 ≤ a) (h0' : a < 18446744073709551616) (hn : nanB a = false) (hf : finB a = false) : floorI a = a := by
  have e : ∃ s, Ieee.double.read a.toNat = .infinity s := by
    cases e : Ieee.double.read a.toNat with
    | infinity s => exact ⟨s, rfl⟩
    | number s m p => rw [fin_of_read a h0 e] at hf; cases hf
    | nan s t => have := nan_of a h0; rw [e, hn] at this; cases this
  obtain ⟨s, e⟩ := e
  unfold floorI
  rw [if_neg (by rw [hn]; decide), e]
  show ((Ieee.double.write (.infinity s) : Nat) : Int) = a
  rw [write_inf (by omega) e]
  omega
end Go.Proofs.YtgdillnpehmcbaaGreatDoor.W.Nu
/- Plain facts on what package soft answers, by the exact numbers: sums, products and quotients of whole numbers; by one, by itself. -/
namespace Go.Proofs.YtgdillnpehmcbaaGreatDoor.W.Nu
open Ieee

theorem one1_sq {k : Nat} (h : k = 2148) : 2 ^ k = one1 * one1 := by
  have e : k - 1074 + (k - 1074) = k := by omega
  rw [← pow_one1 (k := k - 1074) (by omega), ← Nat.pow_add, e]
theorem one1_int : (0 : Int) < one1 := by have := one1_pos; omega
/-- a number that is whole, cut to its whole part -/
theorem trunc_whole (x k : Int) (r1 : 0 ≤ x) (r2 : x < 18446744073709551616) (hf : finB x = true) (hk : keyI x = k * one1) (h1 : -9223372036854775808 ≤ k) (h2 : k < 9223372036854775808) :
    floatToIntVal .f64 x.toNat .i64 = some k ∧ fitsB x = true := by
  have p := one1_int
  have b1 : -9223372036854775808 * (one1 : Int) ≤ keyI x := by rw [hk]; exact Int.mul_le_mul_of_nonneg_right h1 (by omega)
  have b2 : keyI x < 9223372036854775808 * one1 := by rw [hk]; exact Int.mul_lt_mul_of_pos_right (by omega) p
  have hv := trunc_val x r2 hf b1 b2
  have ht : truncI x = k := by
    obtain ⟨t1, t2⟩ := trunc_key x r2 hf
    rw [hk] at t1 t2
    by_cases g : 0 ≤ k
    · obtain ⟨u1, u2⟩ := t1 (Int.mul_nonneg g (by omega))
      exact quo_unique _ _ _ u1 u2 (Int.le_refl _) (by omega)
    · obtain ⟨u1, u2⟩ := t2 (Int.mul_nonpos_of_nonpos_of_nonneg (by omega) (by omega))
      exact (quo_unique k _ _ u1 (by omega) (Int.le_refl _) (by omega)).symm
  rw [ht] at hv
  refine ⟨hv, ?_⟩
  rw [fits_key x r1 r2 (fin_nan x hf)]
  simp only [decide_eq_true_eq]
  exact ⟨b1, b2⟩

theorem key_opposite (d : Datum) : key d.opposite = -key d := by
  cases d with
  | number s m p => simp only [Datum.opposite, key, signed_v]; cases s <;> simp
  | infinity s => simp only [Datum.opposite, key]; cases s <;> simp
  | nan s t => rfl
theorem keyI_neg (b : Int) (h0 : 0 ≤ b) (h1 : b < 18446744073709551616) (hn : nanB b = false) : keyI (negI b) = -keyI b := by
  unfold keyI; rw [read_neg b h0 h1 hn, key_opposite]
theorem finB_neg (b : Int) (hf : finB b = true) : finB (negI b) = true := by
  rw [negI_plain b (fin_nan b hf)]
  simp only [finB, decide_eq_true_eq] at *
  split <;> omega

/-- what nearest writes of a whole number, by its exact number -/
theorem near_key (s : Bool) (m : Nat) (p : Int) (i : Int) (h1 : -2148 ≤ p) (hi : i.natAbs ≤ 9007199254740992) (hv : m * 2 ^ (p + 2148).toNat = i.natAbs * (one1 * one1)) (hs : i ≠ 0 → s = decide (i < 0)) :
    finB (Ieee.double.nearest s m p : Nat) = true ∧ keyI (Ieee.double.nearest s m p : Nat) = i * one1 := by
  have e1 : Ieee.double.nearest s m p = Ieee.double.nearest s i.natAbs 0 := by
    refine nearest_same Ieee.double s m i.natAbs p 0 (-2148) h1 (by omega) ?_
    rw [show p - -2148 = p + 2148 from by omega, hv, one1_sq (by decide)]
  obtain ⟨m', p', e, q1, q2, q3⟩ := nearest_key s i.natAbs hi
  rw [e1]
  have e' : Ieee.double.read ((Ieee.double.nearest s i.natAbs 0 : Nat) : Int).toNat = .number s m' p' := e
  refine ⟨fin_of_read _ (by omega) e', ?_⟩
  unfold keyI
  rw [e', key, signed_eq, q3, Int.natCast_mul, ← Int.mul_assoc, sgn_mul i s hs]
theorem sign_key {s : Bool} {V : Nat} {i : Int} (h : (if s then -(V : Int) else (V : Int)) = i * one1) (hi : i ≠ 0) : s = decide (i < 0) := by
  have p := one1_int
  by_cases g : i < 0
  · have : i * (one1 : Int) < 0 := Int.mul_neg_of_neg_of_pos g p
    cases s
    · simp at h; omega
    · simp [g]
  · have : 0 < i * (one1 : Int) := Int.mul_pos (by omega) p
    cases s
    · simp [g]
    · simp at h; omega
theorem abs_key {s : Bool} {V : Nat} {i : Int} (h : (if s then -(V : Int) else (V : Int)) = i * one1) : V = i.natAbs * one1 := by
  have e : (i * (one1 : Int)).natAbs = i.natAbs * one1 := by rw [Int.natAbs_mul, Int.natAbs_natCast]
  rw [← e, ← h]
  cases s <;> simp

theorem add_exact (a b i : Int) (a1 : a < 18446744073709551616) (b1 : b < 18446744073709551616) (fa : finB a = true) (fb : finB b = true)
    (h : keyI a + keyI b = i * one1) (hi : i.natAbs ≤ 9007199254740992) : finB (opI .add a b) = true ∧ keyI (opI .add a b) = i * one1 := by
  obtain ⟨s, m, p, ea⟩ := fin_read a fa
  obtain ⟨t, n, q, eb⟩ := fin_read b fb
  obtain ⟨-, hp, -, -, -⟩ := read_number (by omega) ea
  obtain ⟨-, hq, -, -, -⟩ := read_number (by omega) eb
  have P := one1_int
  unfold keyI at h
  rw [ea, eb] at h
  simp only [key] at h
  have e1 : (p + 1074).toNat = (p - min p q).toNat + (min p q + 1074).toNat := by omega
  have e2 : (q + 1074).toNat = (q - min p q).toNat + (min p q + 1074).toNat := by omega
  rw [e1, e2, signed_add, signed_add, ← Int.add_mul] at h
  have e3 : opI .add a b = (Ieee.double.nearest (if signed s m (p - min p q).toNat + signed t n (q - min p q).toNat = 0 then s && t else decide (signed s m (p - min p q).toNat + signed t n (q - min p q).toNat < 0)) (signed s m (p - min p q).toNat + signed t n (q - min p q).toNat).natAbs (min p q) : Nat) := by
    unfold opI
    have : floatBits .add .f64 a.toNat b.toNat = ((Ieee.double.read a.toNat).sum (Ieee.double.read b.toNat)).map Ieee.double.write := rfl
    rw [this, ea, eb]
    rfl
  rw [e3]
  generalize signed s m (p - min p q).toNat + signed t n (q - min p q).toNat = T at *
  have hB : (0 : Int) < ((2 ^ (min p q + 1074).toNat : Nat) : Int) := by have := Nat.two_pow_pos (min p q + 1074).toNat; omega
  refine near_key _ _ _ i (by omega) hi ?_ ?_
  · have e4 : T.natAbs * 2 ^ (min p q + 1074).toNat = i.natAbs * one1 := by
      have := congrArg Int.natAbs h
      rw [Int.natAbs_mul, Int.natAbs_mul, Int.natAbs_natCast, Int.natAbs_natCast] at this
      exact this
    have e5 : 2 ^ (min p q + 2148).toNat = 2 ^ (min p q + 1074).toNat * one1 := by
      rw [← pow_one1 (k := (min p q + 2148).toNat - (min p q + 1074).toNat) (by omega), ← Nat.pow_add]; congr 1; omega
    rw [e5, ← Nat.mul_assoc, e4, Nat.mul_assoc]
  · intro hi0
    have hT : T ≠ 0 := by
      intro hT
      rw [hT, Int.zero_mul] at h
      rcases Int.mul_eq_zero.1 h.symm with g | g <;> omega
    rw [if_neg hT]
    congr 1
    apply propext
    constructor
    · intro g
      have := Int.mul_neg_of_neg_of_pos g hB
      rw [h] at this
      exact Int.not_le.1 (fun g' => by have := Int.mul_nonneg g' (Int.le_of_lt P); omega)
    · intro g
      have := Int.mul_neg_of_neg_of_pos g P
      rw [← h] at this
      exact Int.not_le.1 (fun g' => by have := Int.mul_nonneg g' (Int.le_of_lt hB); omega)

theorem mul_exact (a b i j : Int) (a1 : a < 18446744073709551616) (b1 : b < 18446744073709551616) (fa : finB a = true) (fb : finB b = true)
    (ha : keyI a = i * one1) (hb : keyI b = j * one1) (hi : (i * j).natAbs ≤ 9007199254740992) : finB (opI .mul a b) = true ∧ keyI (opI .mul a b) = i * j * one1 := by
  obtain ⟨s, m, p, ea⟩ := fin_read a fa
  obtain ⟨t, n, q, eb⟩ := fin_read b fb
  obtain ⟨-, hp, -, -, -⟩ := read_number (by omega) ea
  obtain ⟨-, hq, -, -, -⟩ := read_number (by omega) eb
  unfold keyI at ha hb
  rw [ea] at ha
  rw [eb] at hb
  simp only [key, signed_v] at ha hb
  have e3 : opI .mul a b = (Ieee.double.nearest (s ^^ t) (m * n) (p + q) : Nat) := by
    unfold opI
    have : floatBits .mul .f64 a.toNat b.toNat = ((Ieee.double.read a.toNat).product (Ieee.double.read b.toNat)).map Ieee.double.write := rfl
    rw [this, ea, eb]
    rfl
  rw [e3]
  refine near_key _ _ _ (i * j) (by omega) hi ?_ ?_
  · have e5 : 2 ^ (p + q + 2148).toNat = 2 ^ (p + 1074).toNat * 2 ^ (q + 1074).toNat := by rw [← Nat.pow_add]; congr 1; omega
    rw [e5, Int.natAbs_mul]
    have v1 := abs_key ha
    have v2 := abs_key hb
    rw [Nat.mul_mul_mul_comm, v1, v2, Nat.mul_mul_mul_comm]
  · intro hij
    have i0 : i ≠ 0 := fun h => hij (by rw [h, Int.zero_mul])
    have j0 : j ≠ 0 := fun h => hij (by rw [h, Int.mul_zero])
    rw [sign_key ha i0, sign_key hb j0]
    by_cases g1 : i < 0 <;> by_cases g2 : j < 0
    · have : 0 < i * j := Int.mul_pos_of_neg_of_neg g1 g2
      have h3 : ¬ i * j < 0 := by omega
      simp [g1, g2, h3]
    · have : i * j < 0 := Int.mul_neg_of_neg_of_pos g1 (by omega)
      simp [g1, g2, this]
    · have : i * j < 0 := Int.mul_neg_of_pos_of_neg (by omega) g2
      simp [g1, g2, this]
    · have : 0 < i * j := Int.mul_pos (by omega) (by omega)
      have h3 : ¬ i * j < 0 := by omega
      simp [g1, g2, h3]
end Go.Proofs.YtgdillnpehmcbaaGreatDoor.W.Nu
