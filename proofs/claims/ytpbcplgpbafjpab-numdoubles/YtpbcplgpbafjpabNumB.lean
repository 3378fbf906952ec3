/- Contracts of package num: two numbers, of whatever kinds. -/
import Derived.Test.YtpbcplgpbafjpabNumE
namespace Go.Proofs.Ytpbcplgpbafjpab.W
open Go.ChangeShapes Go.WideShapes Go.RowKit
theorem far3 {w : World} {A B : Array Value} {n : Nat} {b : Nat} (hb : n + 1 < b) (fA : ∀ i, w.cell? ⟨n, i, none⟩ = A[i]?) (fB : ∀ i, w.cell? ⟨n + 1, i, none⟩ = B[i]?) (x y z : Value) :
    (∀ i, (((w.setCell ⟨b, 0, none⟩ x).setCell ⟨b, 1, none⟩ y).setCell ⟨b, 2, none⟩ z).cell? ⟨n, i, none⟩ = A[i]?) ∧ (∀ i, (((w.setCell ⟨b, 0, none⟩ x).setCell ⟨b, 1, none⟩ y).setCell ⟨b, 2, none⟩ z).cell? ⟨n + 1, i, none⟩ = B[i]?) := by
  have h1 : b ≠ n := by omega
  have h2 : b ≠ n + 1 := by omega
  constructor <;> intro i
  · rw [World.cell?_setCell_far _ _ _ _ h1, World.cell?_setCell_far _ _ _ _ h1, World.cell?_setCell_far _ _ _ _ h1, fA]
  · rw [World.cell?_setCell_far _ _ _ _ h2, World.cell?_setCell_far _ _ _ _ h2, World.cell?_setCell_far _ _ _ _ h2, fB]
theorem softAdd_g (a b : Int) (w : World) : Calls Try.prog 26 #[.int .u64 a, .int .u64 b] w fun e w' => e = .returned (.int .u64 (opI .add a b)) ∧ Gr w w' := (softAdd_c a b w).mono fun _ _ ⟨h, m, k⟩ => ⟨h, Gr.of_same m k⟩
theorem softSub_g (a b : Int) (w : World) : Calls Try.prog 29 #[.int .u64 a, .int .u64 b] w fun e w' => e = .returned (.int .u64 (opI .sub a b)) ∧ Gr w w' := (softSub_c a b w).mono fun _ _ ⟨h, m, k⟩ => ⟨h, Gr.of_same m k⟩
theorem softMul_g (a b : Int) (w : World) : Calls Try.prog 31 #[.int .u64 a, .int .u64 b] w fun e w' => e = .returned (.int .u64 (opI .mul a b)) ∧ Gr w w' := (softMul_c a b w).mono fun _ _ ⟨h, m, k⟩ => ⟨h, Gr.of_same m k⟩
theorem softDiv_g (a b : Int) (w : World) : Calls Try.prog 21 #[.int .u64 a, .int .u64 b] w fun e w' => e = .returned (.int .u64 (opI .quo a b)) ∧ Gr w w' := (softDiv_c a b w).mono fun _ _ ⟨h, m, k⟩ => ⟨h, Gr.of_same m k⟩
/-- what Mod answers of two doubles -/
def modD (a b : Int) : Int := opI .sub a (opI .mul b (floorI (opI .quo a b)))
set_option maxHeartbeats 800000 in
theorem floorDoubles_g (a b : Int) (w : World) :
    Calls Try.prog 39 #[.int .u64 a, .int .u64 b] w fun e w' => e = .returned (.int .u64 (floorI (opI .quo a b))) ∧ Gr w w' := by
  go_enter Try.func39, Try.ntmps39
  go_wp2_with (first | (go_at_call 21; refine (softDiv_c _ _ _).mono ?_; rintro e w' ⟨rfl, m, rfl⟩) | (go_at_call 44; refine (softFloor_c _ (opI_range _ _ _).1 _).mono ?_; rintro e w' ⟨rfl, m, rfl⟩))
  go_ret
  exact ⟨rfl, Gr.of_same _ rfl⟩
/-- what Add answers -/
def addR (a : Bool) (i u : Int) (b : Bool) (j v : Int) : Res := if a = true ∧ b = true then fitR (i + j) else okD (opI .add (bitsI a i u) (bitsI b j v))
set_option maxHeartbeats 2000000 in
theorem numAdd_mixed (a b : Bool) (i u j v : Int) (h : a = false ∨ b = false) (w : World) :
    Calls Try.prog 9 #[.agg #[.bool a, .int .i64 i, .int .u64 u], .agg #[.bool b, .int .i64 j, .int .u64 v]] w fun e w' => e = .returned (.tuple #[.agg #[.bool false, .int .i64 0, .int .u64 (opI .add (bitsI a i u) (bitsI b j v))], .int .i64 0]) ∧ Gr w w' := by
  have hk : (kindI a b == 0) = false := by rcases h with rfl | rfl <;> (try cases a) <;> (try cases b) <;> rfl
  clear h
  go_enter Try.func9, Try.ntmps9
  go_wp2_with (go_at_call 23; refine (kinds_c _ _ _ _ _ _ _).mono ?_; rintro e w' ⟨rfl, hg⟩; obtain ⟨fA, fB, fR, fz, hG⟩ := hg.three (Nat.zero_lt_succ _) (Nat.zero_lt_succ _) (Nat.zero_lt_succ _); clear hg; generalize hR : w.heap.size + 1 + 1 = bR at fR fz ⊢; replace hR : Hid (w.heap.size + 1 < bR) := by (show w.heap.size + 1 < bR); omega)
  go_region_held3 (fun w' => (∀ i_1, w'.cell? ⟨w.heap.size, i_1, none⟩ = #[Value.bool a, .int .i64 i, .int .u64 u][i_1]?) ∧ (∀ i, w'.cell? ⟨w.heap.size + 1, i, none⟩ = #[Value.bool b, .int .i64 j, .int .u64 v][i]?)) (first | exact ⟨fA, fB⟩ | exact far3 hR.out fA fB _ _ _) (first | (go_at_call 27; refine (bitsOf_c _ _ _ _).mono ?_; rintro e w' ⟨rfl, hg⟩; (try replace hg := hg.of_drew); replace fz := hg.thaw fR (Nat.zero_lt_succ _) fz; replace fA := hg.cells fA (Nat.zero_lt_succ _); replace fB := hg.cells fB (Nat.zero_lt_succ _); replace fR := hg.cells fR (Nat.zero_lt_succ _); replace hG := hG.trans hg; clear hg) | (go_at_call 26; refine (softAdd_g _ _ _).mono ?_; rintro e w' ⟨rfl, hg⟩; (try replace hg := hg.of_drew); replace fz := hg.thaw fR (Nat.zero_lt_succ _) fz; replace fA := hg.cells fA (Nat.zero_lt_succ _); replace fB := hg.cells fB (Nat.zero_lt_succ _); replace fR := hg.cells fR (Nat.zero_lt_succ _); replace hG := hG.trans hg; clear hg) | (go_at_call 25; refine (numDouble_c _ _).mono ?_; rintro e w' ⟨rfl, hg⟩; (try replace hg := hg.of_drew); replace fz := hg.thaw fR (Nat.zero_lt_succ _) fz; replace fA := hg.cells fA (Nat.zero_lt_succ _); replace fB := hg.cells fB (Nat.zero_lt_succ _); replace fR := hg.cells fR (Nat.zero_lt_succ _); replace hG := hG.trans hg; clear hg))
  all_goals go_wp2
  have hR' : w.heap.size ≤ bR := by have := hR.out; omega
  exact bodyPost_ret (v := .tuple #[.agg #[.bool false, .int .i64 0, .int .u64 (opI .add (bitsI a i u) (bitsI b j v))], .int .i64 0]) (by simp [results, Try.results9, go_sem, fR]) rfl ⟨rfl, ((hG.store hR' _).store hR' _).store hR' _⟩
set_option maxHeartbeats 2000000 in
theorem numAdd_whole (i u j v : Int) (xw : Bool) (xi xu xe : Int) (c : ∀ w, Calls Try.prog 24 #[.int .i64 i, .int .i64 j] w fun e w' => e = .returned (.tuple #[.agg #[.bool xw, .int .i64 xi, .int .u64 xu], .int .i64 xe]) ∧ Gr w w') (w : World) :
    Calls Try.prog 9 #[.agg #[.bool true, .int .i64 i, .int .u64 u], .agg #[.bool true, .int .i64 j, .int .u64 v]] w fun e w' => e = .returned (.tuple #[.agg #[.bool xw, .int .i64 xi, .int .u64 xu], .int .i64 xe]) ∧ Gr w w' := by
  have hk : kindI true true = 0 := rfl
  go_enter Try.func9, Try.ntmps9
  go_wp2_with (first | (go_at_call 23; refine (kinds_c _ _ _ _ _ _ _).mono ?_; rintro e w' ⟨rfl, hg⟩; obtain ⟨fA, fB, fR, fz, hG⟩ := hg.three (Nat.zero_lt_succ _) (Nat.zero_lt_succ _) (Nat.zero_lt_succ _); clear hg; generalize hR : w.heap.size + 1 + 1 = bR at fR fz ⊢; replace hR : Hid (w.heap.size + 1 < bR) := by (show w.heap.size + 1 < bR); omega) | (go_at_call 24; with_reducible refine (c _).mono ?_; rintro e w' ⟨rfl, hg⟩; (try replace hg := hg.of_drew); replace fz := hg.thaw fR (Nat.zero_lt_succ _) fz; replace fA := hg.cells fA (Nat.zero_lt_succ _); replace fB := hg.cells fB (Nat.zero_lt_succ _); replace fR := hg.cells fR (Nat.zero_lt_succ _); replace hG := hG.trans hg; clear hg))
  have hR' : w.heap.size ≤ bR := by have := hR.out; omega
  exact bodyPost_ret (v := .tuple #[.agg #[.bool xw, .int .i64 xi, .int .u64 xu], .int .i64 xe]) (by simp [results, Try.results9, go_sem, fR]) rfl ⟨rfl, ((hG.store hR' _).store hR' _).store hR' _⟩
theorem numAdd_c (a b : Bool) (i u j v : Int) (i0 : -9223372036854775808 ≤ i) (i1 : i < 9223372036854775808) (j0 : -9223372036854775808 ≤ j) (j1 : j < 9223372036854775808) (w : World) :
    Calls Try.prog 9 #[.agg #[.bool a, .int .i64 i, .int .u64 u], .agg #[.bool b, .int .i64 j, .int .u64 v]] w fun e w' => e = .returned (resV (addR a i u b j v)) ∧ Gr w w' := by
  unfold addR
  by_cases h : a = true ∧ b = true
  · rw [if_pos h]
    obtain ⟨rfl, rfl⟩ := h
    exact numAdd_whole i u j v _ _ _ _ (addW_c i j i0 i1 j0 j1) w
  · rw [if_neg h]
    exact numAdd_mixed a b i u j v (by revert h; cases a <;> cases b <;> simp) w
/-- what Sub answers -/
def subR (a : Bool) (i u : Int) (b : Bool) (j v : Int) : Res := if a = true ∧ b = true then fitR (i - j) else okD (opI .sub (bitsI a i u) (bitsI b j v))
set_option maxHeartbeats 2000000 in
theorem numSub_mixed (a b : Bool) (i u j v : Int) (h : a = false ∨ b = false) (w : World) :
    Calls Try.prog 11 #[.agg #[.bool a, .int .i64 i, .int .u64 u], .agg #[.bool b, .int .i64 j, .int .u64 v]] w fun e w' => e = .returned (.tuple #[.agg #[.bool false, .int .i64 0, .int .u64 (opI .sub (bitsI a i u) (bitsI b j v))], .int .i64 0]) ∧ Gr w w' := by
  have hk : (kindI a b == 0) = false := by rcases h with rfl | rfl <;> (try cases a) <;> (try cases b) <;> rfl
  clear h
  go_enter Try.func11, Try.ntmps11
  go_wp2_with (go_at_call 23; refine (kinds_c _ _ _ _ _ _ _).mono ?_; rintro e w' ⟨rfl, hg⟩; obtain ⟨fA, fB, fR, fz, hG⟩ := hg.three (Nat.zero_lt_succ _) (Nat.zero_lt_succ _) (Nat.zero_lt_succ _); clear hg; generalize hR : w.heap.size + 1 + 1 = bR at fR fz ⊢; replace hR : Hid (w.heap.size + 1 < bR) := by (show w.heap.size + 1 < bR); omega)
  go_region_held3 (fun w' => (∀ i_1, w'.cell? ⟨w.heap.size, i_1, none⟩ = #[Value.bool a, .int .i64 i, .int .u64 u][i_1]?) ∧ (∀ i, w'.cell? ⟨w.heap.size + 1, i, none⟩ = #[Value.bool b, .int .i64 j, .int .u64 v][i]?)) (first | exact ⟨fA, fB⟩ | exact far3 hR.out fA fB _ _ _) (first | (go_at_call 27; refine (bitsOf_c _ _ _ _).mono ?_; rintro e w' ⟨rfl, hg⟩; (try replace hg := hg.of_drew); replace fz := hg.thaw fR (Nat.zero_lt_succ _) fz; replace fA := hg.cells fA (Nat.zero_lt_succ _); replace fB := hg.cells fB (Nat.zero_lt_succ _); replace fR := hg.cells fR (Nat.zero_lt_succ _); replace hG := hG.trans hg; clear hg) | (go_at_call 29; refine (softSub_g _ _ _).mono ?_; rintro e w' ⟨rfl, hg⟩; (try replace hg := hg.of_drew); replace fz := hg.thaw fR (Nat.zero_lt_succ _) fz; replace fA := hg.cells fA (Nat.zero_lt_succ _); replace fB := hg.cells fB (Nat.zero_lt_succ _); replace fR := hg.cells fR (Nat.zero_lt_succ _); replace hG := hG.trans hg; clear hg) | (go_at_call 25; refine (numDouble_c _ _).mono ?_; rintro e w' ⟨rfl, hg⟩; (try replace hg := hg.of_drew); replace fz := hg.thaw fR (Nat.zero_lt_succ _) fz; replace fA := hg.cells fA (Nat.zero_lt_succ _); replace fB := hg.cells fB (Nat.zero_lt_succ _); replace fR := hg.cells fR (Nat.zero_lt_succ _); replace hG := hG.trans hg; clear hg))
  all_goals go_wp2
  have hR' : w.heap.size ≤ bR := by have := hR.out; omega
  exact bodyPost_ret (v := .tuple #[.agg #[.bool false, .int .i64 0, .int .u64 (opI .sub (bitsI a i u) (bitsI b j v))], .int .i64 0]) (by simp [results, Try.results11, go_sem, fR]) rfl ⟨rfl, ((hG.store hR' _).store hR' _).store hR' _⟩
set_option maxHeartbeats 2000000 in
theorem numSub_whole (i u j v : Int) (xw : Bool) (xi xu xe : Int) (c : ∀ w, Calls Try.prog 28 #[.int .i64 i, .int .i64 j] w fun e w' => e = .returned (.tuple #[.agg #[.bool xw, .int .i64 xi, .int .u64 xu], .int .i64 xe]) ∧ Gr w w') (w : World) :
    Calls Try.prog 11 #[.agg #[.bool true, .int .i64 i, .int .u64 u], .agg #[.bool true, .int .i64 j, .int .u64 v]] w fun e w' => e = .returned (.tuple #[.agg #[.bool xw, .int .i64 xi, .int .u64 xu], .int .i64 xe]) ∧ Gr w w' := by
  have hk : kindI true true = 0 := rfl
  go_enter Try.func11, Try.ntmps11
  go_wp2_with (first | (go_at_call 23; refine (kinds_c _ _ _ _ _ _ _).mono ?_; rintro e w' ⟨rfl, hg⟩; obtain ⟨fA, fB, fR, fz, hG⟩ := hg.three (Nat.zero_lt_succ _) (Nat.zero_lt_succ _) (Nat.zero_lt_succ _); clear hg; generalize hR : w.heap.size + 1 + 1 = bR at fR fz ⊢; replace hR : Hid (w.heap.size + 1 < bR) := by (show w.heap.size + 1 < bR); omega) | (go_at_call 28; with_reducible refine (c _).mono ?_; rintro e w' ⟨rfl, hg⟩; (try replace hg := hg.of_drew); replace fz := hg.thaw fR (Nat.zero_lt_succ _) fz; replace fA := hg.cells fA (Nat.zero_lt_succ _); replace fB := hg.cells fB (Nat.zero_lt_succ _); replace fR := hg.cells fR (Nat.zero_lt_succ _); replace hG := hG.trans hg; clear hg))
  have hR' : w.heap.size ≤ bR := by have := hR.out; omega
  exact bodyPost_ret (v := .tuple #[.agg #[.bool xw, .int .i64 xi, .int .u64 xu], .int .i64 xe]) (by simp [results, Try.results11, go_sem, fR]) rfl ⟨rfl, ((hG.store hR' _).store hR' _).store hR' _⟩
theorem numSub_c (a b : Bool) (i u j v : Int) (i0 : -9223372036854775808 ≤ i) (i1 : i < 9223372036854775808) (j0 : -9223372036854775808 ≤ j) (j1 : j < 9223372036854775808) (w : World) :
    Calls Try.prog 11 #[.agg #[.bool a, .int .i64 i, .int .u64 u], .agg #[.bool b, .int .i64 j, .int .u64 v]] w fun e w' => e = .returned (resV (subR a i u b j v)) ∧ Gr w w' := by
  unfold subR
  by_cases h : a = true ∧ b = true
  · rw [if_pos h]
    obtain ⟨rfl, rfl⟩ := h
    exact numSub_whole i u j v _ _ _ _ (subW_c i j i0 i1 j0 j1) w
  · rw [if_neg h]
    exact numSub_mixed a b i u j v (by revert h; cases a <;> cases b <;> simp) w
/-- what Mul answers -/
def mulR (a : Bool) (i u : Int) (b : Bool) (j v : Int) : Res := if a = true ∧ b = true then fitR (i * j) else okD (opI .mul (bitsI a i u) (bitsI b j v))
set_option maxHeartbeats 2000000 in
theorem numMul_mixed (a b : Bool) (i u j v : Int) (h : a = false ∨ b = false) (w : World) :
    Calls Try.prog 12 #[.agg #[.bool a, .int .i64 i, .int .u64 u], .agg #[.bool b, .int .i64 j, .int .u64 v]] w fun e w' => e = .returned (.tuple #[.agg #[.bool false, .int .i64 0, .int .u64 (opI .mul (bitsI a i u) (bitsI b j v))], .int .i64 0]) ∧ Gr w w' := by
  have hk : (kindI a b == 0) = false := by rcases h with rfl | rfl <;> (try cases a) <;> (try cases b) <;> rfl
  clear h
  go_enter Try.func12, Try.ntmps12
  go_wp2_with (go_at_call 23; refine (kinds_c _ _ _ _ _ _ _).mono ?_; rintro e w' ⟨rfl, hg⟩; obtain ⟨fA, fB, fR, fz, hG⟩ := hg.three (Nat.zero_lt_succ _) (Nat.zero_lt_succ _) (Nat.zero_lt_succ _); clear hg; generalize hR : w.heap.size + 1 + 1 = bR at fR fz ⊢; replace hR : Hid (w.heap.size + 1 < bR) := by (show w.heap.size + 1 < bR); omega)
  go_region_held3 (fun w' => (∀ i_1, w'.cell? ⟨w.heap.size, i_1, none⟩ = #[Value.bool a, .int .i64 i, .int .u64 u][i_1]?) ∧ (∀ i, w'.cell? ⟨w.heap.size + 1, i, none⟩ = #[Value.bool b, .int .i64 j, .int .u64 v][i]?)) (first | exact ⟨fA, fB⟩ | exact far3 hR.out fA fB _ _ _) (first | (go_at_call 27; refine (bitsOf_c _ _ _ _).mono ?_; rintro e w' ⟨rfl, hg⟩; (try replace hg := hg.of_drew); replace fz := hg.thaw fR (Nat.zero_lt_succ _) fz; replace fA := hg.cells fA (Nat.zero_lt_succ _); replace fB := hg.cells fB (Nat.zero_lt_succ _); replace fR := hg.cells fR (Nat.zero_lt_succ _); replace hG := hG.trans hg; clear hg) | (go_at_call 31; refine (softMul_g _ _ _).mono ?_; rintro e w' ⟨rfl, hg⟩; (try replace hg := hg.of_drew); replace fz := hg.thaw fR (Nat.zero_lt_succ _) fz; replace fA := hg.cells fA (Nat.zero_lt_succ _); replace fB := hg.cells fB (Nat.zero_lt_succ _); replace fR := hg.cells fR (Nat.zero_lt_succ _); replace hG := hG.trans hg; clear hg) | (go_at_call 25; refine (numDouble_c _ _).mono ?_; rintro e w' ⟨rfl, hg⟩; (try replace hg := hg.of_drew); replace fz := hg.thaw fR (Nat.zero_lt_succ _) fz; replace fA := hg.cells fA (Nat.zero_lt_succ _); replace fB := hg.cells fB (Nat.zero_lt_succ _); replace fR := hg.cells fR (Nat.zero_lt_succ _); replace hG := hG.trans hg; clear hg))
  all_goals go_wp2
  have hR' : w.heap.size ≤ bR := by have := hR.out; omega
  exact bodyPost_ret (v := .tuple #[.agg #[.bool false, .int .i64 0, .int .u64 (opI .mul (bitsI a i u) (bitsI b j v))], .int .i64 0]) (by simp [results, Try.results12, go_sem, fR]) rfl ⟨rfl, ((hG.store hR' _).store hR' _).store hR' _⟩
set_option maxHeartbeats 2000000 in
theorem numMul_whole (i u j v : Int) (xw : Bool) (xi xu xe : Int) (c : ∀ w, Calls Try.prog 30 #[.int .i64 i, .int .i64 j] w fun e w' => e = .returned (.tuple #[.agg #[.bool xw, .int .i64 xi, .int .u64 xu], .int .i64 xe]) ∧ Gr w w') (w : World) :
    Calls Try.prog 12 #[.agg #[.bool true, .int .i64 i, .int .u64 u], .agg #[.bool true, .int .i64 j, .int .u64 v]] w fun e w' => e = .returned (.tuple #[.agg #[.bool xw, .int .i64 xi, .int .u64 xu], .int .i64 xe]) ∧ Gr w w' := by
  have hk : kindI true true = 0 := rfl
  go_enter Try.func12, Try.ntmps12
  go_wp2_with (first | (go_at_call 23; refine (kinds_c _ _ _ _ _ _ _).mono ?_; rintro e w' ⟨rfl, hg⟩; obtain ⟨fA, fB, fR, fz, hG⟩ := hg.three (Nat.zero_lt_succ _) (Nat.zero_lt_succ _) (Nat.zero_lt_succ _); clear hg; generalize hR : w.heap.size + 1 + 1 = bR at fR fz ⊢; replace hR : Hid (w.heap.size + 1 < bR) := by (show w.heap.size + 1 < bR); omega) | (go_at_call 30; with_reducible refine (c _).mono ?_; rintro e w' ⟨rfl, hg⟩; (try replace hg := hg.of_drew); replace fz := hg.thaw fR (Nat.zero_lt_succ _) fz; replace fA := hg.cells fA (Nat.zero_lt_succ _); replace fB := hg.cells fB (Nat.zero_lt_succ _); replace fR := hg.cells fR (Nat.zero_lt_succ _); replace hG := hG.trans hg; clear hg))
  have hR' : w.heap.size ≤ bR := by have := hR.out; omega
  exact bodyPost_ret (v := .tuple #[.agg #[.bool xw, .int .i64 xi, .int .u64 xu], .int .i64 xe]) (by simp [results, Try.results12, go_sem, fR]) rfl ⟨rfl, ((hG.store hR' _).store hR' _).store hR' _⟩
theorem numMul_c (a b : Bool) (i u j v : Int) (i0 : -9223372036854775808 ≤ i) (i1 : i < 9223372036854775808) (j0 : -9223372036854775808 ≤ j) (j1 : j < 9223372036854775808) (w : World) :
    Calls Try.prog 12 #[.agg #[.bool a, .int .i64 i, .int .u64 u], .agg #[.bool b, .int .i64 j, .int .u64 v]] w fun e w' => e = .returned (resV (mulR a i u b j v)) ∧ Gr w w' := by
  unfold mulR
  by_cases h : a = true ∧ b = true
  · rw [if_pos h]
    obtain ⟨rfl, rfl⟩ := h
    exact numMul_whole i u j v _ _ _ _ (mulW_c i j i0 i1 j0 j1) w
  · rw [if_neg h]
    exact numMul_mixed a b i u j v (by revert h; cases a <;> cases b <;> simp) w
/-- what FloorDiv answers -/
def flR (a : Bool) (i u : Int) (b : Bool) (j v : Int) : Res := if a = true ∧ b = true then floorR i j else okD (floorI (opI .quo (bitsI a i u) (bitsI b j v)))
set_option maxHeartbeats 2000000 in
theorem numFloorDiv_mixed (a b : Bool) (i u j v : Int) (h : a = false ∨ b = false) (w : World) :
    Calls Try.prog 19 #[.agg #[.bool a, .int .i64 i, .int .u64 u], .agg #[.bool b, .int .i64 j, .int .u64 v]] w fun e w' => e = .returned (.tuple #[.agg #[.bool false, .int .i64 0, .int .u64 (floorI (opI .quo (bitsI a i u) (bitsI b j v)))], .int .i64 0]) ∧ Gr w w' := by
  have hk : (kindI a b == 0) = false := by rcases h with rfl | rfl <;> (try cases a) <;> (try cases b) <;> rfl
  clear h
  go_enter Try.func19, Try.ntmps19
  go_wp2_with (go_at_call 23; refine (kinds_c _ _ _ _ _ _ _).mono ?_; rintro e w' ⟨rfl, hg⟩; obtain ⟨fA, fB, fR, fz, hG⟩ := hg.three (Nat.zero_lt_succ _) (Nat.zero_lt_succ _) (Nat.zero_lt_succ _); clear hg; generalize hR : w.heap.size + 1 + 1 = bR at fR fz ⊢; replace hR : Hid (w.heap.size + 1 < bR) := by (show w.heap.size + 1 < bR); omega)
  go_region_held3 (fun w' => (∀ i_1, w'.cell? ⟨w.heap.size, i_1, none⟩ = #[Value.bool a, .int .i64 i, .int .u64 u][i_1]?) ∧ (∀ i, w'.cell? ⟨w.heap.size + 1, i, none⟩ = #[Value.bool b, .int .i64 j, .int .u64 v][i]?)) (first | exact ⟨fA, fB⟩ | exact far3 hR.out fA fB _ _ _) (first | (go_at_call 27; refine (bitsOf_c _ _ _ _).mono ?_; rintro e w' ⟨rfl, hg⟩; (try replace hg := hg.of_drew); replace fz := hg.thaw fR (Nat.zero_lt_succ _) fz; replace fA := hg.cells fA (Nat.zero_lt_succ _); replace fB := hg.cells fB (Nat.zero_lt_succ _); replace fR := hg.cells fR (Nat.zero_lt_succ _); replace hG := hG.trans hg; clear hg) | (go_at_call 39; refine (floorDoubles_g _ _ _).mono ?_; rintro e w' ⟨rfl, hg⟩; (try replace hg := hg.of_drew); replace fz := hg.thaw fR (Nat.zero_lt_succ _) fz; replace fA := hg.cells fA (Nat.zero_lt_succ _); replace fB := hg.cells fB (Nat.zero_lt_succ _); replace fR := hg.cells fR (Nat.zero_lt_succ _); replace hG := hG.trans hg; clear hg) | (go_at_call 25; refine (numDouble_c _ _).mono ?_; rintro e w' ⟨rfl, hg⟩; (try replace hg := hg.of_drew); replace fz := hg.thaw fR (Nat.zero_lt_succ _) fz; replace fA := hg.cells fA (Nat.zero_lt_succ _); replace fB := hg.cells fB (Nat.zero_lt_succ _); replace fR := hg.cells fR (Nat.zero_lt_succ _); replace hG := hG.trans hg; clear hg))
  all_goals go_wp2
  have hR' : w.heap.size ≤ bR := by have := hR.out; omega
  exact bodyPost_ret (v := .tuple #[.agg #[.bool false, .int .i64 0, .int .u64 (floorI (opI .quo (bitsI a i u) (bitsI b j v)))], .int .i64 0]) (by simp [results, Try.results19, go_sem, fR]) rfl ⟨rfl, ((hG.store hR' _).store hR' _).store hR' _⟩
set_option maxHeartbeats 2000000 in
theorem numFloorDiv_whole (i u j v : Int) (xw : Bool) (xi xu xe : Int) (c : ∀ w, Calls Try.prog 38 #[.int .i64 i, .int .i64 j] w fun e w' => e = .returned (.tuple #[.agg #[.bool xw, .int .i64 xi, .int .u64 xu], .int .i64 xe]) ∧ Gr w w') (w : World) :
    Calls Try.prog 19 #[.agg #[.bool true, .int .i64 i, .int .u64 u], .agg #[.bool true, .int .i64 j, .int .u64 v]] w fun e w' => e = .returned (.tuple #[.agg #[.bool xw, .int .i64 xi, .int .u64 xu], .int .i64 xe]) ∧ Gr w w' := by
  have hk : kindI true true = 0 := rfl
  go_enter Try.func19, Try.ntmps19
  go_wp2_with (first | (go_at_call 23; refine (kinds_c _ _ _ _ _ _ _).mono ?_; rintro e w' ⟨rfl, hg⟩; obtain ⟨fA, fB, fR, fz, hG⟩ := hg.three (Nat.zero_lt_succ _) (Nat.zero_lt_succ _) (Nat.zero_lt_succ _); clear hg; generalize hR : w.heap.size + 1 + 1 = bR at fR fz ⊢; replace hR : Hid (w.heap.size + 1 < bR) := by (show w.heap.size + 1 < bR); omega) | (go_at_call 38; with_reducible refine (c _).mono ?_; rintro e w' ⟨rfl, hg⟩; (try replace hg := hg.of_drew); replace fz := hg.thaw fR (Nat.zero_lt_succ _) fz; replace fA := hg.cells fA (Nat.zero_lt_succ _); replace fB := hg.cells fB (Nat.zero_lt_succ _); replace fR := hg.cells fR (Nat.zero_lt_succ _); replace hG := hG.trans hg; clear hg))
  have hR' : w.heap.size ≤ bR := by have := hR.out; omega
  exact bodyPost_ret (v := .tuple #[.agg #[.bool xw, .int .i64 xi, .int .u64 xu], .int .i64 xe]) (by simp [results, Try.results19, go_sem, fR]) rfl ⟨rfl, ((hG.store hR' _).store hR' _).store hR' _⟩
set_option linter.unusedVariables false in
theorem numFloorDiv_c (a b : Bool) (i u j v : Int) (i0 : -9223372036854775808 ≤ i) (i1 : i < 9223372036854775808) (j0 : -9223372036854775808 ≤ j) (j1 : j < 9223372036854775808) (w : World) :
    Calls Try.prog 19 #[.agg #[.bool a, .int .i64 i, .int .u64 u], .agg #[.bool b, .int .i64 j, .int .u64 v]] w fun e w' => e = .returned (resV (flR a i u b j v)) ∧ Gr w w' := by
  unfold flR
  by_cases h : a = true ∧ b = true
  · rw [if_pos h]
    obtain ⟨rfl, rfl⟩ := h
    exact numFloorDiv_whole i u j v _ _ _ _ (floorW_c i j i0 i1) w
  · rw [if_neg h]
    exact numFloorDiv_mixed a b i u j v (by revert h; cases a <;> cases b <;> simp) w
/-- what Mod answers -/
def mdR (a : Bool) (i u : Int) (b : Bool) (j v : Int) : Res := if a = true ∧ b = true then modR i j else okD (modD (bitsI a i u) (bitsI b j v))
/-- what Div answers -/
def divR (a : Bool) (i u : Int) (b : Bool) (j v : Int) : Res := okD (opI .quo (bitsI a i u) (bitsI b j v))
set_option maxHeartbeats 2000000 in
theorem numDiv_c (a b : Bool) (i u j v : Int) (w : World) :
    Calls Try.prog 20 #[.agg #[.bool a, .int .i64 i, .int .u64 u], .agg #[.bool b, .int .i64 j, .int .u64 v]] w fun e w' => e = .returned (resV (divR a i u b j v)) ∧ Gr w w' := by
  go_enter Try.func20, Try.ntmps20
  go_wp2
  generalize hW : World.alloc (World.alloc (World.alloc w _) _) _ = W
  have hg := Gr.of_eq hW
  obtain ⟨fA, fB, fR, fz, hG⟩ := hg.three (Nat.zero_lt_succ _) (Nat.zero_lt_succ _) (Nat.zero_lt_succ _); clear hg; generalize hR : w.heap.size + 1 + 1 = bR at fR fz ⊢; replace hR : Hid (w.heap.size + 1 < bR) := by (show w.heap.size + 1 < bR); omega
  clear hW
  go_region_held3 (fun w' => (∀ i_1, w'.cell? ⟨w.heap.size, i_1, none⟩ = #[Value.bool a, .int .i64 i, .int .u64 u][i_1]?) ∧ (∀ i, w'.cell? ⟨w.heap.size + 1, i, none⟩ = #[Value.bool b, .int .i64 j, .int .u64 v][i]?)) (first | exact ⟨fA, fB⟩ | exact far3 hR.out fA fB _ _ _) (first | (go_at_call 27; refine (bitsOf_c _ _ _ _).mono ?_; rintro e w' ⟨rfl, hg⟩; (try replace hg := hg.of_drew); replace fz := hg.thaw fR (Nat.zero_lt_succ _) fz; replace fA := hg.cells fA (Nat.zero_lt_succ _); replace fB := hg.cells fB (Nat.zero_lt_succ _); replace fR := hg.cells fR (Nat.zero_lt_succ _); replace hG := hG.trans hg; clear hg) | (go_at_call 21; refine (softDiv_g _ _ _).mono ?_; rintro e w' ⟨rfl, hg⟩; (try replace hg := hg.of_drew); replace fz := hg.thaw fR (Nat.zero_lt_succ _) fz; replace fA := hg.cells fA (Nat.zero_lt_succ _); replace fB := hg.cells fB (Nat.zero_lt_succ _); replace fR := hg.cells fR (Nat.zero_lt_succ _); replace hG := hG.trans hg; clear hg) | (go_at_call 25; refine (numDouble_c _ _).mono ?_; rintro e w' ⟨rfl, hg⟩; (try replace hg := hg.of_drew); replace fz := hg.thaw fR (Nat.zero_lt_succ _) fz; replace fA := hg.cells fA (Nat.zero_lt_succ _); replace fB := hg.cells fB (Nat.zero_lt_succ _); replace fR := hg.cells fR (Nat.zero_lt_succ _); replace hG := hG.trans hg; clear hg))
  all_goals go_wp2
  have hR' : w.heap.size ≤ bR := by have := hR.out; omega
  exact bodyPost_ret (v := .tuple #[.agg #[.bool false, .int .i64 0, .int .u64 (opI .quo (bitsI a i u) (bitsI b j v))], .int .i64 0]) (by simp [results, Try.results20, go_sem, fR]) rfl ⟨rfl, ((hG.store hR' _).store hR' _).store hR' _⟩
end Go.Proofs.Ytpbcplgpbafjpab.W
