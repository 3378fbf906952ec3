import Derived.Test.YtgmimmdojkoppaaGreatDoorBase26
/- Contracts of package num on two whole numbers: quotients rounded down, and rests. -/
namespace Go.Proofs.YtgmimmdojkoppaaGreatDoor.W.Nu
open Go.ChangeShapes Go.WideShapes Go.RowKit

end Go.Proofs.YtgmimmdojkoppaaGreatDoor.W.Nu
/- Contracts of package num: two numbers, of whatever kinds. -/
namespace Go.Proofs.YtgmimmdojkoppaaGreatDoor.W.Nu
open Go.ChangeShapes Go.WideShapes Go.RowKit
theorem far3 {w : World} {A B : Array Value} {n : Nat} {b : Nat} (hb : n + 1 < b) (fA : ∀ i, w.cell? ⟨n, i, none⟩ = A[i]?) (fB : ∀ i, w.cell? ⟨n + 1, i, none⟩ = B[i]?) (x y z : Value) :
    (∀ i, (((w.setCell ⟨b, 0, none⟩ x).setCell ⟨b, 1, none⟩ y).setCell ⟨b, 2, none⟩ z).cell? ⟨n, i, none⟩ = A[i]?) ∧ (∀ i, (((w.setCell ⟨b, 0, none⟩ x).setCell ⟨b, 1, none⟩ y).setCell ⟨b, 2, none⟩ z).cell? ⟨n + 1, i, none⟩ = B[i]?) := by
  have h1 : b ≠ n := by omega
  have h2 : b ≠ n + 1 := by omega
  constructor <;> intro i
  · rw [World.cell?_setCell_far _ _ _ _ h1, World.cell?_setCell_far _ _ _ _ h1, World.cell?_setCell_far _ _ _ _ h1, fA]
  · rw [World.cell?_setCell_far _ _ _ _ h2, World.cell?_setCell_far _ _ _ _ h2, World.cell?_setCell_far _ _ _ _ h2, fB]
theorem softAdd_g (a b : Int) (w : World) : Calls Tryz.prog 158 #[.int .u64 a, .int .u64 b] w fun e w' => e = .returned (.int .u64 (opI .add a b)) ∧ Gr w w' := (softAdd_c a b w).mono fun _ _ ⟨h, m, k⟩ => ⟨h, Gr.of_same m k⟩
theorem softSub_g (a b : Int) (w : World) : Calls Tryz.prog 102 #[.int .u64 a, .int .u64 b] w fun e w' => e = .returned (.int .u64 (opI .sub a b)) ∧ Gr w w' := (softSub_c a b w).mono fun _ _ ⟨h, m, k⟩ => ⟨h, Gr.of_same m k⟩
theorem softMul_g (a b : Int) (w : World) : Calls Tryz.prog 105 #[.int .u64 a, .int .u64 b] w fun e w' => e = .returned (.int .u64 (opI .mul a b)) ∧ Gr w w' := (softMul_c a b w).mono fun _ _ ⟨h, m, k⟩ => ⟨h, Gr.of_same m k⟩
/-- what Add answers -/
def addR (a : Bool) (i u : Int) (b : Bool) (j v : Int) : Res := if a = true ∧ b = true then fitR (i + j) else okD (opI .add (bitsI a i u) (bitsI b j v))
set_option maxHeartbeats 2000000 in
theorem numAdd_mixed (a b : Bool) (i u j v : Int) (h : a = false ∨ b = false) (w : World) :
    Calls Tryz.prog 96 #[.agg #[.bool a, .int .i64 i, .int .u64 u], .agg #[.bool b, .int .i64 j, .int .u64 v]] w fun e w' => e = .returned (.tuple #[.agg #[.bool false, .int .i64 0, .int .u64 (opI .add (bitsI a i u) (bitsI b j v))], .int .i64 0]) ∧ Gr w w' := by
  have hk : (kindI a b == 0) = false := by rcases h with rfl | rfl <;> (try cases a) <;> (try cases b) <;> rfl
  clear h
  go_enter Tryz.func96, Tryz.ntmps96
  go_wp2_with (go_at_call 99; refine (kinds_c _ _ _ _ _ _ _).mono ?_; rintro e w' ⟨rfl, hg⟩; obtain ⟨fA, fB, fR, fz, hG⟩ := hg.three (Nat.zero_lt_succ _) (Nat.zero_lt_succ _) (Nat.zero_lt_succ _); clear hg; generalize hR : w.heap.size + 1 + 1 = bR at fR fz ⊢; replace hR : Hid (w.heap.size + 1 < bR) := by (show w.heap.size + 1 < bR); omega)
  go_region_held3 (fun w' => (∀ i_1, w'.cell? ⟨w.heap.size, i_1, none⟩ = #[Value.bool a, .int .i64 i, .int .u64 u][i_1]?) ∧ (∀ i, w'.cell? ⟨w.heap.size + 1, i, none⟩ = #[Value.bool b, .int .i64 j, .int .u64 v][i]?)) (first | exact ⟨fA, fB⟩ | exact far3 hR.out fA fB _ _ _) (first | (go_at_call 103; refine (bitsOf_c _ _ _ _).mono ?_; rintro e w' ⟨rfl, hg⟩; (try replace hg := hg.of_drew); replace fz := hg.thaw fR (Nat.zero_lt_succ _) fz; replace fA := hg.cells fA (Nat.zero_lt_succ _); replace fB := hg.cells fB (Nat.zero_lt_succ _); replace fR := hg.cells fR (Nat.zero_lt_succ _); replace hG := hG.trans hg; clear hg) | (go_at_call 158; refine (softAdd_g _ _ _).mono ?_; rintro e w' ⟨rfl, hg⟩; (try replace hg := hg.of_drew); replace fz := hg.thaw fR (Nat.zero_lt_succ _) fz; replace fA := hg.cells fA (Nat.zero_lt_succ _); replace fB := hg.cells fB (Nat.zero_lt_succ _); replace fR := hg.cells fR (Nat.zero_lt_succ _); replace hG := hG.trans hg; clear hg) | (go_at_call 101; refine (numDouble_c _ _).mono ?_; rintro e w' ⟨rfl, hg⟩; (try replace hg := hg.of_drew); replace fz := hg.thaw fR (Nat.zero_lt_succ _) fz; replace fA := hg.cells fA (Nat.zero_lt_succ _); replace fB := hg.cells fB (Nat.zero_lt_succ _); replace fR := hg.cells fR (Nat.zero_lt_succ _); replace hG := hG.trans hg; clear hg))
  all_goals go_wp2
  have hR' : w.heap.size ≤ bR := by have := hR.out; omega
  exact bodyPost_ret (v := .tuple #[.agg #[.bool false, .int .i64 0, .int .u64 (opI .add (bitsI a i u) (bitsI b j v))], .int .i64 0]) (by simp [results, Tryz.results96, go_sem, fR]) rfl ⟨rfl, ((hG.store hR' _).store hR' _).store hR' _⟩
set_option maxHeartbeats 2000000 in
theorem numAdd_whole (i u j v : Int) (xw : Bool) (xi xu xe : Int) (c : ∀ w, Calls Tryz.prog 157 #[.int .i64 i, .int .i64 j] w fun e w' => e = .returned (.tuple #[.agg #[.bool xw, .int .i64 xi, .int .u64 xu], .int .i64 xe]) ∧ Gr w w') (w : World) :
    Calls Tryz.prog 96 #[.agg #[.bool true, .int .i64 i, .int .u64 u], .agg #[.bool true, .int .i64 j, .int .u64 v]] w fun e w' => e = .returned (.tuple #[.agg #[.bool xw, .int .i64 xi, .int .u64 xu], .int .i64 xe]) ∧ Gr w w' := by
  have hk : kindI true true = 0 := rfl
  go_enter Tryz.func96, Tryz.ntmps96
  go_wp2_with (first | (go_at_call 99; refine (kinds_c _ _ _ _ _ _ _).mono ?_; rintro e w' ⟨rfl, hg⟩; obtain ⟨fA, fB, fR, fz, hG⟩ := hg.three (Nat.zero_lt_succ _) (Nat.zero_lt_succ _) (Nat.zero_lt_succ _); clear hg; generalize hR : w.heap.size + 1 + 1 = bR at fR fz ⊢; replace hR : Hid (w.heap.size + 1 < bR) := by (show w.heap.size + 1 < bR); omega) | (go_at_call 157; with_reducible refine (c _).mono ?_; rintro e w' ⟨rfl, hg⟩; (try replace hg := hg.of_drew); replace fz := hg.thaw fR (Nat.zero_lt_succ _) fz; replace fA := hg.cells fA (Nat.zero_lt_succ _); replace fB := hg.cells fB (Nat.zero_lt_succ _); replace fR := hg.cells fR (Nat.zero_lt_succ _); replace hG := hG.trans hg; clear hg))
  have hR' : w.heap.size ≤ bR := by have := hR.out; omega
  exact bodyPost_ret (v := .tuple #[.agg #[.bool xw, .int .i64 xi, .int .u64 xu], .int .i64 xe]) (by simp [results, Tryz.results96, go_sem, fR]) rfl ⟨rfl, ((hG.store hR' _).store hR' _).store hR' _⟩
theorem numAdd_c (a b : Bool) (i u j v : Int) (i0 : -9223372036854775808 ≤ i) (i1 : i < 9223372036854775808) (j0 : -9223372036854775808 ≤ j) (j1 : j < 9223372036854775808) (w : World) :
    Calls Tryz.prog 96 #[.agg #[.bool a, .int .i64 i, .int .u64 u], .agg #[.bool b, .int .i64 j, .int .u64 v]] w fun e w' => e = .returned (resV (addR a i u b j v)) ∧ Gr w w' := by
  unfold addR
  by_cases h : a = true ∧ b = true
  · rw [if_pos h]
    obtain ⟨rfl, rfl⟩ := h
    exact numAdd_whole i u j v _ _ _ _ (addW_c i j i0 i1 j0 j1) w
  · rw [if_neg h]
    exact numAdd_mixed a b i u j v (by revert h; cases a <;> cases b <;> simp) w
/-- what Sub answers -/
def subR (a : Bool) (i u : Int) (b : Bool) (j v : Int) : Res := if a = true ∧ b = true then fitR (i - j) else okD (opI .sub (bitsI a i u) (bitsI b j v))
set_option maxHeartbeats 2000000 in
theorem numSub_mixed (a b : Bool) (i u j v : Int) (h : a = false ∨ b = false) (w : World) :
    Calls Tryz.prog 53 #[.agg #[.bool a, .int .i64 i, .int .u64 u], .agg #[.bool b, .int .i64 j, .int .u64 v]] w fun e w' => e = .returned (.tuple #[.agg #[.bool false, .int .i64 0, .int .u64 (opI .sub (bitsI a i u) (bitsI b j v))], .int .i64 0]) ∧ Gr w w' := by
  have hk : (kindI a b == 0) = false := by rcases h with rfl | rfl <;> (try cases a) <;> (try cases b) <;> rfl
  clear h
  go_enter Tryz.func53, Tryz.ntmps53
  go_wp2_with (go_at_call 99; refine (kinds_c _ _ _ _ _ _ _).mono ?_; rintro e w' ⟨rfl, hg⟩; obtain ⟨fA, fB, fR, fz, hG⟩ := hg.three (Nat.zero_lt_succ _) (Nat.zero_lt_succ _) (Nat.zero_lt_succ _); clear hg; generalize hR : w.heap.size + 1 + 1 = bR at fR fz ⊢; replace hR : Hid (w.heap.size + 1 < bR) := by (show w.heap.size + 1 < bR); omega)
  go_region_held3 (fun w' => (∀ i_1, w'.cell? ⟨w.heap.size, i_1, none⟩ = #[Value.bool a, .int .i64 i, .int .u64 u][i_1]?) ∧ (∀ i, w'.cell? ⟨w.heap.size + 1, i, none⟩ = #[Value.bool b, .int .i64 j, .int .u64 v][i]?)) (first | exact ⟨fA, fB⟩ | exact far3 hR.out fA fB _ _ _) (first | (go_at_call 103; refine (bitsOf_c _ _ _ _).mono ?_; rintro e w' ⟨rfl, hg⟩; (try replace hg := hg.of_drew); replace fz := hg.thaw fR (Nat.zero_lt_succ _) fz; replace fA := hg.cells fA (Nat.zero_lt_succ _); replace fB := hg.cells fB (Nat.zero_lt_succ _); replace fR := hg.cells fR (Nat.zero_lt_succ _); replace hG := hG.trans hg; clear hg) | (go_at_call 102; refine (softSub_g _ _ _).mono ?_; rintro e w' ⟨rfl, hg⟩; (try replace hg := hg.of_drew); replace fz := hg.thaw fR (Nat.zero_lt_succ _) fz; replace fA := hg.cells fA (Nat.zero_lt_succ _); replace fB := hg.cells fB (Nat.zero_lt_succ _); replace fR := hg.cells fR (Nat.zero_lt_succ _); replace hG := hG.trans hg; clear hg) | (go_at_call 101; refine (numDouble_c _ _).mono ?_; rintro e w' ⟨rfl, hg⟩; (try replace hg := hg.of_drew); replace fz := hg.thaw fR (Nat.zero_lt_succ _) fz; replace fA := hg.cells fA (Nat.zero_lt_succ _); replace fB := hg.cells fB (Nat.zero_lt_succ _); replace fR := hg.cells fR (Nat.zero_lt_succ _); replace hG := hG.trans hg; clear hg))
  all_goals go_wp2
  have hR' : w.heap.size ≤ bR := by have := hR.out; omega
  exact bodyPost_ret (v := .tuple #[.agg #[.bool false, .int .i64 0, .int .u64 (opI .sub (bitsI a i u) (bitsI b j v))], .int .i64 0]) (by simp [results, Tryz.results53, go_sem, fR]) rfl ⟨rfl, ((hG.store hR' _).store hR' _).store hR' _⟩
set_option maxHeartbeats 2000000 in
theorem numSub_whole (i u j v : Int) (xw : Bool) (xi xu xe : Int) (c : ∀ w, Calls Tryz.prog 100 #[.int .i64 i, .int .i64 j] w fun e w' => e = .returned (.tuple #[.agg #[.bool xw, .int .i64 xi, .int .u64 xu], .int .i64 xe]) ∧ Gr w w') (w : World) :
    Calls Tryz.prog 53 #[.agg #[.bool true, .int .i64 i, .int .u64 u], .agg #[.bool true, .int .i64 j, .int .u64 v]] w fun e w' => e = .returned (.tuple #[.agg #[.bool xw, .int .i64 xi, .int .u64 xu], .int .i64 xe]) ∧ Gr w w' := by
  have hk : kindI true true = 0 := rfl
  go_enter Tryz.func53, Tryz.ntmps53
  go_wp2_with (first | (go_at_call 99; refine (kinds_c _ _ _ _ _ _ _).mono ?_; rintro e w' ⟨rfl, hg⟩; obtain ⟨fA, fB, fR, fz, hG⟩ := hg.three (Nat.zero_lt_succ _) (Nat.zero_lt_succ _) (Nat.zero_lt_succ _); clear hg; generalize hR : w.heap.size + 1 + 1 = bR at fR fz ⊢; replace hR : Hid (w.heap.size + 1 < bR) := by (show w.heap.size + 1 < bR); omega) | (go_at_call 100; with_reducible refine (c _).mono ?_; rintro e w' ⟨rfl, hg⟩; (try replace hg := hg.of_drew); replace fz := hg.thaw fR (Nat.zero_lt_succ _) fz; replace fA := hg.cells fA (Nat.zero_lt_succ _); replace fB := hg.cells fB (Nat.zero_lt_succ _); replace fR := hg.cells fR (Nat.zero_lt_succ _); replace hG := hG.trans hg; clear hg))
  have hR' : w.heap.size ≤ bR := by have := hR.out; omega
  exact bodyPost_ret (v := .tuple #[.agg #[.bool xw, .int .i64 xi, .int .u64 xu], .int .i64 xe]) (by simp [results, Tryz.results53, go_sem, fR]) rfl ⟨rfl, ((hG.store hR' _).store hR' _).store hR' _⟩
theorem numSub_c (a b : Bool) (i u j v : Int) (i0 : -9223372036854775808 ≤ i) (i1 : i < 9223372036854775808) (j0 : -9223372036854775808 ≤ j) (j1 : j < 9223372036854775808) (w : World) :
    Calls Tryz.prog 53 #[.agg #[.bool a, .int .i64 i, .int .u64 u], .agg #[.bool b, .int .i64 j, .int .u64 v]] w fun e w' => e = .returned (resV (subR a i u b j v)) ∧ Gr w w' := by
  unfold subR
  by_cases h : a = true ∧ b = true
  · rw [if_pos h]
    obtain ⟨rfl, rfl⟩ := h
    exact numSub_whole i u j v _ _ _ _ (subW_c i j i0 i1 j0 j1) w
  · rw [if_neg h]
    exact numSub_mixed a b i u j v (by revert h; cases a <;> cases b <;> simp) w
/-- what Mul answers -/
def mulR (a : Bool) (i u : Int) (b : Bool) (j v : Int) : Res := if a = true ∧ b = true then fitR (i * j) else okD (opI .mul (bitsI a i u) (bitsI b j v))
set_option maxHeartbeats 2000000 in
theorem numMul_mixed (a b : Bool) (i u j v : Int) (h : a = false ∨ b = false) (w : World) :
    Calls Tryz.prog 54 #[.agg #[.bool a, .int .i64 i, .int .u64 u], .agg #[.bool b, .int .i64 j, .int .u64 v]] w fun e w' => e = .returned (.tuple #[.agg #[.bool false, .int .i64 0, .int .u64 (opI .mul (bitsI a i u) (bitsI b j v))], .int .i64 0]) ∧ Gr w w' := by
  have hk : (kindI a b == 0) = false := by rcases h with rfl | rfl <;> (try cases a) <;> (try cases b) <;> rfl
  clear h
  go_enter Tryz.func54, Tryz.ntmps54
  go_wp2_with (go_at_call 99; refine (kinds_c _ _ _ _ _ _ _).mono ?_; rintro e w' ⟨rfl, hg⟩; obtain ⟨fA, fB, fR, fz, hG⟩ := hg.three (Nat.zero_lt_succ _) (Nat.zero_lt_succ _) (Nat.zero_lt_succ _); clear hg; generalize hR : w.heap.size + 1 + 1 = bR at fR fz ⊢; replace hR : Hid (w.heap.size + 1 < bR) := by (show w.heap.size + 1 < bR); omega)
  go_region_held3 (fun w' => (∀ i_1, w'.cell? ⟨w.heap.size, i_1, none⟩ = #[Value.bool a, .int .i64 i, .int .u64 u][i_1]?) ∧ (∀ i, w'.cell? ⟨w.heap.size + 1, i, none⟩ = #[Value.bool b, .int .i64 j, .int .u64 v][i]?)) (first | exact ⟨fA, fB⟩ | exact far3 hR.out fA fB _ _ _) (first | (go_at_call 103; refine (bitsOf_c _ _ _ _).mono ?_; rintro e w' ⟨rfl, hg⟩; (try replace hg := hg.of_drew); replace fz := hg.thaw fR (Nat.zero_lt_succ _) fz; replace fA := hg.cells fA (Nat.zero_lt_succ _); replace fB := hg.cells fB (Nat.zero_lt_succ _); replace fR := hg.cells fR (Nat.zero_lt_succ _); replace hG := hG.trans hg; clear hg) | (go_at_call 105; refine (softMul_g _ _ _).mono ?_; rintro e w' ⟨rfl, hg⟩; (try replace hg := hg.of_drew); replace fz := hg.thaw fR (Nat.zero_lt_succ _) fz; replace fA := hg.cells fA (Nat.zero_lt_succ _); replace fB := hg.cells fB (Nat.zero_lt_succ _); replace fR := hg.cells fR (Nat.zero_lt_succ _); replace hG := hG.trans hg; clear hg) | (go_at_call 101; refine (numDouble_c _ _).mono ?_; rintro e w' ⟨rfl, hg⟩; (try replace hg := hg.of_drew); replace fz := hg.thaw fR (Nat.zero_lt_succ _) fz; replace fA := hg.cells fA (Nat.zero_lt_succ _); replace fB := hg.cells fB (Nat.zero_lt_succ _); replace fR := hg.cells fR (Nat.zero_lt_succ _); replace hG := hG.trans hg; clear hg))
  all_goals go_wp2
  have hR' : w.heap.size ≤ bR := by have := hR.out; omega
  exact bodyPost_ret (v := .tuple #[.agg #[.bool false, .int .i64 0, .int .u64 (opI .mul (bitsI a i u) (bitsI b j v))], .int .i64 0]) (by simp [results, Tryz.results54, go_sem, fR]) rfl ⟨rfl, ((hG.store hR' _).store hR' _).store hR' _⟩
set_option maxHeartbeats 2000000 in
theorem numMul_whole (i u j v : Int) (xw : Bool) (xi xu xe : Int) (c : ∀ w, Calls Tryz.prog 104 #[.int .i64 i, .int .i64 j] w fun e w' => e = .returned (.tuple #[.agg #[.bool xw, .int .i64 xi, .int .u64 xu], .int .i64 xe]) ∧ Gr w w') (w : World) :
    Calls Tryz.prog 54 #[.agg #[.bool true, .int .i64 i, .int .u64 u], .agg #[.bool true, .int .i64 j, .int .u64 v]] w fun e w' => e = .returned (.tuple #[.agg #[.bool xw, .int .i64 xi, .int .u64 xu], .int .i64 xe]) ∧ Gr w w' := by
  have hk : kindI true true = 0 := rfl
  go_enter Tryz.func54, Tryz.ntmps54
  go_wp2_with (first | (go_at_call 99; refine (kinds_c _ _ _ _ _ _ _).mono ?_; rintro e w' ⟨rfl, hg⟩; obtain ⟨fA, fB, fR, fz, hG⟩ := hg.three (Nat.zero_lt_succ _) (Nat.zero_lt_succ _) (Nat.zero_lt_succ _); clear hg; generalize hR : w.heap.size + 1 + 1 = bR at fR fz ⊢; replace hR : Hid (w.heap.size + 1 < bR) := by (show w.heap.size + 1 < bR); omega) | (go_at_call 104; with_reducible refine (c _).mono ?_; rintro e w' ⟨rfl, hg⟩; (try replace hg := hg.of_drew); replace fz := hg.thaw fR (Nat.zero_lt_succ _) fz; replace fA := hg.cells fA (Nat.zero_lt_succ _); replace fB := hg.cells fB (Nat.zero_lt_succ _); replace fR := hg.cells fR (Nat.zero_lt_succ _); replace hG := hG.trans hg; clear hg))
  have hR' : w.heap.size ≤ bR := by have := hR.out; omega
  exact bodyPost_ret (v := .tuple #[.agg #[.bool xw, .int .i64 xi, .int .u64 xu], .int .i64 xe]) (by simp [results, Tryz.results54, go_sem, fR]) rfl ⟨rfl, ((hG.store hR' _).store hR' _).store hR' _⟩
theorem numMul_c (a b : Bool) (i u j v : Int) (i0 : -9223372036854775808 ≤ i) (i1 : i < 9223372036854775808) (j0 : -9223372036854775808 ≤ j) (j1 : j < 9223372036854775808) (w : World) :
    Calls Tryz.prog 54 #[.agg #[.bool a, .int .i64 i, .int .u64 u], .agg #[.bool b, .int .i64 j, .int .u64 v]] w fun e w' => e = .returned (resV (mulR a i u b j v)) ∧ Gr w w' := by
  unfold mulR
  by_cases h : a = true ∧ b = true
  · rw [if_pos h]
    obtain ⟨rfl, rfl⟩ := h
    exact numMul_whole i u j v _ _ _ _ (mulW_c i j i0 i1 j0 j1) w
  · rw [if_neg h]
    exact numMul_mixed a b i u j v (by revert h; cases a <;> cases b <;> simp) w
end Go.Proofs.YtgmimmdojkoppaaGreatDoor.W.Nu
/- Worlds that have only grown: a new block that is laid ahead of a call, and written behind it. -/
namespace Go.Proofs.YtgmimmdojkoppaaGreatDoor.W.Nu
open Go.ChangeShapes Go.WideShapes Go.RowKit

/-- three cells, written -/
theorem stored3 {w : World} {n : Nat} {p q r : Value} (f : ∀ i, w.cell? ⟨n, i, none⟩ = #[p, q, r][i]?) (x y z : Value) :
    ∀ i, (((w.setCell ⟨n, 0, none⟩ x).setCell ⟨n, 1, none⟩ y).setCell ⟨n, 2, none⟩ z).cell? ⟨n, i, none⟩ = #[x, y, z][i]? := by
  have ne : ∀ a b : Nat, a ≠ b → (⟨n, a, none⟩ : Addr) ≠ ⟨n, b, none⟩ := fun a b h e => h (by injection e)
  have s0 : w.cell? ⟨n, 0, none⟩ = some p := f 0
  have s1 : w.cell? ⟨n, 1, none⟩ = some q := f 1
  have s2 : w.cell? ⟨n, 2, none⟩ = some r := f 2
  have t1 : (w.setCell ⟨n, 0, none⟩ x).cell? ⟨n, 1, none⟩ = some q := by rw [World.cell?_setCell_other (h := ne 0 1 (by decide)), s1]
  have t2 : ((w.setCell ⟨n, 0, none⟩ x).setCell ⟨n, 1, none⟩ y).cell? ⟨n, 2, none⟩ = some r := by rw [World.cell?_setCell_other (h := ne 1 2 (by decide)), World.cell?_setCell_other (h := ne 0 2 (by decide)), s2]
  intro i
  match i with
  | 0 => rw [World.cell?_setCell_other (h := ne 2 0 (by decide)), World.cell?_setCell_other (h := ne 1 0 (by decide)), World.cell?_setCell_same (h := s0)]; rfl
  | 1 => rw [World.cell?_setCell_other (h := ne 2 1 (by decide)), World.cell?_setCell_same (h := t1)]; rfl
  | 2 => rw [World.cell?_setCell_same (h := t2)]; rfl
  | k + 3 =>
    rw [World.cell?_setCell_other (h := ne 2 (k + 3) (by omega)), World.cell?_setCell_other (h := ne 1 (k + 3) (by omega)), World.cell?_setCell_other (h := ne 0 (k + 3) (by omega)), f (k + 3)]
    rfl
theorem Gr.store3 {a b : World} (h : Gr a b) {n : Nat} (hn : a.heap.size ≤ n) (x y z : Value) : Gr a (((b.setCell ⟨n, 0, none⟩ x).setCell ⟨n, 1, none⟩ y).setCell ⟨n, 2, none⟩ z) :=
  ((h.store (p := ⟨n, 0, none⟩) hn x).store (p := ⟨n, 1, none⟩) hn y).store (p := ⟨n, 2, none⟩) hn z
end Go.Proofs.YtgmimmdojkoppaaGreatDoor.W.Nu
/- Worlds that have only grown: three cells of one of the call's own blocks, written. -/
namespace Go.Proofs.YtgmimmdojkoppaaGreatDoor.W.Nu
open Go.ChangeShapes Go.WideShapes Go.RowKit
theorem upd {w wk W : World} {b : Nat} {x y z p q r : Value} (hW : ((wk.setCell ⟨b, 0, none⟩ x).setCell ⟨b, 1, none⟩ y).setCell ⟨b, 2, none⟩ z = W) (f : ∀ i, wk.cell? ⟨b, i, none⟩ = #[p, q, r][i]?) (hb : w.heap.size ≤ b) (hG : Gr w wk) :
    (∀ i, W.cell? ⟨b, i, none⟩ = #[x, y, z][i]?) ∧ (∀ (n : Nat) (c : Array Value), n ≠ b → (∀ i, wk.cell? ⟨n, i, none⟩ = c[i]?) → ∀ i, W.cell? ⟨n, i, none⟩ = c[i]?) ∧ (∀ n : Nat, (∀ i, wk.frozen? ⟨n, i, none⟩ = false) → ∀ i, W.frozen? ⟨n, i, none⟩ = false) ∧ Gr w W := by
  subst hW
  refine ⟨stored3 f x y z, fun n c h g i => ?_, fun n g i => ?_, hG.store3 hb x y z⟩
  · rw [World.cell?_setCell_far _ _ _ _ (fun e => h e.symm), World.cell?_setCell_far _ _ _ _ (fun e => h e.symm), World.cell?_setCell_far _ _ _ _ (fun e => h e.symm), g]
  · rw [World.frozen?_setCell, World.frozen?_setCell, World.frozen?_setCell, g]
end Go.Proofs.YtgmimmdojkoppaaGreatDoor.W.Nu
