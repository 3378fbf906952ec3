/- Contracts of package num: two numbers, of whatever kinds. -/
import Derived.Test.YtpbcplgpbafjpaaNumE
namespace Go.Proofs.Ytpbcplgpbafjpaa.W
open Go.ChangeShapes Go.WideShapes Go.RowKit
theorem far3 {w : World} {A B : Array Value} {n : Nat} {b : Nat} (hb : n + 1 < b) (fA : ∀ i, w.cell? ⟨n, i, none⟩ = A[i]?) (fB : ∀ i, w.cell? ⟨n + 1, i, none⟩ = B[i]?) (x y z : Value) :
    (∀ i, (((w.setCell ⟨b, 0, none⟩ x).setCell ⟨b, 1, none⟩ y).setCell ⟨b, 2, none⟩ z).cell? ⟨n, i, none⟩ = A[i]?) ∧ (∀ i, (((w.setCell ⟨b, 0, none⟩ x).setCell ⟨b, 1, none⟩ y).setCell ⟨b, 2, none⟩ z).cell? ⟨n + 1, i, none⟩ = B[i]?) := by
  have h1 : b ≠ n := by omega
  have h2 : b ≠ n + 1 := by omega
  constructor <;> intro i
  · rw [World.cell?_setCell_far _ _ _ _ h1, World.cell?_setCell_far _ _ _ _ h1, World.cell?_setCell_far _ _ _ _ h1, fA]
  · rw [World.cell?_setCell_far _ _ _ _ h2, World.cell?_setCell_far _ _ _ _ h2, World.cell?_setCell_far _ _ _ _ h2, fB]
theorem softAdd_g (a b : Int) (w : World) : Calls Try.prog 39 #[.int .u64 a, .int .u64 b] w fun e w' => e = .returned (.int .u64 (opI .add a b)) ∧ Gr w w' := (softAdd_c a b w).mono fun _ _ ⟨h, m, k⟩ => ⟨h, Gr.of_same m k⟩
theorem softSub_g (a b : Int) (w : World) : Calls Try.prog 46 #[.int .u64 a, .int .u64 b] w fun e w' => e = .returned (.int .u64 (opI .sub a b)) ∧ Gr w w' := (softSub_c a b w).mono fun _ _ ⟨h, m, k⟩ => ⟨h, Gr.of_same m k⟩
theorem softMul_g (a b : Int) (w : World) : Calls Try.prog 49 #[.int .u64 a, .int .u64 b] w fun e w' => e = .returned (.int .u64 (opI .mul a b)) ∧ Gr w w' := (softMul_c a b w).mono fun _ _ ⟨h, m, k⟩ => ⟨h, Gr.of_same m k⟩
theorem softDiv_g (a b : Int) (w : World) : Calls Try.prog 53 #[.int .u64 a, .int .u64 b] w fun e w' => e = .returned (.int .u64 (opI .quo a b)) ∧ Gr w w' := (softDiv_c a b w).mono fun _ _ ⟨h, m, k⟩ => ⟨h, Gr.of_same m k⟩
/-- what Mod answers of two doubles -/
def modD (a b : Int) : Int := opI .sub a (opI .mul b (floorI (opI .quo a b)))
set_option maxHeartbeats 800000 in
theorem floorDoubles_g (a b : Int) (w : World) :
    Calls Try.prog 61 #[.int .u64 a, .int .u64 b] w fun e w' => e = .returned (.int .u64 (floorI (opI .quo a b))) ∧ Gr w w' := by
  go_enter Try.func61, Try.ntmps61
  go_wp2_with (first | (go_at_call 53; refine (softDiv_c _ _ _).mono ?_; rintro e w' ⟨rfl, m, rfl⟩) | (go_at_call 77; refine (softFloor_c _ (opI_range _ _ _).1 _).mono ?_; rintro e w' ⟨rfl, m, rfl⟩))
  go_ret
  exact ⟨rfl, Gr.of_same _ rfl⟩
set_option maxHeartbeats 800000 in
theorem modDoubles_g (a b : Int) (w : World) :
    Calls Try.prog 65 #[.int .u64 a, .int .u64 b] w fun e w' => e = .returned (.int .u64 (modD a b)) ∧ Gr w w' := by
  go_enter Try.func65, Try.ntmps65
  go_wp2_with (first | (go_at_call 61; refine (floorDoubles_g _ _ _).mono ?_; rintro e w' ⟨rfl, hg⟩) | (go_at_call 49; refine (softMul_c _ _ _).mono ?_; rintro e w' ⟨rfl, m, rfl⟩) | (go_at_call 46; refine (softSub_c _ _ _).mono ?_; rintro e w' ⟨rfl, m, rfl⟩))
  go_ret
  exact ⟨rfl, hg.draw _⟩
/-- what Add answers -/
def addR (a : Bool) (i u : Int) (b : Bool) (j v : Int) : Res := if a = true ∧ b = true then fitR (i + j) else okD (opI .add (bitsI a i u) (bitsI b j v))
set_option maxHeartbeats 2000000 in
theorem numAdd_mixed (a b : Bool) (i u j v : Int) (h : a = false ∨ b = false) (w : World) :
    Calls Try.prog 9 #[.agg #[.bool a, .int .i64 i, .int .u64 u], .agg #[.bool b, .int .i64 j, .int .u64 v]] w fun e w' => e = .returned (.tuple #[.agg #[.bool false, .int .i64 0, .int .u64 (opI .add (bitsI a i u) (bitsI b j v))], .int .i64 0]) ∧ Gr w w' := by
  have hk : (kindI a b == 0) = false := by rcases h with rfl | rfl <;> (try cases a) <;> (try cases b) <;> rfl
  clear h
  go_enter Try.func9, Try.ntmps9
  go_wp2_with (go_at_call 36; refine (kinds_c _ _ _ _ _ _ _).mono ?_; rintro e w' ⟨rfl, hg⟩; obtain ⟨fA, fB, fR, fz, hG⟩ := hg.three (Nat.zero_lt_succ _) (Nat.zero_lt_succ _) (Nat.zero_lt_succ _); clear hg; generalize hR : w.heap.size + 1 + 1 = bR at fR fz ⊢; replace hR : Hid (w.heap.size + 1 < bR) := by (show w.heap.size + 1 < bR); omega)
  go_region_held3 (fun w' => (∀ i_1, w'.cell? ⟨w.heap.size, i_1, none⟩ = #[Value.bool a, .int .i64 i, .int .u64 u][i_1]?) ∧ (∀ i, w'.cell? ⟨w.heap.size + 1, i, none⟩ = #[Value.bool b, .int .i64 j, .int .u64 v][i]?)) (first | exact ⟨fA, fB⟩ | exact far3 hR.out fA fB _ _ _) (first | (go_at_call 40; refine (bitsOf_c _ _ _ _).mono ?_; rintro e w' ⟨rfl, hg⟩; (try replace hg := hg.of_drew); replace fz := hg.thaw fR (Nat.zero_lt_succ _) fz; replace fA := hg.cells fA (Nat.zero_lt_succ _); replace fB := hg.cells fB (Nat.zero_lt_succ _); replace fR := hg.cells fR (Nat.zero_lt_succ _); replace hG := hG.trans hg; clear hg) | (go_at_call 39; refine (softAdd_g _ _ _).mono ?_; rintro e w' ⟨rfl, hg⟩; (try replace hg := hg.of_drew); replace fz := hg.thaw fR (Nat.zero_lt_succ _) fz; replace fA := hg.cells fA (Nat.zero_lt_succ _); replace fB := hg.cells fB (Nat.zero_lt_succ _); replace fR := hg.cells fR (Nat.zero_lt_succ _); replace hG := hG.trans hg; clear hg) | (go_at_call 38; refine (numDouble_c _ _).mono ?_; rintro e w' ⟨rfl, hg⟩; (try replace hg := hg.of_drew); replace fz := hg.thaw fR (Nat.zero_lt_succ _) fz; replace fA := hg.cells fA (Nat.zero_lt_succ _); replace fB := hg.cells fB (Nat.zero_lt_succ _); replace fR := hg.cells fR (Nat.zero_lt_succ _); replace hG := hG.trans hg; clear hg))
  all_goals go_wp2
  have hR' : w.heap.size ≤ bR := by have := hR.out; omega
  exact bodyPost_ret (v := .tuple #[.agg #[.bool false, .int .i64 0, .int .u64 (opI .add (bitsI a i u) (bitsI b j v))], .int .i64 0]) (by simp [results, Try.results9, go_sem, fR]) rfl ⟨rfl, ((hG.store hR' _).store hR' _).store hR' _⟩
set_option maxHeartbeats 2000000 in
theorem numAdd_whole (i u j v : Int) (xw : Bool) (xi xu xe : Int) (c : ∀ w, Calls Try.prog 37 #[.int .i64 i, .int .i64 j] w fun e w' => e = .returned (.tuple #[.agg #[.bool xw, .int .i64 xi, .int .u64 xu], .int .i64 xe]) ∧ Gr w w') (w : World) :
    Calls Try.prog 9 #[.agg #[.bool true, .int .i64 i, .int .u64 u], .agg #[.bool true, .int .i64 j, .int .u64 v]] w fun e w' => e = .returned (.tuple #[.agg #[.bool xw, .int .i64 xi, .int .u64 xu], .int .i64 xe]) ∧ Gr w w' := by
  have hk : kindI true true = 0 := rfl
  go_enter Try.func9, Try.ntmps9
  go_wp2_with (first | (go_at_call 36; refine (kinds_c _ _ _ _ _ _ _).mono ?_; rintro e w' ⟨rfl, hg⟩; obtain ⟨fA, fB, fR, fz, hG⟩ := hg.three (Nat.zero_lt_succ _) (Nat.zero_lt_succ _) (Nat.zero_lt_succ _); clear hg; generalize hR : w.heap.size + 1 + 1 = bR at fR fz ⊢; replace hR : Hid (w.heap.size + 1 < bR) := by (show w.heap.size + 1 < bR); omega) | (go_at_call 37; with_reducible refine (c _).mono ?_; rintro e w' ⟨rfl, hg⟩; (try replace hg := hg.of_drew); replace fz := hg.thaw fR (Nat.zero_lt_succ _) fz; replace fA := hg.cells fA (Nat.zero_lt_succ _); replace fB := hg.cells fB (Nat.zero_lt_succ _); replace fR := hg.cells fR (Nat.zero_lt_succ _); replace hG := hG.trans hg; clear hg))
  have hR' : w.heap.size ≤ bR := by have := hR.out; omega
  exact bodyPost_ret (v := .tuple #[.agg #[.bool xw, .int .i64 xi, .int .u64 xu], .int .i64 xe]) (by simp [results, Try.results9, go_sem, fR]) rfl ⟨rfl, ((hG.store hR' _).store hR' _).store hR' _⟩
theorem numAdd_c (a b : Bool) (i u j v : Int) (i0 : -9223372036854775808 ≤ i) (i1 : i < 9223372036854775808) (j0 : -9223372036854775808 ≤ j) (j1 : j < 9223372036854775808) (w : World) :
    Calls Try.prog 9 #[.agg #[.bool a, .int .i64 i, .int .u64 u], .agg #[.bool b, .int .i64 j, .int .u64 v]] w fun e w' => e = .returned (resV (addR a i u b j v)) ∧ Gr w w' := by
  unfold addR
  by_cases h : a = true ∧ b = true
  · rw [if_pos h]
    obtain ⟨rfl, rfl⟩ := h
    exact numAdd_whole i u j v _ _ _ _ (addW_c i j i0 i1 j0 j1) w
  · rw [if_neg h]
    exact numAdd_mixed a b i u j v (by revert h; cases a <;> cases b <;> simp) w
/-- what Sub answers -/
def subR (a : Bool) (i u : Int) (b : Bool) (j v : Int) : Res := if a = true ∧ b = true then fitR (i - j) else okD (opI .sub (bitsI a i u) (bitsI b j v))
set_option maxHeartbeats 2000000 in
theorem numSub_mixed (a b : Bool) (i u j v : Int) (h : a = false ∨ b = false) (w : World) :
    Calls Try.prog 11 #[.agg #[.bool a, .int .i64 i, .int .u64 u], .agg #[.bool b, .int .i64 j, .int .u64 v]] w fun e w' => e = .returned (.tuple #[.agg #[.bool false, .int .i64 0, .int .u64 (opI .sub (bitsI a i u) (bitsI b j v))], .int .i64 0]) ∧ Gr w w' := by
  have hk : (kindI a b == 0) = false := by rcases h with rfl | rfl <;> (try cases a) <;> (try cases b) <;> rfl
  clear h
  go_enter Try.func11, Try.ntmps11
  go_wp2_with (go_at_call 36; refine (kinds_c _ _ _ _ _ _ _).mono ?_; rintro e w' ⟨rfl, hg⟩; obtain ⟨fA, fB, fR, fz, hG⟩ := hg.three (Nat.zero_lt_succ _) (Nat.zero_lt_succ _) (Nat.zero_lt_succ _); clear hg; generalize hR : w.heap.size + 1 + 1 = bR at fR fz ⊢; replace hR : Hid (w.heap.size + 1 < bR) := by (show w.heap.size + 1 < bR); omega)
  go_region_held3 (fun w' => (∀ i_1, w'.cell? ⟨w.heap.size, i_1, none⟩ = #[Value.bool a, .int .i64 i, .int .u64 u][i_1]?) ∧ (∀ i, w'.cell? ⟨w.heap.size + 1, i, none⟩ = #[Value.bool b, .int .i64 j, .int .u64 v][i]?)) (first | exact ⟨fA, fB⟩ | exact far3 hR.out fA fB _ _ _) (first | (go_at_call 40; refine (bitsOf_c _ _ _ _).mono ?_; rintro e w' ⟨rfl, hg⟩; (try replace hg := hg.of_drew); replace fz := hg.thaw fR (Nat.zero_lt_succ _) fz; replace fA := hg.cells fA (Nat.zero_lt_succ _); replace fB := hg.cells fB (Nat.zero_lt_succ _); replace fR := hg.cells fR (Nat.zero_lt_succ _); replace hG := hG.trans hg; clear hg) | (go_at_call 46; refine (softSub_g _ _ _).mono ?_; rintro e w' ⟨rfl, hg⟩; (try replace hg := hg.of_drew); replace fz := hg.thaw fR (Nat.zero_lt_succ _) fz; replace fA := hg.cells fA (Nat.zero_lt_succ _); replace fB := hg.cells fB (Nat.zero_lt_succ _); replace fR := hg.cells fR (Nat.zero_lt_succ _); replace hG := hG.trans hg; clear hg) | (go_at_call 38; refine (numDouble_c _ _).mono ?_; rintro e w' ⟨rfl, hg⟩; (try replace hg := hg.of_drew); replace fz := hg.thaw fR (Nat.zero_lt_succ _) fz; replace fA := hg.cells fA (Nat.zero_lt_succ _); replace fB := hg.cells fB (Nat.zero_lt_succ _); replace fR := hg.cells fR (Nat.zero_lt_succ _); replace hG := hG.trans hg; clear hg))
  all_goals go_wp2
  have hR' : w.heap.size ≤ bR := by have := hR.out; omega
  exact bodyPost_ret (v := .tuple #[.agg #[.bool false, .int .i64 0, .int .u64 (opI .sub (bitsI a i u) (bitsI b j v))], .int .i64 0]) (by simp [results, Try.results11, go_sem, fR]) rfl ⟨rfl, ((hG.store hR' _).store hR' _).store hR' _⟩
set_option maxHeartbeats 2000000 in
theorem numSub_whole (i u j v : Int) (xw : Bool) (xi xu xe : Int) (c : ∀ w, Calls Try.prog 45 #[.int .i64 i, .int .i64 j] w fun e w' => e = .returned (.tuple #[.agg #[.bool xw, .int .i64 xi, .int .u64 xu], .int .i64 xe]) ∧ Gr w w') (w : World) :
    Calls Try.prog 11 #[.agg #[.bool true, .int .i64 i, .int .u64 u], .agg #[.bool true, .int .i64 j, .int .u64 v]] w fun e w' => e = .returned (.tuple #[.agg #[.bool xw, .int .i64 xi, .int .u64 xu], .int .i64 xe]) ∧ Gr w w' := by
  have hk : kindI true true = 0 := rfl
  go_enter Try.func11, Try.ntmps11
  go_wp2_with (first | (go_at_call 36; refine (kinds_c _ _ _ _ _ _ _).mono ?_; rintro e w' ⟨rfl, hg⟩; obtain ⟨fA, fB, fR, fz, hG⟩ := hg.three (Nat.zero_lt_succ _) (Nat.zero_lt_succ _) (Nat.zero_lt_succ _); clear hg; generalize hR : w.heap.size + 1 + 1 = bR at fR fz ⊢; replace hR : Hid (w.heap.size + 1 < bR) := by (show w.heap.size + 1 < bR); omega) | (go_at_call 45; with_reducible refine (c _).mono ?_; rintro e w' ⟨rfl, hg⟩; (try replace hg := hg.of_drew); replace fz := hg.thaw fR (Nat.zero_lt_succ _) fz; replace fA := hg.cells fA (Nat.zero_lt_succ _); replace fB := hg.cells fB (Nat.zero_lt_succ _); replace fR := hg.cells fR (Nat.zero_lt_succ _); replace hG := hG.trans hg; clear hg))
  have hR' : w.heap.size ≤ bR := by have := hR.out; omega
  exact bodyPost_ret (v := .tuple #[.agg #[.bool xw, .int .i64 xi, .int .u64 xu], .int .i64 xe]) (by simp [results, Try.results11, go_sem, fR]) rfl ⟨rfl, ((hG.store hR' _).store hR' _).store hR' _⟩
theorem numSub_c (a b : Bool) (i u j v : Int) (i0 : -9223372036854775808 ≤ i) (i1 : i < 9223372036854775808) (j0 : -9223372036854775808 ≤ j) (j1 : j < 9223372036854775808) (w : World) :
    Calls Try.prog 11 #[.agg #[.bool a, .int .i64 i, .int .u64 u], .agg #[.bool b, .int .i64 j, .int .u64 v]] w fun e w' => e = .returned (resV (subR a i u b j v)) ∧ Gr w w' := by
  unfold subR
  by_cases h : a = true ∧ b = true
  · rw [if_pos h]
    obtain ⟨rfl, rfl⟩ := h
    exact numSub_whole i u j v _ _ _ _ (subW_c i j i0 i1 j0 j1) w
  · rw [if_neg h]
    exact numSub_mixed a b i u j v (by revert h; cases a <;> cases b <;> simp) w
/-- what Mul answers -/
def mulR (a : Bool) (i u : Int) (b : Bool) (j v : Int) : Res := if a = true ∧ b = true then fitR (i * j) else okD (opI .mul (bitsI a i u) (bitsI b j v))
set_option maxHeartbeats 2000000 in
theorem numMul_mixed (a b : Bool) (i u j v : Int) (h : a = false ∨ b = false) (w : World) :
    Calls Try.prog 13 #[.agg #[.bool a, .int .i64 i, .int .u64 u], .agg #[.bool b, .int .i64 j, .int .u64 v]] w fun e w' => e = .returned (.tuple #[.agg #[.bool false, .int .i64 0, .int .u64 (opI .mul (bitsI a i u) (bitsI b j v))], .int .i64 0]) ∧ Gr w w' := by
  have hk : (kindI a b == 0) = false := by rcases h with rfl | rfl <;> (try cases a) <;> (try cases b) <;> rfl
  clear h
  go_enter Try.func13, Try.ntmps13
  go_wp2_with (go_at_call 36; refine (kinds_c _ _ _ _ _ _ _).mono ?_; rintro e w' ⟨rfl, hg⟩; obtain ⟨fA, fB, fR, fz, hG⟩ := hg.three (Nat.zero_lt_succ _) (Nat.zero_lt_succ _) (Nat.zero_lt_succ _); clear hg; generalize hR : w.heap.size + 1 + 1 = bR at fR fz ⊢; replace hR : Hid (w.heap.size + 1 < bR) := by (show w.heap.size + 1 < bR); omega)
  go_region_held3 (fun w' => (∀ i_1, w'.cell? ⟨w.heap.size, i_1, none⟩ = #[Value.bool a, .int .i64 i, .int .u64 u][i_1]?) ∧ (∀ i, w'.cell? ⟨w.heap.size + 1, i, none⟩ = #[Value.bool b, .int .i64 j, .int .u64 v][i]?)) (first | exact ⟨fA, fB⟩ | exact far3 hR.out fA fB _ _ _) (first | (go_at_call 40; refine (bitsOf_c _ _ _ _).mono ?_; rintro e w' ⟨rfl, hg⟩; (try replace hg := hg.of_drew); replace fz := hg.thaw fR (Nat.zero_lt_succ _) fz; replace fA := hg.cells fA (Nat.zero_lt_succ _); replace fB := hg.cells fB (Nat.zero_lt_succ _); replace fR := hg.cells fR (Nat.zero_lt_succ _); replace hG := hG.trans hg; clear hg) | (go_at_call 49; refine (softMul_g _ _ _).mono ?_; rintro e w' ⟨rfl, hg⟩; (try replace hg := hg.of_drew); replace fz := hg.thaw fR (Nat.zero_lt_succ _) fz; replace fA := hg.cells fA (Nat.zero_lt_succ _); replace fB := hg.cells fB (Nat.zero_lt_succ _); replace fR := hg.cells fR (Nat.zero_lt_succ _); replace hG := hG.trans hg; clear hg) | (go_at_call 38; refine (numDouble_c _ _).mono ?_; rintro e w' ⟨rfl, hg⟩; (try replace hg := hg.of_drew); replace fz := hg.thaw fR (Nat.zero_lt_succ _) fz; replace fA := hg.cells fA (Nat.zero_lt_succ _); replace fB := hg.cells fB (Nat.zero_lt_succ _); replace fR := hg.cells fR (Nat.zero_lt_succ _); replace hG := hG.trans hg; clear hg))
  all_goals go_wp2
  have hR' : w.heap.size ≤ bR := by have := hR.out; omega
  exact bodyPost_ret (v := .tuple #[.agg #[.bool false, .int .i64 0, .int .u64 (opI .mul (bitsI a i u) (bitsI b j v))], .int .i64 0]) (by simp [results, Try.results13, go_sem, fR]) rfl ⟨rfl, ((hG.store hR' _).store hR' _).store hR' _⟩
set_option maxHeartbeats 2000000 in
theorem numMul_whole (i u j v : Int) (xw : Bool) (xi xu xe : Int) (c : ∀ w, Calls Try.prog 48 #[.int .i64 i, .int .i64 j] w fun e w' => e = .returned (.tuple #[.agg #[.bool xw, .int .i64 xi, .int .u64 xu], .int .i64 xe]) ∧ Gr w w') (w : World) :
    Calls Try.prog 13 #[.agg #[.bool true, .int .i64 i, .int .u64 u], .agg #[.bool true, .int .i64 j, .int .u64 v]] w fun e w' => e = .returned (.tuple #[.agg #[.bool xw, .int .i64 xi, .int .u64 xu], .int .i64 xe]) ∧ Gr w w' := by
  have hk : kindI true true = 0 := rfl
  go_enter Try.func13, Try.ntmps13
  go_wp2_with (first | (go_at_call 36; refine (kinds_c _ _ _ _ _ _ _).mono ?_; rintro e w' ⟨rfl, hg⟩; obtain ⟨fA, fB, fR, fz, hG⟩ := hg.three (Nat.zero_lt_succ _) (Nat.zero_lt_succ _) (Nat.zero_lt_succ _); clear hg; generalize hR : w.heap.size + 1 + 1 = bR at fR fz ⊢; replace hR : Hid (w.heap.size + 1 < bR) := by (show w.heap.size + 1 < bR); omega) | (go_at_call 48; with_reducible refine (c _).mono ?_; rintro e w' ⟨rfl, hg⟩; (try replace hg := hg.of_drew); replace fz := hg.thaw fR (Nat.zero_lt_succ _) fz; replace fA := hg.cells fA (Nat.zero_lt_succ _); replace fB := hg.cells fB (Nat.zero_lt_succ _); replace fR := hg.cells fR (Nat.zero_lt_succ _); replace hG := hG.trans hg; clear hg))
  have hR' : w.heap.size ≤ bR := by have := hR.out; omega
  exact bodyPost_ret (v := .tuple #[.agg #[.bool xw, .int .i64 xi, .int .u64 xu], .int .i64 xe]) (by simp [results, Try.results13, go_sem, fR]) rfl ⟨rfl, ((hG.store hR' _).store hR' _).store hR' _⟩
theorem numMul_c (a b : Bool) (i u j v : Int) (i0 : -9223372036854775808 ≤ i) (i1 : i < 9223372036854775808) (j0 : -9223372036854775808 ≤ j) (j1 : j < 9223372036854775808) (w : World) :
    Calls Try.prog 13 #[.agg #[.bool a, .int .i64 i, .int .u64 u], .agg #[.bool b, .int .i64 j, .int .u64 v]] w fun e w' => e = .returned (resV (mulR a i u b j v)) ∧ Gr w w' := by
  unfold mulR
  by_cases h : a = true ∧ b = true
  · rw [if_pos h]
    obtain ⟨rfl, rfl⟩ := h
    exact numMul_whole i u j v _ _ _ _ (mulW_c i j i0 i1 j0 j1) w
  · rw [if_neg h]
    exact numMul_mixed a b i u j v (by revert h; cases a <;> cases b <;> simp) w
/-- what FloorDiv answers -/
def flR (a : Bool) (i u : Int) (b : Bool) (j v : Int) : Res := if a = true ∧ b = true then floorR i j else okD (floorI (opI .quo (bitsI a i u) (bitsI b j v)))
set_option maxHeartbeats 2000000 in
theorem numFloorDiv_mixed (a b : Bool) (i u j v : Int) (h : a = false ∨ b = false) (w : World) :
    Calls Try.prog 20 #[.agg #[.bool a, .int .i64 i, .int .u64 u], .agg #[.bool b, .int .i64 j, .int .u64 v]] w fun e w' => e = .returned (.tuple #[.agg #[.bool false, .int .i64 0, .int .u64 (floorI (opI .quo (bitsI a i u) (bitsI b j v)))], .int .i64 0]) ∧ Gr w w' := by
  have hk : (kindI a b == 0) = false := by rcases h with rfl | rfl <;> (try cases a) <;> (try cases b) <;> rfl
  clear h
  go_enter Try.func20, Try.ntmps20
  go_wp2_with (go_at_call 36; refine (kinds_c _ _ _ _ _ _ _).mono ?_; rintro e w' ⟨rfl, hg⟩; obtain ⟨fA, fB, fR, fz, hG⟩ := hg.three (Nat.zero_lt_succ _) (Nat.zero_lt_succ _) (Nat.zero_lt_succ _); clear hg; generalize hR : w.heap.size + 1 + 1 = bR at fR fz ⊢; replace hR : Hid (w.heap.size + 1 < bR) := by (show w.heap.size + 1 < bR); omega)
  go_region_held3 (fun w' => (∀ i_1, w'.cell? ⟨w.heap.size, i_1, none⟩ = #[Value.bool a, .int .i64 i, .int .u64 u][i_1]?) ∧ (∀ i, w'.cell? ⟨w.heap.size + 1, i, none⟩ = #[Value.bool b, .int .i64 j, .int .u64 v][i]?)) (first | exact ⟨fA, fB⟩ | exact far3 hR.out fA fB _ _ _) (first | (go_at_call 40; refine (bitsOf_c _ _ _ _).mono ?_; rintro e w' ⟨rfl, hg⟩; (try replace hg := hg.of_drew); replace fz := hg.thaw fR (Nat.zero_lt_succ _) fz; replace fA := hg.cells fA (Nat.zero_lt_succ _); replace fB := hg.cells fB (Nat.zero_lt_succ _); replace fR := hg.cells fR (Nat.zero_lt_succ _); replace hG := hG.trans hg; clear hg) | (go_at_call 61; refine (floorDoubles_g _ _ _).mono ?_; rintro e w' ⟨rfl, hg⟩; (try replace hg := hg.of_drew); replace fz := hg.thaw fR (Nat.zero_lt_succ _) fz; replace fA := hg.cells fA (Nat.zero_lt_succ _); replace fB := hg.cells fB (Nat.zero_lt_succ _); replace fR := hg.cells fR (Nat.zero_lt_succ _); replace hG := hG.trans hg; clear hg) | (go_at_call 38; refine (numDouble_c _ _).mono ?_; rintro e w' ⟨rfl, hg⟩; (try replace hg := hg.of_drew); replace fz := hg.thaw fR (Nat.zero_lt_succ _) fz; replace fA := hg.cells fA (Nat.zero_lt_succ _); replace fB := hg.cells fB (Nat.zero_lt_succ _); replace fR := hg.cells fR (Nat.zero_lt_succ _); replace hG := hG.trans hg; clear hg))
  all_goals go_wp2
  have hR' : w.heap.size ≤ bR := by have := hR.out; omega
  exact bodyPost_ret (v := .tuple #[.agg #[.bool false, .int .i64 0, .int .u64 (floorI (opI .quo (bitsI a i u) (bitsI b j v)))], .int .i64 0]) (by simp [results, Try.results20, go_sem, fR]) rfl ⟨rfl, ((hG.store hR' _).store hR' _).store hR' _⟩
set_option maxHeartbeats 2000000 in
theorem numFloorDiv_whole (i u j v : Int) (xw : Bool) (xi xu xe : Int) (c : ∀ w, Calls Try.prog 60 #[.int .i64 i, .int .i64 j] w fun e w' => e = .returned (.tuple #[.agg #[.bool xw, .int .i64 xi, .int .u64 xu], .int .i64 xe]) ∧ Gr w w') (w : World) :
    Calls Try.prog 20 #[.agg #[.bool true, .int .i64 i, .int .u64 u], .agg #[.bool true, .int .i64 j, .int .u64 v]] w fun e w' => e = .returned (.tuple #[.agg #[.bool xw, .int .i64 xi, .int .u64 xu], .int .i64 xe]) ∧ Gr w w' := by
  have hk : kindI true true = 0 := rfl
  go_enter Try.func20, Try.ntmps20
  go_wp2_with (first | (go_at_call 36; refine (kinds_c _ _ _ _ _ _ _).mono ?_; rintro e w' ⟨rfl, hg⟩; obtain ⟨fA, fB, fR, fz, hG⟩ := hg.three (Nat.zero_lt_succ _) (Nat.zero_lt_succ _) (Nat.zero_lt_succ _); clear hg; generalize hR : w.heap.size + 1 + 1 = bR at fR fz ⊢; replace hR : Hid (w.heap.size + 1 < bR) := by (show w.heap.size + 1 < bR); omega) | (go_at_call 60; with_reducible refine (c _).mono ?_; rintro e w' ⟨rfl, hg⟩; (try replace hg := hg.of_drew); replace fz := hg.thaw fR (Nat.zero_lt_succ _) fz; replace fA := hg.cells fA (Nat.zero_lt_succ _); replace fB := hg.cells fB (Nat.zero_lt_succ _); replace fR := hg.cells fR (Nat.zero_lt_succ _); replace hG := hG.trans hg; clear hg))
  have hR' : w.heap.size ≤ bR := by have := hR.out; omega
  exact bodyPost_ret (v := .tuple #[.agg #[.bool xw, .int .i64 xi, .int .u64 xu], .int .i64 xe]) (by simp [results, Try.results20, go_sem, fR]) rfl ⟨rfl, ((hG.store hR' _).store hR' _).store hR' _⟩
set_option linter.unusedVariables false in
theorem numFloorDiv_c (a b : Bool) (i u j v : Int) (i0 : -9223372036854775808 ≤ i) (i1 : i < 9223372036854775808) (j0 : -9223372036854775808 ≤ j) (j1 : j < 9223372036854775808) (w : World) :
    Calls Try.prog 20 #[.agg #[.bool a, .int .i64 i, .int .u64 u], .agg #[.bool b, .int .i64 j, .int .u64 v]] w fun e w' => e = .returned (resV (flR a i u b j v)) ∧ Gr w w' := by
  unfold flR
  by_cases h : a = true ∧ b = true
  · rw [if_pos h]
    obtain ⟨rfl, rfl⟩ := h
    exact numFloorDiv_whole i u j v _ _ _ _ (floorW_c i j i0 i1) w
  · rw [if_neg h]
    exact numFloorDiv_mixed a b i u j v (by revert h; cases a <;> cases b <;> simp) w
/-- what Mod answers -/
def mdR (a : Bool) (i u : Int) (b : Bool) (j v : Int) : Res := if a = true ∧ b = true then modR i j else okD (modD (bitsI a i u) (bitsI b j v))
set_option maxHeartbeats 2000000 in
theorem numMod_mixed (a b : Bool) (i u j v : Int) (h : a = false ∨ b = false) (w : World) :
    Calls Try.prog 22 #[.agg #[.bool a, .int .i64 i, .int .u64 u], .agg #[.bool b, .int .i64 j, .int .u64 v]] w fun e w' => e = .returned (.tuple #[.agg #[.bool false, .int .i64 0, .int .u64 (modD (bitsI a i u) (bitsI b j v))], .int .i64 0]) ∧ Gr w w' := by
  have hk : (kindI a b == 0) = false := by rcases h with rfl | rfl <;> (try cases a) <;> (try cases b) <;> rfl
  clear h
  go_enter Try.func22, Try.ntmps22
  go_wp2_with (go_at_call 36; refine (kinds_c _ _ _ _ _ _ _).mono ?_; rintro e w' ⟨rfl, hg⟩; obtain ⟨fA, fB, fR, fz, hG⟩ := hg.three (Nat.zero_lt_succ _) (Nat.zero_lt_succ _) (Nat.zero_lt_succ _); clear hg; generalize hR : w.heap.size + 1 + 1 = bR at fR fz ⊢; replace hR : Hid (w.heap.size + 1 < bR) := by (show w.heap.size + 1 < bR); omega)
  go_region_held3 (fun w' => (∀ i_1, w'.cell? ⟨w.heap.size, i_1, none⟩ = #[Value.bool a, .int .i64 i, .int .u64 u][i_1]?) ∧ (∀ i, w'.cell? ⟨w.heap.size + 1, i, none⟩ = #[Value.bool b, .int .i64 j, .int .u64 v][i]?)) (first | exact ⟨fA, fB⟩ | exact far3 hR.out fA fB _ _ _) (first | (go_at_call 40; refine (bitsOf_c _ _ _ _).mono ?_; rintro e w' ⟨rfl, hg⟩; (try replace hg := hg.of_drew); replace fz := hg.thaw fR (Nat.zero_lt_succ _) fz; replace fA := hg.cells fA (Nat.zero_lt_succ _); replace fB := hg.cells fB (Nat.zero_lt_succ _); replace fR := hg.cells fR (Nat.zero_lt_succ _); replace hG := hG.trans hg; clear hg) | (go_at_call 65; refine (modDoubles_g _ _ _).mono ?_; rintro e w' ⟨rfl, hg⟩; (try replace hg := hg.of_drew); replace fz := hg.thaw fR (Nat.zero_lt_succ _) fz; replace fA := hg.cells fA (Nat.zero_lt_succ _); replace fB := hg.cells fB (Nat.zero_lt_succ _); replace fR := hg.cells fR (Nat.zero_lt_succ _); replace hG := hG.trans hg; clear hg) | (go_at_call 38; refine (numDouble_c _ _).mono ?_; rintro e w' ⟨rfl, hg⟩; (try replace hg := hg.of_drew); replace fz := hg.thaw fR (Nat.zero_lt_succ _) fz; replace fA := hg.cells fA (Nat.zero_lt_succ _); replace fB := hg.cells fB (Nat.zero_lt_succ _); replace fR := hg.cells fR (Nat.zero_lt_succ _); replace hG := hG.trans hg; clear hg))
  all_goals go_wp2
  have hR' : w.heap.size ≤ bR := by have := hR.out; omega
  exact bodyPost_ret (v := .tuple #[.agg #[.bool false, .int .i64 0, .int .u64 (modD (bitsI a i u) (bitsI b j v))], .int .i64 0]) (by simp [results, Try.results22, go_sem, fR]) rfl ⟨rfl, ((hG.store hR' _).store hR' _).store hR' _⟩
set_option maxHeartbeats 2000000 in
theorem numMod_whole (i u j v : Int) (xw : Bool) (xi xu xe : Int) (c : ∀ w, Calls Try.prog 64 #[.int .i64 i, .int .i64 j] w fun e w' => e = .returned (.tuple #[.agg #[.bool xw, .int .i64 xi, .int .u64 xu], .int .i64 xe]) ∧ Gr w w') (w : World) :
    Calls Try.prog 22 #[.agg #[.bool true, .int .i64 i, .int .u64 u], .agg #[.bool true, .int .i64 j, .int .u64 v]] w fun e w' => e = .returned (.tuple #[.agg #[.bool xw, .int .i64 xi, .int .u64 xu], .int .i64 xe]) ∧ Gr w w' := by
  have hk : kindI true true = 0 := rfl
  go_enter Try.func22, Try.ntmps22
  go_wp2_with (first | (go_at_call 36; refine (kinds_c _ _ _ _ _ _ _).mono ?_; rintro e w' ⟨rfl, hg⟩; obtain ⟨fA, fB, fR, fz, hG⟩ := hg.three (Nat.zero_lt_succ _) (Nat.zero_lt_succ _) (Nat.zero_lt_succ _); clear hg; generalize hR : w.heap.size + 1 + 1 = bR at fR fz ⊢; replace hR : Hid (w.heap.size + 1 < bR) := by (show w.heap.size + 1 < bR); omega) | (go_at_call 64; with_reducible refine (c _).mono ?_; rintro e w' ⟨rfl, hg⟩; (try replace hg := hg.of_drew); replace fz := hg.thaw fR (Nat.zero_lt_succ _) fz; replace fA := hg.cells fA (Nat.zero_lt_succ _); replace fB := hg.cells fB (Nat.zero_lt_succ _); replace fR := hg.cells fR (Nat.zero_lt_succ _); replace hG := hG.trans hg; clear hg))
  have hR' : w.heap.size ≤ bR := by have := hR.out; omega
  exact bodyPost_ret (v := .tuple #[.agg #[.bool xw, .int .i64 xi, .int .u64 xu], .int .i64 xe]) (by simp [results, Try.results22, go_sem, fR]) rfl ⟨rfl, ((hG.store hR' _).store hR' _).store hR' _⟩
set_option linter.unusedVariables false in
theorem numMod_c (a b : Bool) (i u j v : Int) (i0 : -9223372036854775808 ≤ i) (i1 : i < 9223372036854775808) (j0 : -9223372036854775808 ≤ j) (j1 : j < 9223372036854775808) (w : World) :
    Calls Try.prog 22 #[.agg #[.bool a, .int .i64 i, .int .u64 u], .agg #[.bool b, .int .i64 j, .int .u64 v]] w fun e w' => e = .returned (resV (mdR a i u b j v)) ∧ Gr w w' := by
  unfold mdR
  by_cases h : a = true ∧ b = true
  · rw [if_pos h]
    obtain ⟨rfl, rfl⟩ := h
    exact numMod_whole i u j v _ _ _ _ (modW_c i j j0 j1) w
  · rw [if_neg h]
    exact numMod_mixed a b i u j v (by revert h; cases a <;> cases b <;> simp) w
/-- what Div answers -/
def divR (a : Bool) (i u : Int) (b : Bool) (j v : Int) : Res := okD (opI .quo (bitsI a i u) (bitsI b j v))
set_option maxHeartbeats 2000000 in
theorem numDiv_c (a b : Bool) (i u j v : Int) (w : World) :
    Calls Try.prog 15 #[.agg #[.bool a, .int .i64 i, .int .u64 u], .agg #[.bool b, .int .i64 j, .int .u64 v]] w fun e w' => e = .returned (resV (divR a i u b j v)) ∧ Gr w w' := by
  go_enter Try.func15, Try.ntmps15
  go_wp2
  generalize hW : World.alloc (World.alloc (World.alloc w _) _) _ = W
  have hg := Gr.of_eq hW
  obtain ⟨fA, fB, fR, fz, hG⟩ := hg.three (Nat.zero_lt_succ _) (Nat.zero_lt_succ _) (Nat.zero_lt_succ _); clear hg; generalize hR : w.heap.size + 1 + 1 = bR at fR fz ⊢; replace hR : Hid (w.heap.size + 1 < bR) := by (show w.heap.size + 1 < bR); omega
  clear hW
  go_region_held3 (fun w' => (∀ i_1, w'.cell? ⟨w.heap.size, i_1, none⟩ = #[Value.bool a, .int .i64 i, .int .u64 u][i_1]?) ∧ (∀ i, w'.cell? ⟨w.heap.size + 1, i, none⟩ = #[Value.bool b, .int .i64 j, .int .u64 v][i]?)) (first | exact ⟨fA, fB⟩ | exact far3 hR.out fA fB _ _ _) (first | (go_at_call 40; refine (bitsOf_c _ _ _ _).mono ?_; rintro e w' ⟨rfl, hg⟩; (try replace hg := hg.of_drew); replace fz := hg.thaw fR (Nat.zero_lt_succ _) fz; replace fA := hg.cells fA (Nat.zero_lt_succ _); replace fB := hg.cells fB (Nat.zero_lt_succ _); replace fR := hg.cells fR (Nat.zero_lt_succ _); replace hG := hG.trans hg; clear hg) | (go_at_call 53; refine (softDiv_g _ _ _).mono ?_; rintro e w' ⟨rfl, hg⟩; (try replace hg := hg.of_drew); replace fz := hg.thaw fR (Nat.zero_lt_succ _) fz; replace fA := hg.cells fA (Nat.zero_lt_succ _); replace fB := hg.cells fB (Nat.zero_lt_succ _); replace fR := hg.cells fR (Nat.zero_lt_succ _); replace hG := hG.trans hg; clear hg) | (go_at_call 38; refine (numDouble_c _ _).mono ?_; rintro e w' ⟨rfl, hg⟩; (try replace hg := hg.of_drew); replace fz := hg.thaw fR (Nat.zero_lt_succ _) fz; replace fA := hg.cells fA (Nat.zero_lt_succ _); replace fB := hg.cells fB (Nat.zero_lt_succ _); replace fR := hg.cells fR (Nat.zero_lt_succ _); replace hG := hG.trans hg; clear hg))
  all_goals go_wp2
  have hR' : w.heap.size ≤ bR := by have := hR.out; omega
  exact bodyPost_ret (v := .tuple #[.agg #[.bool false, .int .i64 0, .int .u64 (opI .quo (bitsI a i u) (bitsI b j v))], .int .i64 0]) (by simp [results, Try.results15, go_sem, fR]) rfl ⟨rfl, ((hG.store hR' _).store hR' _).store hR' _⟩
end Go.Proofs.Ytpbcplgpbafjpaa.W
