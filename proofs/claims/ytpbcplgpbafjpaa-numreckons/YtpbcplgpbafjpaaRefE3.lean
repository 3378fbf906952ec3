/- Contracts of the reference of package num: products, quotients rounded down, rests, the sign turned; of whatever kinds. -/
import Derived.Test.YtpbcplgpbafjpaaRefD3
namespace Go.Proofs.Ytpbcplgpbafjpaa.W
open Go.ChangeShapes Go.WideShapes Go.RowKit

theorem refMulW_c (i u j v : Int) (i0 : -9223372036854775808 ≤ i) (i1 : i < 9223372036854775808) (j0 : -9223372036854775808 ≤ j) (j1 : j < 9223372036854775808) (w : World) :
    Calls Try.prog 14 #[.agg #[.bool true, .int .i64 i, .int .u64 u], .agg #[.bool true, .int .i64 j, .int .u64 v]] w fun e w' => e = .returned (resV (fitR (i * j))) ∧ Gr w w' := by
  obtain ⟨s1, s2⟩ := sizeI_range i0 i1
  obtain ⟨s3, s4⟩ := sizeI_range j0 j1
  have uw : ∀ n : Int, 0 ≤ n → n < 18446744073709551616 → IntKind.u64.wrap n = n := fun n h h' => by rw [IntKind.wrap_u64]; omega
  have ur : ∀ n : Int, 0 ≤ IntKind.u64.wrap n ∧ IntKind.u64.wrap n < 18446744073709551616 := fun n => by rw [IntKind.wrap_u64]; omega
  have sm := size_mul i j
  have e1 : (18446744073709551615 : Int).tdiv (sizeI i) = 18446744073709551615 / sizeI i := Int.tdiv_eq_ediv_of_nonneg (by decide)
  have p0 : 0 ≤ sizeI i * sizeI j := Int.mul_nonneg s1 s3
  refine refMul_core i u j v (sizeI i) (sizeI j) _ _ _ (decide (i < 0)) (decide (j < 0)) _ _ rfl rfl rfl rfl w ?_ (size_c i i0 i1) (size_c j j0 j1) (signed_c _ _ (ur _).1 (ur _).2)
  have big : ∀ q : Int, sizeI i * sizeI j = q → 18446744073709551616 ≤ q → fitR (i * j) = bad 10 := by
    intro q hq h
    refine fitR_out (fun g => ?_)
    rw [sm] at hq
    split at hq <;> omega
  have small : sizeI i * sizeI j < 18446744073709551616 → (signOK (IntKind.u64.wrap (sizeI i * sizeI j)) (decide (i < 0) != decide (j < 0)) = true ∧ resV (fitR (i * j)) = .tuple #[.agg #[.bool true, .int .i64 (signV (IntKind.u64.wrap (sizeI i * sizeI j)) (decide (i < 0) != decide (j < 0))), .int .u64 0], .int .i64 0]) ∨ (signOK (IntKind.u64.wrap (sizeI i * sizeI j)) (decide (i < 0) != decide (j < 0)) = false ∧ resV (fitR (i * j)) = (.tuple #[.agg #[.bool false, .int .i64 0, .int .u64 0], .int .i64 10])) := by
    intro h
    rw [uw _ p0 h]
    obtain ⟨g1, g2⟩ := sign_fit (sizeI i * sizeI j) (decide (i < 0) != decide (j < 0)) p0 h
    have e : (if (decide (i < 0) != decide (j < 0)) = true then -(sizeI i * sizeI j) else sizeI i * sizeI j) = i * j := by
      rw [sm]
      by_cases g : (decide (i < 0) != decide (j < 0)) = true
      · rw [if_pos g, if_pos g]; omega
      · rw [if_neg g, if_neg g]
    rw [e] at g1 g2
    cases ho : signOK (sizeI i * sizeI j) (decide (i < 0) != decide (j < 0)) with
    | true => rw [g1 ho]; exact Or.inl ⟨rfl, rfl⟩
    | false => rw [g2 ho]; exact Or.inr ⟨rfl, rfl⟩
  by_cases hx : 0 < sizeI i
  · have q1 := Int.mul_ediv_add_emod 18446744073709551615 (sizeI i)
    have q2 := Int.emod_nonneg 18446744073709551615 (b := sizeI i) (by omega)
    have q3 := Int.emod_lt_of_pos 18446744073709551615 hx
    have q4 : 0 ≤ 18446744073709551615 / sizeI i := Int.ediv_nonneg (by decide) (by omega)
    have q5 : 18446744073709551615 / sizeI i ≤ 18446744073709551615 := Int.ediv_le_self _ (by decide)
    rw [e1, uw _ q4 (by omega)]
    by_cases hy : 18446744073709551615 / sizeI i < sizeI j
    · refine Or.inl ⟨hx, by omega, hy, ?_⟩
      have : sizeI i * (18446744073709551615 / sizeI i + 1) ≤ sizeI i * sizeI j := Int.mul_le_mul_of_nonneg_left (by omega) s1
      rw [Int.mul_add] at this
      rw [big _ rfl (by omega)]
      rfl
    · refine Or.inr ⟨Or.inl ⟨hx, by omega, hy⟩, small ?_⟩
      have : sizeI i * sizeI j ≤ sizeI i * (18446744073709551615 / sizeI i) := Int.mul_le_mul_of_nonneg_left (by omega) s1
      omega
  · refine Or.inr ⟨Or.inr hx, small ?_⟩
    have : sizeI i = 0 := by omega
    rw [this, Int.zero_mul]
    omega
theorem ref3Mul_c (a b : Bool) (i u j v : Int) (h : inN i u) (k : inN j v) (w : World) :
    Calls Try.prog 14 #[.agg #[.bool a, .int .i64 i, .int .u64 u], .agg #[.bool b, .int .i64 j, .int .u64 v]] w fun e w' => e = .returned (resV (mulR a i u b j v)) ∧ Gr w w' := by
  obtain ⟨⟨i0, i1⟩, u0, u1⟩ := h
  obtain ⟨⟨j0, j1⟩, v0, v1⟩ := k
  unfold mulR
  cases a with
  | false => exact refMul_mixed false b i u j v u0 u1 v0 v1 (Or.inl rfl) w
  | true =>
    cases b with
    | false => exact refMul_mixed true false i u j v u0 u1 v0 v1 (Or.inr ⟨rfl, rfl⟩) w
    | true => rw [if_pos ⟨rfl, rfl⟩]; exact refMulW_c i u j v i0 i1 j0 j1 w
theorem ref3Div_c (a b : Bool) (i u j v : Int) (h : inN i u) (k : inN j v) (w : World) :
    Calls Try.prog 16 #[.agg #[.bool a, .int .i64 i, .int .u64 u], .agg #[.bool b, .int .i64 j, .int .u64 v]] w fun e w' => e = .returned (resV (divR a i u b j v)) ∧ Gr w w' :=
  refDiv_mixed a b i u j v h.2.1 h.2.2 k.2.1 k.2.2 w

set_option maxHeartbeats 2000000 in
theorem refFloor_zero (i u v : Int) (w : World) :
    Calls Try.prog 21 #[.agg #[.bool true, .int .i64 i, .int .u64 u], .agg #[.bool true, .int .i64 0, .int .u64 v]] w fun e w' => e = .returned (.tuple #[.agg #[.bool false, .int .i64 0, .int .u64 0], .int .i64 11]) ∧ Gr w w' := by
  go_enter Try.func21, Try.ntmps21
  go_wp2
  exact bodyPost_ret (v := (.tuple #[.agg #[.bool false, .int .i64 0, .int .u64 0], .int .i64 11])) (by simp [results, Try.results21, go_sem]) rfl ⟨rfl, (((Gr.refl _).alloc _).alloc _).alloc _⟩
set_option maxHeartbeats 2000000 in
theorem refMod_zero (i u v : Int) (w : World) :
    Calls Try.prog 23 #[.agg #[.bool true, .int .i64 i, .int .u64 u], .agg #[.bool true, .int .i64 0, .int .u64 v]] w fun e w' => e = .returned (.tuple #[.agg #[.bool false, .int .i64 0, .int .u64 0], .int .i64 11]) ∧ Gr w w' := by
  go_enter Try.func23, Try.ntmps23
  go_wp2
  exact bodyPost_ret (v := (.tuple #[.agg #[.bool false, .int .i64 0, .int .u64 0], .int .i64 11])) (by simp [results, Try.results23, go_sem]) rfl ⟨rfl, (((Gr.refl _).alloc _).alloc _).alloc _⟩
set_option maxHeartbeats 2000000 in
theorem refFloor_core (i u j v q r V : Int) (m ok : Bool) (X : Value) (hj : (j == 0) = false) (w : World)
    (hC : (ok = true ∧ X = .tuple #[.agg #[.bool true, .int .i64 V, .int .u64 0], .int .i64 0]) ∨ (ok = false ∧ X = (.tuple #[.agg #[.bool false, .int .i64 0, .int .u64 0], .int .i64 10])))
    (c1 : ∀ w, Calls Try.prog 63 #[.int .i64 i, .int .i64 j] w fun e w' => e = .returned (.tuple #[.int .u64 q, .bool m, .int .i64 r]) ∧ Gr w w')
    (c2 : ∀ w, Calls Try.prog 52 #[.int .u64 q, .bool m] w fun e w' => e = .returned (.tuple #[.int .i64 V, .bool ok]) ∧ w' = w) :
    Calls Try.prog 21 #[.agg #[.bool true, .int .i64 i, .int .u64 u], .agg #[.bool true, .int .i64 j, .int .u64 v]] w fun e w' => e = .returned X ∧ Gr w w' := by
  rcases hC with ⟨rfl, rfl⟩ | ⟨rfl, rfl⟩
  all_goals
    go_enter Try.func21, Try.ntmps21
    go_wp2_with (first | (go_at_call 63; (with_reducible refine (c1 _).mono ?_); rintro e w' ⟨rfl, hg⟩; obtain ⟨fA, fB, fR, fz, hG⟩ := hg.three (Nat.zero_lt_succ _) (Nat.zero_lt_succ _) (Nat.zero_lt_succ _); clear hg; generalize hR : w.heap.size + 1 + 1 = bR at fR fz ⊢; replace hR : Hid (w.heap.size + 1 < bR) := (by (show w.heap.size + 1 < bR); omega)) | (go_at_call 52; (with_reducible refine (c2 _).mono ?_); rintro e w' ⟨rfl, rfl⟩) | (go_at_call 44; refine (refWhole_c _ _).mono ?_; rintro e w' ⟨rfl, hg⟩; (try replace hg := hg.of_drew); replace fz := hg.thaw fR (Nat.zero_lt_succ _) fz; replace fA := hg.cells fA (Nat.zero_lt_succ _); replace fB := hg.cells fB (Nat.zero_lt_succ _); replace fR := hg.cells fR (Nat.zero_lt_succ _); replace hG := hG.trans hg; clear hg))
    have hR' : w.heap.size ≤ bR := by have := hR.out; omega
    exact bodyPost_ret (by simp [results, Try.results21, go_sem, fR]) rfl ⟨rfl, ((hG.store hR' _).store hR' _).store hR' _⟩
set_option maxHeartbeats 2000000 in
theorem refMod_core (i u j v q r : Int) (m : Bool) (hj : (j == 0) = false) (w : World)
    (c1 : ∀ w, Calls Try.prog 63 #[.int .i64 i, .int .i64 j] w fun e w' => e = .returned (.tuple #[.int .u64 q, .bool m, .int .i64 r]) ∧ Gr w w') :
    Calls Try.prog 23 #[.agg #[.bool true, .int .i64 i, .int .u64 u], .agg #[.bool true, .int .i64 j, .int .u64 v]] w fun e w' => e = .returned (.tuple #[.agg #[.bool true, .int .i64 r, .int .u64 0], .int .i64 0]) ∧ Gr w w' := by
  go_enter Try.func23, Try.ntmps23
  go_wp2_with (first | (go_at_call 63; (with_reducible refine (c1 _).mono ?_); rintro e w' ⟨rfl, hg⟩; obtain ⟨fA, fB, fR, fz, hG⟩ := hg.three (Nat.zero_lt_succ _) (Nat.zero_lt_succ _) (Nat.zero_lt_succ _); clear hg; generalize hR : w.heap.size + 1 + 1 = bR at fR fz ⊢; replace hR : Hid (w.heap.size + 1 < bR) := (by (show w.heap.size + 1 < bR); omega)) | (go_at_call 44; refine (refWhole_c _ _).mono ?_; rintro e w' ⟨rfl, hg⟩; (try replace hg := hg.of_drew); replace fz := hg.thaw fR (Nat.zero_lt_succ _) fz; replace fA := hg.cells fA (Nat.zero_lt_succ _); replace fB := hg.cells fB (Nat.zero_lt_succ _); replace fR := hg.cells fR (Nat.zero_lt_succ _); replace hG := hG.trans hg; clear hg))
  have hR' : w.heap.size ≤ bR := by have := hR.out; omega
  exact bodyPost_ret (by simp [results, Try.results23, go_sem, fR]) rfl ⟨rfl, ((hG.store hR' _).store hR' _).store hR' _⟩
theorem ref3FloorDiv_c (a b : Bool) (i u j v : Int) (h : inN i u) (k : inN j v) (w : World) :
    Calls Try.prog 21 #[.agg #[.bool a, .int .i64 i, .int .u64 u], .agg #[.bool b, .int .i64 j, .int .u64 v]] w fun e w' => e = .returned (resV (flR a i u b j v)) ∧ Gr w w' := by
  obtain ⟨⟨i0, i1⟩, u0, u1⟩ := h
  obtain ⟨⟨j0, j1⟩, v0, v1⟩ := k
  unfold flR
  cases a with
  | false => exact refFloorDiv_mixed false b i u j v u0 u1 v0 v1 (Or.inl rfl) w
  | true =>
    cases b with
    | false => exact refFloorDiv_mixed true false i u j v u0 u1 v0 v1 (Or.inr ⟨rfl, rfl⟩) w
    | true =>
      rw [if_pos ⟨rfl, rfl⟩]
      unfold floorR
      by_cases hj : j = 0
      · subst hj; rw [if_pos rfl]; exact refFloor_zero i u v w
      · rw [if_neg hj]
        obtain ⟨q0, q1⟩ := fq_range i0 i1 hj
        obtain ⟨g1, g2⟩ := sign_fit (fq i j) (decide (i < 0) != decide (j < 0)) q0 q1
        rw [← (sizes i j hj).1] at g1 g2
        refine refFloor_core i u j v _ _ _ _ _ _ (by simpa using hj) w ?_ (floors_c i j i0 i1 j0 j1 hj) (signed_c _ _ q0 q1)
        cases ho : signOK (fq i j) (decide (i < 0) != decide (j < 0)) with
        | true => rw [g1 ho]; exact Or.inl ⟨rfl, rfl⟩
        | false => rw [g2 ho]; exact Or.inr ⟨rfl, rfl⟩
set_option maxHeartbeats 1000000 in
theorem refNeg_double (i u : Int) (u0 : 0 ≤ u) (u1 : u < 18446744073709551616) (w : World) :
    Calls Try.prog 18 #[.agg #[.bool false, .int .i64 i, .int .u64 u]] w fun e w' => e = .returned (.tuple #[.agg #[.bool false, .int .i64 0, .int .u64 (negI u)], .int .i64 0]) ∧ Gr w w' := by
  go_enter Try.func18, Try.ntmps18
  go_wp2_with (first | (go_at_call 58; refine (refNeg_c _ (by omega) (by omega) _).mono ?_; rintro e w' ⟨rfl, rfl⟩) | (go_at_call 41; refine (ref3Double_c _ _).mono ?_; rintro e w' ⟨rfl, hg⟩; obtain ⟨fA, fR, fz, hG⟩ := hg.pair (Nat.zero_lt_succ _) (Nat.zero_lt_succ _); clear hg))
  exact bodyPost_ret (v := .tuple #[.agg #[.bool false, .int .i64 0, .int .u64 (negI u)], .int .i64 0]) (by simp [results, Try.results18, go_sem, fR]) rfl ⟨rfl, ((hG.store (Nat.le_succ _) _).store (Nat.le_succ _) _).store (Nat.le_succ _) _⟩
theorem far1s {w : World} {A : Array Value} {n : Nat} (fA : ∀ i, w.cell? ⟨n, i, none⟩ = A[i]?) (x y z : Value) :
    ∀ i, (((w.setCell ⟨n + 1, 0, none⟩ x).setCell ⟨n + 1, 1, none⟩ y).setCell ⟨n + 1, 2, none⟩ z).cell? ⟨n, i, none⟩ = A[i]? := by
  have h1 : n + 1 ≠ n := by omega
  intro i
  rw [World.cell?_setCell_far _ _ _ _ h1, World.cell?_setCell_far _ _ _ _ h1, World.cell?_setCell_far _ _ _ _ h1, fA]
set_option maxHeartbeats 1000000 in
theorem refNeg_whole (i u : Int) (xw : Bool) (xi xu xe : Int) (w : World)
    (c : ∀ w, Calls Try.prog 12 #[.agg #[.bool true, .int .i64 0, .int .u64 0], .agg #[.bool true, .int .i64 i, .int .u64 u]] w fun e w' => e = .returned (.tuple #[.agg #[.bool xw, .int .i64 xi, .int .u64 xu], .int .i64 xe]) ∧ Gr w w') :
    Calls Try.prog 18 #[.agg #[.bool true, .int .i64 i, .int .u64 u]] w fun e w' => e = .returned (.tuple #[.agg #[.bool xw, .int .i64 xi, .int .u64 xu], .int .i64 xe]) ∧ Gr w w' := by
  go_enter Try.func18, Try.ntmps18
  go_wp2
  generalize hW : World.alloc (World.alloc w _) _ = W
  have hg := Gr.of_eq hW
  obtain ⟨fA, fR, fz, hG⟩ := hg.pair (Nat.zero_lt_succ _) (Nat.zero_lt_succ _); clear hg
  clear hW
  go_region_held3 (fun w' => ∀ i_1, w'.cell? ⟨w.heap.size, i_1, none⟩ = #[Value.bool true, .int .i64 i, .int .u64 u][i_1]?) (first | exact fA | exact far1s fA _ _ _) (first | (go_at_call 44; refine (refWhole_c _ _).mono ?_; rintro e w' ⟨rfl, hg⟩; (try replace hg := hg.of_drew); replace fz := hg.thaw fR (Nat.zero_lt_succ _) fz; replace fA := hg.cells fA (Nat.zero_lt_succ _); replace fR := hg.cells fR (Nat.zero_lt_succ _); replace hG := hG.trans hg; clear hg) | (go_at_call 12; (with_reducible refine (c _).mono ?_); rintro e w' ⟨rfl, hg⟩; (try replace hg := hg.of_drew); replace fz := hg.thaw fR (Nat.zero_lt_succ _) fz; replace fA := hg.cells fA (Nat.zero_lt_succ _); replace fR := hg.cells fR (Nat.zero_lt_succ _); replace hG := hG.trans hg; clear hg))
  all_goals go_wp2
  exact bodyPost_ret (v := .tuple #[.agg #[.bool xw, .int .i64 xi, .int .u64 xu], .int .i64 xe]) (by simp [results, Try.results18, go_sem, fR]) rfl ⟨rfl, ((hG.store (Nat.le_succ _) _).store (Nat.le_succ _) _).store (Nat.le_succ _) _⟩
theorem ref3Neg_c (a : Bool) (i u : Int) (h : inN i u) (w : World) :
    Calls Try.prog 18 #[.agg #[.bool a, .int .i64 i, .int .u64 u]] w fun e w' => e = .returned (resV (negR a i u)) ∧ Gr w w' := by
  unfold negR
  cases a with
  | false => exact refNeg_double i u h.2.1 h.2.2 w
  | true =>
    rw [if_pos rfl]
    have c := ref3Sub_c true true 0 0 i u ⟨by decide, by decide, by decide⟩ h
    have e : subR true 0 0 true i u = fitR (-i) := by
      have : subR true 0 0 true i u = fitR (0 - i) := if_pos ⟨rfl, rfl⟩
      rw [this, Int.zero_sub]
    rw [e] at c
    exact refNeg_whole i u _ _ _ _ w c
/-! ### rests of two numbers -/
set_option maxHeartbeats 2000000 in
theorem refMod_mixed (a b : Bool) (i u j v : Int) (u0 : 0 ≤ u) (u1 : u < 18446744073709551616) (v0 : 0 ≤ v) (v1 : v < 18446744073709551616) (h : (a = false ∧ b = b) ∨ (a = true ∧ b = false)) (w : World) :
    Calls Try.prog 23 #[.agg #[.bool a, .int .i64 i, .int .u64 u], .agg #[.bool b, .int .i64 j, .int .u64 v]] w fun e w' => e = .returned (.tuple #[.agg #[.bool false, .int .i64 0, .int .u64 (modD (bitsI a i u) (bitsI b j v))], .int .i64 0]) ∧ Gr w w' := by
  obtain ⟨x0, x1⟩ := bitsI_range a i u u0 u1
  obtain ⟨y0, y1⟩ := bitsI_range b j v v0 v1
  have hx : opI .sub (fltW (bitsI a i u)) (opI .mul (fltW (bitsI b j v)) (floorI (opI .quo (fltW (bitsI a i u)) (fltW (bitsI b j v))))) = modD (bitsI a i u) (bitsI b j v) := by
    unfold modD
    rw [opI_flt .quo _ _ x0 x1 y0 y1]
    have r1 := floorI_range (opI .quo (bitsI a i u) (bitsI b j v))
    have e1 : opI .mul (fltW (bitsI b j v)) (floorI (opI .quo (bitsI a i u) (bitsI b j v))) = opI .mul (bitsI b j v) (floorI (opI .quo (bitsI a i u) (bitsI b j v))) := by
      have fy := flt_range y0 y1
      rcases flt_cases (bitsI b j v) with ⟨h1, h2⟩ | h1
      · rw [opI_nan .mul _ _ fy.1 h2, opI_nan .mul _ _ y0 h1]
      · rw [h1]
    rw [e1]
    have fx := flt_range x0 x1
    rcases flt_cases (bitsI a i u) with ⟨h1, h2⟩ | h1
    · rw [opI_nan .sub _ _ fx.1 h2, opI_nan .sub _ _ x0 h1]
    · rw [h1]
  rw [← hx]
  clear hx x0 x1 y0 y1
  rcases h with ⟨rfl, h⟩ | ⟨rfl, rfl⟩
  · go_enter Try.func23, Try.ntmps23
    go_wp2
    generalize hW : World.alloc (World.alloc (World.alloc w _) _) _ = W
    have hg := Gr.of_eq hW
    obtain ⟨fA, fB, fR, fz, hG⟩ := hg.three (Nat.zero_lt_succ _) (Nat.zero_lt_succ _) (Nat.zero_lt_succ _); clear hg; generalize hR : w.heap.size + 1 + 1 = bR at fR fz ⊢; replace hR : Hid (w.heap.size + 1 < bR) := (by (show w.heap.size + 1 < bR); omega)
    clear hW
    go_region_held3 (fun w' => (∀ i_1, w'.cell? ⟨w.heap.size, i_1, none⟩ = #[Value.bool false, .int .i64 i, .int .u64 u][i_1]?) ∧ (∀ i, w'.cell? ⟨w.heap.size + 1, i, none⟩ = #[Value.bool b, .int .i64 j, .int .u64 v][i]?)) (exact ⟨fA, fB⟩) (first | (go_at_call 43; refine (refBits_c _ _ _ (by omega) (by omega) _).mono ?_; rintro e w1 ⟨rfl, hg⟩; (try replace hg := hg.of_drew); replace fz := hg.thaw fR (Nat.zero_lt_succ _) fz; replace fA := hg.cells fA (Nat.zero_lt_succ _); replace fB := hg.cells fB (Nat.zero_lt_succ _); replace fR := hg.cells fR (Nat.zero_lt_succ _); replace hG := hG.trans hg; clear hg))
    go_wp2_with (first | (go_at_call 54; refine (refDiv_g _ _ _).mono ?_; rintro e w' ⟨rfl, hg⟩; (try replace hg := hg.of_drew); replace fz := hg.thaw fR (Nat.zero_lt_succ _) fz; replace fA := hg.cells fA (Nat.zero_lt_succ _); replace fB := hg.cells fB (Nat.zero_lt_succ _); replace fR := hg.cells fR (Nat.zero_lt_succ _); replace hG := hG.trans hg; clear hg) | (go_at_call 62; refine (refFloor_g _ (opI_range _ _ _).1 (opI_range _ _ _).2 _).mono ?_; rintro e w' ⟨rfl, hg⟩; (try replace hg := hg.of_drew); replace fz := hg.thaw fR (Nat.zero_lt_succ _) fz; replace fA := hg.cells fA (Nat.zero_lt_succ _); replace fB := hg.cells fB (Nat.zero_lt_succ _); replace fR := hg.cells fR (Nat.zero_lt_succ _); replace hG := hG.trans hg; clear hg) | (go_at_call 50; refine (refMul_g _ _ _).mono ?_; rintro e w' ⟨rfl, hg⟩; (try replace hg := hg.of_drew); replace fz := hg.thaw fR (Nat.zero_lt_succ _) fz; replace fA := hg.cells fA (Nat.zero_lt_succ _); replace fB := hg.cells fB (Nat.zero_lt_succ _); replace fR := hg.cells fR (Nat.zero_lt_succ _); replace hG := hG.trans hg; clear hg) | (go_at_call 47; refine (refSub_g _ _ _).mono ?_; rintro e w' ⟨rfl, hg⟩; (try replace hg := hg.of_drew); replace fz := hg.thaw fR (Nat.zero_lt_succ _) fz; replace fA := hg.cells fA (Nat.zero_lt_succ _); replace fB := hg.cells fB (Nat.zero_lt_succ _); replace fR := hg.cells fR (Nat.zero_lt_succ _); replace hG := hG.trans hg; clear hg) | (go_at_call 41; refine (ref3Double_c _ _).mono ?_; rintro e w' ⟨rfl, hg⟩; (try replace hg := hg.of_drew); replace fz := hg.thaw fR (Nat.zero_lt_succ _) fz; replace fA := hg.cells fA (Nat.zero_lt_succ _); replace fB := hg.cells fB (Nat.zero_lt_succ _); replace fR := hg.cells fR (Nat.zero_lt_succ _); replace hG := hG.trans hg; clear hg))
    have hR' : w.heap.size ≤ bR := by have := hR.out; omega
    exact bodyPost_ret (by simp [results, Try.results23, go_sem, fR]) rfl ⟨rfl, ((hG.store hR' _).store hR' _).store hR' _⟩
  · go_enter Try.func23, Try.ntmps23
    go_wp2
    generalize hW : World.alloc (World.alloc (World.alloc w _) _) _ = W
    have hg := Gr.of_eq hW
    obtain ⟨fA, fB, fR, fz, hG⟩ := hg.three (Nat.zero_lt_succ _) (Nat.zero_lt_succ _) (Nat.zero_lt_succ _); clear hg; generalize hR : w.heap.size + 1 + 1 = bR at fR fz ⊢; replace hR : Hid (w.heap.size + 1 < bR) := (by (show w.heap.size + 1 < bR); omega)
    clear hW
    go_region_held3 (fun w' => (∀ i_1, w'.cell? ⟨w.heap.size, i_1, none⟩ = #[Value.bool true, .int .i64 i, .int .u64 u][i_1]?) ∧ (∀ i, w'.cell? ⟨w.heap.size + 1, i, none⟩ = #[Value.bool false, .int .i64 j, .int .u64 v][i]?)) (exact ⟨fA, fB⟩) (first | (go_at_call 43; refine (refBits_c _ _ _ (by omega) (by omega) _).mono ?_; rintro e w1 ⟨rfl, hg⟩; (try replace hg := hg.of_drew); replace fz := hg.thaw fR (Nat.zero_lt_succ _) fz; replace fA := hg.cells fA (Nat.zero_lt_succ _); replace fB := hg.cells fB (Nat.zero_lt_succ _); replace fR := hg.cells fR (Nat.zero_lt_succ _); replace hG := hG.trans hg; clear hg))
    go_wp2_with (first | (go_at_call 54; refine (refDiv_g _ _ _).mono ?_; rintro e w' ⟨rfl, hg⟩; (try replace hg := hg.of_drew); replace fz := hg.thaw fR (Nat.zero_lt_succ _) fz; replace fA := hg.cells fA (Nat.zero_lt_succ _); replace fB := hg.cells fB (Nat.zero_lt_succ _); replace fR := hg.cells fR (Nat.zero_lt_succ _); replace hG := hG.trans hg; clear hg) | (go_at_call 62; refine (refFloor_g _ (opI_range _ _ _).1 (opI_range _ _ _).2 _).mono ?_; rintro e w' ⟨rfl, hg⟩; (try replace hg := hg.of_drew); replace fz := hg.thaw fR (Nat.zero_lt_succ _) fz; replace fA := hg.cells fA (Nat.zero_lt_succ _); replace fB := hg.cells fB (Nat.zero_lt_succ _); replace fR := hg.cells fR (Nat.zero_lt_succ _); replace hG := hG.trans hg; clear hg) | (go_at_call 50; refine (refMul_g _ _ _).mono ?_; rintro e w' ⟨rfl, hg⟩; (try replace hg := hg.of_drew); replace fz := hg.thaw fR (Nat.zero_lt_succ _) fz; replace fA := hg.cells fA (Nat.zero_lt_succ _); replace fB := hg.cells fB (Nat.zero_lt_succ _); replace fR := hg.cells fR (Nat.zero_lt_succ _); replace hG := hG.trans hg; clear hg) | (go_at_call 47; refine (refSub_g _ _ _).mono ?_; rintro e w' ⟨rfl, hg⟩; (try replace hg := hg.of_drew); replace fz := hg.thaw fR (Nat.zero_lt_succ _) fz; replace fA := hg.cells fA (Nat.zero_lt_succ _); replace fB := hg.cells fB (Nat.zero_lt_succ _); replace fR := hg.cells fR (Nat.zero_lt_succ _); replace hG := hG.trans hg; clear hg) | (go_at_call 41; refine (ref3Double_c _ _).mono ?_; rintro e w' ⟨rfl, hg⟩; (try replace hg := hg.of_drew); replace fz := hg.thaw fR (Nat.zero_lt_succ _) fz; replace fA := hg.cells fA (Nat.zero_lt_succ _); replace fB := hg.cells fB (Nat.zero_lt_succ _); replace fR := hg.cells fR (Nat.zero_lt_succ _); replace hG := hG.trans hg; clear hg))
    have hR' : w.heap.size ≤ bR := by have := hR.out; omega
    exact bodyPost_ret (by simp [results, Try.results23, go_sem, fR]) rfl ⟨rfl, ((hG.store hR' _).store hR' _).store hR' _⟩
theorem ref3Mod_c (a b : Bool) (i u j v : Int) (h : inN i u) (k : inN j v) (w : World) :
    Calls Try.prog 23 #[.agg #[.bool a, .int .i64 i, .int .u64 u], .agg #[.bool b, .int .i64 j, .int .u64 v]] w fun e w' => e = .returned (resV (mdR a i u b j v)) ∧ Gr w w' := by
  obtain ⟨⟨i0, i1⟩, u0, u1⟩ := h
  obtain ⟨⟨j0, j1⟩, v0, v1⟩ := k
  unfold mdR
  cases a with
  | false => exact refMod_mixed false b i u j v u0 u1 v0 v1 (Or.inl ⟨rfl, rfl⟩) w
  | true =>
    cases b with
    | false => exact refMod_mixed true false i u j v u0 u1 v0 v1 (Or.inr ⟨rfl, rfl⟩) w
    | true =>
      rw [if_pos ⟨rfl, rfl⟩]
      unfold modR
      by_cases hj : j = 0
      · subst hj; rw [if_pos rfl]; exact refMod_zero i u v w
      · rw [if_neg hj]
        exact refMod_core i u j v _ _ _ (by simpa using hj) w (floors_c i j i0 i1 j0 j1 hj)
end Go.Proofs.Ytpbcplgpbafjpaa.W
