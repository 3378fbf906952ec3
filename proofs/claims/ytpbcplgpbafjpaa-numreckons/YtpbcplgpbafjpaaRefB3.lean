/- Contracts of the reference of package num: sums, differences, products, quotients. -/
import Derived.Test.YtpbcplgpbafjpaaNumE
import Derived.Test.YtpbcplgpbafjpaaNumB
import Derived.Test.YtpbcplgpbafjpaaF6
namespace Go.Proofs.Ytpbcplgpbafjpaa.W
open Go.ChangeShapes Go.WideShapes Go.RowKit
theorem opI_nan2 (op : BinOp) (a b : Int) (h0 : 0 ≤ b) (hn : nanB b = true) : opI op a b = 9221120237041090560 := by
  have e := nan_of b h0
  rw [hn] at e
  have h : floatBits op .f64 a.toNat b.toNat = none := by
    have x1 : floatBits .add .f64 a.toNat b.toNat = ((Ieee.double.read a.toNat).sum (Ieee.double.read b.toNat)).map Ieee.double.write := rfl
    have x2 : floatBits .sub .f64 a.toNat b.toNat = ((Ieee.double.read a.toNat).sum (Ieee.double.read b.toNat).opposite).map Ieee.double.write := rfl
    have x3 : floatBits .mul .f64 a.toNat b.toNat = ((Ieee.double.read a.toNat).product (Ieee.double.read b.toNat)).map Ieee.double.write := rfl
    have x4 : floatBits .quo .f64 a.toNat b.toNat = ((Ieee.double.read a.toNat).quotient 54 (Ieee.double.read b.toNat)).map Ieee.double.write := rfl
    cases eb : Ieee.double.read b.toNat with
    | number s m p => rw [eb] at e; cases e
    | infinity s => rw [eb] at e; cases e
    | nan s t =>
      rw [eb] at x1 x2 x3 x4
      generalize Ieee.double.read a.toNat = d at x1 x2 x3 x4
      cases op
      case add => rw [x1]; cases d <;> rfl
      case sub => rw [x2]; cases d <;> rfl
      case mul => rw [x3]; cases d <;> rfl
      case quo => rw [x4]; cases d <;> rfl
      all_goals rfl
  unfold opI; rw [h]
theorem flt_range {x : Int} (h0 : 0 ≤ x) (h1 : x < 18446744073709551616) : 0 ≤ fltW x ∧ fltW x < 18446744073709551616 := by unfold fltW; split <;> omega
theorem flt_cases (x : Int) : (nanB x = true ∧ nanB (fltW x) = true) ∨ fltW x = x := by
  unfold fltW
  cases h : nanB x with
  | true => exact Or.inl ⟨rfl, by rw [if_pos rfl]; decide⟩
  | false => exact Or.inr rfl
theorem opI_flt (op : BinOp) (a b : Int) (a0 : 0 ≤ a) (a1 : a < 18446744073709551616) (b0 : 0 ≤ b) (b1 : b < 18446744073709551616) : opI op (fltW a) (fltW b) = opI op a b := by
  have ra := flt_range a0 a1
  have rb := flt_range b0 b1
  rcases flt_cases a with ⟨h1, h2⟩ | h
  · rw [opI_nan op _ _ ra.1 h2, opI_nan op a b a0 h1]
  · rw [h]
    rcases flt_cases b with ⟨h1, h2⟩ | h'
    · rw [opI_nan2 op _ _ rb.1 h2, opI_nan2 op a b b0 h1]
    · rw [h']
theorem bitsI_range (a : Bool) (i u : Int) (u0 : 0 ≤ u) (u1 : u < 18446744073709551616) : 0 ≤ bitsI a i u ∧ bitsI a i u < 18446744073709551616 := by
  unfold bitsI; split
  · exact fromI_range i
  · exact ⟨u0, u1⟩
theorem refAdd_g (a b : Int) (w : World) : Calls Try.prog 42 #[.int .u64 a, .int .u64 b] w fun e w' => e = .returned (.int .u64 (opI .add a b)) ∧ Gr w w' := (refAdd_c a b w).mono fun _ _ ⟨h, m, k⟩ => ⟨h, Gr.of_same m k⟩
theorem refSub_g (a b : Int) (w : World) : Calls Try.prog 47 #[.int .u64 a, .int .u64 b] w fun e w' => e = .returned (.int .u64 (opI .sub a b)) ∧ Gr w w' := (refSub_c a b w).mono fun _ _ ⟨h, m, k⟩ => ⟨h, Gr.of_same m k⟩
theorem refMul_g (a b : Int) (w : World) : Calls Try.prog 50 #[.int .u64 a, .int .u64 b] w fun e w' => e = .returned (.int .u64 (opI .mul a b)) ∧ Gr w w' := (refMul_c a b w).mono fun _ _ ⟨h, m, k⟩ => ⟨h, Gr.of_same m k⟩
theorem refDiv_g (a b : Int) (w : World) : Calls Try.prog 54 #[.int .u64 a, .int .u64 b] w fun e w' => e = .returned (.int .u64 (opI .quo a b)) ∧ Gr w w' := (refDiv_c a b w).mono fun _ _ ⟨h, m, k⟩ => ⟨h, Gr.of_same m k⟩
theorem refFloor_g (a : Int) (h0 : 0 ≤ a) (h1 : a < 18446744073709551616) (w : World) : Calls Try.prog 62 #[.int .u64 a] w fun e w' => e = .returned (.int .u64 (floorI a)) ∧ Gr w w' := (refFloor_c a h0 h1 w).mono fun _ _ ⟨h, m, k⟩ => ⟨h, Gr.of_same m k⟩
set_option maxHeartbeats 2000000 in
theorem refAdd_mixed (a b : Bool) (i u j v : Int) (u0 : 0 ≤ u) (u1 : u < 18446744073709551616) (v0 : 0 ≤ v) (v1 : v < 18446744073709551616) (h : a = false ∨ (a = true ∧ b = false)) (w : World) :
    Calls Try.prog 10 #[.agg #[.bool a, .int .i64 i, .int .u64 u], .agg #[.bool b, .int .i64 j, .int .u64 v]] w fun e w' => e = .returned (.tuple #[.agg #[.bool false, .int .i64 0, .int .u64 (opI .add (bitsI a i u) (bitsI b j v))], .int .i64 0]) ∧ Gr w w' := by
  obtain ⟨x0, x1⟩ := bitsI_range a i u u0 u1
  obtain ⟨y0, y1⟩ := bitsI_range b j v v0 v1
  have hx : opI .add (fltW (bitsI a i u)) (fltW (bitsI b j v)) = opI .add (bitsI a i u) (bitsI b j v) := by simp only [opI_flt _ _ _ x0 x1 y0 y1]
  rw [← hx]
  clear hx x0 x1 y0 y1
  rcases h with rfl | ⟨rfl, rfl⟩
  · go_enter Try.func10, Try.ntmps10
    go_wp2
    generalize hW : World.alloc (World.alloc (World.alloc w _) _) _ = W
    have hg := Gr.of_eq hW
    obtain ⟨fA, fB, fR, fz, hG⟩ := hg.three (Nat.zero_lt_succ _) (Nat.zero_lt_succ _) (Nat.zero_lt_succ _); clear hg; generalize hR : w.heap.size + 1 + 1 = bR at fR fz ⊢; replace hR : Hid (w.heap.size + 1 < bR) := by (show w.heap.size + 1 < bR); omega
    clear hW
    go_region_held3 (fun w' => (∀ i_1, w'.cell? ⟨w.heap.size, i_1, none⟩ = #[Value.bool false, .int .i64 i, .int .u64 u][i_1]?) ∧ (∀ i, w'.cell? ⟨w.heap.size + 1, i, none⟩ = #[Value.bool b, .int .i64 j, .int .u64 v][i]?)) (first | exact ⟨fA, fB⟩ | exact far3 hR.out fA fB _ _ _) (first | (go_at_call 43; refine (refBits_c _ _ _ (by omega) (by omega) _).mono ?_; rintro e w' ⟨rfl, hg⟩; (try replace hg := hg.of_drew); replace fz := hg.thaw fR (Nat.zero_lt_succ _) fz; replace fA := hg.cells fA (Nat.zero_lt_succ _); replace fB := hg.cells fB (Nat.zero_lt_succ _); replace fR := hg.cells fR (Nat.zero_lt_succ _); replace hG := hG.trans hg; clear hg) | (go_at_call 42; refine (refAdd_g _ _ _).mono ?_; rintro e w' ⟨rfl, hg⟩; (try replace hg := hg.of_drew); replace fz := hg.thaw fR (Nat.zero_lt_succ _) fz; replace fA := hg.cells fA (Nat.zero_lt_succ _); replace fB := hg.cells fB (Nat.zero_lt_succ _); replace fR := hg.cells fR (Nat.zero_lt_succ _); replace hG := hG.trans hg; clear hg) | (go_at_call 41; refine (ref3Double_c _ _).mono ?_; rintro e w' ⟨rfl, hg⟩; (try replace hg := hg.of_drew); replace fz := hg.thaw fR (Nat.zero_lt_succ _) fz; replace fA := hg.cells fA (Nat.zero_lt_succ _); replace fB := hg.cells fB (Nat.zero_lt_succ _); replace fR := hg.cells fR (Nat.zero_lt_succ _); replace hG := hG.trans hg; clear hg))
    all_goals go_wp2
    have hR' : w.heap.size ≤ bR := by have := hR.out; omega
    exact bodyPost_ret (v := .tuple #[.agg #[.bool false, .int .i64 0, .int .u64 (opI .add (fltW (bitsI false i u)) (fltW (bitsI b j v)))], .int .i64 0]) (by simp [results, Try.results10, go_sem, fR]) rfl ⟨rfl, ((hG.store hR' _).store hR' _).store hR' _⟩
  · go_enter Try.func10, Try.ntmps10
    go_wp2
    generalize hW : World.alloc (World.alloc (World.alloc w _) _) _ = W
    have hg := Gr.of_eq hW
    obtain ⟨fA, fB, fR, fz, hG⟩ := hg.three (Nat.zero_lt_succ _) (Nat.zero_lt_succ _) (Nat.zero_lt_succ _); clear hg; generalize hR : w.heap.size + 1 + 1 = bR at fR fz ⊢; replace hR : Hid (w.heap.size + 1 < bR) := by (show w.heap.size + 1 < bR); omega
    clear hW
    go_region_held3 (fun w' => (∀ i_1, w'.cell? ⟨w.heap.size, i_1, none⟩ = #[Value.bool true, .int .i64 i, .int .u64 u][i_1]?) ∧ (∀ i, w'.cell? ⟨w.heap.size + 1, i, none⟩ = #[Value.bool false, .int .i64 j, .int .u64 v][i]?)) (first | exact ⟨fA, fB⟩ | exact far3 hR.out fA fB _ _ _) (first | (go_at_call 43; refine (refBits_c _ _ _ (by omega) (by omega) _).mono ?_; rintro e w' ⟨rfl, hg⟩; (try replace hg := hg.of_drew); replace fz := hg.thaw fR (Nat.zero_lt_succ _) fz; replace fA := hg.cells fA (Nat.zero_lt_succ _); replace fB := hg.cells fB (Nat.zero_lt_succ _); replace fR := hg.cells fR (Nat.zero_lt_succ _); replace hG := hG.trans hg; clear hg) | (go_at_call 42; refine (refAdd_g _ _ _).mono ?_; rintro e w' ⟨rfl, hg⟩; (try replace hg := hg.of_drew); replace fz := hg.thaw fR (Nat.zero_lt_succ _) fz; replace fA := hg.cells fA (Nat.zero_lt_succ _); replace fB := hg.cells fB (Nat.zero_lt_succ _); replace fR := hg.cells fR (Nat.zero_lt_succ _); replace hG := hG.trans hg; clear hg) | (go_at_call 41; refine (ref3Double_c _ _).mono ?_; rintro e w' ⟨rfl, hg⟩; (try replace hg := hg.of_drew); replace fz := hg.thaw fR (Nat.zero_lt_succ _) fz; replace fA := hg.cells fA (Nat.zero_lt_succ _); replace fB := hg.cells fB (Nat.zero_lt_succ _); replace fR := hg.cells fR (Nat.zero_lt_succ _); replace hG := hG.trans hg; clear hg))
    all_goals go_wp2
    have hR' : w.heap.size ≤ bR := by have := hR.out; omega
    exact bodyPost_ret (v := .tuple #[.agg #[.bool false, .int .i64 0, .int .u64 (opI .add (fltW (bitsI true i u)) (fltW (bitsI false j v)))], .int .i64 0]) (by simp [results, Try.results10, go_sem, fR]) rfl ⟨rfl, ((hG.store hR' _).store hR' _).store hR' _⟩
set_option maxHeartbeats 2000000 in
theorem refSub_mixed (a b : Bool) (i u j v : Int) (u0 : 0 ≤ u) (u1 : u < 18446744073709551616) (v0 : 0 ≤ v) (v1 : v < 18446744073709551616) (h : a = false ∨ (a = true ∧ b = false)) (w : World) :
    Calls Try.prog 12 #[.agg #[.bool a, .int .i64 i, .int .u64 u], .agg #[.bool b, .int .i64 j, .int .u64 v]] w fun e w' => e = .returned (.tuple #[.agg #[.bool false, .int .i64 0, .int .u64 (opI .sub (bitsI a i u) (bitsI b j v))], .int .i64 0]) ∧ Gr w w' := by
  obtain ⟨x0, x1⟩ := bitsI_range a i u u0 u1
  obtain ⟨y0, y1⟩ := bitsI_range b j v v0 v1
  have hx : opI .sub (fltW (bitsI a i u)) (fltW (bitsI b j v)) = opI .sub (bitsI a i u) (bitsI b j v) := by simp only [opI_flt _ _ _ x0 x1 y0 y1]
  rw [← hx]
  clear hx x0 x1 y0 y1
  rcases h with rfl | ⟨rfl, rfl⟩
  · go_enter Try.func12, Try.ntmps12
    go_wp2
    generalize hW : World.alloc (World.alloc (World.alloc w _) _) _ = W
    have hg := Gr.of_eq hW
    obtain ⟨fA, fB, fR, fz, hG⟩ := hg.three (Nat.zero_lt_succ _) (Nat.zero_lt_succ _) (Nat.zero_lt_succ _); clear hg; generalize hR : w.heap.size + 1 + 1 = bR at fR fz ⊢; replace hR : Hid (w.heap.size + 1 < bR) := by (show w.heap.size + 1 < bR); omega
    clear hW
    go_region_held3 (fun w' => (∀ i_1, w'.cell? ⟨w.heap.size, i_1, none⟩ = #[Value.bool false, .int .i64 i, .int .u64 u][i_1]?) ∧ (∀ i, w'.cell? ⟨w.heap.size + 1, i, none⟩ = #[Value.bool b, .int .i64 j, .int .u64 v][i]?)) (first | exact ⟨fA, fB⟩ | exact far3 hR.out fA fB _ _ _) (first | (go_at_call 43; refine (refBits_c _ _ _ (by omega) (by omega) _).mono ?_; rintro e w' ⟨rfl, hg⟩; (try replace hg := hg.of_drew); replace fz := hg.thaw fR (Nat.zero_lt_succ _) fz; replace fA := hg.cells fA (Nat.zero_lt_succ _); replace fB := hg.cells fB (Nat.zero_lt_succ _); replace fR := hg.cells fR (Nat.zero_lt_succ _); replace hG := hG.trans hg; clear hg) | (go_at_call 47; refine (refSub_g _ _ _).mono ?_; rintro e w' ⟨rfl, hg⟩; (try replace hg := hg.of_drew); replace fz := hg.thaw fR (Nat.zero_lt_succ _) fz; replace fA := hg.cells fA (Nat.zero_lt_succ _); replace fB := hg.cells fB (Nat.zero_lt_succ _); replace fR := hg.cells fR (Nat.zero_lt_succ _); replace hG := hG.trans hg; clear hg) | (go_at_call 41; refine (ref3Double_c _ _).mono ?_; rintro e w' ⟨rfl, hg⟩; (try replace hg := hg.of_drew); replace fz := hg.thaw fR (Nat.zero_lt_succ _) fz; replace fA := hg.cells fA (Nat.zero_lt_succ _); replace fB := hg.cells fB (Nat.zero_lt_succ _); replace fR := hg.cells fR (Nat.zero_lt_succ _); replace hG := hG.trans hg; clear hg))
    all_goals go_wp2
    have hR' : w.heap.size ≤ bR := by have := hR.out; omega
    exact bodyPost_ret (v := .tuple #[.agg #[.bool false, .int .i64 0, .int .u64 (opI .sub (fltW (bitsI false i u)) (fltW (bitsI b j v)))], .int .i64 0]) (by simp [results, Try.results12, go_sem, fR]) rfl ⟨rfl, ((hG.store hR' _).store hR' _).store hR' _⟩
  · go_enter Try.func12, Try.ntmps12
    go_wp2
    generalize hW : World.alloc (World.alloc (World.alloc w _) _) _ = W
    have hg := Gr.of_eq hW
    obtain ⟨fA, fB, fR, fz, hG⟩ := hg.three (Nat.zero_lt_succ _) (Nat.zero_lt_succ _) (Nat.zero_lt_succ _); clear hg; generalize hR : w.heap.size + 1 + 1 = bR at fR fz ⊢; replace hR : Hid (w.heap.size + 1 < bR) := by (show w.heap.size + 1 < bR); omega
    clear hW
    go_region_held3 (fun w' => (∀ i_1, w'.cell? ⟨w.heap.size, i_1, none⟩ = #[Value.bool true, .int .i64 i, .int .u64 u][i_1]?) ∧ (∀ i, w'.cell? ⟨w.heap.size + 1, i, none⟩ = #[Value.bool false, .int .i64 j, .int .u64 v][i]?)) (first | exact ⟨fA, fB⟩ | exact far3 hR.out fA fB _ _ _) (first | (go_at_call 43; refine (refBits_c _ _ _ (by omega) (by omega) _).mono ?_; rintro e w' ⟨rfl, hg⟩; (try replace hg := hg.of_drew); replace fz := hg.thaw fR (Nat.zero_lt_succ _) fz; replace fA := hg.cells fA (Nat.zero_lt_succ _); replace fB := hg.cells fB (Nat.zero_lt_succ _); replace fR := hg.cells fR (Nat.zero_lt_succ _); replace hG := hG.trans hg; clear hg) | (go_at_call 47; refine (refSub_g _ _ _).mono ?_; rintro e w' ⟨rfl, hg⟩; (try replace hg := hg.of_drew); replace fz := hg.thaw fR (Nat.zero_lt_succ _) fz; replace fA := hg.cells fA (Nat.zero_lt_succ _); replace fB := hg.cells fB (Nat.zero_lt_succ _); replace fR := hg.cells fR (Nat.zero_lt_succ _); replace hG := hG.trans hg; clear hg) | (go_at_call 41; refine (ref3Double_c _ _).mono ?_; rintro e w' ⟨rfl, hg⟩; (try replace hg := hg.of_drew); replace fz := hg.thaw fR (Nat.zero_lt_succ _) fz; replace fA := hg.cells fA (Nat.zero_lt_succ _); replace fB := hg.cells fB (Nat.zero_lt_succ _); replace fR := hg.cells fR (Nat.zero_lt_succ _); replace hG := hG.trans hg; clear hg))
    all_goals go_wp2
    have hR' : w.heap.size ≤ bR := by have := hR.out; omega
    exact bodyPost_ret (v := .tuple #[.agg #[.bool false, .int .i64 0, .int .u64 (opI .sub (fltW (bitsI true i u)) (fltW (bitsI false j v)))], .int .i64 0]) (by simp [results, Try.results12, go_sem, fR]) rfl ⟨rfl, ((hG.store hR' _).store hR' _).store hR' _⟩
set_option maxHeartbeats 2000000 in
theorem refMul_mixed (a b : Bool) (i u j v : Int) (u0 : 0 ≤ u) (u1 : u < 18446744073709551616) (v0 : 0 ≤ v) (v1 : v < 18446744073709551616) (h : a = false ∨ (a = true ∧ b = false)) (w : World) :
    Calls Try.prog 14 #[.agg #[.bool a, .int .i64 i, .int .u64 u], .agg #[.bool b, .int .i64 j, .int .u64 v]] w fun e w' => e = .returned (.tuple #[.agg #[.bool false, .int .i64 0, .int .u64 (opI .mul (bitsI a i u) (bitsI b j v))], .int .i64 0]) ∧ Gr w w' := by
  obtain ⟨x0, x1⟩ := bitsI_range a i u u0 u1
  obtain ⟨y0, y1⟩ := bitsI_range b j v v0 v1
  have hx : opI .mul (fltW (bitsI a i u)) (fltW (bitsI b j v)) = opI .mul (bitsI a i u) (bitsI b j v) := by simp only [opI_flt _ _ _ x0 x1 y0 y1]
  rw [← hx]
  clear hx x0 x1 y0 y1
  rcases h with rfl | ⟨rfl, rfl⟩
  · go_enter Try.func14, Try.ntmps14
    go_wp2
    generalize hW : World.alloc (World.alloc (World.alloc w _) _) _ = W
    have hg := Gr.of_eq hW
    obtain ⟨fA, fB, fR, fz, hG⟩ := hg.three (Nat.zero_lt_succ _) (Nat.zero_lt_succ _) (Nat.zero_lt_succ _); clear hg; generalize hR : w.heap.size + 1 + 1 = bR at fR fz ⊢; replace hR : Hid (w.heap.size + 1 < bR) := by (show w.heap.size + 1 < bR); omega
    clear hW
    go_region_held3 (fun w' => (∀ i_1, w'.cell? ⟨w.heap.size, i_1, none⟩ = #[Value.bool false, .int .i64 i, .int .u64 u][i_1]?) ∧ (∀ i, w'.cell? ⟨w.heap.size + 1, i, none⟩ = #[Value.bool b, .int .i64 j, .int .u64 v][i]?)) (first | exact ⟨fA, fB⟩ | exact far3 hR.out fA fB _ _ _) (first | (go_at_call 43; refine (refBits_c _ _ _ (by omega) (by omega) _).mono ?_; rintro e w' ⟨rfl, hg⟩; (try replace hg := hg.of_drew); replace fz := hg.thaw fR (Nat.zero_lt_succ _) fz; replace fA := hg.cells fA (Nat.zero_lt_succ _); replace fB := hg.cells fB (Nat.zero_lt_succ _); replace fR := hg.cells fR (Nat.zero_lt_succ _); replace hG := hG.trans hg; clear hg) | (go_at_call 50; refine (refMul_g _ _ _).mono ?_; rintro e w' ⟨rfl, hg⟩; (try replace hg := hg.of_drew); replace fz := hg.thaw fR (Nat.zero_lt_succ _) fz; replace fA := hg.cells fA (Nat.zero_lt_succ _); replace fB := hg.cells fB (Nat.zero_lt_succ _); replace fR := hg.cells fR (Nat.zero_lt_succ _); replace hG := hG.trans hg; clear hg) | (go_at_call 41; refine (ref3Double_c _ _).mono ?_; rintro e w' ⟨rfl, hg⟩; (try replace hg := hg.of_drew); replace fz := hg.thaw fR (Nat.zero_lt_succ _) fz; replace fA := hg.cells fA (Nat.zero_lt_succ _); replace fB := hg.cells fB (Nat.zero_lt_succ _); replace fR := hg.cells fR (Nat.zero_lt_succ _); replace hG := hG.trans hg; clear hg))
    all_goals go_wp2
    have hR' : w.heap.size ≤ bR := by have := hR.out; omega
    exact bodyPost_ret (v := .tuple #[.agg #[.bool false, .int .i64 0, .int .u64 (opI .mul (fltW (bitsI false i u)) (fltW (bitsI b j v)))], .int .i64 0]) (by simp [results, Try.results14, go_sem, fR]) rfl ⟨rfl, ((hG.store hR' _).store hR' _).store hR' _⟩
  · go_enter Try.func14, Try.ntmps14
    go_wp2
    generalize hW : World.alloc (World.alloc (World.alloc w _) _) _ = W
    have hg := Gr.of_eq hW
    obtain ⟨fA, fB, fR, fz, hG⟩ := hg.three (Nat.zero_lt_succ _) (Nat.zero_lt_succ _) (Nat.zero_lt_succ _); clear hg; generalize hR : w.heap.size + 1 + 1 = bR at fR fz ⊢; replace hR : Hid (w.heap.size + 1 < bR) := by (show w.heap.size + 1 < bR); omega
    clear hW
    go_region_held3 (fun w' => (∀ i_1, w'.cell? ⟨w.heap.size, i_1, none⟩ = #[Value.bool true, .int .i64 i, .int .u64 u][i_1]?) ∧ (∀ i, w'.cell? ⟨w.heap.size + 1, i, none⟩ = #[Value.bool false, .int .i64 j, .int .u64 v][i]?)) (first | exact ⟨fA, fB⟩ | exact far3 hR.out fA fB _ _ _) (first | (go_at_call 43; refine (refBits_c _ _ _ (by omega) (by omega) _).mono ?_; rintro e w' ⟨rfl, hg⟩; (try replace hg := hg.of_drew); replace fz := hg.thaw fR (Nat.zero_lt_succ _) fz; replace fA := hg.cells fA (Nat.zero_lt_succ _); replace fB := hg.cells fB (Nat.zero_lt_succ _); replace fR := hg.cells fR (Nat.zero_lt_succ _); replace hG := hG.trans hg; clear hg) | (go_at_call 50; refine (refMul_g _ _ _).mono ?_; rintro e w' ⟨rfl, hg⟩; (try replace hg := hg.of_drew); replace fz := hg.thaw fR (Nat.zero_lt_succ _) fz; replace fA := hg.cells fA (Nat.zero_lt_succ _); replace fB := hg.cells fB (Nat.zero_lt_succ _); replace fR := hg.cells fR (Nat.zero_lt_succ _); replace hG := hG.trans hg; clear hg) | (go_at_call 41; refine (ref3Double_c _ _).mono ?_; rintro e w' ⟨rfl, hg⟩; (try replace hg := hg.of_drew); replace fz := hg.thaw fR (Nat.zero_lt_succ _) fz; replace fA := hg.cells fA (Nat.zero_lt_succ _); replace fB := hg.cells fB (Nat.zero_lt_succ _); replace fR := hg.cells fR (Nat.zero_lt_succ _); replace hG := hG.trans hg; clear hg))
    all_goals go_wp2
    have hR' : w.heap.size ≤ bR := by have := hR.out; omega
    exact bodyPost_ret (v := .tuple #[.agg #[.bool false, .int .i64 0, .int .u64 (opI .mul (fltW (bitsI true i u)) (fltW (bitsI false j v)))], .int .i64 0]) (by simp [results, Try.results14, go_sem, fR]) rfl ⟨rfl, ((hG.store hR' _).store hR' _).store hR' _⟩
set_option maxHeartbeats 2000000 in
theorem refFloorDiv_mixed (a b : Bool) (i u j v : Int) (u0 : 0 ≤ u) (u1 : u < 18446744073709551616) (v0 : 0 ≤ v) (v1 : v < 18446744073709551616) (h : a = false ∨ (a = true ∧ b = false)) (w : World) :
    Calls Try.prog 21 #[.agg #[.bool a, .int .i64 i, .int .u64 u], .agg #[.bool b, .int .i64 j, .int .u64 v]] w fun e w' => e = .returned (.tuple #[.agg #[.bool false, .int .i64 0, .int .u64 (floorI (opI .quo (bitsI a i u) (bitsI b j v)))], .int .i64 0]) ∧ Gr w w' := by
  obtain ⟨x0, x1⟩ := bitsI_range a i u u0 u1
  obtain ⟨y0, y1⟩ := bitsI_range b j v v0 v1
  have hx : floorI (opI .quo (fltW (bitsI a i u)) (fltW (bitsI b j v))) = floorI (opI .quo (bitsI a i u) (bitsI b j v)) := by simp only [opI_flt _ _ _ x0 x1 y0 y1]
  rw [← hx]
  clear hx x0 x1 y0 y1
  rcases h with rfl | ⟨rfl, rfl⟩
  · go_enter Try.func21, Try.ntmps21
    go_wp2
    generalize hW : World.alloc (World.alloc (World.alloc w _) _) _ = W
    have hg := Gr.of_eq hW
    obtain ⟨fA, fB, fR, fz, hG⟩ := hg.three (Nat.zero_lt_succ _) (Nat.zero_lt_succ _) (Nat.zero_lt_succ _); clear hg; generalize hR : w.heap.size + 1 + 1 = bR at fR fz ⊢; replace hR : Hid (w.heap.size + 1 < bR) := by (show w.heap.size + 1 < bR); omega
    clear hW
    go_region_held3 (fun w' => (∀ i_1, w'.cell? ⟨w.heap.size, i_1, none⟩ = #[Value.bool false, .int .i64 i, .int .u64 u][i_1]?) ∧ (∀ i, w'.cell? ⟨w.heap.size + 1, i, none⟩ = #[Value.bool b, .int .i64 j, .int .u64 v][i]?)) (first | exact ⟨fA, fB⟩ | exact far3 hR.out fA fB _ _ _) (first | (go_at_call 43; refine (refBits_c _ _ _ (by omega) (by omega) _).mono ?_; rintro e w' ⟨rfl, hg⟩; (try replace hg := hg.of_drew); replace fz := hg.thaw fR (Nat.zero_lt_succ _) fz; replace fA := hg.cells fA (Nat.zero_lt_succ _); replace fB := hg.cells fB (Nat.zero_lt_succ _); replace fR := hg.cells fR (Nat.zero_lt_succ _); replace hG := hG.trans hg; clear hg) | (go_at_call 54; refine (refDiv_g _ _ _).mono ?_; rintro e w' ⟨rfl, hg⟩; (try replace hg := hg.of_drew); replace fz := hg.thaw fR (Nat.zero_lt_succ _) fz; replace fA := hg.cells fA (Nat.zero_lt_succ _); replace fB := hg.cells fB (Nat.zero_lt_succ _); replace fR := hg.cells fR (Nat.zero_lt_succ _); replace hG := hG.trans hg; clear hg) | (go_at_call 62; refine (refFloor_g _ (opI_range _ _ _).1 (opI_range _ _ _).2 _).mono ?_; rintro e w' ⟨rfl, hg⟩; (try replace hg := hg.of_drew); replace fz := hg.thaw fR (Nat.zero_lt_succ _) fz; replace fA := hg.cells fA (Nat.zero_lt_succ _); replace fB := hg.cells fB (Nat.zero_lt_succ _); replace fR := hg.cells fR (Nat.zero_lt_succ _); replace hG := hG.trans hg; clear hg) | (go_at_call 41; refine (ref3Double_c _ _).mono ?_; rintro e w' ⟨rfl, hg⟩; (try replace hg := hg.of_drew); replace fz := hg.thaw fR (Nat.zero_lt_succ _) fz; replace fA := hg.cells fA (Nat.zero_lt_succ _); replace fB := hg.cells fB (Nat.zero_lt_succ _); replace fR := hg.cells fR (Nat.zero_lt_succ _); replace hG := hG.trans hg; clear hg))
    all_goals go_wp2
    have hR' : w.heap.size ≤ bR := by have := hR.out; omega
    exact bodyPost_ret (v := .tuple #[.agg #[.bool false, .int .i64 0, .int .u64 (floorI (opI .quo (fltW (bitsI false i u)) (fltW (bitsI b j v))))], .int .i64 0]) (by simp [results, Try.results21, go_sem, fR]) rfl ⟨rfl, ((hG.store hR' _).store hR' _).store hR' _⟩
  · go_enter Try.func21, Try.ntmps21
    go_wp2
    generalize hW : World.alloc (World.alloc (World.alloc w _) _) _ = W
    have hg := Gr.of_eq hW
    obtain ⟨fA, fB, fR, fz, hG⟩ := hg.three (Nat.zero_lt_succ _) (Nat.zero_lt_succ _) (Nat.zero_lt_succ _); clear hg; generalize hR : w.heap.size + 1 + 1 = bR at fR fz ⊢; replace hR : Hid (w.heap.size + 1 < bR) := by (show w.heap.size + 1 < bR); omega
    clear hW
    go_region_held3 (fun w' => (∀ i_1, w'.cell? ⟨w.heap.size, i_1, none⟩ = #[Value.bool true, .int .i64 i, .int .u64 u][i_1]?) ∧ (∀ i, w'.cell? ⟨w.heap.size + 1, i, none⟩ = #[Value.bool false, .int .i64 j, .int .u64 v][i]?)) (first | exact ⟨fA, fB⟩ | exact far3 hR.out fA fB _ _ _) (first | (go_at_call 43; refine (refBits_c _ _ _ (by omega) (by omega) _).mono ?_; rintro e w' ⟨rfl, hg⟩; (try replace hg := hg.of_drew); replace fz := hg.thaw fR (Nat.zero_lt_succ _) fz; replace fA := hg.cells fA (Nat.zero_lt_succ _); replace fB := hg.cells fB (Nat.zero_lt_succ _); replace fR := hg.cells fR (Nat.zero_lt_succ _); replace hG := hG.trans hg; clear hg) | (go_at_call 54; refine (refDiv_g _ _ _).mono ?_; rintro e w' ⟨rfl, hg⟩; (try replace hg := hg.of_drew); replace fz := hg.thaw fR (Nat.zero_lt_succ _) fz; replace fA := hg.cells fA (Nat.zero_lt_succ _); replace fB := hg.cells fB (Nat.zero_lt_succ _); replace fR := hg.cells fR (Nat.zero_lt_succ _); replace hG := hG.trans hg; clear hg) | (go_at_call 62; refine (refFloor_g _ (opI_range _ _ _).1 (opI_range _ _ _).2 _).mono ?_; rintro e w' ⟨rfl, hg⟩; (try replace hg := hg.of_drew); replace fz := hg.thaw fR (Nat.zero_lt_succ _) fz; replace fA := hg.cells fA (Nat.zero_lt_succ _); replace fB := hg.cells fB (Nat.zero_lt_succ _); replace fR := hg.cells fR (Nat.zero_lt_succ _); replace hG := hG.trans hg; clear hg) | (go_at_call 41; refine (ref3Double_c _ _).mono ?_; rintro e w' ⟨rfl, hg⟩; (try replace hg := hg.of_drew); replace fz := hg.thaw fR (Nat.zero_lt_succ _) fz; replace fA := hg.cells fA (Nat.zero_lt_succ _); replace fB := hg.cells fB (Nat.zero_lt_succ _); replace fR := hg.cells fR (Nat.zero_lt_succ _); replace hG := hG.trans hg; clear hg))
    all_goals go_wp2
    have hR' : w.heap.size ≤ bR := by have := hR.out; omega
    exact bodyPost_ret (v := .tuple #[.agg #[.bool false, .int .i64 0, .int .u64 (floorI (opI .quo (fltW (bitsI true i u)) (fltW (bitsI false j v))))], .int .i64 0]) (by simp [results, Try.results21, go_sem, fR]) rfl ⟨rfl, ((hG.store hR' _).store hR' _).store hR' _⟩
set_option maxHeartbeats 2000000 in
theorem refDiv_mixed (a b : Bool) (i u j v : Int) (u0 : 0 ≤ u) (u1 : u < 18446744073709551616) (v0 : 0 ≤ v) (v1 : v < 18446744073709551616) (w : World) :
    Calls Try.prog 16 #[.agg #[.bool a, .int .i64 i, .int .u64 u], .agg #[.bool b, .int .i64 j, .int .u64 v]] w fun e w' => e = .returned (.tuple #[.agg #[.bool false, .int .i64 0, .int .u64 (opI .quo (bitsI a i u) (bitsI b j v))], .int .i64 0]) ∧ Gr w w' := by
  obtain ⟨x0, x1⟩ := bitsI_range a i u u0 u1
  obtain ⟨y0, y1⟩ := bitsI_range b j v v0 v1
  have hx : opI .quo (fltW (bitsI a i u)) (fltW (bitsI b j v)) = opI .quo (bitsI a i u) (bitsI b j v) := by simp only [opI_flt _ _ _ x0 x1 y0 y1]
  rw [← hx]
  clear hx x0 x1 y0 y1
  go_enter Try.func16, Try.ntmps16
  go_wp2
  generalize hW : World.alloc (World.alloc (World.alloc w _) _) _ = W
  have hg := Gr.of_eq hW
  obtain ⟨fA, fB, fR, fz, hG⟩ := hg.three (Nat.zero_lt_succ _) (Nat.zero_lt_succ _) (Nat.zero_lt_succ _); clear hg; generalize hR : w.heap.size + 1 + 1 = bR at fR fz ⊢; replace hR : Hid (w.heap.size + 1 < bR) := by (show w.heap.size + 1 < bR); omega
  clear hW
  go_region_held3 (fun w' => (∀ i_1, w'.cell? ⟨w.heap.size, i_1, none⟩ = #[Value.bool a, .int .i64 i, .int .u64 u][i_1]?) ∧ (∀ i, w'.cell? ⟨w.heap.size + 1, i, none⟩ = #[Value.bool b, .int .i64 j, .int .u64 v][i]?)) (first | exact ⟨fA, fB⟩ | exact far3 hR.out fA fB _ _ _) (first | (go_at_call 43; refine (refBits_c _ _ _ (by omega) (by omega) _).mono ?_; rintro e w' ⟨rfl, hg⟩; (try replace hg := hg.of_drew); replace fz := hg.thaw fR (Nat.zero_lt_succ _) fz; replace fA := hg.cells fA (Nat.zero_lt_succ _); replace fB := hg.cells fB (Nat.zero_lt_succ _); replace fR := hg.cells fR (Nat.zero_lt_succ _); replace hG := hG.trans hg; clear hg) | (go_at_call 54; refine (refDiv_g _ _ _).mono ?_; rintro e w' ⟨rfl, hg⟩; (try replace hg := hg.of_drew); replace fz := hg.thaw fR (Nat.zero_lt_succ _) fz; replace fA := hg.cells fA (Nat.zero_lt_succ _); replace fB := hg.cells fB (Nat.zero_lt_succ _); replace fR := hg.cells fR (Nat.zero_lt_succ _); replace hG := hG.trans hg; clear hg) | (go_at_call 41; refine (ref3Double_c _ _).mono ?_; rintro e w' ⟨rfl, hg⟩; (try replace hg := hg.of_drew); replace fz := hg.thaw fR (Nat.zero_lt_succ _) fz; replace fA := hg.cells fA (Nat.zero_lt_succ _); replace fB := hg.cells fB (Nat.zero_lt_succ _); replace fR := hg.cells fR (Nat.zero_lt_succ _); replace hG := hG.trans hg; clear hg))
  all_goals go_wp2
  have hR' : w.heap.size ≤ bR := by have := hR.out; omega
  exact bodyPost_ret (v := .tuple #[.agg #[.bool false, .int .i64 0, .int .u64 (opI .quo (fltW (bitsI a i u)) (fltW (bitsI b j v)))], .int .i64 0]) (by simp [results, Try.results16, go_sem, fR]) rfl ⟨rfl, ((hG.store hR' _).store hR' _).store hR' _⟩
end Go.Proofs.Ytpbcplgpbafjpaa.W
