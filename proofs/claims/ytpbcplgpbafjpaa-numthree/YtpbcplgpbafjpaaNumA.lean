/- Contracts of package num's and its reference's small functions: what they hand back, and that memory has only grown. -/
import Derived.Test.YtpbcplgpbafjpaaNumW
namespace Go.Proofs.Ytpbcplgpbafjpaa.W
open Go.ChangeShapes Go.WideShapes Go.RowKit

/-- a number as a double's pattern -/
def bitsI (a : Bool) (i u : Int) : Int := if a = true then fromI i else u
set_option maxHeartbeats 400000 in
theorem lawWhole_c (i : Int) (w : World) :
    Calls Try.prog 35 #[.int .i64 i] w fun e w' => e = .returned (.agg #[.bool true, .int .i64 i, .int .u64 0]) ∧ Gr w w' := by
  go_enter Try.func35, Try.ntmps35
  go_wp2
  exact bodyPost_ret (v := .agg #[.bool true, .int .i64 i, .int .u64 0]) (by simp [results, Try.results35, go_sem]) rfl ⟨rfl, (Gr.refl _).alloc _⟩
set_option maxHeartbeats 400000 in
theorem lawDouble_c (u : Int) (w : World) :
    Calls Try.prog 59 #[.int .u64 u] w fun e w' => e = .returned (.agg #[.bool false, .int .i64 0, .int .u64 u]) ∧ Gr w w' := by
  go_enter Try.func59, Try.ntmps59
  go_wp2
  exact bodyPost_ret (v := .agg #[.bool false, .int .i64 0, .int .u64 u]) (by simp [results, Try.results59, go_sem]) rfl ⟨rfl, (Gr.refl _).alloc _⟩
set_option maxHeartbeats 400000 in
theorem numWhole_c (i : Int) (w : World) :
    Calls Try.prog 57 #[.int .i64 i] w fun e w' => e = .returned (.agg #[.bool true, .int .i64 i, .int .u64 0]) ∧ Gr w w' := by
  go_enter Try.func57, Try.ntmps57
  go_wp2
  exact bodyPost_ret (v := .agg #[.bool true, .int .i64 i, .int .u64 0]) (by simp [results, Try.results57, go_sem]) rfl ⟨rfl, (Gr.refl _).alloc _⟩
set_option maxHeartbeats 400000 in
theorem numDouble_c (u : Int) (w : World) :
    Calls Try.prog 38 #[.int .u64 u] w fun e w' => e = .returned (.agg #[.bool false, .int .i64 0, .int .u64 u]) ∧ Gr w w' := by
  go_enter Try.func38, Try.ntmps38
  go_wp2
  exact bodyPost_ret (v := .agg #[.bool false, .int .i64 0, .int .u64 u]) (by simp [results, Try.results38, go_sem]) rfl ⟨rfl, (Gr.refl _).alloc _⟩
set_option maxHeartbeats 400000 in
theorem refWhole_c (i : Int) (w : World) :
    Calls Try.prog 44 #[.int .i64 i] w fun e w' => e = .returned (.agg #[.bool true, .int .i64 i, .int .u64 0]) ∧ Gr w w' := by
  go_enter Try.func44, Try.ntmps44
  go_wp2
  exact bodyPost_ret (v := .agg #[.bool true, .int .i64 i, .int .u64 0]) (by simp [results, Try.results44, go_sem]) rfl ⟨rfl, (Gr.refl _).alloc _⟩
set_option maxHeartbeats 400000 in
theorem ref3Double_c (u : Int) (w : World) :
    Calls Try.prog 41 #[.int .u64 u] w fun e w' => e = .returned (.agg #[.bool false, .int .i64 0, .int .u64 u]) ∧ Gr w w' := by
  go_enter Try.func41, Try.ntmps41
  go_wp2
  exact bodyPost_ret (v := .agg #[.bool false, .int .i64 0, .int .u64 u]) (by simp [results, Try.results41, go_sem]) rfl ⟨rfl, (Gr.refl _).alloc _⟩
set_option maxHeartbeats 400000 in
theorem refused_c (n : Int) (w : World) :
    Calls Try.prog 56 #[.int .i64 n] w fun e w' => e = .returned (.tuple #[.agg #[.bool false, .int .i64 0, .int .u64 0], .int .i64 n]) ∧ Gr w w' := by
  go_enter Try.func56, Try.ntmps56
  go_wp2
  exact bodyPost_ret (v := .tuple #[.agg #[.bool false, .int .i64 0, .int .u64 0], .int .i64 n]) (by simp [results, Try.results56, go_sem]) rfl ⟨rfl, (Gr.refl _).alloc _⟩
theorem fltW_fromI (i : Int) : fltW (fromI i) = fromI i := by
  have h : nanB (fromI i) = false := nearest_plain _ _ _
  simp [fltW, h]
/-- the kinds of two operands -/
def kindI (a b : Bool) : Int := if a = true then (if b = true then 0 else 1) else if b = true then 2 else 3
set_option maxHeartbeats 400000 in
theorem kinds_c (a b : Bool) (i u j v : Int) (w : World) :
    Calls Try.prog 36 #[.agg #[.bool a, .int .i64 i, .int .u64 u], .agg #[.bool b, .int .i64 j, .int .u64 v]] w fun e w' => e = .returned (.int .i64 (kindI a b)) ∧ Gr w w' := by
  cases a <;> cases b
  all_goals
    go_enter Try.func36, Try.ntmps36
    go_wp2
    go_ret
    exact ⟨rfl, ((Gr.refl _).alloc _).alloc _⟩
set_option maxHeartbeats 400000 in
theorem bitsOf_c (a : Bool) (i u : Int) (w : World) :
    Calls Try.prog 40 #[.agg #[.bool a, .int .i64 i, .int .u64 u]] w fun e w' => e = .returned (.int .u64 (bitsI a i u)) ∧ Gr w w' := by
  cases a
  all_goals
    go_enter Try.func40, Try.ntmps40
    go_wp2_with (go_at_call 72; refine (softFromInt_c _ _).mono ?_; rintro e w' ⟨rfl, rfl⟩)
    go_ret
    exact ⟨rfl, (Gr.refl _).alloc _⟩
/-- a number as a double's pattern, NaNs made one -/
theorem refBits_c (a : Bool) (i u : Int) (h0 : 0 ≤ u) (h1 : u < 18446744073709551616) (w : World) :
    Calls Try.prog 43 #[.agg #[.bool a, .int .i64 i, .int .u64 u]] w fun e w' => e = .returned (.int .u64 (fltW (bitsI a i u))) ∧ Gr w w' := by
  cases a
  all_goals
    go_enter Try.func43, Try.ntmps43
    go_wp2_with (first | (go_at_call 75; refine (refFromInt_c _ _).mono ?_; rintro e w' ⟨rfl, rfl⟩) | (go_at_call 76; refine (refFromFloat_c _ (by omega) (by omega) _).mono ?_; rintro e w' ⟨rfl, rfl⟩))
    go_ret
    first | exact ⟨rfl, (Gr.refl _).alloc _⟩ | exact ⟨ret_int (fltW_fromI i).symm, (Gr.refl _).alloc _⟩
end Go.Proofs.Ytpbcplgpbafjpaa.W
