/- Contracts of package num's and its reference's small functions: what they hand back, and that memory has only grown. -/
import Derived.Test.YtpbcplgpbafjpabNumW
namespace Go.Proofs.Ytpbcplgpbafjpab.W
open Go.ChangeShapes Go.WideShapes Go.RowKit

/-- a number as a double's pattern -/
def bitsI (a : Bool) (i u : Int) : Int := if a = true then fromI i else u
set_option maxHeartbeats 400000 in
theorem lawWhole_c (i : Int) (w : World) :
    Calls Try.prog 10 #[.int .i64 i] w fun e w' => e = .returned (.agg #[.bool true, .int .i64 i, .int .u64 0]) ∧ Gr w w' := by
  go_enter Try.func10, Try.ntmps10
  go_wp2
  exact bodyPost_ret (v := .agg #[.bool true, .int .i64 i, .int .u64 0]) (by simp [results, Try.results10, go_sem]) rfl ⟨rfl, (Gr.refl _).alloc _⟩
set_option maxHeartbeats 400000 in
theorem lawDouble_c (u : Int) (w : World) :
    Calls Try.prog 17 #[.int .u64 u] w fun e w' => e = .returned (.agg #[.bool false, .int .i64 0, .int .u64 u]) ∧ Gr w w' := by
  go_enter Try.func17, Try.ntmps17
  go_wp2
  exact bodyPost_ret (v := .agg #[.bool false, .int .i64 0, .int .u64 u]) (by simp [results, Try.results17, go_sem]) rfl ⟨rfl, (Gr.refl _).alloc _⟩
set_option maxHeartbeats 400000 in
theorem numWhole_c (i : Int) (w : World) :
    Calls Try.prog 34 #[.int .i64 i] w fun e w' => e = .returned (.agg #[.bool true, .int .i64 i, .int .u64 0]) ∧ Gr w w' := by
  go_enter Try.func34, Try.ntmps34
  go_wp2
  exact bodyPost_ret (v := .agg #[.bool true, .int .i64 i, .int .u64 0]) (by simp [results, Try.results34, go_sem]) rfl ⟨rfl, (Gr.refl _).alloc _⟩
set_option maxHeartbeats 400000 in
theorem numDouble_c (u : Int) (w : World) :
    Calls Try.prog 25 #[.int .u64 u] w fun e w' => e = .returned (.agg #[.bool false, .int .i64 0, .int .u64 u]) ∧ Gr w w' := by
  go_enter Try.func25, Try.ntmps25
  go_wp2
  exact bodyPost_ret (v := .agg #[.bool false, .int .i64 0, .int .u64 u]) (by simp [results, Try.results25, go_sem]) rfl ⟨rfl, (Gr.refl _).alloc _⟩
set_option maxHeartbeats 400000 in
theorem refused_c (n : Int) (w : World) :
    Calls Try.prog 33 #[.int .i64 n] w fun e w' => e = .returned (.tuple #[.agg #[.bool false, .int .i64 0, .int .u64 0], .int .i64 n]) ∧ Gr w w' := by
  go_enter Try.func33, Try.ntmps33
  go_wp2
  exact bodyPost_ret (v := .tuple #[.agg #[.bool false, .int .i64 0, .int .u64 0], .int .i64 n]) (by simp [results, Try.results33, go_sem]) rfl ⟨rfl, (Gr.refl _).alloc _⟩
theorem fltW_fromI (i : Int) : fltW (fromI i) = fromI i := by
  have h : nanB (fromI i) = false := nearest_plain _ _ _
  simp [fltW, h]
/-- the kinds of two operands -/
def kindI (a b : Bool) : Int := if a = true then (if b = true then 0 else 1) else if b = true then 2 else 3
set_option maxHeartbeats 400000 in
theorem kinds_c (a b : Bool) (i u j v : Int) (w : World) :
    Calls Try.prog 23 #[.agg #[.bool a, .int .i64 i, .int .u64 u], .agg #[.bool b, .int .i64 j, .int .u64 v]] w fun e w' => e = .returned (.int .i64 (kindI a b)) ∧ Gr w w' := by
  cases a <;> cases b
  all_goals
    go_enter Try.func23, Try.ntmps23
    go_wp2
    go_ret
    exact ⟨rfl, ((Gr.refl _).alloc _).alloc _⟩
set_option maxHeartbeats 400000 in
theorem bitsOf_c (a : Bool) (i u : Int) (w : World) :
    Calls Try.prog 27 #[.agg #[.bool a, .int .i64 i, .int .u64 u]] w fun e w' => e = .returned (.int .u64 (bitsI a i u)) ∧ Gr w w' := by
  cases a
  all_goals
    go_enter Try.func27, Try.ntmps27
    go_wp2_with (go_at_call 18; refine (softFromInt_c _ _).mono ?_; rintro e w' ⟨rfl, rfl⟩)
    go_ret
    exact ⟨rfl, (Gr.refl _).alloc _⟩
end Go.Proofs.Ytpbcplgpbafjpab.W
