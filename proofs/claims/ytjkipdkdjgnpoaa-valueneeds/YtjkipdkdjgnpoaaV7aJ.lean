import Derived.Test.YtjkipdkdjgnpoaaH7iJ
import Derived.Laws.Strings
/- casketlaw7's plain; plain values. -/
namespace Go.Proofs.Ytjkipdkdjgnpoaa.W
open Go.ChangeShapes Go.WideShapes Go.RowKit Go.Shelf
set_option linter.unusedVariables false
/-- a right value that is no thing -/
def PV (kd i bi re : Int) (t : ByteArray) : Prop := (kd = 0 ∧ i = 0 ∧ bi = 0 ∧ t = ⟨#[]⟩ ∧ re = 0) ∨ (kd = 1 ∧ (i = 0 ∨ i = 1) ∧ bi = 0 ∧ t = ⟨#[]⟩ ∧ re = 0) ∨ (kd = 2 ∧ bi = 0 ∧ t = ⟨#[]⟩ ∧ re = 0) ∨ (kd = 3 ∧ i = 0 ∧ t = ⟨#[]⟩ ∧ re = 0) ∨ (kd = 4 ∧ i = 0 ∧ bi = 0 ∧ re = 0)
theorem toList_nil (t : ByteArray) : t.toList = [] ↔ t = ⟨#[]⟩ := by
  rw [Go.ByteArray.toList_eq]
  constructor
  · intro h
    obtain ⟨d⟩ := t
    simp at h
    rw [h]
  · rintro rfl; rfl
theorem lplain_c (kd i bi re : Int) (t : ByteArray) (W : World) : Calls Try.prog 18 #[.agg #[.int .i64 kd, .int .i64 i, .int .u64 bi, .string t, .int .u64 re]] W fun e w' => ∃ b, e = .returned (.bool b) ∧ (b = true → PV kd i bi re t) ∧ Below W.heap.size W w' := by
  by_cases k0 : kd = 0
  · subst k0
    go_enter Try.func18, Try.ntmps18
    go_wp2
    all_goals go_ret
    all_goals first | exact ⟨false, rfl, (by intro h; cases h), (Below.refl _ W).alloc (Nat.le_refl _) _⟩ | exact ⟨re == 0, rfl, (fun h => by simp_all [PV, toList_nil]), (Below.refl _ W).alloc (Nat.le_refl _) _⟩ | exact ⟨true, rfl, (fun _ => by simp_all [PV, toList_nil]), (Below.refl _ W).alloc (Nat.le_refl _) _⟩
  by_cases k1 : kd = 1
  · subst k1
    go_enter Try.func18, Try.ntmps18
    go_wp2
    all_goals go_ret
    all_goals first | exact ⟨false, rfl, (by intro h; cases h), (Below.refl _ W).alloc (Nat.le_refl _) _⟩ | exact ⟨re == 0, rfl, (fun h => by simp_all [PV, toList_nil]), (Below.refl _ W).alloc (Nat.le_refl _) _⟩ | exact ⟨true, rfl, (fun _ => by simp_all [PV, toList_nil]), (Below.refl _ W).alloc (Nat.le_refl _) _⟩
  by_cases k2 : kd = 2
  · subst k2
    go_enter Try.func18, Try.ntmps18
    go_wp2
    all_goals go_ret
    all_goals first | exact ⟨false, rfl, (by intro h; cases h), (Below.refl _ W).alloc (Nat.le_refl _) _⟩ | exact ⟨re == 0, rfl, (fun h => by simp_all [PV, toList_nil]), (Below.refl _ W).alloc (Nat.le_refl _) _⟩ | exact ⟨true, rfl, (fun _ => by simp_all [PV, toList_nil]), (Below.refl _ W).alloc (Nat.le_refl _) _⟩
  by_cases k3 : kd = 3
  · subst k3
    go_enter Try.func18, Try.ntmps18
    go_wp2
    all_goals go_ret
    all_goals first | exact ⟨false, rfl, (by intro h; cases h), (Below.refl _ W).alloc (Nat.le_refl _) _⟩ | exact ⟨re == 0, rfl, (fun h => by simp_all [PV, toList_nil]), (Below.refl _ W).alloc (Nat.le_refl _) _⟩ | exact ⟨true, rfl, (fun _ => by simp_all [PV, toList_nil]), (Below.refl _ W).alloc (Nat.le_refl _) _⟩
  by_cases k4 : kd = 4
  · subst k4
    go_enter Try.func18, Try.ntmps18
    go_wp2
    all_goals go_ret
    all_goals first | exact ⟨false, rfl, (by intro h; cases h), (Below.refl _ W).alloc (Nat.le_refl _) _⟩ | exact ⟨re == 0, rfl, (fun h => by simp_all [PV]), (Below.refl _ W).alloc (Nat.le_refl _) _⟩
  go_enter Try.func18, Try.ntmps18
  go_wp2
  all_goals go_ret
  all_goals first | exact ⟨false, rfl, (by intro h; cases h), (Below.refl _ W).alloc (Nat.le_refl _) _⟩ | exact ⟨re == 0, rfl, (fun h => by simp_all [PV, toList_nil]), (Below.refl _ W).alloc (Nat.le_refl _) _⟩ | exact ⟨true, rfl, (fun _ => by simp_all [PV, toList_nil]), (Below.refl _ W).alloc (Nat.le_refl _) _⟩
end Go.Proofs.Ytjkipdkdjgnpoaa.W
