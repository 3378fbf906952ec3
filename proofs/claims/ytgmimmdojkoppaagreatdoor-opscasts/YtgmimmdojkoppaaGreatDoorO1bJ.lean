import Derived.Test.YtgmimmdojkoppaaGreatDoorO1aJ
/- Package ops: its map of functions. -/
namespace Go.Proofs.YtgmimmdojkoppaaGreatDoor.W
open Go.ChangeShapes Go.WideShapes Go.RowKit Go.ChangeMaps
set_option linter.unusedVariables false
theorem underBM : Tryz.prog.underlying 54 = some (.map 9 52) := by kernel_rfl
theorem underBS : Tryz.prog.underlying 9 = some .string := by kernel_rfl
/-- the built-in functions -/
def opsL (x5 x6 x7 x8 x9 : Nat) : List (ByteArray × Value) := [(⟨#[105, 110, 116]⟩, .agg #[.int .i64 1, .func (.func 29) #[] #[]]), (⟨#[102, 108, 111, 97, 116]⟩, .agg #[.int .i64 1, .func (.func 30) #[] #[]]), (⟨#[116, 101, 120, 116]⟩, .agg #[.int .i64 1, .func (.func 31) #[] #[]]), (⟨#[110, 117, 109]⟩, .agg #[.int .i64 1, .func (.func 32) #[] #[]]), (⟨#[108, 101, 110]⟩, .agg #[.int .i64 1, .func (.func 33) #[] #[]]), (⟨#[115, 117, 98]⟩, .agg #[.int .i64 3, .func (.func 34) #[] #[]]), (⟨#[98, 121, 116, 101]⟩, .agg #[.int .i64 2, .func (.func 35) #[] #[]]), (⟨#[99, 104, 114]⟩, .agg #[.int .i64 1, .func (.func 36) #[] #[]]), (⟨#[98, 105, 116, 115]⟩, .agg #[.int .i64 1, .func (.func 37) #[] #[]]), (⟨#[102, 114, 111, 109, 98, 105, 116, 115]⟩, .agg #[.int .i64 1, .func (.func 38) #[] #[]]), (⟨#[102, 54, 52]⟩, .agg #[.int .i64 1, .func (.func 78) #[] #[.pointer (some ⟨x5, 0, none⟩)]]), (⟨#[102, 51, 50]⟩, .agg #[.int .i64 1, .func (.func 78) #[] #[.pointer (some ⟨x6, 0, none⟩)]]), (⟨#[105, 49, 54]⟩, .agg #[.int .i64 1, .func (.func 78) #[] #[.pointer (some ⟨x7, 0, none⟩)]]), (⟨#[117, 56]⟩, .agg #[.int .i64 1, .func (.func 78) #[] #[.pointer (some ⟨x8, 0, none⟩)]]), (⟨#[114, 111, 119]⟩, .agg #[.int .i64 1, .func (.func 78) #[] #[.pointer (some ⟨x9, 0, none⟩)]]), (⟨#[118, 105, 101, 119]⟩, .agg #[.int .i64 4, .func (.func 40) #[] #[]]), (⟨#[108, 111, 97, 100]⟩, .agg #[.int .i64 2, .func (.func 41) #[] #[]]), (⟨#[115, 116, 111, 114, 101]⟩, .agg #[.int .i64 3, .func (.func 42) #[] #[]]), (⟨#[107, 105, 110, 100]⟩, .agg #[.int .i64 1, .func (.func 43) #[] #[]])]
theorem makes_c (k : Int) (W : World) : Calls Tryz.prog 39 #[.int .i64 k] W fun e w' => e = .returned (.func (.func 78) #[] #[.pointer (some ⟨W.heap.size, 0, none⟩)]) ∧ W.heap.size < w'.heap.size ∧ Below W.heap.size W w' := by
  have hB : Below W.heap.size W (W.alloc (.cells #[.int .i64 k] 3)) := (Below.refl _ W).alloc (Nat.le_refl _) _
  have hz : W.heap.size < (W.alloc (.cells #[.int .i64 k] 3)).heap.size := by rw [World.size_alloc]; exact Nat.lt_succ_self _
  go_enter Tryz.func39, Tryz.ntmps39
  go_wp2
  go_ret
  exact ⟨rfl, hz, hB⟩
set_option maxRecDepth 100000 in
set_option maxHeartbeats 2000000 in
theorem builtins_c (W : World) : Calls Tryz.prog 14 #[] W fun e w' => ∃ b x5 x6 x7 x8 x9, e = .returned (.map (some b)) ∧ MapL w' b (opsL x5 x6 x7 x8 x9) ∧ Below W.heap.size W w' := by
  have hmm := @run_makeMap Tryz.prog
  have HL := mapL_new W
  have HB : Below W.heap.size W (W.alloc (.map #[] 0)) := (Below.refl _ W).alloc (Nat.le_refl _) _
  go_enter Tryz.func14, Tryz.ntmps14
  go_wp2_with (first | (go_at_call 39; (with_reducible refine (makes_c _ _).mono ?_); rintro e w1 ⟨rfl, hz, hB⟩; replace HL := HL.below hB; replace HB := HB.trans (hB.mono HB.size); (generalize World.heap _ = hx at hz; clear hz hB)) | (refine wpList_insert_l rfl _ _ _ _ rfl _ _ underBM underBS _ rfl HL _ _ rfl rfl (by kernel_rfl) ?_; clear HL; intro w1 HL hg; replace HB := HB.grown hg HB.size (fun j hj => by cases hj; exact Nat.le_refl _); clear hg))
  go_ret
  exact ⟨_, _, _, _, _, _, rfl, HL, HB⟩
end Go.Proofs.YtgmimmdojkoppaaGreatDoor.W
