import Derived.Test.YtgmimmdojkoppaaGreatDoorO2bJ
/- Package ops: boxes, over Box's contract. -/
namespace Go.Proofs.YtgmimmdojkoppaaGreatDoor.W.Nu
open Go.ChangeShapes Go.WideShapes Go.RowKit
set_option linter.unusedVariables false
theorem make2 (w : World) : (Instr.makeSlice 81 (.int .i64 2) (.int .i64 2)).run Tryz.prog w = .ok (.slice (some ⟨w.heap.size, 0, none⟩) 2 2) (w.alloc (.cells #[.int .i64 0, .int .i64 0, .int .u64 0, .string ⟨#[]⟩, .int .u64 0, .int .i64 0, .int .i64 0, .int .u64 0, .string ⟨#[]⟩, .int .u64 0] 47)) := by kernel_rfl
theorem make1 (w : World) : (Instr.makeSlice 81 (.int .i64 1) (.int .i64 1)).run Tryz.prog w = .ok (.slice (some ⟨w.heap.size, 0, none⟩) 1 1) (w.alloc (.cells #[.int .i64 0, .int .i64 0, .int .u64 0, .string ⟨#[]⟩, .int .u64 0] 47)) := by kernel_rfl
section
variable {W : World} {hb : Nat} {vw vv vr : Value} {R : Ending → World → Prop}
theorem boxInt_g (i : Int) (cb : ∀ w', Below W.heap.size W w' → Calls Tryz.prog 13 #[.pointer (some ⟨hb, 0, none⟩), .agg #[.int .i64 2, .int .i64 i, .int .u64 0, .string ⟨#[]⟩, .int .u64 0], vr] w' R) (two : ∀ e w', R e w' → ∃ x y, e = .returned (.tuple #[.int .u64 x, .int .i64 y])) : Calls Tryz.prog 68 #[.agg #[.pointer (some ⟨hb, 0, none⟩), vw, vv, vr], .int .i64 i] W R := by
  have c1 := cb _ ((Below.refl _ W).alloc (Nat.le_refl _) (.cells #[.pointer (some ⟨hb, 0, none⟩), vw, vv, vr] 83))
  clear cb
  have T := hid two
  clear two
  go_enter Tryz.func68, Tryz.ntmps68
  go_wp2_with (go_at_call 13; (with_reducible refine c1.mono ?_); intro e w2 h; (obtain ⟨x, y, rfl⟩ := T.out e w2 h); clear c1)
  exact h
theorem boxText_g (s : ByteArray) (cb : ∀ w', Below W.heap.size W w' → Calls Tryz.prog 13 #[.pointer (some ⟨hb, 0, none⟩), .agg #[.int .i64 4, .int .i64 0, .int .u64 0, .string s, .int .u64 0], vr] w' R) (two : ∀ e w', R e w' → ∃ x y, e = .returned (.tuple #[.int .u64 x, .int .i64 y])) : Calls Tryz.prog 71 #[.agg #[.pointer (some ⟨hb, 0, none⟩), vw, vv, vr], .string s] W R := by
  have c1 := cb _ ((Below.refl _ W).alloc (Nat.le_refl _) (.cells #[.pointer (some ⟨hb, 0, none⟩), vw, vv, vr] 83))
  clear cb
  have T := hid two
  clear two
  go_enter Tryz.func71, Tryz.ntmps71
  go_wp2_with (go_at_call 13; (with_reducible refine c1.mono ?_); intro e w2 h; (obtain ⟨x, y, rfl⟩ := T.out e w2 h); clear c1)
  exact h
theorem boxNum_i (i u : Int) (cb : ∀ w', Below W.heap.size W w' → Calls Tryz.prog 13 #[.pointer (some ⟨hb, 0, none⟩), .agg #[.int .i64 2, .int .i64 i, .int .u64 0, .string ⟨#[]⟩, .int .u64 0], vr] w' R) (two : ∀ e w', R e w' → ∃ x y, e = .returned (.tuple #[.int .u64 x, .int .i64 y])) : Calls Tryz.prog 73 #[.agg #[.pointer (some ⟨hb, 0, none⟩), vw, vv, vr], .agg #[.bool true, .int .i64 i, .int .u64 u]] W R := by
  have hB := (((Below.refl _ W).alloc (Nat.le_refl _) (.cells #[.pointer (some ⟨hb, 0, none⟩), vw, vv, vr] 83)).alloc (by rw [World.size_alloc]; omega) (.cells #[.bool true, .int .i64 i, .int .u64 u] 30))
  have c1 := boxInt_g (vw := vw) (vv := vv) i (fun w' h => cb w' (hB.trans (h.mono hB.size))) two
  clear cb hB
  have T := hid two
  clear two
  go_enter Tryz.func73, Tryz.ntmps73
  go_wp2_with (go_at_call 68; (with_reducible refine c1.mono ?_); intro e w2 h; (obtain ⟨x, y, rfl⟩ := T.out e w2 h); clear c1)
  exact h
theorem boxNum_f (i u : Int) (cb : ∀ w', Below W.heap.size W w' → Calls Tryz.prog 13 #[.pointer (some ⟨hb, 0, none⟩), .agg #[.int .i64 3, .int .i64 0, .int .u64 u, .string ⟨#[]⟩, .int .u64 0], vr] w' R) (two : ∀ e w', R e w' → ∃ x y, e = .returned (.tuple #[.int .u64 x, .int .i64 y])) : Calls Tryz.prog 73 #[.agg #[.pointer (some ⟨hb, 0, none⟩), vw, vv, vr], .agg #[.bool false, .int .i64 i, .int .u64 u]] W R := by
  have hB := (((Below.refl _ W).alloc (Nat.le_refl _) (.cells #[.pointer (some ⟨hb, 0, none⟩), vw, vv, vr] 83)).alloc (by rw [World.size_alloc]; omega) (.cells #[.bool false, .int .i64 i, .int .u64 u] 30))
  have c1 := cb _ hB
  clear cb hB
  have T := hid two
  clear two
  go_enter Tryz.func73, Tryz.ntmps73
  go_wp2_with (go_at_call 13; (with_reducible refine c1.mono ?_); intro e w2 h; (obtain ⟨x, y, rfl⟩ := T.out e w2 h); clear c1)
  exact h
end
end Go.Proofs.YtgmimmdojkoppaaGreatDoor.W.Nu
