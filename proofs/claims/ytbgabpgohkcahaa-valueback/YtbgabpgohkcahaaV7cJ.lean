import Derived.Test.YtbgabpgohkcahaaV7bJ
import Derived.Test.YtbgabpgohkcahaaBase7
/- Package value: Box, Unbox. -/
namespace Go.Proofs.Ytbgabpgohkcahaa.W
open Go.ChangeShapes Go.WideShapes Go.RowKit Go.Shelf
set_option linter.unusedVariables false
/-- behind right the value's box is as it was -/
theorem vbox (kd i bi re : Int) (t : ByteArray) (W : World) : ∀ w2, Below ((W.alloc (.cells #[.int .i64 kd, .int .i64 i, .int .u64 bi, .string t, .int .u64 re] 28))).heap.size (W.alloc (.cells #[.int .i64 kd, .int .i64 i, .int .u64 bi, .string t, .int .u64 re] 28)) w2 → (∀ j, w2.cell? ⟨W.heap.size, j, none⟩ = #[.int .i64 kd, .int .i64 i, .int .u64 bi, .string t, .int .u64 re][j]?) ∧ Below W.heap.size W w2 := by
  intro w2 hB2
  have hB1 : Below W.heap.size W (W.alloc (.cells #[.int .i64 kd, .int .i64 i, .int .u64 bi, .string t, .int .u64 re] 28)) := (Below.refl _ W).alloc (Nat.le_refl _) _
  have hs1 : ((W.alloc (.cells #[.int .i64 kd, .int .i64 i, .int .u64 bi, .string t, .int .u64 re] 28))).heap.size = W.heap.size + 1 := World.size_alloc ..
  refine ⟨fun j => ?_, hB1.trans (hB2.mono hB1.size)⟩
  rw [World.cell?_of_block (hB2.block W.heap.size (by omega))]
  exact World.cell?_alloc_new W #[.int .i64 kd, .int .i64 i, .int .u64 bi, .string t, .int .u64 re] 28 j
theorem box_nil (hp vr : Value) (W : World) : Calls Try.prog 7 #[hp, .agg #[.int .i64 0, .int .i64 0, .int .u64 0, .string ⟨#[]⟩, .int .u64 0], vr] W fun e w' => e = .returned (.tuple #[.int .u64 18444492273895866368, .int .i64 0]) ∧ Below W.heap.size W w' := by
  have cr := vright_c 0 0 0 0 ⟨#[]⟩ (.inl ⟨rfl, rfl, rfl, rfl, rfl⟩) (W.alloc (.cells #[.int .i64 0, .int .i64 0, .int .u64 0, .string ⟨#[]⟩, .int .u64 0] 28))
  have vb := hid (vbox 0 0 0 0 ⟨#[]⟩ W)
  go_enter Try.func7, Try.ntmps7
  go_wp2_with (first | (go_at_call 18; (with_reducible refine cr.mono ?_); rintro e w2 ⟨rfl, hB2⟩; clear cr; (obtain ⟨n9, hB⟩ := vb.out w2 hB2); (have m0 := n9 0); (have m1 := n9 1); (have m2 := n9 2); (have m3 := n9 3); clear n9; (simp only [List.getElem?_toArray, List.getElem?_cons_succ, List.getElem?_cons_zero] at m0 m1 m2 m3)) | (go_at_call 19; (with_reducible refine (fromNil_c _).mono ?_); rintro e w' ⟨rfl, hw⟩; (have hw' := hw.symm); subst hw'; clear hw))
  go_ret2
  exact ⟨rfl, hB⟩
theorem box_bool (hp vr : Value) (b : Bool) (i : Int) (hi : i = if b = true then 1 else 0) (W : World) : Calls Try.prog 7 #[hp, .agg #[.int .i64 1, .int .i64 i, .int .u64 0, .string ⟨#[]⟩, .int .u64 0], vr] W fun e w' => e = .returned (.tuple #[.int .u64 (boolW b), .int .i64 0]) ∧ Below W.heap.size W w' := by
  have cb := fun w => fromBool_c b w
  cases b
  · obtain rfl : i = 0 := hi
    have cr := vright_c 1 0 0 0 ⟨#[]⟩ (.inr (.inl ⟨rfl, .inl rfl, rfl, rfl, rfl⟩)) (W.alloc (.cells #[.int .i64 1, .int .i64 0, .int .u64 0, .string ⟨#[]⟩, .int .u64 0] 28))
    have vb := hid (vbox 1 0 0 0 ⟨#[]⟩ W)
    go_enter Try.func7, Try.ntmps7
    go_wp2_with (first | (go_at_call 18; (with_reducible refine cr.mono ?_); rintro e w2 ⟨rfl, hB2⟩; clear cr; (obtain ⟨n9, hB⟩ := vb.out w2 hB2); (have m0 := n9 0); (have m1 := n9 1); (have m2 := n9 2); (have m3 := n9 3); clear n9; (simp only [List.getElem?_toArray, List.getElem?_cons_succ, List.getElem?_cons_zero] at m0 m1 m2 m3)) | (go_at_call 20; (with_reducible refine (cb _).mono ?_); rintro e w' ⟨rfl, hw⟩; (have hw' := hw.symm); subst hw'; clear hw))
    go_ret2
    exact ⟨rfl, hB⟩
  · obtain rfl : i = 1 := hi
    have cr := vright_c 1 1 0 0 ⟨#[]⟩ (.inr (.inl ⟨rfl, .inr rfl, rfl, rfl, rfl⟩)) (W.alloc (.cells #[.int .i64 1, .int .i64 1, .int .u64 0, .string ⟨#[]⟩, .int .u64 0] 28))
    have vb := hid (vbox 1 1 0 0 ⟨#[]⟩ W)
    go_enter Try.func7, Try.ntmps7
    go_wp2_with (first | (go_at_call 18; (with_reducible refine cr.mono ?_); rintro e w2 ⟨rfl, hB2⟩; clear cr; (obtain ⟨n9, hB⟩ := vb.out w2 hB2); (have m0 := n9 0); (have m1 := n9 1); (have m2 := n9 2); (have m3 := n9 3); clear n9; (simp only [List.getElem?_toArray, List.getElem?_cons_succ, List.getElem?_cons_zero] at m0 m1 m2 m3)) | (go_at_call 20; (with_reducible refine (cb _).mono ?_); rintro e w' ⟨rfl, hw⟩; (have hw' := hw.symm); subst hw'; clear hw))
    go_ret2
    exact ⟨rfl, hB⟩
theorem box_float (hp vr : Value) (bi : Int) (h0 : 0 ≤ bi) (h1 : bi < 18446744073709551616) (W : World) : Calls Try.prog 7 #[hp, .agg #[.int .i64 3, .int .i64 0, .int .u64 bi, .string ⟨#[]⟩, .int .u64 0], vr] W fun e w' => e = .returned (.tuple #[.int .u64 (fltW bi), .int .i64 0]) ∧ Below W.heap.size W w' := by
  have cr := vright_c 3 0 bi 0 ⟨#[]⟩ (.inr (.inr (.inr (.inl ⟨rfl, rfl, rfl, rfl⟩)))) (W.alloc (.cells #[.int .i64 3, .int .i64 0, .int .u64 bi, .string ⟨#[]⟩, .int .u64 0] 28))
  have vb := hid (vbox 3 0 bi 0 ⟨#[]⟩ W)
  go_enter Try.func7, Try.ntmps7
  go_wp2_with (first | (go_at_call 18; (with_reducible refine cr.mono ?_); rintro e w2 ⟨rfl, hB2⟩; clear cr; (obtain ⟨n9, hB⟩ := vb.out w2 hB2); (have m0 := n9 0); (have m1 := n9 1); (have m2 := n9 2); (have m3 := n9 3); clear n9; (simp only [List.getElem?_toArray, List.getElem?_cons_succ, List.getElem?_cons_zero] at m0 m1 m2 m3)) | (go_at_call 22; (with_reducible refine (fromFloat_c bi h0 h1 _).mono ?_); rintro e w' ⟨rfl, hw⟩; (have hw' := hw.symm); subst hw'; clear hw))
  go_ret2
  exact ⟨rfl, hB⟩
theorem box_int (hp vr : Value) (i : Int) (P : World → Ending → World → Prop) (hP : ∀ w e w', P w e w' → ∃ x y, e = .returned (.tuple #[.int .u64 x, .int .i64 y])) (W : World) (ci : ∀ w, Below W.heap.size W w → Calls Try.prog 21 #[hp, .int .i64 i, vr] w (P w)) : Calls Try.prog 7 #[hp, .agg #[.int .i64 2, .int .i64 i, .int .u64 0, .string ⟨#[]⟩, .int .u64 0], vr] W fun e w' => ∃ w, Below W.heap.size W w ∧ P w e w' := by
  have cr := vright_c 2 i 0 0 ⟨#[]⟩ (.inr (.inr (.inl ⟨rfl, rfl, rfl, rfl⟩))) (W.alloc (.cells #[.int .i64 2, .int .i64 i, .int .u64 0, .string ⟨#[]⟩, .int .u64 0] 28))
  have vb := hid (vbox 2 i 0 0 ⟨#[]⟩ W)
  go_enter Try.func7, Try.ntmps7
  go_wp2_with (first | (go_at_call 18; (with_reducible refine cr.mono ?_); rintro e w2 ⟨rfl, hB2⟩; clear cr; (obtain ⟨n9, hB⟩ := vb.out w2 hB2); (have m0 := n9 0); (have m1 := n9 1); (have m2 := n9 2); (have m3 := n9 3); clear n9; (simp only [List.getElem?_toArray, List.getElem?_cons_succ, List.getElem?_cons_zero] at m0 m1 m2 m3)) | (go_at_call 21; (with_reducible refine (ci _ hB).mono ?_); intro e w3 h3; (obtain ⟨x, y, rfl⟩ := hP _ _ _ h3)))
  go_ret2
  exact ⟨_, hB, h3⟩
theorem box_text (hp vr : Value) (t : ByteArray) (P : World → Ending → World → Prop) (hP : ∀ w e w', P w e w' → ∃ x y, e = .returned (.tuple #[.int .u64 x, .int .i64 y])) (W : World) (ci : ∀ w, Below W.heap.size W w → Calls Try.prog 23 #[hp, .string t, vr] w (P w)) : Calls Try.prog 7 #[hp, .agg #[.int .i64 4, .int .i64 0, .int .u64 0, .string t, .int .u64 0], vr] W fun e w' => ∃ w, Below W.heap.size W w ∧ P w e w' := by
  have cr := vright_c 4 0 0 0 t (.inr (.inr (.inr (.inr ⟨rfl, rfl, rfl, rfl⟩)))) (W.alloc (.cells #[.int .i64 4, .int .i64 0, .int .u64 0, .string t, .int .u64 0] 28))
  have vb := hid (vbox 4 0 0 0 t W)
  go_enter Try.func7, Try.ntmps7
  go_wp2_with (first | (go_at_call 18; (with_reducible refine cr.mono ?_); rintro e w2 ⟨rfl, hB2⟩; clear cr; (obtain ⟨n9, hB⟩ := vb.out w2 hB2); (have m0 := n9 0); (have m1 := n9 1); (have m2 := n9 2); (have m3 := n9 3); clear n9; (simp only [List.getElem?_toArray, List.getElem?_cons_succ, List.getElem?_cons_zero] at m0 m1 m2 m3)) | (go_at_call 23; (with_reducible refine (ci _ hB).mono ?_); intro e w3 h3; (obtain ⟨x, y, rfl⟩ := hP _ _ _ h3)))
  go_ret2
  exact ⟨_, hB, h3⟩
end Go.Proofs.Ytbgabpgohkcahaa.W
