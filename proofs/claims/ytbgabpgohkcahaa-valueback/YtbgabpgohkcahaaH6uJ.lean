import Derived.Test.YtbgabpgohkcahaaBase5
/- Package heap: right, of strings. -/
namespace Go.Proofs.Ytbgabpgohkcahaa.W
open Go.ChangeShapes Go.WideShapes Go.RowKit Go.Shelf
set_option linter.unusedVariables false
theorem right_text (t : ByteArray) (ob ow : Option Addr) (bc wc : Nat) (hl : t.size ≤ 8388608) (hb : Nat) (W : World) : Calls Try.prog 33 #[.pointer (some ⟨hb, 0, none⟩), .agg #[.int .i64 4, .bool false, .int .i64 0, .string t, .slice ob 0 bc, .slice ow 0 wc, .int .u64 0, .int .i64 0, .int .i64 0]] W fun e w' => e = .returned (.bool true) ∧ Below W.heap.size W w' := by
  have cp := plain_text t ob ow bc wc
  have cs : ∀ w, Calls Try.prog 54 #[.int .i64 4, .bool false] w fun e w' => e = .returned (.int .i64 2) ∧ w' = w := fun w => shape_c 4 false w
  unfold cellV at cp
  have hB := (show Below W.heap.size W (W.alloc (.cells #[.int .i64 4, .bool false, .int .i64 0, .string t, .slice ob 0 bc, .slice ow 0 wc, .int .u64 0, .int .i64 0, .int .i64 0] 43)) from (Below.refl _ W).alloc (Nat.le_refl _) _)
  have n0 := World.cell?_alloc_new W #[.int .i64 4, .bool false, .int .i64 0, .string t, .slice ob 0 bc, .slice ow 0 wc, .int .u64 0, .int .i64 0, .int .i64 0] 43 0
  have n1 := World.cell?_alloc_new W #[.int .i64 4, .bool false, .int .i64 0, .string t, .slice ob 0 bc, .slice ow 0 wc, .int .u64 0, .int .i64 0, .int .i64 0] 43 1
  have n3 := World.cell?_alloc_new W #[.int .i64 4, .bool false, .int .i64 0, .string t, .slice ob 0 bc, .slice ow 0 wc, .int .u64 0, .int .i64 0, .int .i64 0] 43 3
  simp only [List.getElem?_toArray, List.getElem?_cons_succ, List.getElem?_cons_zero] at n0 n1 n3
  have l1 : (t.size : Int) ≤ 8388608 := by omega
  have HB := hid hB
  go_enter Try.func33, Try.ntmps33
  go_wp2_with (first | (go_at_call 56; (with_reducible refine (cp _).mono ?_); rintro e w2 ⟨rfl, hB2⟩; (have z0 := below_cell hB2 n0); (have z1 := below_cell hB2 n1); (have z3 := below_cell hB2 n3); (have HB2 := hid hB2); clear hB2) | (go_at_call 54; (with_reducible refine (cs _).mono ?_); rintro e w' ⟨rfl, hw⟩; (have hw' := hw.symm); subst hw'; clear hw))
  go_ret
  exact ⟨rfl, HB.out.trans (HB2.out.mono HB.out.size)⟩
end Go.Proofs.Ytbgabpgohkcahaa.W
