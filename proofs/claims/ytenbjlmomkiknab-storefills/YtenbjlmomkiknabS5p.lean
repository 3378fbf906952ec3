/- Package store: the statements' awake. -/
import Derived.Test.YtenbjlmomkiknabS5o
namespace Go.Proofs.Ytenbjlmomkiknab.W
open Go.ChangeShapes Go.WideShapes Go.RowKit Go.Shelf
set_option linter.unusedVariables false
theorem Lay.below {W W' : World} {sb : Nat} {vr vb vf : Value} {s : Sto} (h : Lay W sb vr vb vf s) (hB : Below W.heap.size W W') : Lay W' sb vr vb vf s := by
  obtain ⟨l0, l1, l2, l3⟩ := lay_lt h
  exact h.kept (hB.block _ l0) (fun k e => hB.block _ (l1 k e)) (fun k e => hB.block _ (l2 k e)) (fun k e => hB.block _ (l3 k e))
set_option maxHeartbeats 1000000 in
theorem awake_c (W : World) : Calls Try.prog 22 #[] W fun e w' => e = .returned (.bool true) ∧ Below W.heap.size W w' := by
  have cw := new_c W
  have hx : ({ firstSto 3 8 with row := saved (List.replicate 8 0) (0 + 0) 258 2 } : Sto).ext 0 = some ⟨true, 0, 3, 0, 0⟩ := rfl
  have hl : leN (seg (saved (List.replicate 8 0) (0 + 0) 258 2) (0 + 1) 1) = 1 := by decide
  go_enter Try.func22, Try.ntmps22
  go_upto_region 2 with (go_at_call 18; (with_reducible refine cw.mono ?_); rintro e W1 ⟨rfl, hL1, hB1, z1⟩; clear cw)
  have hO1 : Own (fun k => W.heap.size ≤ k) W.heap.size (.slice none 0 0) (.slice none 0 0) (.slice none 0 0) := ⟨Nat.le_refl _, fun k e => by simp [Value.ownBlock] at e, fun k e => by simp [Value.ownBlock] at e, fun k e => by simp [Value.ownBlock] at e⟩
  have hU1 : Upd (fun k => W.heap.size ≤ k) W W1 := Upd.of_below hB1
  have ct := first_take hL1 3 8 (by decide) (by decide) rfl hO1
  go_upto_region 5 with (go_at_call 23; (with_reducible refine ct.mono ?_); rintro e W2 ⟨rfl, hU2, vr2, vb2, vf2, hL2, hO2⟩; clear ct)
  replace hU2 := hU1.trans' hU2
  have hO2' : Own (fun k => W.heap.size ≤ k) W.heap.size vr2 vb2 vf2 := hO2.mono (fun k g => g.elim id (fun g => by have := hB1.size; omega))
  have cs : Calls Try.prog 25 #[.pointer (some ⟨W.heap.size, 0, none⟩), .int .i64 0, .int .i64 0, .int .i64 2, .int .u64 258] W2 _ := save_ok hL2 (fit_first 3 8 (by decide) (by decide) rfl) 0 2 258 (by decide) ⟨true, 0, 3, 0, 0⟩ rfl (by decide) 0 0 rfl (by decide) (by decide) (by decide) hO2'
  clear hL1 hO1 hU1
  go_upto_region 6 with (go_at_call 25; (with_reducible refine cs.mono ?_); rintro e W3 ⟨rfl, hL3, hU3⟩; clear cs)
  replace hU3 := hU2.trans' hU3
  have f3 : Fit { firstSto 3 8 with row := saved (firstSto 3 8).row (0 + 0) 258 2 } := by
    have f := fit_first 3 8 (by decide) (by decide) rfl
    exact ⟨f.len, by decide, by decide, f.used0, f.used1, f.blk⟩
  have cl : Calls Try.prog 24 #[.pointer (some ⟨W.heap.size, 0, none⟩), .int .i64 0, .int .i64 1, .int .i64 1] W3 _ := load_ok hL3 f3 0 1 ⟨true, 0, 3, 0, 0⟩ rfl (by decide) 1 0 rfl (by decide) (by decide) (by decide)
  rw [show leN (seg ({ firstSto 3 8 with row := saved (firstSto 3 8).row (0 + 0) 258 2 } : Sto).row (0 + 1) 1) = 1 from hl] at cl
  clear hL2 hO2 hU2
  have HL := (show Hid _ from hL3)
  clear hL3
  go_upto_region 7 with (go_at_call 24; (with_reducible refine cl.mono ?_); rintro e W4 ⟨rfl, hB4⟩; clear cl)
  have cu := used_c (HL.out.below hB4)
  have HU := (show Hid _ from (hU3.trans' (Upd.of_below hB4)).below (n := W.heap.size) (Nat.le_refl _) (fun k g => g))
  have eu : ({ firstSto 3 8 with row := saved (firstSto 3 8).row (0 + 0) 258 2 } : Sto).used = 8 := rfl
  rw [eu] at cu
  clear hU3 hB4 HL
  go_wp2_with (go_at_call 29; (with_reducible refine cu.mono ?_); rintro e w' ⟨rfl, hw⟩; (have hw' := hw.symm); subst hw'; clear hw)
  go_ret
  exact ⟨rfl, HU⟩
end Go.Proofs.Ytenbjlmomkiknab.W
