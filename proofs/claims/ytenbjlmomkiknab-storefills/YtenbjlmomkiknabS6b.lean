/- Package store: Take of no bytes, and its errors. -/
import Derived.Test.YtenbjlmomkiknabS6a
namespace Go.Proofs.Ytenbjlmomkiknab.W
open Go.ChangeShapes Go.WideShapes Go.RowKit Go.Shelf
set_option linter.unusedVariables false
section
variable {W : World} {sb : Nat} {vr vb vf : Value} {s : Sto}
theorem take_low (n : Int) (hn : n < 0) (v : Value) : Calls Try.prog 23 #[v, .int .i64 n] W fun e w' => e = .returned (.tuple #[.int .i64 0, .int .i64 13]) ∧ w' = W := by
  go_enter Try.func23, Try.ntmps23
  go_wp2
  go_ret2
  exact ⟨rfl, rfl⟩
theorem take_high (n : Int) (hn : 8388608 < n) (v : Value) : Calls Try.prog 23 #[v, .int .i64 n] W fun e w' => e = .returned (.tuple #[.int .i64 0, .int .i64 2]) ∧ w' = W := by
  have hn0 : ¬ n < 0 := by omega
  go_enter Try.func23, Try.ntmps23
  go_wp2
  go_ret2
  exact ⟨rfl, rfl⟩
set_option maxHeartbeats 2000000 in
theorem take_zero (id : Nat) (s1 : Sto) (hid : id < s1.blks.length) (hl1 : s1.blks.length ≤ 100000000) (hus0 : 0 ≤ s1.used) (hus1 : s1.used ≤ 100000000000) {S : Nat → Prop}
    (cl : Calls Try.prog 50 #[.pointer (some ⟨sb, 0, none⟩)] W fun e w' => e = .returned (.int .i64 id) ∧ Upd S W w' ∧ ∃ vr1 vb1 vf1, Lay w' sb vr1 vb1 vf1 s1 ∧ Own (Nx S W w') sb vr1 vb1 vf1) :
    Calls Try.prog 23 #[.pointer (some ⟨sb, 0, none⟩), .int .i64 0] W fun e w' => e = .returned (.tuple #[.int .i64 id, .int .i64 0]) ∧ Upd S W w' ∧ ∃ vr4 vb4 vf4, Lay w' sb vr4 vb4 vf4 (s1.took id 0) ∧ Own (Nx S W w') sb vr4 vb4 vf4 := by
  have cu := fun w => roundUp_c 0 w (by omega) (by omega)
  rw [show up8 0 = 0 from rfl] at cu
  go_enter Try.func23, Try.ntmps23
  go_upto_region 6 with (go_at_call 50; (with_reducible refine cl.mono ?_); rintro e W1 ⟨rfl, hU1, vr1, vb1, vf1, hL1, hO1⟩; clear cl)
  obtain ⟨g, cap, hvb, hcap⟩ := own_slice hL1.blk (by omega)
  have c6 := hL1.cell 6
  simp [Sto.obj, hvb] at c6
  obtain ⟨b0, hb0⟩ : ∃ b0, s1.get (id + 1) = some b0 := ⟨s1.blks[id], by unfold Sto.get; rw [if_neg (by omega)]; exact List.getElem?_eq_getElem hid⟩
  have pt : Pt sb vb1 (id + 1) g (id * 5) := .inr ⟨by omega, by rw [hvb]; rfl, by simp⟩
  obtain ⟨a0, a1, a2, a3, a4⟩ := bcells hL1 hb0 pt
  have t0 := hL1.bthaw hb0 pt 0
  have t1 := hL1.bthaw hb0 pt 1
  have t2 := hL1.bthaw hb0 pt 2
  have t3 := hL1.bthaw hb0 pt 3
  have t4 := hL1.bthaw hb0 pt 4
  simp only [Nat.add_zero] at t0
  have i0 : (0 : Int) ≤ id := by omega
  have i1 : (id : Int) < s1.blks.length := by omega
  go_upto_region 7 with fail
  have hL2 := hL1.bfull hb0 pt ⟨true, 0, 0, 0, 0⟩
  have hU2 := hU1.five (hO1.pt pt) (id * 5) (id * 5 + 1) (id * 5 + 2) (id * 5 + 3) (id * 5 + 4) (.bool true) (.int .i64 0) (.int .i64 0) (.int .i64 0) (.int .i64 0)
  have z2 : (((((W1.setCell ⟨g, id * 5, none⟩ (.bool true)).setCell ⟨g, id * 5 + 1, none⟩ (.int .i64 0)).setCell ⟨g, id * 5 + 2, none⟩ (.int .i64 0)).setCell ⟨g, id * 5 + 3, none⟩ (.int .i64 0)).setCell ⟨g, id * 5 + 4, none⟩ (.int .i64 0)).heap.size = W1.heap.size := by simp [World.setCell]
  clear t0 t1 t2 t3 t4 a0 a1 a2 a3 a4 c6
  dsimp only at hL2
  generalize World.setCell (World.setCell (World.setCell (World.setCell (World.setCell W1 _ _) _ _) _ _) _ _) _ _ = W2 at *
  have c8 := hL2.cell 8
  simp [Sto.obj, set_used] at c8
  have th8 := hL2.thaw 8
  have hw8 : IntKind.i64.wrap s1.used = s1.used := by rw [IntKind.wrap_i64]; omega
  have k8 : ∀ v : Value, (W2.drew.setCell ⟨sb, 8, none⟩ v).cell? ⟨sb, 8, none⟩ = some v := fun v => World.cell?_setCell_same' _ _ _ (by show (W2.cell? _).isSome = true; rw [c8]; rfl)
  go_region_with (go_at_call 51; (with_reducible refine (cu _).mono ?_); rintro e w' ⟨rfl, hw⟩; (have hw' := hw.symm); subst hw'; clear hw)
  all_goals (
    have hL3 : Lay (W2.setCell ⟨sb, 8, none⟩ (.int .i64 s1.used)).drew sb vr1 vb1 vf1 (s1.took id 0) := by
      refine (hL2.store (s' := s1.took id 0) 8 _ ?_ ?_ ?_ ?_).drew
      · simp [Sto.obj, Sto.took, Sto.set, up8]
      · simp [Sto.took, Sto.set]
      · simp [Sto.took, Sto.set]
      · simp [Sto.took, Sto.set]
    have hU3 := (hU2.setCell (p := ⟨sb, 8, none⟩) (hO1.sb.on (Nat.le_of_eq z2.symm)) (.int .i64 s1.used)).drew
    have z3 : (W2.setCell ⟨sb, 8, none⟩ (.int .i64 s1.used)).drew.heap.size = W1.heap.size := by
      show (W2.setCell ⟨sb, 8, none⟩ (.int .i64 s1.used)).heap.size = _
      simp [World.setCell, z2]
    clear c8 th8 k8 hL2 hU2 z2
    generalize World.drew (World.setCell W2 _ _) = W3 at *
    have hO3 : Own (Nx S W W3) sb vr1 vb1 vf1 := hO1.on (by omega)
    go_wp2
    go_ret2
    exact ⟨rfl, hU3, vr1, vb1, vf1, hL3, hO3⟩)
end
end Go.Proofs.Ytenbjlmomkiknab.W
