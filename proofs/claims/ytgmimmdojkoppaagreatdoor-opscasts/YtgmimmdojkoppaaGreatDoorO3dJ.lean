import Derived.Test.YtgmimmdojkoppaaGreatDoorO3cJ
/- Package ops: jobs on one whole number. -/
namespace Go.Proofs.YtgmimmdojkoppaaGreatDoor.W.Nu
open Go.ChangeShapes Go.WideShapes Go.RowKit Go.Shelf
set_option linter.unusedVariables false
section
variable {W : World} {hb vb : Nat} {vw vr : Value} {R : Ending → World → Prop}
/-- ahead of a job of one value that was asked whether it is whole -/
theorem pre1 (i b0 r0 : Int) (s0 : ByteArray) (hv : ∀ k, W.cell? ⟨vb, k, none⟩ = #[.int .i64 2, .int .i64 i, .int .u64 b0, .string s0, .int .u64 r0][k]?) :
    let W1 := W.alloc (.cells #[.pointer (some ⟨hb, 0, none⟩), vw, .slice (some ⟨vb, 0, none⟩) 1 1, vr] 83)
    Below W.heap.size W W1 ∧ Below W1.heap.size W1 (W1.alloc (.cells #[.int .i64 0] 3)) ∧
    Calls Tryz.prog 70 #[.agg #[.pointer (some ⟨hb, 0, none⟩), vw, .slice (some ⟨vb, 0, none⟩) 1 1, vr], .int .i64 2, .slice (some ⟨W1.heap.size, 0, none⟩) 1 1] (W1.alloc (.cells #[.int .i64 0] 3)) (fun e w' => e = .returned (.bool true) ∧ Below (W1.alloc (.cells #[.int .i64 0] 3)).heap.size (W1.alloc (.cells #[.int .i64 0] 3)) w') ∧
    (∀ w', Below W1.heap.size W1 w' → (∀ k, w'.cell? ⟨W.heap.size, k, none⟩ = #[.pointer (some ⟨hb, 0, none⟩), vw, .slice (some ⟨vb, 0, none⟩) 1 1, vr][k]?) ∧ (∀ k, w'.cell? ⟨vb, k, none⟩ = #[.int .i64 2, .int .i64 i, .int .u64 b0, .string s0, .int .u64 r0][k]?)) := by
  intro W1
  have hB1 : Below W.heap.size W W1 := (Below.refl _ W).alloc (Nat.le_refl _) _
  have e1 := World.cell?_alloc_new W #[.pointer (some ⟨hb, 0, none⟩), vw, .slice (some ⟨vb, 0, none⟩) 1 1, vr] 83
  have vl : vb < W.heap.size := cell_lt (hv 0)
  have hv1 : ∀ k, W1.cell? ⟨vb, k, none⟩ = #[.int .i64 2, .int .i64 i, .int .u64 b0, .string s0, .int .u64 r0][k]? := fun k => by rw [hB1.cell (p := ⟨vb, k, none⟩) vl]; exact hv k
  have hB2 : Below W1.heap.size W1 (W1.alloc (.cells #[.int .i64 0] 3)) := (Below.refl _ W1).alloc (Nat.le_refl _) _
  have e2 := World.cell?_alloc_new W1 #[.int .i64 0] 3
  have l1 : W.heap.size < W1.heap.size := cell_lt (e1 0)
  refine ⟨hB1, hB2, are1_c _ hb vb W1.heap.size 1 vw vr 2 2 (by decide) (by decide) (e2 0) (cell_keep hB2 (hv1 0)), fun w' hB => ⟨fun k => ?_, fun k => ?_⟩⟩
  · rw [hB.cell (p := ⟨W.heap.size, k, none⟩) l1]; exact e1 k
  · rw [hB.cell (p := ⟨vb, k, none⟩) (by show vb < _; omega)]; exact hv1 k
theorem conv65 (w : World) : (convert 66 9 (.slice (some ⟨w.heap.size, 0, none⟩) 1 1)).run Tryz.prog (w.alloc (.cells #[.int .u8 65] 5)) = .ok (.string ⟨#[65]⟩) (w.alloc (.cells #[.int .u8 65] 5)) := by
  refine run_convert_bytes_back (P := Tryz.prog) _ 66 9 5 ⟨w.heap.size, 0, none⟩ 1 [65] Tryz.underlying66 Tryz.underlying5 Tryz.underlying9 (fun j hj => ?_)
  have h0 : j = 0 := by simp at hj; omega
  subst h0
  exact World.cell?_alloc_new w #[.int .u8 65] 5 0
set_option maxRecDepth 100000 in
theorem character65 (b0 r0 : Int) (s0 : ByteArray) (hv : ∀ k, W.cell? ⟨vb, k, none⟩ = #[.int .i64 2, .int .i64 65, .int .u64 b0, .string s0, .int .u64 r0][k]?)
    (cb : ∀ w', Below W.heap.size W w' → Calls Tryz.prog 13 #[.pointer (some ⟨hb, 0, none⟩), .agg #[.int .i64 4, .int .i64 0, .int .u64 0, .string ⟨#[65]⟩, .int .u64 0], vr] w' R) (two : ∀ e w', R e w' → ∃ x y, e = .returned (.tuple #[.int .u64 x, .int .i64 y])) :
    Calls Tryz.prog 36 #[.agg #[.pointer (some ⟨hb, 0, none⟩), vw, .slice (some ⟨vb, 0, none⟩) 1 1, vr]] W R := by
  obtain ⟨h1, h2, cA, hE⟩ := pre1 (hb := hb) (vw := vw) (vr := vr) 65 b0 r0 s0 hv
  have T := hid two
  have H1 := hid h1
  have H2 := hid h2
  have HE := hid hE
  clear two h1 h2 hE hv
  go_enter Tryz.func36, Tryz.ntmps36
  go_upto_region 1 with fail
  generalize W.alloc (.cells #[.pointer (some ⟨hb, 0, none⟩), vw, .slice (some ⟨vb, 0, none⟩) 1 1, vr] 83) = W1 at *
  obtain ⟨eC1, -⟩ := HE.out W1 (Below.refl _ _)
  go_upto_region 3 with (go_at_call 70; (with_reducible refine cA.mono ?_); rintro e W2 ⟨rfl, hB3⟩; clear cA)
  have hB4 := H2.out.trans (hB3.mono H2.out.size)
  obtain ⟨eC, eV⟩ := HE.out W2 hB4
  have cx : ∀ w1, Below W2.heap.size W2 w1 → Calls Tryz.prog 71 #[.agg #[.pointer (some ⟨hb, 0, none⟩), vw, .slice (some ⟨vb, 0, none⟩) 1 1, vr], .string ⟨#[65]⟩] w1 R := fun w1 h1 => boxText_g _ (fun w' h => cb w' (H1.out.trans ((hB4.trans ((h1.trans (h.mono h1.size)).mono hB4.size)).mono H1.out.size))) T.out
  clear hB3 cb eC1
  have hcv := conv65 W2
  have hB5 : Below W2.heap.size W2 (W2.alloc (.cells #[.int .u8 65] 5)) := (Below.refl _ W2).alloc (Nat.le_refl _) _
  have cy := cx _ hB5
  clear cx hB5
  go_wp2_with (go_at_call 71; (with_reducible refine cy.mono ?_); intro e w3 h3; (obtain ⟨x, y, rfl⟩ := T.out e w3 h3); clear cy)
  exact h3
end
end Go.Proofs.YtgmimmdojkoppaaGreatDoor.W.Nu
